import PyProof.Rows.All
import Wide.All
import OpenK.AllK
import Wide.FinOn
import Lean
import PyProof.EqAt
import PyProof.EqKinds
import PyProof.TupleCall
import PySem.Challenge.RW_lotdraw_k18_bad_texts
set_option Elab.async false
set_option linter.all false
set_option maxRecDepth 100000
set_option tactic.hygienic false
noncomputable section
def RF:=@PySem.wpAny_bind
def RG:=@PySem.Heap.get?_push_of_some
def RH:=@Option.bind_some
def RI:=@List.mem_append_right
def RJ:=@List.length_map
def RK:=@List.mem_cons_self
def RL:=@Nat.lt_of_lt_of_le
def RM:=@List.mem_cons_of_mem
def RN:=@List.mem_cons
def RO:=@Nat.le_refl
def RP:=@List.getElem?_eq_getElem
def RQ:=@PySem.wpAny_pure
def RR:=@PySem.Heap.lt_size
def RS:=@Bool.false_ne_true
def RT:=@Bool.and_eq_true
def RU:=@PySem.Heap.get?_push_size
def RV:=@if_pos
def RW:=@Nat.ne_of_lt
def RX:=@List.mem_map
def RY:=@List.map_cons
def RZ:=@List.size_toArray
def R0:=@List.mem_append
def R4:=@if_neg
def R5:=@PySem.W.mg_none_of
def R6:=@List.getD_eq_getElem?_getD
def R7:=@PySem.wpAny_mono
def R8:=@List.getElem?_set_ne
def R9:=@PySem.W.mg_of
def Sa:=@List.getElem?_map
def Sd:=@Array.length_toList
def Se:=@PySem.Heap.get?_update_other
def Sf:=@decide_eq_true_eq
def Sg:=@Nat.lt_irrefl
def Sh:=@List.getElem?_eq_some_iff
def Si:=@decide_eq_false
def Sj:=@Nat.le_trans
def Sk:=@List.getElem?_set_self
def Sl:=@decide_eq_true
def Sm:=@PySem.Obj.data_mapFields
def Sn:=@List.mem_singleton
def So:=@List.mem_append_left
def Sq:=@PySem.Heap.get?_update_self
def Sr:=@List.length_set
def Ss:=@List.all_eq_true
def Su:=@Option.some.inj
def Sv:=@Int.emod_lt_of_pos
def Sw:=@decide_eq_true_iff
def Sx:=@List.length_cons
def Sy:=@List.pairwise_cons
def Sz:=@Array.getElem?_eq_some_iff
def SA:=@List.map_append
def SD:=@PySem.wpAny_newObj_type
def SE:=@PySem.W.kia_one
def SF:=@Int.emod_nonneg
def SG:=@of_decide_eq_true
def SH:=@Array.getElem?_eq_getElem
def SI:=@List.append_nil
def SJ:=@List.length_take
def SK:=@PySem.Heap.SameBut.update
def SM:=@PySem.Obj.isFreed_of_fields
def SN:=@List.append_assoc
def SO:=@List.length_append
def SQ:=@List.getElem_mem
def SR:=@Int.toNat_natCast
def SS:=@Bool.not_eq_true'
def SU:=@PySem.wpAny_setField
def SV:=@PySem.F.called_set
def SW:=@List.mem_of_getElem?
def SX:=@List.lookup_cons
def SY:=@List.getElem?_cons_succ
def S0:=@List.not_mem_nil
def S4:=@PySem.wpAny_truthy_bool
def S5:=@beq_eq_false_iff_ne
def S6:=@List.map_congr_left
def S7:=@List.nil_append
def S8:=@List.mem_or_eq_of_mem_set
def S9:=@PySem.F.slot_list_append
def Ta:=@beq_iff_eq
def Tb:=@Nat.lt_succ_self
def Tc:=@PySem.wpAny_call_entry
def Td:=@Array.toList_inj
def Te:=@PySem.wpAny_field
def Tf:=@Ne.symm
def Tg:=@PySem.wpAny_callSpecial?_slot
def Th:=@List.length_eq_zero_iff
def Ti:=@Bool.or_eq_true
def Tj:=@PySem.codeAny_builtin
def Tn:=@PyProof.Rows.F.plain_set_update_loop
def To:=@PySem.Str.ext'
def Tp:=@Option.map_eq_some_iff
def Tq:=@PyProof.Rows.callWith_type1
def Tr:=@List.map_map
def Ts:=@PySem.wpAny_holding
def Tt:=@List.cons_append
def Tu:=@List.mem_filterMap
def Tw:=@congrArg
def Tx:=@PySem.F.excBase_ValueError
def Tz:=@List.drop_eq_getElem_cons
def TB:=@PySem.wpAny_passesOwn
def TC:=@Bool.eq_iff_iff
def TF:=@Nat.zero_le
def TH:=@List.pairwise_append
def TJ:=@List.mem_of_mem_drop
def TK:=@PySem.wpAny_setState_of
def TL:=@PySem.Around.under_plainId
def TM:=@Nat.lt_succ_of_lt
def TN:=@PySem.mem_of_lookup
def TQ:=@List.getElem_of_mem
def TU:=@PySem.wpAny_setEntries_of
def TV:=@Array.toList_append
def TX:=@List.mem_range
def TY:=@List.any_eq_true
def TZ:=@PySem.wpAny_askSetting
def T1:=@List.getElem?_cons_zero
def T2:=@decide_eq_false_iff_not
def T3:=@Nat.le_succ
def T4:=@Nat.le_of_lt
def T5:=@Nat.ne_of_gt
def T6:=@PySem.F.slot_str_split
def T7:=@PySem.StrLaws.joinFits
def T8:=@List.length_replicate
def T9:=@List.getElem?_eq_none
def Ua:=@Bool.false_and
def Ub:=@List.drop_eq_nil_iff
def Uc:=@List.mem_of_mem_take
def Ud:=@PySem.codeAny_mono
def Ue:=@List.length_drop
def Ug:=@PyProof.Rows.F.entry_set_update_loop
def Uh:=@PySem.F.args_tuple_add_2
def Ui:=@List.all_cons
def Uj:=@PySem.wpAny_comprehension_free
def Uk:=@PySem.F.args_str_split_2
def Ul:=@Bool.true_and
def Um:=@PySem.F.type_list_append
def Uo:=@PySem.wpAny_execs_nil
def Up:=@PySem.PassesOwn.never
def Uq:=@PySem.wpAny_Call_Name_kw
def Ur:=@Array.append_empty
def Us:=@List.ne_nil_of_mem
def Ut:=@PySem.F.entry_tuple_add
def Uu:=@PySem.F.entry_str_split
def Uv:=@PySem.StrLaws.found_one
def Uw:=@PySem.F.plainAttrs_list
def Ux:=@PySem.F.slot_tuple_add
def Uy:=@List.length_range
def Uz:=@PySem.isSubtype_type
def UA:=@PySem.Heap.size_push
def UB:=@PySem.Obj.cls_mapFields
def UC:=@Array.getElem?_eq_none
def UD:=@Array.all_eq_true_iff_forall_mem
def UE:=@List.take_append_drop
def UG:=@PySem.F.typeOf_object_class
def UH:=@Nat.le_of_not_lt
def UI:=@PySem.wpAny_isInstance
def UJ:=@decide_eq_decide
def UK:=@PySem.plainId_quiet
def UL:=@PySem.wpAny_attempt
def UM:=@Array.mem_toList_iff
def UN:=@PySem.F.args_list_append_2
def UO:=@PySem.codeAny_call_builtin
def UP:=@List.map_id
def UQ:=@Option.map_some
def UR:=@List.of_mem_zip
def US:=@List.forIn_cons
def UT:=@PySem.F.entry_list_append
def UU:=@ne_true_of_eq_false
def UW:=@List.map_nil
def UX:=@PySem.F.attrBase_ValueError
def U0:=@PySem.typeIs_str
def U1:=@PySem.call_meets
def U3:=@PySem.wpAny_rule
def U4:=@PySem.wpAny_fieldsOf
def U5:=@List.length_eraseIdx_of_lt
def U6:=@List.getElem?_append_right
def U8:=@PySem.Str.cps_append
def Va:=@PySem.wpAny_assign_Name
def Vb:=@PySem.W.kitx_list
def Vc:=@PySem.list_append
def Vd:=@PySem.wpAny_pyIter_list
def Ve:=@Option.some.injEq
def Vf:=@PySem.fits_of_scanBound
def Vg:=@Array.toList_push
def Vh:=@Nat.le_succ_of_le
def Vi:=@PySem.wpAny_loadPart_at
def Vj:=@List.all_eq_false
def Vl:=@List.map_take
def Vo:=@PySem.IsL.update
def Vp:=@List.drop_length
def Vq:=@or_false
def Vx:=@Nat.lt_or_ge
def VA:=@List.mem_filter
def VB:=@Nat.le_antisymm
def Wa:=@not_or
namespace L2
open PySem
def gL (s:Stmt):Arguments:=match s with
 | .FunctionDef _ a _ _ _ _ _ _ _ _=>a
 | _=>{ posonlyargs:=[],args:=[],vararg:=none,kwonlyargs:=[],kw_defaults:=[],kwarg:=none,defaults:=[] }
def cD (s:Stmt):List Stmt:=match s with
 | .FunctionDef _ _ b _ _ _ _ _ _ _=>b
 | _=>[]
def ai (s:Stmt):Scope:=match s with
 | .FunctionDef _ _ _ _ _ _ sc _ _ _=>sc
 | _=>{ kind:=.function,names:=[],isGenerator:=false,isCoroutine:=false }
end L2
namespace Hd
open PySem PySem.W
def sU (tb:String->Option Builtin) (p:Program) (w:World) (m:Nat) (ann:Option Value):Nat->SharedT->Thread->Option SharedT
 | 0,_,_=>none
 | n + 1,s,t=>match through t with
   | true=>some s
   | false=>match stepOk m ann t with
     | false=>none
     | true=>match stepT (denote tb) p w s t with
       | some (s',t')=>sU tb p w m ann n s' t'
       | none=>none
theorem uV {tb:String->Option Builtin} {p:Program} {w:World} {m:Nat} {ann:Option Value}:∀ {n:Nat} {s s':SharedT} {t:Thread},sU tb p w m ann n s t=some s'->topRun tb p w m ann n s.abs t=some s'.abs
 | 0,_,_,_,h=>by cases h
 | n + 1,s,s',t,h=>by
   unfold sU at h
   unfold topRun
   cases he:through t with
   | true=>rw [he] at h; cases h; rfl
   | false=>
     rw [he] at h
     cases hk:stepOk m ann t with
     | false=>rw [hk] at h; cases h
     | true=>
       rw [hk] at h
       cases hs:stepT (denote tb) p w s t with
       | none=>rw [hs] at h; cases h
       | some r=>obtain ⟨s2,t2⟩:=r; rw [hs] at h; rw [stepT_spec hs]; exact uV h
def xD (P:Params):BT:=(.node (boot_o_0 P) (.node (boot_o_1 P) (.node (boot_o_3 P) (.node (boot_o_7 P) .nil .nil) .nil) (.node (boot_o_5 P) (.node (boot_o_9 P) .nil .nil) .nil)) (.node (boot_o_2 P) (.node (boot_o_4 P) (.node (boot_o_8 P) .nil .nil) .nil) (.node (boot_o_6 P) (.node (boot_o_10 P) .nil .nil) .nil)))
theorem boot_abs (P:Params):boot_heap P=absHeap (xD P) 11 (boot_heap P).life:=by kernel_rfl
def qI (w:World) (os:OsState):SharedT:=⟨xD w.params,11,(boot_heap w.params).life,Array.mk [],boot_drawn,boot_toks,os⟩
theorem Aj (w:World) (os:OsState):(qI w os).abs=⟨boot_heap w.params,Array.mk [],boot_drawn,boot_toks,os⟩:=by
 show Shared.mk (absHeap (xD w.params) 11 (boot_heap w.params).life) _ _ _ _=_
 rw [<- boot_abs]; rfl
theorem vW (P:Params):((boot_heap P).isNs mainGlobals,(boot_heap P).objs.size,(boot_heap P).nsMap mainGlobals "__annotations__")=(true,11,some (.ref 6)):=by kernel_rfl
theorem vX {p q:Program} {loose:List Str} {Xt:Shared->Bool} {α:Type} {Yf:Shared->α} {Ya:World->α} {N:Nat} (e:opening p=plainProg p.main.scope.names) (hN:Nat.ble 600 N=true) (f:∀ s,fenceModules? p s=some s)
  (one:∀ (w:World) (os:OsState),(sU treeTable p w 11 (some (.ref 6)) N (qI w os) (topStub p)).map (λs=>((staticsOk (importedModules p.main.body) (boot_heap w.params) s.abs.heap && namesBound p s.abs.heap && gensDone s.abs && laidKept (boot_heap w.params) s.abs.heap),Yf s.abs))=some (true,Ya w))
  (two:∀ (w:World) (os:OsState),(sU treeTable p w 11 (some (.ref 6)) N (qI w os) (topStub p)).map (λs=>openSeen q loose (importedModules p.main.body) Xt true s.abs)=some (openGood q loose)):
  LeftO p q loose Xt Yf Ya N:=λw=>by
 obtain ⟨⟨h,gs,d,k,os⟩,e1,e2⟩:=Tp.mp (boot_open e hN f w)
 obtain ⟨rfl,rfl,rfl,rfl⟩:h=boot_heap w.params /\ gs=Array.mk [] /\ d=boot_drawn /\ k=boot_toks:=by simpa using e2
 obtain ⟨s,r,l⟩:=Tp.mp (one w os)
 obtain ⟨l1,l3⟩:_ /\ _:=by simpa only [Prod.mk.injEq] using l
 have l2:openSeen q loose (importedModules p.main.body) Xt true s.abs=openGood q loose:=by
  have:=two w os
  rw [r] at this
  exact Su this
 obtain ⟨z1,z2,z3⟩:_ /\ _ /\ _:=by simpa only [Prod.mk.injEq] using vW w.params
 have r':=uV r
 rw [Aj] at r'
 have t:topFrom treeTable p w N ⟨boot_heap w.params,Array.mk [],boot_drawn,boot_toks,os⟩=some s.abs:=by
  unfold topFrom
  dsimp only
  rw [z1,z2,z3,r']
  show (match staticsOk (importedModules p.main.body) (boot_heap w.params) s.abs.heap && namesBound p s.abs.heap && gensDone s.abs && laidKept (boot_heap w.params) s.abs.heap with | true=>_ | false=>_)=_
  rw [l1]
 unfold openEnds
 rw [e1]
 show (topFrom treeTable p w N ⟨boot_heap w.params,Array.mk [],boot_drawn,boot_toks,os⟩).map _=_
 rw [t,UQ,l2,l3]
end Hd
namespace aF
open PySem PySem.W L2
def top (i:Nat):Stmt:=PySem.Challenge.pw_lotdraw_k18_bad_texts.main.body.getD i (.Pass ⟨0,0,0,0⟩)
def qJ:Program:={ PySem.Challenge.pw_lotdraw_k18_bad_texts with main:={ PySem.Challenge.pw_lotdraw_k18_bad_texts.main with body:=[top 1,top 2,top 3,top 4,top 5,top 6,top 7,top 8,top 9,top 10,top 11,top 12,top 13,top 14,top 15,top 16,top 18,top 19,top 20,top 21,top 22,top 24,top 25,top 26,top 27,top 28,top 29,top 31,top 32,top 33,top 34,top 35,top 36,top 37,top 38,top 39,top 40,top 41,top 42,top 43] } }
abbrev ent (P:Params) (k:Str) (n:Nat) (v:Value):DictEntry:=⟨PyData.keyHash P k,.str k n,v⟩
abbrev sV (P:Params):=λx0 x1 x2 x3 x4 x5 x6=>(⟨(.type "dict"),none,(.dict #[(ent P "__module__" x0 (.str "lotdraw.errors" 187)),(ent P "__firstlineno__" x1 (.int x2 x3)),(ent P "__static_attributes__" x4 (.ref x5)),(ent P "__doc__" x6 .none)] 2),#[]⟩:Obj)
abbrev jj (P:Params):=λx0 x1 x2 x3 x4 x5=>(⟨(.type "type"),none,(.cls ⟨x0,[(.ref 24)],[(.ref x1),(.ref 24),(.type "ValueError"),(.type "Exception"),(.type "BaseException"),(.type "object")],x2,x0,true,[],[],false,none,false⟩),#[(some (.ref x3)),none,(some (.str x0 x4)),(some (.str x0 x5)),(some (.builtin "ValueError.__new__")),(some (.bool true))]⟩:Obj)
abbrev lK (P:Params):=λx0 x1 x2 x3 x4 x5 x6 x7 x8 x9 Ip Nr Nt=>(⟨(.type "code"),none,(.fields #[(.str x0 x1),(.str x0 x2),(.str "/claim/cut.py" x3),(.int x4 0),(.int x5 0),(.int 0 0),(.int 0 0),(.int 3 0),(.ref x6),(.bool true),(.int 181 0),(.ref x7),.none,(.ref x8),(.ref x9),(.ref Ip),(.int Nr 0),(.int x4 0),(.str "/claim/cut.py" Nt)]),#[]⟩:Obj)
abbrev nz (P:Params):=λx0 x1 x2 x3 x4=>(⟨(.type "function"),none,.func (fnOf x0 x0 (gL (top x1)) (cD (top x1)) (ai (top x1)) .none .none .none (.str x2 x3) none (.ref x4) .none),#[]⟩:Obj)
abbrev z8 (P:Params):=λx0 x1 x2 x3 x4 x5 x6 x7 x8 x9 Ip=>(⟨(.type "code"),none,(.fields #[(.str x0 x1),(.str x0 x2),(.str "/claim/cut.py" x3),(.int x4 0),(.int x5 0),(.int 0 0),(.int 0 0),(.int 3 0),(.ref x6),(.bool true),(.int 181 0),(.ref x7),.none,.none,.none,(.ref x8),(.int x9 0),(.int x4 0),(.str "/claim/cut.py" Ip)]),#[]⟩:Obj)
def Fv:Params->Frag:=λP=>(nat_lit 2,⟨.none,none,(.dict #[] 0),#[]⟩) ::
 (nat_lit 3,⟨(.type "dict"),none,(.dict #[(ent P "__name__" 165 (.str "law_lotdraw_k18_bad_texts" 510)),(ent P "__doc__" 166 .none),(ent P "__package__" 167 .none),(ent P "__loader__" 168 (.builtin "__main__.__loader__#opaque")),(ent P "__spec__" 169 .none),(ent P "__annotations__" 170 (.ref 6)),(ent P "__builtins__" 171 (.ref 4)),(ent P "__file__" 173 (.str "/claim/cut.py" 172)),(ent P "__cached__" 174 .none),(ent P "LotError" 206 (.ref 24)),(ent P "NoNumber" 222 (.ref 37)),(ent P "NoPlan" 238 (.ref 49)),(ent P "TooLong" 254 (.ref 61)),(ent P "NoText" 270 (.ref 73)),(ent P "NoEnd" 286 (.ref 85)),(ent P "TooMany" 302 (.ref 97)),(ent P "NoRow" 318 (.ref 109)),(ent P "NoTelling" 334 (.ref 121)),(ent P "NoLot" 350 (.ref 133)),(ent P "NotOnly" 366 (.ref 145)),(ent P "Only" 382 (.ref 157)),(ent P "NoShares" 398 (.ref 169)),(ent P "NoDeed" 414 (.ref 181)),(ent P "NoName" 430 (.ref 193)),(ent P "NoDraw" 446 (.ref 205)),(ent P "MOST_PLACES" 450 (.int 24 449)),(ent P "is_plan" 459 (.ref 214)),(ent P "led_to" 465 (.ref 219)),(ent P "is_place" 471 (.ref 224)),(ent P "is_whole" 478 (.ref 231)),(ent P "FIGURES" 482 (.str "0123456789" 481)),(ent P "MOST_FIGURES" 484 (.int 2 483)),(ent P "read_plan" 490 (.ref 236)),(ent P "read_place" 496 (.ref 241)),(ent P "read_number" 503 (.ref 248)),(ent P "is_number" 509 (.ref 253)),(ent P "_law_cell" 519 (.ref 260)),(ent P "_law_digits" 530 (.ref 267)),(ent P "_law_mixes" 542 (.ref 274)),(ent P "_law_plan" 548 (.ref 279)),(ent P "_law_most" 555 (.ref 286)),(ent P "_law_word" 561 (.ref 291)),(ent P "_law_written" 567 (.ref 296)),(ent P "_law_refused" 575 (.ref 303)),(ent P "_law_sign" 583 (.ref 310)),(ent P "_law_row_spoilt" 594 (.ref 317)),(ent P "_law_spoilt" 600 (.ref 322)),(ent P "_law_odd" 606 (.ref 327)),(ent P "law" 617 (.ref 334))] 49),#[]⟩) ::
 (nat_lit 23,⟨(.type "dict"),none,(.dict #[(ent P "__module__" 196 (.str "lotdraw.errors" 187)),(ent P "__firstlineno__" 200 (.int 2 199)),(ent P "__static_attributes__" 201 (.ref 22)),(ent P "__weakref__" 203 (.ref 25)),(ent P "__doc__" 204 .none)] 3),#[]⟩) ::
 (nat_lit 24,⟨(.type "type"),none,(.cls ⟨"LotError",[(.type "ValueError")],[(.ref 24),(.type "ValueError"),(.type "Exception"),(.type "BaseException"),(.type "object")],23,"LotError",true,[],[(.ref 37),(.ref 49),(.ref 61),(.ref 73),(.ref 85),(.ref 97),(.ref 109),(.ref 121),(.ref 133),(.ref 145),(.ref 157),(.ref 169),(.ref 181),(.ref 193),(.ref 205)],false,none,false⟩),#[(some (.ref 15)),none,(some (.str "LotError" 189)),(some (.str "LotError" 197)),(some (.builtin "ValueError.__new__")),(some (.bool true))]⟩) ::
 (nat_lit 25,⟨(.type "getset_descriptor"),none,(.fields #[(.str "__weakref__" 202),(.ref 24),(.builtin "ExceptionGroup.__weakref__"),.none]),#[]⟩) ::
 (nat_lit 36,sV P 214 218 4 217 219 35 220) ::
 (nat_lit 37,jj P "NoNumber" 37 36 28 207 215) ::
 (nat_lit 48,sV P 230 234 6 233 235 47 236) ::
 (nat_lit 49,jj P "NoPlan" 49 48 40 223 231) ::
 (nat_lit 60,sV P 246 250 8 249 251 59 252) ::
 (nat_lit 61,jj P "TooLong" 61 60 52 239 247) ::
 (nat_lit 72,sV P 262 266 10 265 267 71 268) ::
 (nat_lit 73,jj P "NoText" 73 72 64 255 263) ::
 (nat_lit 84,sV P 278 282 12 281 283 83 284) ::
 (nat_lit 85,jj P "NoEnd" 85 84 76 271 279) ::
 (nat_lit 96,sV P 294 298 14 297 299 95 300) ::
 (nat_lit 97,jj P "TooMany" 97 96 88 287 295) ::
 (nat_lit 108,sV P 310 314 16 313 315 107 316) ::
 (nat_lit 109,jj P "NoRow" 109 108 100 303 311) ::
 (nat_lit 120,sV P 326 330 18 329 331 119 332) ::
 (nat_lit 121,jj P "NoTelling" 121 120 112 319 327) ::
 (nat_lit 132,sV P 342 346 20 345 347 131 348) ::
 (nat_lit 133,jj P "NoLot" 133 132 124 335 343) ::
 (nat_lit 144,sV P 358 362 22 361 363 143 364) ::
 (nat_lit 145,jj P "NotOnly" 145 144 136 351 359) ::
 (nat_lit 156,sV P 374 378 24 377 379 155 380) ::
 (nat_lit 157,jj P "Only" 157 156 148 367 375) ::
 (nat_lit 168,sV P 390 394 26 393 395 167 396) ::
 (nat_lit 169,jj P "NoShares" 169 168 160 383 391) ::
 (nat_lit 180,sV P 406 410 28 409 411 179 412) ::
 (nat_lit 181,jj P "NoDeed" 181 180 172 399 407) ::
 (nat_lit 192,sV P 422 426 30 425 427 191 428) ::
 (nat_lit 193,jj P "NoName" 193 192 184 415 423) ::
 (nat_lit 204,sV P 438 442 32 441 443 203 444) ::
 (nat_lit 205,jj P "NoDraw" 205 204 196 431 439) ::
 (nat_lit 213,lK P "is_plan" 451 452 453 36 1 208 209 210 211 212 457 458) ::
 (nat_lit 214,nz P "is_plan" 19 "lotdraw.plans" 447 213) ::
 (nat_lit 218,z8 P "led_to" 460 461 462 45 1 215 216 217 463 464) ::
 (nat_lit 219,nz P "led_to" 20 "lotdraw.plans" 447 218) ::
 (nat_lit 223,z8 P "is_place" 466 467 468 47 2 220 221 222 469 470) ::
 (nat_lit 224,nz P "is_place" 21 "lotdraw.plans" 447 223) ::
 (nat_lit 230,lK P "is_whole" 472 473 474 53 1 225 226 227 228 229 476 477) ::
 (nat_lit 231,nz P "is_whole" 22 "lotdraw.plans" 447 230) ::
 (nat_lit 235,z8 P "read_plan" 485 486 487 58 1 232 233 234 488 489) ::
 (nat_lit 236,nz P "read_plan" 26 "lotdraw.texts" 479 235) ::
 (nat_lit 240,z8 P "read_place" 491 492 493 63 1 237 238 239 494 495) ::
 (nat_lit 241,nz P "read_place" 27 "lotdraw.texts" 479 240) ::
 (nat_lit 247,lK P "read_number" 497 498 499 65 1 242 243 244 245 246 501 502) ::
 (nat_lit 248,nz P "read_number" 28 "lotdraw.texts" 479 247) ::
 (nat_lit 252,z8 P "is_number" 504 505 506 69 1 249 250 251 507 508) ::
 (nat_lit 253,nz P "is_number" 29 "lotdraw.texts" 479 252) ::
 (nat_lit 259,lK P "_law_cell" 512 513 514 74 2 254 255 256 257 258 517 518) ::
 (nat_lit 260,nz P "_law_cell" 31 "law_lotdraw_k18_bad_texts" 510 259) ::
 (nat_lit 266,lK P "_law_digits" 520 521 522 78 3 261 262 263 264 265 528 529) ::
 (nat_lit 267,nz P "_law_digits" 32 "law_lotdraw_k18_bad_texts" 510 266) ::
 (nat_lit 273,lK P "_law_mixes" 531 532 533 84 3 268 269 270 271 272 540 541) ::
 (nat_lit 274,nz P "_law_mixes" 33 "law_lotdraw_k18_bad_texts" 510 273) ::
 (nat_lit 278,z8 P "_law_plan" 543 544 545 90 2 275 276 277 546 547) ::
 (nat_lit 279,nz P "_law_plan" 34 "law_lotdraw_k18_bad_texts" 510 278) ::
 (nat_lit 290,z8 P "_law_word" 556 557 558 112 1 287 288 289 559 560) ::
 (nat_lit 291,nz P "_law_word" 36 "law_lotdraw_k18_bad_texts" 510 290) ::
 (nat_lit 295,z8 P "_law_written" 562 563 564 122 1 292 293 294 565 566) ::
 (nat_lit 296,nz P "_law_written" 37 "law_lotdraw_k18_bad_texts" 510 295) ::
 (nat_lit 302,lK P "_law_refused" 568 569 570 124 1 297 298 299 300 301 573 574) ::
 (nat_lit 303,nz P "_law_refused" 38 "law_lotdraw_k18_bad_texts" 510 302) ::
 (nat_lit 309,lK P "_law_sign" 576 577 578 130 1 304 305 306 307 308 581 582) ::
 (nat_lit 310,nz P "_law_sign" 39 "law_lotdraw_k18_bad_texts" 510 309) ::
 (nat_lit 316,lK P "_law_row_spoilt" 584 585 586 133 4 311 312 313 314 315 592 593) ::
 (nat_lit 317,nz P "_law_row_spoilt" 40 "law_lotdraw_k18_bad_texts" 510 316) ::
 (nat_lit 321,z8 P "_law_spoilt" 595 596 597 147 4 318 319 320 598 599) ::
 (nat_lit 322,nz P "_law_spoilt" 41 "law_lotdraw_k18_bad_texts" 510 321) ::
 (nat_lit 326,z8 P "_law_odd" 601 602 603 164 1 323 324 325 604 605) ::
 (nat_lit 327,nz P "_law_odd" 42 "law_lotdraw_k18_bad_texts" 510 326) ::
 (nat_lit 333,lK P "law" 607 608 609 169 1 328 329 330 331 332 615 616) ::
 (nat_lit 334,nz P "law" 43 "law_lotdraw_k18_bad_texts" 510 333) ::
 []
def Fw:List Addr:=[2,3,23,24,25,36,37,48,49,60,61,72,73,84,85,96,97,108,109,120,121,132,133,144,145,156,157,168,169,180,181,192,193,204,205,213,214,218,219,223,224,230,231,235,236,240,241,247,248,252,253,259,260,266,267,273,274,278,279,290,291,295,296,302,303,309,310,316,317,321,322,326,327,333,334]
set_option maxHeartbeats 0
theorem xE (P:Params):Fw=(Fv P).map (·.1):=by kernel_rfl
theorem Ak (w:World) (os:OsState):(Hd.sU treeTable PySem.Challenge.pw_lotdraw_k18_bad_texts w 11 (some (.ref 6)) 8216 (Hd.qI w os) (topStub PySem.Challenge.pw_lotdraw_k18_bad_texts)).map (λs=>((staticsOk (importedModules PySem.Challenge.pw_lotdraw_k18_bad_texts.main.body) (boot_heap w.params) s.abs.heap && namesBound PySem.Challenge.pw_lotdraw_k18_bad_texts s.abs.heap && gensDone s.abs && laidKept (boot_heap w.params) s.abs.heap),Fw.map s.abs.heap.get?))=some (true,(Fv w.params).map λp=>some p.2):=by kernel_rfl
abbrev Mm:Shared->Bool:=λs=>xlAt qJ [] s && recOk (RowW.records (OpenRow.toRowW (OpenLaw.row PySem.Challenge.rw_lotdraw_k18_bad_texts))) s
theorem Al (w:World) (os:OsState):(Hd.sU treeTable PySem.Challenge.pw_lotdraw_k18_bad_texts w 11 (some (.ref 6)) 8216 (Hd.qI w os) (topStub PySem.Challenge.pw_lotdraw_k18_bad_texts)).map (λs=>openSeen qJ [] (importedModules PySem.Challenge.pw_lotdraw_k18_bad_texts.main.body) Mm true s.abs)=some (openGood qJ []):=by kernel_rfl
end aF
set_option maxHeartbeats 4000000
namespace L2
open PySem PySem.Spec PyProof.Rows
abbrev Key:=Sum Int Str
def B0:Key->Value->Bool
 | .inl k,v=>Value.isInt k v
 | .inr x,v=>Value.isStrOf x v
def Iq (w:World):Key->Int
 | .inl k=>hashInt k
 | .inr x=>hashStr w x
theorem b8:∀ {k:Key} {v:Value},B0 k v=true->(∃ i t,k=Sum.inl i /\ v=Value.int i t) \/ (∃ x t,k=Sum.inr x /\ v=Value.str x t)
 | .inl i,v,h=>by
   obtain ⟨t,e⟩:=Value.isInt_shape (k:=i) (v:=v) h
   exact .inl ⟨i,t,rfl,e⟩
 | .inr x,v,h=>by
   obtain ⟨t,e⟩:=Value.isStrOf_shape (x:=x) (v:=v) h
   exact .inr ⟨x,t,rfl,e⟩
theorem CO (a b:Int):decide ((Sum.inl a:Key)=Sum.inl b)=(a == b):=by
 by_cases e:a=b
 .subst e; simp
 .have h:¬ (Sum.inl a:Key)=Sum.inl b:=λq=>e (Sum.inl.inj q)
  rw [Si h]
  exact (S5.mpr e).symm
theorem CP (a b:Str):decide ((Sum.inr a:Key)=Sum.inr b)=decide (a=b):=by
 by_cases e:a=b
 .subst e; simp
 .have h:¬ (Sum.inr a:Key)=Sum.inr b:=λq=>e (Sum.inr.inj q)
  rw [Si h,Si e]
theorem CQ (a:Int) (b:Str):decide ((Sum.inl a:Key)=Sum.inr b)=false:=Si (λq=>nomatch q)
theorem CS (a:Str) (b:Int):decide ((Sum.inr a:Key)=Sum.inl b)=false:=Si (λq=>nomatch q)
def o8 (prog:Program) (w:World):PySem.KeyKind prog w Key where
 is:=B0
 hash:=Iq w
 inj:=λv a b ha hb=>by
  rcases b8 ha with ⟨i,t,rfl,rfl⟩ | ⟨x,t,rfl,rfl⟩
  .rcases b8 hb with ⟨j,u,rfl,e⟩ | ⟨y,u,rfl,e⟩
   .injection e with e1 _; rw [e1]
   .exact nomatch e
  .rcases b8 hb with ⟨j,u,rfl,e⟩ | ⟨y,u,rfl,e⟩
   .exact nomatch e
   .injection e with e1 _; rw [e1]
 byValue:=λk v h=>by
  rcases b8 h with ⟨i,t,rfl,rfl⟩ | ⟨x,t,rfl,rfl⟩ <;> rfl
 pyHash:=λhv h=>by
  rcases b8 hv with ⟨i,t,rfl,rfl⟩ | ⟨x,t,rfl,rfl⟩
  .exact wpAny_pyHash_int h
  .exact wpAny_pyHash_str h
 eqBool:=λhu hv h=>by
  rcases b8 hu with ⟨i,t,rfl,rfl⟩ | ⟨x,t,rfl,rfl⟩
  .rcases b8 hv with ⟨j,u,rfl,rfl⟩ | ⟨y,u,rfl,rfl⟩
   .rw [CO] at h; exact wpAny_eqBool_int h
   .rw [CQ] at h; exact SeqAt.EqAt.int_str i t y u _ _ _ _ h
  .rcases b8 hv with ⟨j,u,rfl,rfl⟩ | ⟨y,u,rfl,rfl⟩
   .rw [CS] at h; exact SeqAt.EqAt.str_int x t j u _ _ _ _ h
   .rw [CP] at h; exact wpAny_eqBool_str h
 «strs»:=λk x t v h=>by
  rcases b8 h with ⟨i,u,rfl,e⟩ | ⟨y,u,rfl,e⟩
  .exact nomatch e
  .injection e with e1 _
   subst e1
   cases v <;> rfl
inductive V where
 | fF | bl (b:Bool) | int (i:Int) | str (x:Str) | Fy (b:Array UInt8) | E5 (b:UInt64) | ref (a:Addr) | ty (n:String)
 deriving DecidableEq
def RelV:V->Value->Prop
 | .fF,u=>u=Value.none
 | .bl b,u=>u=Value.bool b
 | .int i,u=>∃ t,u=Value.int i t
 | .str x,u=>∃ t,u=Value.str x t
 | .Fy b,u=>∃ t,u=Value.bytes b t
 | .E5 b,u=>∃ t,u=Value.float b t
 | .ref a,u=>u=Value.ref a
 | .ty n,u=>u=Value.type n
abbrev aO:List V->List Value->Prop:=Paired RelV
theorem aO.length {xs:List V} {us:List Value} (r:aO xs us):xs.length=us.length:=Paired.length r
theorem aO.get:∀ {xs:List V} {us:List Value} {i:Nat} {x:V},aO xs us->xs[i]?=some x->∃ u,us[i]?=some u /\ RelV x u
 | _,_,_,_,.nil,e=>by simp at e
 | _,_,0,_,.cons r _,e=>by simp at e; subst e; exact ⟨_,rfl,r⟩
 | _,_,i + 1,x,.cons _ t,e=>by
   obtain ⟨u,h1,h2⟩:=aO.get (i:=i) (x:=x) t (by simpa using e)
   exact ⟨u,by simpa using h1,h2⟩
theorem aO.set {x:V} {u:Value} (r:RelV x u):∀ {xs:List V} {us:List Value} (i:Nat),aO xs us->aO (xs.set i x) (us.set i u)
 | _,_,_,.nil=>.nil
 | _,_,0,.cons _ t=>.cons r t
 | _,_,i + 1,.cons q t=>.cons q (aO.set r i t)
theorem aO.append:∀ {xs ys:List V} {us ws:List Value},aO xs us->aO ys ws->aO (xs ++ ys) (us ++ ws)
 | _,_,_,_,.nil,s=>s
 | _,_,_,_,.cons r t,s=>.cons r (aO.append t s)
theorem aO.take:∀ {xs:List V} {us:List Value} (n:Nat),aO xs us->aO (xs.take n) (us.take n)
 | _,_,0,_=>.nil
 | _,_,_ + 1,.nil=>.nil
 | _,_,n + 1,.cons r t=>.cons r (aO.take n t)
theorem aO.drop:∀ {xs:List V} {us:List Value} (n:Nat),aO xs us->aO (xs.drop n) (us.drop n)
 | _,_,0,r=>r
 | _,_,_ + 1,.nil=>.nil
 | _,_,n + 1,.cons _ t=>aO.drop n t
def CU:Option V->Option Value->Prop
 | some v,some u=>RelV v u
 | none,none=>True
 | _,_=>False
def KV {κ:Type}:List (κ×V)->List (κ×Value)->Prop:=Paired λ(p:κ×V) (q:κ×Value)=>p.1=q.1 /\ RelV p.2 q.2
def kV:Key->V
 | .inl i=>.int i
 | .inr x=>.str x
inductive HO where
  | lst (xs:List V)
  | tup (xs:List V)
  | dK (eY:List (Key×V)) | dT (eY:List (List Key×V))
  | set (S:Int->Bool) (n:Nat)
  | ins (C dx:Addr) (fs:List (Str×V))
  | own (x:Addr)
  | xd (fs:List (Str×V))
  | met (f x:Addr)
  | lr (lo hi:Int)
  | lY (o:Obj) (u:HO)
  | B1 (ps:Array Value)
  | ext (φ:Heap->Prop)
abbrev Hp:=Addr->Option HO
def upd (H:Hp) (a:Addr) (o:HO):Hp:=λb=>if b=a then some o else H b
theorem bM {H:Hp} {a:Addr} {o:HO}:upd H a o a=some o:=by unfold upd; rw [if_pos rfl]
theorem aG {H:Hp} {a b:Addr} {o:HO} (h:b≠a):upd H a o b=H b:=by unfold upd; rw [if_neg h]
theorem aY {H:Hp} {a b:Addr} {o:HO} (h:H a=some o) (h':H b=none):a≠b:=by
 intro e; subst e; rw [h] at h'; cases h'
def fG (H:Hp) (b:Addr) (xs:List V):Prop:=H b=some (.tup xs) \/ ∃ ob,H b=some (.lY ob (.tup xs))
theorem fG.ne {H:Hp} {a b:Addr} {o:HO} {xs:List V} (t:fG H b xs) (n:b≠a):fG (upd H a o) b xs:=by
 rcases t with t | ⟨ob,t⟩
 .exact .inl (by rw [aG n]; exact t)
 .exact .inr ⟨ob,by rw [aG n]; exact t⟩
theorem fG.new {H:Hp} {a b:Addr} {o:HO} {xs:List V} (t:fG H b xs) (n:H a=none):fG (upd H a o) b xs:=t.ne λz=>by
 subst z
 rcases t with t | ⟨ob,t⟩ <;> rw [n] at t <;> cases t
section
variable (P:Program) (w:World)
def cA (H:Hp) (h:Heap) (a:Addr):HO->Prop
 | .lst xs=>xs.length<=sizeLine /\ ∃ (its:List Value) (n:Nat),aO xs its /\ h.get? a=some { cls:=.type "list",data:=.seq its.toArray n }
 | .tup xs=>xs.length<=sizeLine /\ ∃ its:List Value,aO xs its /\ IsTup h a its.toArray
 | .dK eY=>eY.length<=sizeLine /\ (a == sysModules)=false /\ ∃ vs,KV eY vs /\ h.DictOf (o8 P w) a vs
 | .dT eY=>eY.length<=sizeLine /\ (a == sysModules)=false /\ ∃ xs:List (List Key×Addr×Value),
   Paired (λ(p:List Key×V) (q:List Key×Addr×Value)=>p.1=q.1 /\ fG H q.2.1 (p.1.map kV) /\ RelV p.2 q.2.2) eY xs /\
   ∃ o es ep,h.get? a=some o /\ o.ExactDict /\ o.data=.dict es ep /\ es.toList=xs.map (entryOfKey (tupleKind (o8 P w))) /\ (xs.map (·.1)).Nodup
 | .set S n=>h.SetOf (intKind P w) a S n
 | .ins C dx fs=>H dx=some (.own a) /\ fs.length<=1000 /\ dx≠a /\ h.get? a=some (PySem.W.instObj C dx) /\
   ∃ mA,h.Ns1 dx mA /\ (∀ f,CU (fs.lookup f) (mA f)) /\ PySem.Within mA (fs.map (·.1))
 | .own _=>∃ o,h.get? a=some o
 | .xd fs=>∃ mA,h.Ns1 a mA /\ ∀ f,CU (fs.lookup f) (mA f)
 | .lr lo hi=>∃ t u v,h.get? a=some { cls:=.type "range",data:=.fields #[.int lo t,.int hi u,.int 1 v] }
 | .lY o u=>h.get? a=some o /\ cA H h a u
 | .B1 ps=>h.get? a=some { cls:=.none,data:=.fields ps }
 | .met f x=>h.get? a=some (PySem.W.methodObj (.ref f) (.ref x))
 | .ext φ=>φ h /\ (∃ o,h.get? a=some o) /\ ∀ h1 h2:Heap,φ h1->(∀ o,h1.get? a=some o->h2.get? a=some o)->φ h2
def kx (H:Hp) (h:Heap):Prop:=∀ a o,H a=some o->cA P w H h a o
end
section
variable {P:Program} {w:World} {H H':Hp} {h h':Heap} {a:Addr} {o:HO}
theorem cA.lt (x:cA P w H h a o):a < h.objs.size:=by
 cases o with
 | lst xs=>obtain ⟨_,_,_,_,e⟩:=x; exact RR e
 | tup xs=>obtain ⟨_,_,_,p⟩:=x; exact p.lt
 | dK eY=>obtain ⟨_,_,_,_,o,_,_,e,_⟩:=x; exact RR e
 | dT eY=>obtain ⟨_,_,_,_,o,_,_,e,_⟩:=x; exact RR e
 | set S n=>obtain ⟨o,_,_,_,e,_⟩:=x; exact RR e
 | ins C dx fs=>obtain ⟨_,_,_,e,_⟩:=x; exact RR e
 | own y=>obtain ⟨_,e⟩:=x; exact RR e
 | xd fs=>obtain ⟨_,⟨_,_,_,e,_⟩,_⟩:=x; exact RR e
 | lr lo hi=>obtain ⟨_,_,_,e⟩:=x; exact RR e
 | lY ob u=>obtain ⟨e,_⟩:=x; exact RR e
 | B1 ps=>exact RR (show h.get? a=some _ from x)
 | met f y=>exact RR (show h.get? a=some _ from x)
 | ext φ=>obtain ⟨_,⟨_,e⟩,_⟩:=x; exact RR e
theorem Paired.Fz {α β:Type} {F G:α->β->Prop}:∀ {FA:List α} {FC:List β},Paired F FA FC->(∀ a b,F a b->G a b)->Paired G FA FC
 | _,_,.nil,_=>.nil
 | _,_,.cons r t,f=>.cons (f _ _ r) (Paired.Fz t f)
theorem cA.ls (x:cA P w H h a o) (k:∀ b u,(b=a \/ H b=some (.own a))->h.get? b=some u->h'.get? b=some u)
  (ho:∀ b,H b=some (.own a)->H' b=some (.own a)) (ht:∀ b xs,fG H b xs->fG H' b xs):cA P w H' h' a o:=by
 induction o with
 | lst xs=>obtain ⟨z,its,n,r,e⟩:=x; exact ⟨z,its,n,r,k _ _ (.inl rfl) e⟩
 | tup xs=>obtain ⟨z,its,r,ob,e,c⟩:=x; exact ⟨z,its,r,ob,k _ _ (.inl rfl) e,c⟩
 | dK eY=>obtain ⟨z,y,vs,r,ob,es,ep,e,c⟩:=x; exact ⟨z,y,vs,r,ob,es,ep,k _ _ (.inl rfl) e,c⟩
 | dT eY=>
   obtain ⟨z,y,xs,r,ob,es,ep,e,c⟩:=x
   exact ⟨z,y,xs,Paired.Fz r λp q z=>⟨z.1,ht _ _ z.2.1,z.2.2⟩,ob,es,ep,k _ _ (.inl rfl) e,c⟩
 | set S n=>obtain ⟨ob,es,ep,t,e,c⟩:=x; exact ⟨ob,es,ep,t,k _ _ (.inl rfl) e,c⟩
 | ins C dx fs=>
   obtain ⟨d,z,ne,e,mA,⟨od,es,ep,e2,c⟩,r⟩:=x
   exact ⟨ho _ d,z,ne,k _ _ (.inl rfl) e,mA,⟨od,es,ep,k _ _ (.inr d) e2,c⟩,r⟩
 | own y=>obtain ⟨ob,e⟩:=x; exact ⟨ob,k _ _ (.inl rfl) e⟩
 | xd fs=>obtain ⟨mA,⟨od,es,ep,e,c⟩,r⟩:=x; exact ⟨mA,⟨od,es,ep,k _ _ (.inl rfl) e,c⟩,r⟩
 | lr lo hi=>obtain ⟨t,u,v,e⟩:=x; exact ⟨t,u,v,k _ _ (.inl rfl) e⟩
 | lY ob u ih=>obtain ⟨e,q⟩:=x; exact ⟨k _ _ (.inl rfl) e,ih q⟩
 | B1 ps=>
   have e:h.get? a=some { cls:=.none,data:=.fields ps }:=x
   show h'.get? a=some { cls:=.none,data:=.fields ps }
   exact k a _ (.inl rfl) e
 | met f y=>
   have e:h.get? a=some (PySem.W.methodObj (.ref f) (.ref y)):=x
   show h'.get? a=some (PySem.W.methodObj (.ref f) (.ref y))
   exact k a _ (.inl rfl) e
 | ext φ=>obtain ⟨p,⟨o,e⟩,st⟩:=x; exact ⟨st _ _ p λo q=>k _ _ (.inl rfl) q,⟨o,k _ _ (.inl rfl) e⟩,st⟩
theorem kx.lt (x:kx P w H h) (e:H a=some o):a < h.objs.size:=(x a o e).lt
theorem kx.fresh (x:kx P w H h) (e:h.objs.size<=a):H a=none:=by
 cases q:H a with
 | none=>rfl
 | some u=>exact absurd (RL (x.lt q) e) (Sg _)
theorem kx.kept (x:kx P w H h) (k:∀ b u,h.get? b=some u->h'.get? b=some u):kx P w H h':=λa o e=>
 (x a o e).ls (λb u _ q=>k b u q) (λ_ q=>q) λ_ _ q=>q
theorem kx.laid (x:kx P w H h) (k:∀ b u,h.get? b=some u->h'.get? b=some u) (hp:h.objs.size<=a) (new:cA P w (upd H a o) h' a o):kx P w (upd H a o) h':=λb u e=>by
 have hn:=x.fresh hp
 by_cases hb:b=a
 .subst hb; rw [bM] at e; cases e; exact new
 .rw [aG hb] at e
  exact (x b u e).ls (λc v _ q=>k c v q) (λc q=>by rw [aG (aY q hn)]; exact q) λc xs q=>q.new hn
end
def Rd (H:Hp) (a:Addr) (u:HO):Prop:=H a=some u \/ ∃ o,H a=some (.lY o u)
theorem Rd.ok {P:Program} {w:World} {H:Hp} {h:Heap} {a:Addr} {u:HO} (r:Rd H a u) (x:kx P w H h):cA P w H h a u:=by
 rcases r with r | ⟨o,r⟩
 .exact x a u r
 .obtain ⟨_,q⟩:=x a _ r
  exact q
def HB:Option HO->Prop
 | some (.lst _)=>True
 | some (.dK _)=>True
 | some (.dT _)=>True
 | some (.set _ _)=>True
 | some (.ins _ _ _)=>True
 | some (.ext _)=>True
 | _=>False
section
variable {P:Program} {w:World} {H:Hp} {h h':Heap} {x e:Addr} {o':HO}
theorem kx.write (ok:kx P w H h) (mu:HB (H x)) (he:e=x \/ H e=some (.own x)) (k:∀ b u,b≠e->h.get? b=some u->h'.get? b=some u) (B2:∃ u,h'.get? e=some u)
  (new:cA P w (upd H x o') h' x o'):kx P w (upd H x o') h':=λb u q=>by
 have FD:∀ c y,H c=some (.own y)->c≠x:=λc y r z=>by subst z; rw [r] at mu; exact mu
 have Nu:∀ c xs,H c=some (.tup xs)->c≠x:=λc xs r z=>by subst z; rw [r] at mu; exact mu
 by_cases hb:b=x
 .subst hb; rw [bM] at q; cases q; exact new
 .rw [aG hb] at q
  by_cases CV:b=e
  .have q':H b=some (.own x):=by
    rcases he with z | z
    .exact absurd (CV.trans z) hb
    .rw [CV]; exact z
   rw [q] at q'; cases q'
   obtain ⟨v,hv⟩:=B2
   exact ⟨v,by rw [CV]; exact hv⟩
  .refine (ok b u q).ls (λc v hc r=>k c v ?_ r) (λc r=>by rw [aG (FD c b r)]; exact r) λc xs r=>r.ne λz=>by
    subst z
    rcases r with r | ⟨ob,r⟩ <;> rw [r] at mu <;> exact mu
   rcases hc with rfl | hc
   .exact CV
   .rintro rfl
    rcases he with z | z
    .exact FD c b hc z
    .rw [hc] at z; cases z; exact hb rfl
end
structure Un (fs ex:List Addr) (H H':Hp) (h h':Heap):Prop where
 keep:∀ b o,h.get? b=some o->H b=none->b∉fs->b∉ex->h'.get? b=some o
 slot:∀ b o,h.get? b=some o->H b=none->b∈fs->b∉ex->∃ sl,h'.get? b=some { o with slots:=sl }
 free:∀ b o,h.get? b=some o->H b=none->b∉ex->H' b=none
 there:∀ b o,h.get? b=some o->b∉ex->∃ o',h'.get? b=some o'
 jv:∀ b xs,H b=some (.tup xs)->H' b=some (.tup xs)
 jc:∀ b o u,H b=some (.lY o u)->H' b=some (.lY o u)
 jw:∀ b ps,H b=some (.B1 ps)->∃ more,H' b=some (.B1 (ps ++ more))
section
variable {fs Nv ex Rm:List Addr} {H H1 H2:Hp} {h h1 h2 h':Heap} {a x e:Addr} {o:HO}
theorem Un.any (u:Un fs ex H H1 h h1) {b:Addr} {ob:Obj} (q:h.get? b=some ob) (n:H b=none) (hx:b∉ex):∃ sl,h1.get? b=some { ob with slots:=sl }:=by
 by_cases hb:b∈fs
 .exact u.slot b ob q n hb hx
 .exact ⟨ob.slots,u.keep b ob q n hb hx⟩
theorem Un.kept (k:∀ b u,h.get? b=some u->h'.get? b=some u):Un fs ex H H h h':=
 ⟨λb ob q _ _ _=>k b ob q,λb ob q _ _ _=>⟨ob.slots,k b ob q⟩,λ_ _ _ n _=>n,λb ob q _=>⟨ob,k b ob q⟩,λ_ _ q=>q,λ_ _ _ q=>q,λ_ ps q=>⟨#[],by rw [q]; simp⟩⟩
theorem Un.refl:Un fs ex H H h h:=Un.kept λ_ _ q=>q
theorem Un.laid (k:∀ b u,h.get? b=some u->h'.get? b=some u) (hp:h.objs.size<=a) (hn:H a=none):Un fs ex H (upd H a o) h h' where
 keep:=λb u q _ _ _=>k b u q
 slot:=λb u q _ _ _=>⟨u.slots,k b u q⟩
 free:=λb u q n _=>by rw [aG (RW (RL (RR q) hp))]; exact n
 there:=λb u q _=>⟨u,k b u q⟩
 jv:=λb xs q=>by rw [aG (aY q hn)]; exact q
 jc:=λb u xs q=>by rw [aG (aY q hn)]; exact q
 jw:=λb ps q=>⟨#[],by rw [aG (aY q hn),q]; simp⟩
theorem Un.write (mu:HB (H x)) (he:e=x \/ H e=some (.own x)) (k:∀ b u,b≠e->h.get? b=some u->h'.get? b=some u) (B2:∃ u,h'.get? e=some u):Un fs ex H (upd H x o) h h':=by
 have hx:∀ b,H b=none->b≠x:=λb n z=>by subst z; rw [n] at mu; exact mu
 have hb:∀ b,H b=none->b≠e:=λb n z=>by
  subst z
  rcases he with r | r
  .exact hx b n r
  .rw [n] at r; cases r
 have hm:∀ b u,H b=some u->¬ HB (some u)->b≠x:=λb u q nm z=>by subst z; rw [q] at mu; exact nm mu
 refine ⟨λb u q n _ _=>k b u (hb b n) q,λb u q n _ _=>⟨u.slots,k b u (hb b n) q⟩,λb u q n _=>by rw [aG (hx b n)]; exact n,λb u q _=>?_,
  λb xs q=>by rw [aG (hm b _ q λz=>z)]; exact q,λb u xs q=>by rw [aG (hm b _ q λz=>z)]; exact q,λb ps q=>⟨#[],by rw [aG (hm b _ q λz=>z),q]; simp⟩⟩
 by_cases CV:b=e
 .subst CV; exact B2
 .exact ⟨u,k b u CV q⟩
end
def HC (h:Heap) (H:Hp):List Addr:=(List.range h.objs.size).filter λa=>(H a).isSome
def o9 (h:Heap) (H:Hp):Heap:=PySem.W.hideAll h (HC h H)
theorem vY (h:Heap) (H:Hp):(o9 h H).objs.size=h.objs.size:=PySem.W.hideAll_size _ _
theorem xF {h:Heap} {H:Hp} {b:Addr} {o:Obj} (e:h.get? b=some o) (n:H b=none):(o9 h H).get? b=some o:=
 PySem.W.hideAll_get _ e λhm=>by
  have q:(H b).isSome=true:=(VA.mp hm).2
  rw [n] at q; simp at q
theorem Am {h:Heap} {H:Hp} {b:Addr} {o:Obj} (e:(o9 h H).get? b=some o):h.get? b=some o /\ H b=none:=by
 have e':h.get? b=some o:=PySem.W.of_hideAll (HC h H) e
 refine ⟨e',?_⟩
 cases q:H b with
 | none=>rfl
 | some x=>
   have hm:b∈HC h H:=VA.mpr ⟨TX.mpr (RR e'),by simp [q]⟩
   have z:(o9 h H).get? b=none:=PySem.W.hideAll_none (HC h H) hm
   rw [z] at e; cases e
def An (g h:Heap) (L:Addr):List (Addr×Obj):=(List.range h.objs.size).filterMap λa=>if a=L \/ (g.get? a).isSome=true then none else (h.get? a).map λo=>(a,o)
def rest (g h:Heap) (L d:Addr):List (Addr×Obj):=(An g h L).filter λp=>decide (p.1≠d)
structure Mod (K:PySem.W.Frag) (mg:Str->Option Value) (base:Heap):Prop where
 FE:K.In base
 glob:base.Ns mainGlobals mg
 blt:∃ mb,base.Ns builtinsNs mb /\ ∀ x:Str,x≠"__name__"->mb x=bootBuiltins x
 nolimit:base.NoLimit
structure Cx where
 prog:Program
 w:World
 K:PySem.W.Frag
 mg:Str->Option Value
 base:Heap
 A:Around
 N:List Str
 ee:Shared
 xG:Hp
 env:Env
 outer:List Env
 stack:List Env
 ex:List Addr
 fn:Str->Bool
 calm:Bool
 pn:List (Addr×Obj)
 xe:Value->Shared->Prop
def ip (l:List Env):List Addr:=l.filterMap (·.frame)
abbrev Cx.fs (X:Cx):List Addr:=ip X.outer
def E6 (sc:Scope) (x:Str):Prop:=sc.names.lookup x=some .local \/ sc.names.lookup x=some .cell \/ sc.names.lookup x=some .free
def Loc (sc:Scope) (x:Str):Prop:=sc.names.lookup x=some .local \/ sc.names.lookup x=some .cell
def Look (env:Env) (h:Heap) (m:Str->Option Value) (x:Str) (u:Value):Prop:=
 (env.kindOf x=some .local /\ m x=some u) \/ ((env.kindOf x=some .cell \/ env.kindOf x=some .free) /\ ∃ c,env.cells.lookup x=some c /\ h.IsCell c (some u))
structure Cx.Ok (X:Cx):Prop where
 mod:Mod X.K X.mg X.base
 kind:X.env.scope.kind=.function
 glob:X.env.globals=mainGlobals
 blt:X.env.builtins=builtinsNs
 above:X.ee.heap.objs.size<=X.env.locals
 inj:∀ x y c,X.env.cells.lookup x=some c->X.env.cells.lookup y=some c->x=y
 has:∀ x,(X.env.kindOf x=some .cell \/ X.env.kindOf x=some .free)->∃ c,X.env.cells.lookup x=some c
 vZ:∀ x c,X.fn x=true->X.env.cells.lookup x=some c->X.ee.heap.objs.size<=c
 hd:X.calm=true->X.A.handled=none
 frames:X.A.frames=some X.stack
 xw:X.stack=X.outer \/ (X.stack=X.env :: X.outer /\ X.env.frame=some X.env.locals)
 z9:∀ b∈X.ex,b≠X.env.locals /\ ∀ x c,X.env.cells.lookup x=some c->c≠b
 bs:∀ b o,X.base.get? b=some o->X.ee.heap.get? b=some o /\ X.xG b=none
 qK:X.base.objs.size<=X.ee.heap.objs.size
 j4:∀ b o,X.base.get? b=some o->b∉X.ex
 lu:∀ b∈X.ex,b∉X.fs
 fq:X.ee.heap.FunFrames X.base X.outer
 qL:∀ b∈X.fs,X.xG b=none
structure Inv (X:Cx) (pins:List (Addr×Obj)) (σ:List (Option V)) (H:Hp) (s:Shared):Prop where
 ok:X.Ok
 os:s.os=X.ee.os
 bare:AllBare s.gens
 base:Un X.fs X.ex X.xG H X.ee.heap s.heap
 loc:∃ m,s.heap.Ns X.env.locals m /\ ∀ (i:Nat) (x:Str) (v:V),X.N[i]?=some x->σ[i]?=some (some v)->E6 X.env.scope x->∃ u,RelV v u /\ Look X.env s.heap m x u
 cell:∀ x c,X.env.cells.lookup x=some c->∃ v,s.heap.IsCell c v
 free:H X.env.locals=none
 dD:∀ x c,X.env.cells.lookup x=some c->H c=none
 pin:∀ p∈X.pn ++ pins,s.heap.get? p.1=some p.2 /\ H p.1=none /\ p.1≠X.env.locals /\ p.1∉X.fs /\ ∀ v,p.2.data≠.cell v
 bo:kx X.prog X.w H s.heap
 len:σ.length=X.N.length
section
variable {X:Cx} {pins:List (Addr×Obj)} {σ:List (Option V)} {H H':Hp} {s:Shared} {h':Heap}
theorem Cx.Ok.Ir (ok:X.Ok) {b:Addr} {o:Obj} (e:X.base.get? b=some o):b∉X.fs:=λhb=>by
 have:=(ok.fq.mem hb).1
 rw [e] at this; cases this
theorem Inv.bs (I:Inv X pins σ H s):∀ b o,X.base.get? b=some o->s.heap.get? b=some o /\ H b=none:=λb o e=>
 ⟨I.base.keep b o (I.ok.bs b o e).1 (I.ok.bs b o e).2 (I.ok.Ir e) (I.ok.j4 b o e),I.base.free b o (I.ok.bs b o e).1 (I.ok.bs b o e).2 (I.ok.j4 b o e)⟩
theorem Inv.bk (I:Inv X pins σ H s):∀ b o,X.base.get? b=some o->s.heap.get? b=some o:=λb o e=>(I.bs b o e).1
theorem Inv.mod (I:Inv X pins σ H s):Mod X.K X.mg X.base:=I.ok.mod
theorem Inv.j5 (I:Inv X pins σ H s):X.K.In s.heap:=I.ok.mod.FE.keeps I.bk
theorem Inv.lt (I:Inv X pins σ H s):X.env.locals < s.heap.objs.size:=let ⟨_,hn,_⟩:=I.loc; hn.lt
theorem Inv.sz (I:Inv X pins σ H s):X.ee.heap.objs.size<=s.heap.objs.size:=Sj I.ok.above (T4 I.lt)
theorem Inv.CW (I:Inv X pins σ H s) {a:Addr} (h:s.heap.objs.size<=a):a∉X.fs:=λhb=>by
 obtain ⟨_,o,ho,_⟩:=I.ok.fq.mem hb
 exact absurd (RL (RR ho) (Sj I.sz h)) (Sg _)
theorem Inv.Aa (I:Inv X pins σ H s):∀ x c,X.env.cells.lookup x=some c->c≠X.env.locals:=λx c e z=>by
 obtain ⟨v,o,ho,hd⟩:=I.cell x c e
 obtain ⟨m,⟨o',es,ep,qM,pd,_⟩,_⟩:=I.loc
 rw [z,qM] at ho; cases ho; rw [pd] at hd; cases hd
theorem Inv.fq (I:Inv X pins σ H s):s.heap.FunFrames X.base X.outer:=by
 have all:∀ (l:List Env),(∀ b∈ip l,b∈X.fs)->X.ee.heap.FunFrames X.base l->s.heap.FunFrames X.base l:=by
  intro l
  induction l with
  | nil=>intro _ _; trivial
  | cons env r ih=>
    intro hs hl
    obtain ⟨hk,⟨L,o,hf,hn,ho,hd⟩,hr⟩:=hl
    have hL:L∈X.fs:=hs L (by unfold ip; rw [List.filterMap_cons,hf]; exact List.mem_cons_self)
    obtain ⟨sl,e⟩:=I.base.slot L o ho (I.ok.qL L hL) hL λz=>I.ok.lu L z hL
    exact ⟨hk,⟨L,_,hf,hn,e,hd⟩,ih (λb hb=>hs b (by unfold ip; rw [List.filterMap_cons,hf]; exact List.mem_cons_of_mem _ hb)) hr⟩
 exact all X.outer (λ_ hb=>hb) I.ok.fq
theorem Inv.stack (I:Inv X pins σ H s):s.heap.FunFrames X.base X.stack:=by
 rcases I.ok.xw with e | ⟨e,hf⟩
 .rw [e]; exact I.fq
 .rw [e]
  obtain ⟨m,hn,_⟩:=I.loc
  refine .cons (by rw [I.ok.kind]; decide) hf hn ?_ I.fq
  exact Heap.get?_none_of_le (Sj I.ok.qK I.ok.above)
theorem Inv.ff (I:Inv X pins σ H s):∀ b∈ip X.stack,b∈X.env.locals :: X.fs:=λb hb=>by
 rcases I.ok.xw with e | ⟨e,hf⟩
 .rw [e] at hb; exact RM _ hb
 .rw [e] at hb
  unfold ip at hb
  rw [List.filterMap_cons,hf] at hb
  exact hb
theorem Inv.lL (I:Inv X pins σ H s):∀ b∈ip X.stack,H b=none:=λb hb=>by
 rcases RN.mp (I.ff b hb) with e | hb
 .rw [e]; exact I.free
 .obtain ⟨_,o,ho,_⟩:=I.ok.fq.mem hb
  exact I.base.free b o ho (I.ok.qL b hb) λz=>I.ok.lu b z hb
theorem Inv.step {g':Array GenState} {t':Nat} {d':Drawn} {ch:List Addr} (I:Inv X pins σ H s)
  (Ab:∀ b∈ch,(b∈X.ex \/ X.ee.heap.objs.size<=b) /\ b≠X.env.locals /\ (∀ x c,X.env.cells.lookup x=some c->c≠b) /\ ∀ p∈X.pn ++ pins,p.1≠b)
  (keep:∀ b o,b≠X.env.locals->b∉X.fs->b∉ch->s.heap.get? b=some o->H b=none->h'.get? b=some o)
  (slot:∀ b o,b≠X.env.locals->b∈X.fs->b∉ch->s.heap.get? b=some o->H b=none->∃ sl,h'.get? b=some { o with slots:=sl }) (free:∀ b o,b∉ch->s.heap.get? b=some o->H b=none->H' b=none)
  (there:∀ b o,b∉ch->s.heap.get? b=some o->∃ o',h'.get? b=some o')
  (jv:∀ b xs,H b=some (.tup xs)->H' b=some (.tup xs)) (jc:∀ b o u,H b=some (.lY o u)->H' b=some (.lY o u)) (jw:∀ b ps,H b=some (.B1 ps)->∃ more,H' b=some (.B1 (ps ++ more)))
  (ns:∀ m,s.heap.Ns X.env.locals m->h'.Ns X.env.locals m) (bo:kx X.prog X.w H' h') (hg:AllBare g'):
  Inv X pins σ H' { s with heap:=h',gens:=g',drawn:=d',toks:=t' }:=by
 have Mn:∀ b o,X.ee.heap.get? b=some o->b≠X.env.locals:=λb o e=>RW (RL (RR e) I.ok.above)
 have HE:∀ b o,X.ee.heap.get? b=some o->b∉X.ex->b∉ch:=λb o e hx hb=>by
  rcases (Ab b hb).1 with z | z
  .exact hx z
  .exact absurd (RL (RR e) z) (Sg _)
 have cellK:∀ x c,X.env.cells.lookup x=some c->∀ v,s.heap.IsCell c v->h'.IsCell c v:=λx c e v ⟨o,ho,hd⟩=>by
  have FF:c∉ch:=λz=>(Ab c z).2.2.1 x c e rfl
  by_cases hc:c∈X.fs
  .obtain ⟨sl,q⟩:=slot c o (I.Aa x c e) hc FF ho (I.dD x c e)
   exact ⟨_,q,hd⟩
  .exact ⟨o,keep c o (I.Aa x c e) hc FF ho (I.dD x c e),hd⟩
 refine ⟨I.ok,I.os,hg,⟨λb o e n hb hx=>?_,λb o e n hb hx=>?_,λb o e n hx=>?_,λb o e hx=>?_,λb xs e=>jv b xs (I.base.jv b xs e),λb o xs e=>jc b o xs (I.base.jc b o xs e),λb ps e=>?_⟩,?_,λx c e=>?_,?_,λx c e=>?_,λp hp=>?_,bo,I.len⟩
 .exact keep b o (Mn b o e) hb (HE b o e hx) (I.base.keep b o e n hb hx) (I.base.free b o e n hx)
 .obtain ⟨sl,e1⟩:=I.base.slot b o e n hb hx
  obtain ⟨Ao,e2⟩:=slot b _ (Mn b o e) hb (HE b o e hx) e1 (I.base.free b o e n hx)
  exact ⟨Ao,e2⟩
 .obtain ⟨o',e1⟩:=I.base.there b o e hx
  exact free b o' (HE b o e hx) e1 (I.base.free b o e n hx)
 .obtain ⟨o',e1⟩:=I.base.there b o e hx
  exact there b o' (HE b o e hx) e1
 .obtain ⟨m1,e1⟩:=I.base.jw b ps e
  obtain ⟨m2,e2⟩:=jw b _ e1
  exact ⟨m1 ++ m2,by rw [e2,Array.append_assoc]⟩
 .obtain ⟨m,hn,hl⟩:=I.loc
  refine ⟨m,ns m hn,λi x v e1 e2 e3=>?_⟩
  obtain ⟨u,r,l⟩:=hl i x v e1 e2 e3
  refine ⟨u,r,?_⟩
  rcases l with l | ⟨k,c,e,z⟩
  .exact .inl l
  .exact .inr ⟨k,c,e,cellK x c e _ z⟩
 .obtain ⟨v,z⟩:=I.cell x c e
  exact ⟨v,cellK x c e v z⟩
 .obtain ⟨m,⟨o,_,_,ho,_⟩,_⟩:=I.loc
  exact free _ o (λz=>(Ab _ z).2.1 rfl) ho I.free
 .obtain ⟨v,o,ho,hd⟩:=I.cell x c e
  exact free c o (λz=>(Ab c z).2.2.1 x c e rfl) ho (I.dD x c e)
 .obtain ⟨e,n,ne,nf,d⟩:=I.pin p hp
  have FF:p.1∉ch:=λz=>(Ab p.1 z).2.2.2 p hp rfl
  exact ⟨keep p.1 p.2 ne nf FF e n,free p.1 p.2 FF e n,ne,nf,d⟩
theorem Inv.un {t':Nat} (I:Inv X pins σ H s) (u:Un X.fs [] H H' s.heap h') (bo:kx X.prog X.w H' h'):Inv X pins σ H' { s with heap:=h',toks:=t' }:=by
 obtain ⟨m,⟨o,es,ep,ho,r⟩,_⟩:=id I.loc
 obtain ⟨sl,hL⟩:=u.any ho I.free (by simp)
 exact I.step (g':=s.gens) (d':=s.drawn) (ch:=[]) (λ_ z=>nomatch z) (λb o _ hb _ e n=>u.keep b o e n hb (by simp)) (λb o _ hb _ e n=>u.slot b o e n hb (by simp)) (λb o _ e n=>u.free b o e n (by simp)) (λb o _ e=>u.there b o e (by simp)) u.jv u.jc u.jw (λm' hm=>by
  obtain ⟨o',qH,Iu,qM,r'⟩:=hm
  rw [ho] at qM; cases qM
  exact ⟨_,qH,Iu,hL,r'⟩) bo I.bare
theorem Inv.call {g':Array GenState} {t':Nat} {d':Drawn} {ch:List Addr} (I:Inv X pins σ H s) (u:Un (ip X.stack) ch H H' s.heap h') (bo:kx X.prog X.w H' h') (hg:AllBare g')
  (Ab:∀ b∈ch,(b∈X.ex \/ X.ee.heap.objs.size<=b) /\ b≠X.env.locals /\ (∀ x c,X.env.cells.lookup x=some c->c≠b) /\ ∀ p∈X.pn ++ pins,p.1≠b):
  Inv X pins σ H' { s with heap:=h',gens:=g',drawn:=d',toks:=t' }:=by
 obtain ⟨m,⟨o,es,ep,ho,r⟩,_⟩:=id I.loc
 obtain ⟨sl,hL⟩:=u.any ho I.free λz=>(Ab _ z).2.1 rfl
 exact I.step (ch:=ch) Ab (λb o hL hb hc e n=>u.keep b o e n (λz=>(RN.mp (I.ff b z)).elim hL hb) hc) (λb o _ _ hc e n=>u.any e n hc) (λb o hc e n=>u.free b o e n hc) (λb o hc e=>u.there b o e hc) u.jv u.jc u.jw (λm' hm=>by
  obtain ⟨o',qH,Iu,qM,r'⟩:=hm
  rw [ho] at qM; cases qM
  exact ⟨_,qH,Iu,hL,r'⟩) bo hg
theorem Inv.turned {t':Nat} {it:Addr} (I:Inv X pins σ H s) (k:∀ b o,b≠it->s.heap.get? b=some o->h'.get? b=some o) (hn:H it=none) (hL:it≠X.env.locals)
  (h1:it∈X.ex \/ X.ee.heap.objs.size<=it) (h2:∀ x c,X.env.cells.lookup x=some c->c≠it) (h3:∀ p∈X.pn ++ pins,p.1≠it):Inv X pins σ H { s with heap:=h',toks:=t' }:=by
 have FG:∀ b u,H b=some u->b≠it:=λb u e z=>by rw [z,hn] at e; cases e
 refine I.step (g':=s.gens) (d':=s.drawn) (ch:=[it]) (λb hb=>?_) (λb o _ _ hc e _=>k b o (λz=>hc (by simp [z])) e) (λb o _ _ hc e _=>⟨o.slots,k b o (λz=>hc (by simp [z])) e⟩) (λ_ _ _ _ n=>n)
  (λb o hc e=>⟨o,k b o (λz=>hc (by simp [z])) e⟩) (λ_ _ e=>e) (λ_ _ _ e=>e) (λb ps e=>⟨#[],by rw [e]; simp⟩) (λm hm=>?_) (λb u e=>?_) I.bare
 .have e:b=it:=by simpa using hb
  subst e
  exact ⟨h1,hL,h2,h3⟩
 .obtain ⟨o,es,ep,ho,r⟩:=hm
  exact ⟨o,es,ep,k _ o (Tf hL) ho,r⟩
 .refine (I.bo b u e).ls (λc v hc q=>k c v ?_ q) (λ_ q=>q) λ_ _ q=>q
  rcases hc with z | z
  .rw [z]; exact FG b u e
  .exact FG c _ z
theorem Inv.tok (I:Inv X pins σ H s) (t:Nat):Inv X pins σ H { s with toks:=t }:=I.un (h':=s.heap) (t':=t) Un.refl I.bo
theorem Inv.kept {t':Nat} (I:Inv X pins σ H s) (k:∀ b u,s.heap.get? b=some u->h'.get? b=some u):Inv X pins σ H { s with heap:=h',toks:=t' }:=I.un (Un.kept k) (I.bo.kept k)
theorem Inv.laid {a:Addr} {o:HO} {t':Nat} (I:Inv X pins σ H s) (k:∀ b u,s.heap.get? b=some u->h'.get? b=some u) (hp:s.heap.objs.size<=a) (new:cA X.prog X.w (upd H a o) h' a o):
  Inv X pins σ (upd H a o) { s with heap:=h',toks:=t' }:=I.un (Un.laid k hp (I.bo.fresh hp)) (I.bo.laid k hp new)
theorem Inv.write {x e:Addr} {o:HO} {t':Nat} (I:Inv X pins σ H s) (mu:HB (H x)) (he:e=x \/ H e=some (.own x)) (k:∀ b u,b≠e->s.heap.get? b=some u->h'.get? b=some u) (B2:∃ u,h'.get? e=some u)
  (new:cA X.prog X.w (upd H x o) h' x o):Inv X pins σ (upd H x o) { s with heap:=h',toks:=t' }:=I.un (Un.write mu he k B2) (I.bo.write mu he k B2 new)
theorem Inv.ft {pins':List (Addr×Obj)} (I:Inv X pins σ H s) (h:∀ p∈pins',s.heap.get? p.1=some p.2 /\ H p.1=none /\ p.1≠X.env.locals /\ p.1∉X.fs /\ ∀ v,p.2.data≠.cell v):Inv X pins' σ H s:=
 ⟨I.ok,I.os,I.bare,I.base,I.loc,I.cell,I.free,I.dD,λp hp=>(R0.mp hp).elim (λz=>I.pin p (So _ z)) (h p),I.bo,I.len⟩
theorem qN {N:List Str} (hN:N.Nodup) {i j:Nat} {x:Str} (a:N[i]?=some x) (b:N[j]?=some x):i=j:=by
 obtain ⟨h1,e1⟩:=Sh.mp a
 obtain ⟨h2,e2⟩:=Sh.mp b
 exact (List.getElem_inj hN).mp (e1.trans e2.symm)
theorem oh {M:Model} {A:Around} {E:Value->Shared->Prop} {i:Nat} {x:Str} {v:V} {u:Value} {Q:Unit->Shared->Prop} (I:Inv X pins σ H s) (hN:X.N.Nodup) (hi:X.N[i]?=some x) (hx:Loc X.env.scope x) (r:RelV v u)
  (h:∀ s',Inv X pins (σ.set i (some v)) H s'->(∃ a,Heap.SameBut a s.heap s'.heap /\ (a=X.env.locals \/ X.env.cells.lookup x=some a))->Q () s') (hf:X.fn x=true \/ X.env.scope.names.lookup x=some .local):wpAny M A (storeName X.env x u) Q E s:=by
 obtain ⟨m,hn,hl⟩:=id I.loc
 have sW:(X.env.scope.kind == .class || (X.env.scope.kind == .module && X.env.locals != X.env.globals))=false:=by rw [I.ok.kind]; rfl
 have FH:i < σ.length:=by rw [I.len]; exact (Sh.mp hi).1
 have Aa:=I.Aa
 have tracked:∀ {a:Addr} {h':Heap},(∃ o,s.heap.get? a=some o /\ H a=none)->Heap.SameBut a s.heap h'->kx X.prog X.w H h':=λ{a h'} ha hs b ob e=>by
  obtain ⟨_,_,B3⟩:=ha
  refine (I.bo b ob e).ls (λc w' hc q=>(hs.2 c ?_).trans q) (λ_ q=>q) λ_ _ q=>q
  rintro rfl
  rcases hc with rfl | hc
  .rw [B3] at e; cases e
  .rw [B3] at hc; cases hc
 rcases hx with hk | hk
 .refine wpAny_storeName_local hk hn (λh' Iv hs=>?_) sW
  obtain ⟨oL,_,_,FI,_⟩:=id hn
  refine h _ ⟨I.ok,I.os,I.bare,⟨λb o e n hb hx=>?_,λb o e n hb hx=>?_,I.base.free,λb o e hx=>?_,I.base.jv,I.base.jc,I.base.jw⟩,⟨_,Iv,λj y v' e1 e2 e3=>?_⟩,λy c e=>?_,I.free,I.dD,λp hp=>?_,tracked ⟨oL,FI,I.free⟩ hs,by simpa using I.len⟩ ⟨_,hs,.inl rfl⟩
  .exact (hs.2 b (RW (RL (RR e) I.ok.above))).trans (I.base.keep b o e n hb hx)
  .obtain ⟨sl,e1⟩:=I.base.slot b o e n hb hx
   exact ⟨sl,(hs.2 b (RW (RL (RR e) I.ok.above))).trans e1⟩
  .obtain ⟨o',e1⟩:=I.base.there b o e hx
   exact ⟨o',(hs.2 b (RW (RL (RR e) I.ok.above))).trans e1⟩
  .by_cases hj:j=i
   .subst hj
    rw [hi] at e1; cases e1
    rw [Sk FH] at e2
    cases e2
    exact ⟨u,r,.inl ⟨hk,by simp⟩⟩
   .rw [R8 (Tf hj)] at e2
    obtain ⟨u',r',q⟩:=hl j y v' e1 e2 e3
    refine ⟨u',r',?_⟩
    rcases q with ⟨k,e⟩ | ⟨k,c,e,z⟩
    .refine .inl ⟨k,?_⟩
     have:y≠x:=λe=>hj (qN hN e1 (e ▸ hi))
     simp [this,e]
    .exact .inr ⟨k,c,e,z.sameBut hs (Aa y c e)⟩
  .obtain ⟨w',z⟩:=I.cell y c e
   exact ⟨w',z.sameBut hs (Aa y c e)⟩
  .obtain ⟨e,n,ne,nf,d⟩:=I.pin p hp
   exact ⟨(hs.2 p.1 ne).trans e,n,ne,nf,d⟩
 .have Iw:X.fn x=true:=by
   rcases hf with z | z
   .exact z
   .rw [z] at hk; cases hk
  obtain ⟨c,hc⟩:=I.ok.has x (.inl hk)
  obtain ⟨w',z⟩:=I.cell x c hc
  refine wpAny_storeName_cell I.ok.kind hk hc z (λh' CY hs=>?_)
  obtain ⟨oc,Mo,Iy⟩:=id z
  refine h { s with heap:=h' } ⟨I.ok,I.os,I.bare,⟨λb o e n hb hx=>?_,λb o e n hb hx=>?_,I.base.free,λb o e hx=>?_,I.base.jv,I.base.jc,I.base.jw⟩,⟨m,hn.sameBut hs (Ne.symm (Aa x c hc)),λj y v' e1 e2 e3=>?_⟩,λy c' e=>?_,I.free,I.dD,λp hp=>?_,tracked ⟨oc,Mo,I.dD x c hc⟩ hs,by simpa using I.len⟩ ⟨c,hs,.inr hc⟩
  .exact (hs.2 b (RW (RL (RR e) (I.ok.vZ x c Iw hc)))).trans (I.base.keep b o e n hb hx)
  .obtain ⟨sl,e1⟩:=I.base.slot b o e n hb hx
   exact ⟨sl,(hs.2 b (RW (RL (RR e) (I.ok.vZ x c Iw hc)))).trans e1⟩
  .obtain ⟨o',e1⟩:=I.base.there b o e hx
   exact ⟨o',(hs.2 b (RW (RL (RR e) (I.ok.vZ x c Iw hc)))).trans e1⟩
  .by_cases hj:j=i
   .subst hj
    rw [hi] at e1; cases e1
    rw [Sk FH] at e2
    cases e2
    exact ⟨u,r,.inr ⟨.inl hk,c,hc,CY⟩⟩
   .rw [R8 (Tf hj)] at e2
    obtain ⟨u',r',q⟩:=hl j y v' e1 e2 e3
    refine ⟨u',r',?_⟩
    rcases q with q | ⟨k,c',e,z'⟩
    .exact .inl q
    .refine .inr ⟨k,c',e,z'.sameBut hs ?_⟩
     rintro rfl
     exact hj (qN hN e1 (I.ok.inj _ _ _ e hc ▸ hi))
  .by_cases Mp:c'=c
   .subst Mp; exact ⟨_,CY⟩
   .obtain ⟨w2,z2⟩:=I.cell y c' e
    exact ⟨w2,z2.sameBut hs Mp⟩
  .obtain ⟨e,n,ne,nf,d⟩:=I.pin p hp
   refine ⟨(hs.2 p.1 ?_).trans e,n,ne,nf,d⟩
   intro q
   rw [q,Mo] at e
   have q':oc=p.2:=Su e
   exact d w' (by rw [<- q']; exact Iy)
theorem j6 {M:Model} {A:Around} {E:Value->Shared->Prop} {i:Nat} {x:Str} {v:V} {u:Value} {Q:Unit->Shared->Prop} (I:Inv X pins σ H s) (hN:X.N.Nodup) (hi:X.N[i]?=some x) (hx:Loc X.env.scope x) (r:RelV v u)
  (h:∀ s',Inv X pins (σ.set i (some v)) H s'->Q () s') (hf:X.fn x=true \/ X.env.scope.names.lookup x=some .local):wpAny M A (storeName X.env x u) Q E s:=
 oh I hN hi hx r (λs' I' _=>h s' I') hf
theorem Inv.uW {s':Shared} {ch:List Addr} (I:Inv X pins σ H s) (ho:s'.os=s.os) (u:Un (ip X.stack) ch H H' s.heap s'.heap) (bo:kx X.prog X.w H' s'.heap) (hg:AllBare s'.gens)
  (Ab:∀ b∈ch,(b∈X.ex \/ X.ee.heap.objs.size<=b) /\ b≠X.env.locals /\ (∀ x c,X.env.cells.lookup x=some c->c≠b) /\ ∀ p∈X.pn ++ pins,p.1≠b):Inv X pins σ H' s':=by
 obtain ⟨h',g',d',t',o'⟩:=s'
 have e:o'=s.os:=ho
 subst e
 exact I.call (g':=g') (t':=t') (d':=d') u bo hg Ab
end
abbrev XK:=Value->Option Addr->Hp->Prop
abbrev St:=List (Option V)
abbrev VK:=V->Hp->Prop
abbrev TE:=St->Hp->VK->Prop
abbrev TT:=St->Hp->(Bool->Hp->Prop)->Prop
abbrev TA:=St->Hp->(List V->Hp->Prop)->Prop
structure Ends where
 nx:St->Hp->Prop
 rt:VK
 bk:St->Hp->Prop:=λ_ _=>False
 ct:St->Hp->Prop:=λ_ _=>False
abbrev TS:=Ends->St->Hp->Prop
def EP (X:Cx) (pins:List (Addr×Obj)) (σ:St) (Q:VK) (u:Value) (s':Shared):Prop:=∃ v H',Inv X pins σ H' s' /\ RelV v u /\ Q v H'
def TP (X:Cx) (pins:List (Addr×Obj)) (σ:St) (Q:Bool->Hp->Prop) (b:Bool) (s':Shared):Prop:=∃ H',Inv X pins σ H' s' /\ Q b H'
def AP (X:Cx) (pins:List (Addr×Obj)) (σ:St) (Q:List V->Hp->Prop) (us:List Value) (s':Shared):Prop:=∃ vs H',Inv X pins σ H' s' /\ aO vs us /\ Q vs H'
def SP (X:Cx) (pins:List (Addr×Obj)) (D:Ends) (f:Flow) (s':Shared):Prop:=
 match f with
 | .next=>∃ bO H',Inv X pins bO H' s' /\ D.nx bO H'
 | .brk=>∃ bO H',Inv X pins bO H' s' /\ D.bk bO H'
 | .cont=>∃ bO H',Inv X pins bO H' s' /\ D.ct bO H'
 | .ret u=>∃ v bO H',Inv X pins bO H' s' /\ RelV v u /\ D.rt v H'
def PE (X:Cx) (e:Expr) (t:TE):Prop:=
 ∀ (pins:List (Addr×Obj)) (s:Shared) (σ:St) (H:Hp) (Q:VK),Inv X pins σ H s->t σ H Q->wpAny (model X.prog X.w) X.A (eval e X.env) (EP X pins σ Q) X.xe s
def PT (X:Cx) (e:Expr) (t:TT):Prop:=
 ∀ (pins:List (Addr×Obj)) (s:Shared) (σ:St) (H:Hp) (Q:Bool->Hp->Prop),Inv X pins σ H s->t σ H Q->wpAny (model X.prog X.w) X.A (isTrue e X.env (eval e X.env)) (TP X pins σ Q) X.xe s
def PW (X:Cx) (e:Expr) (t:TT):Prop:=
 ∀ (whole:Sem Value) (pins:List (Addr×Obj)) (s:Shared) (σ:St) (H:Hp) (Q:Bool->Hp->Prop),Inv X pins σ H s->t σ H Q->wpAny (model X.prog X.w) X.A (isTrue e X.env whole) (TP X pins σ Q) X.xe s
theorem PW.pt {X:Cx} {e:Expr} {t:TT} (h:PW X e t):PT X e t:=h _
def PA (X:Cx) (es:List Expr) (t:TA):Prop:=
 ∀ (pos:Pos) (pins:List (Addr×Obj)) (s:Shared) (σ:St) (H:Hp) (Q:List V->Hp->Prop),Inv X pins σ H s->t σ H Q->wpAny (model X.prog X.w) X.A (spliced (backTo pos (starEach es X.env))) (AP X pins σ Q) X.xe s
def PS (X:Cx) (st:Stmt) (t:TS):Prop:=
 ∀ (pins:List (Addr×Obj)) (s:Shared) (σ:St) (H:Hp) (D:Ends),Inv X pins σ H s->t D σ H->wpAny (model X.prog X.w) X.A (exec st X.env) (SP X pins D) X.xe s
def iS (X:Cx) (st:List Stmt) (t:TS):Prop:=
 ∀ (pins:List (Addr×Obj)) (s:Shared) (σ:St) (H:Hp) (D:Ends),Inv X pins σ H s->t D σ H->wpAny (model X.prog X.w) X.A (execs st X.env) (SP X pins D) X.xe s
theorem eh {α:Type} {t:Sem α} {Q Q':α->Shared->Prop} {M:Model} {A:Around} {E:Value->Shared->Prop} {s:Shared} (h:wpAny M A t Q E s) (hQ:∀ a s,Q a s->Q' a s):wpAny M A t Q' E s:=R7 h hQ λ_ _ x=>x
section
variable {X:Cx}
def sX (i:Nat):TE:=λσ H Q=>∃ v,σ[i]?=some (some v) /\ Q v H
def tC (v:V):TE:=λ_ H Q=>Q v H
theorem CZ {i:Nat} {x:Str} {pos:Pos} (hN:X.N[i]?=some x) (hv:E6 X.env.scope x) (hd:(x == ("__debug__":Str))=false:=by decide) (nB:(x == ("__classdict__":Str))=false:=by decide):PE X (.Name x pos) (sX i):=by
 intro pins s σ H Q I h
 obtain ⟨v,e,h⟩:=h
 obtain ⟨m,hn,hl⟩:=I.loc
 obtain ⟨u,r,l⟩:=hl i x v hN e hv
 have fin:EP X pins σ Q u s:=⟨v,H,I,r,h⟩
 rcases l with ⟨hk,hm⟩ | ⟨hk,c,hc,B4⟩
 .exact wpAny_Name (wpAny_loadName_local I.ok.kind hk hn hm fin) hd
 .rcases hk with hk | hk
  .exact wpAny_Name (wpAny_loadName_cell I.ok.kind hk hc B4 fin) hd
  .exact wpAny_Name (wpAny_loadName_free I.ok.kind hk hc B4 fin nB) hd
theorem ao {i j pos}:PE X (.Constant (.int i) j pos) (tC (.int i)):=λ_ _ _ H _ I h=>wpAny_Constant_int ⟨.int i,H,I.tok _,⟨_,rfl⟩,h⟩
theorem jk {b j pos}:PE X (.Constant (.bool b) j pos) (tC (.bl b)):=λ_ _ _ H _ I h=>Constant_bool ⟨.bl b,H,I,rfl,h⟩
theorem aZ {x j pos}:PE X (.Constant (.str x) j pos) (tC (.str x)):=λ_ _ _ H _ I h=>Calls.Constant_str ⟨.str x,H,I.tok _,⟨_,rfl⟩,h⟩
def Gl (X:Cx) (x:Str):Prop:=X.env.kindOf x=some .globalImplicit
theorem j7 {E:Value->Shared->Prop} {pins:List (Addr×Obj)} {s:Shared} {σ:St} {H:Hp} {x:Str} {u:Value} {pos:Pos} {Q:Value->Shared->Prop} (I:Inv X pins σ H s) (hg:Gl X x) (hm:X.mg x=some u) (h:Q u s)
  (hd:(x == ("__debug__":Str))=false:=by decide):wpAny (model X.prog X.w) X.A (eval (.Name x pos) X.env) Q E s:=
 Calls.Name_function_global I.ok.kind hg (Calls.loadGlobal_global (by rw [I.ok.glob]; exact I.mod.glob.keeps I.bk) hm h) hd
theorem kA {E:Value->Shared->Prop} {pins:List (Addr×Obj)} {s:Shared} {σ:St} {H:Hp} {x:Str} {u:Value} {pos:Pos} {Q:Value->Shared->Prop} (I:Inv X pins σ H s) (hg:Gl X x) (hm:X.mg x=none) (hv:bootBuiltins x=some u) (h:Q u s)
  (hn:x≠"__name__":=by decide) (hd:(x == ("__debug__":Str))=false:=by decide):wpAny (model X.prog X.w) X.A (eval (.Name x pos) X.env) Q E s:=by
 obtain ⟨mb,h1,h2⟩:=I.mod.blt
 exact Calls.Name_function_global I.ok.kind hg (Calls.loadGlobal_builtin (by rw [I.ok.glob]; exact I.mod.glob.keeps I.bk) hm (by rw [I.ok.blt]; exact h1.keeps I.bk) ((h2 x hn).trans hv) h) hd
theorem Ap {x:Str} {v:V} {u:Value} {pos:Pos} (hg:Gl X x) (hm:X.mg x=some u) (r:RelV v u) (hd:(x == ("__debug__":Str))=false:=by decide):PE X (.Name x pos) (tC v):=
 λ_ _ _ H _ I h=>j7 I hg hm ⟨v,H,I,r,h⟩ hd
theorem j8 {x:Str} {v:V} {u:Value} {pos:Pos} (hg:Gl X x) (hm:X.mg x=none) (hv:bootBuiltins x=some u) (r:RelV v u) (hn:x≠"__name__":=by decide) (hd:(x == ("__debug__":Str))=false:=by decide):PE X (.Name x pos) (tC v):=
 λ_ _ _ H _ I h=>kA I hg hm hv ⟨v,H,I,r,h⟩ hn hd
variable {a b:Expr} {ta tb:TE} {pos:Pos}
variable {tA HF:TT} {rest:List Expr}
def IA (t u:TT):TT:=λσ H Q=>t σ H λc H1=>if c=true then u σ H1 Q else Q false H1
def Nw (t u:TT):TT:=λσ H Q=>t σ H λc H1=>if c=true then Q true H1 else u σ H1 Q
def IB (t:TT):TT:=λσ H Q=>t σ H λc H1=>Q (!c) H1
theorem pw_and1 (ha:PT X a tA):PW X (.BoolOp .And [a] pos) tA:=by
 intro wh pins s σ H Q I h
 refine isTrue_and (eh (ha pins s σ H Q I h) λc s1 e=>?_)
 cases c with
 | true=>exact isTrue_and_nil e
 | false=>exact e
theorem pw_or1 (ha:PT X a tA):PW X (.BoolOp .Or [a] pos) tA:=by
 intro wh pins s σ H Q I h
 refine isTrue_or (eh (ha pins s σ H Q I h) λc s1 e=>?_)
 cases c with
 | false=>exact isTrue_or_nil e
 | true=>exact e
theorem pw_and (ha:PT X a tA) (hb:PW X (.BoolOp .And (b :: rest) pos) HF):PW X (.BoolOp .And (a :: b :: rest) pos) (IA tA HF):=by
 intro wh pins s σ H Q I h
 refine isTrue_and (eh (ha pins s σ H _ I h) λc s1 ⟨H1,I1,q1⟩=>?_)
 cases c with
 | true=>exact hb wh pins s1 σ H1 Q I1 q1
 | false=>exact ⟨H1,I1,q1⟩
theorem pw_or (ha:PT X a tA) (hb:PW X (.BoolOp .Or (b :: rest) pos) HF):PW X (.BoolOp .Or (a :: b :: rest) pos) (Nw tA HF):=by
 intro wh pins s σ H Q I h
 refine isTrue_or (eh (ha pins s σ H _ I h) λc s1 ⟨H1,I1,q1⟩=>?_)
 cases c with
 | true=>exact ⟨H1,I1,q1⟩
 | false=>exact hb wh pins s1 σ H1 Q I1 q1
theorem C0 (ha:PT X a tA):PT X (.UnaryOp .Not a pos) (IB tA):=by
 intro pins s σ H Q I h
 exact isTrue_not (ha pins s σ H (λc H1=>Q (!c) H1) I h)
def FJ (ta tb:TE):TE:=λσ H Q=>ta σ H λx H1=>∃ c,x=.bl c /\ if c=true then tb σ H1 Q else Q (.bl false) H1
def IC (ta tb:TE):TE:=λσ H Q=>ta σ H λx H1=>∃ c,x=.bl c /\ if c=true then Q (.bl true) H1 else tb σ H1 Q
def FK (ta:TE):TE:=λσ H Q=>ta σ H λx H1=>∃ c,x=.bl c /\ Q (.bl (!c)) H1
theorem sY {op} {t:TE} (h:PE X a t):PE X (.BoolOp op [a] pos) t:=λpins s σ H Q I hw=>BoolOp_one (h pins s σ H Q I hw)
theorem C1 (ha:PE X a ta) (hb:PE X (.BoolOp .And (b :: rest) pos) tb):PE X (.BoolOp .And (a :: b :: rest) pos) (FJ ta tb):=by
 intro pins s σ H Q I h
 refine BoolOp_and (eh (ha pins s σ H _ I h) λv s1 ⟨x,H1,I1,r1,q1⟩=>?_)
 obtain ⟨c,rfl,q1⟩:=q1
 cases r1
 refine S4 ?_
 cases c with
 | true=>exact hb pins s1 σ H1 Q I1 q1
 | false=>exact ⟨.bl false,H1,I1,rfl,q1⟩
theorem FL (ha:PE X a ta) (hb:PE X (.BoolOp .Or (b :: rest) pos) tb):PE X (.BoolOp .Or (a :: b :: rest) pos) (IC ta tb):=by
 intro pins s σ H Q I h
 refine BoolOp_or (eh (ha pins s σ H _ I h) λv s1 ⟨x,H1,I1,r1,q1⟩=>?_)
 obtain ⟨c,rfl,q1⟩:=q1
 cases r1
 refine S4 ?_
 cases c with
 | false=>exact hb pins s1 σ H1 Q I1 q1
 | true=>exact ⟨.bl true,H1,I1,rfl,q1⟩
theorem C3 (ha:PE X a ta):PE X (.UnaryOp .Not a pos) (FK ta):=by
 intro pins s σ H Q I h
 refine UnaryOp_ (eh (ha pins s σ H _ I h) λv s1 ⟨x,H1,I1,r1,q1⟩=>?_)
 obtain ⟨c,rfl,q1⟩:=q1
 cases r1
 exact not_of (S4 ⟨.bl (!c),H1,I1,rfl,q1⟩)
end
def ie (K:PySem.W.Frag) (H:Hp) (a:Addr) (xs:List V):Prop:=
 Rd H a (.lst xs) \/
  ∃ (o:Obj) (its:Array Value) (n:Nat),K.lookup a=some o /\ o.cls=.type "list" /\ o.dict=none /\ o.data=.seq its n /\ its.size<=sizeLine /\ aO xs its.toList
def jl (K:PySem.W.Frag) (H:Hp) (a:Addr) (xs:List V):Prop:=
 Rd H a (.tup xs) \/
  ∃ (o:Obj) (its:Array Value) (n:Nat),K.lookup a=some o /\ o.cls=.type "tuple" /\ o.data=.seq its n /\ its.size<=sizeLine /\ aO xs its.toList
def ID:Value->Option V
 | .none=>some .fF
 | .bool b=>some (.bl b)
 | .int i _=>some (.int i)
 | .str x _=>some (.str x)
 | .bytes b _=>some (.Fy b)
 | .float b _=>some (.E5 b)
 | .ref a=>some (.ref a)
 | .type n=>some (.ty n)
 | _=>none
theorem RelV.abs {x:V} {u:Value} (r:RelV x u):ID u=some x:=by
 cases x with
 | fF=>cases r; rfl
 | bl _=>cases r; rfl
 | int _=>obtain ⟨t,rfl⟩:=r; rfl
 | str _=>obtain ⟨t,rfl⟩:=r; rfl
 | Fy _=>obtain ⟨t,rfl⟩:=r; rfl
 | E5 _=>obtain ⟨t,rfl⟩:=r; rfl
 | ref _=>cases r; rfl
 | ty _=>cases r; rfl
theorem RelV.inj {x y:V} {u:Value} (r:RelV x u) (q:RelV y u):x=y:=Su (r.abs.symm.trans q.abs)
theorem aO.inj:∀ {xs ys:List V} {us:List Value},aO xs us->aO ys us->xs=ys
 | _,_,_,.nil,.nil=>rfl
 | _,_,_,.cons r t,.cons r' t'=>by rw [r.inj r',aO.inj t t']
section
variable {X:Cx} {pins:List (Addr×Obj)} {σ:St} {H:Hp} {s:Shared} {a:Addr} {xs ys:List V}
theorem ie.of {K:PySem.W.Frag} (h:H a=some (.lst xs)):ie K H a xs:=.inl (.inl h)
theorem Inv.list (I:Inv X pins σ H s) (h:ie X.K H a xs):∃ its:List Value,aO xs its /\ PlainL s.heap a its.toArray /\ xs.length<=sizeLine:=by
 rcases h with h | ⟨o,its,n,hk,hc,hd,hs,hz,r⟩
 .obtain ⟨z,its,n,r,e⟩:=h.ok I.bo
  exact ⟨its,r,⟨_,n,e,rfl,rfl,rfl⟩,z⟩
 .refine ⟨its.toList,r,⟨o,n,I.j5 a o hk,hc,hd,by simpa using hs⟩,?_⟩
  have e:=r.length
  simp only [Sd] at e
  omega
theorem Inv.tuple (I:Inv X pins σ H s) (h:jl X.K H a xs):∃ its:List Value,aO xs its /\ IsTup s.heap a its.toArray /\ xs.length<=sizeLine:=by
 rcases h with h | ⟨o,its,n,hk,hc,hs,hz,r⟩
 .obtain ⟨z,its,r,p⟩:=h.ok I.bo
  exact ⟨its,r,p,z⟩
 .refine ⟨its.toList,r,⟨o,I.j5 a o hk,hc,n,by simpa using hs⟩,?_⟩
  have e:=r.length
  simp only [Sd] at e
  omega
theorem Inv.qO (I:Inv X pins σ H s) (h:ie X.K H a xs) (h':ie X.K H a ys):xs=ys:=by
 obtain ⟨its,r,⟨o,n,e,_,_,d⟩,_⟩:=I.list h
 obtain ⟨its',r',⟨o',n',e',_,_,d'⟩,_⟩:=I.list h'
 rw [e] at e'; cases e'
 rw [d] at d'
 injection d' with d1 _
 have:its=its':=by simpa using congrArg Array.toList d1
 subst this
 exact r.inj r'
theorem Inv.v5 (I:Inv X pins σ H s) (h:jl X.K H a xs) (h':jl X.K H a ys):xs=ys:=by
 obtain ⟨its,r,⟨o,e,_,n,d⟩,_⟩:=I.tuple h
 obtain ⟨its',r',⟨o',e',_,n',d'⟩,_⟩:=I.tuple h'
 rw [e] at e'; cases e'
 rw [d] at d'
 injection d' with d1 _
 have:its=its':=by simpa using congrArg Array.toList d1
 subst this
 exact r.inj r'
end
abbrev Cx.nD (X:Cx) (E:Value->Shared->Prop):Cx:={ X with xe:=E }
abbrev Cx.B5 (X:Cx):Cx:=X.nD λ_ _=>False
theorem Cx.Ok.nD {X:Cx} (ok:X.Ok) (E:Value->Shared->Prop):(X.nD E).Ok:=
 ⟨ok.mod,ok.kind,ok.glob,ok.blt,ok.above,ok.inj,ok.has,ok.vZ,ok.hd,ok.frames,ok.xw,ok.z9,ok.bs,ok.qK,ok.j4,ok.lu,ok.fq,ok.qL⟩
theorem Cx.Ok.iq {X:Cx} {E:Value->Shared->Prop} (ok:(X.nD E).Ok):X.Ok:=
 ⟨ok.mod,ok.kind,ok.glob,ok.blt,ok.above,ok.inj,ok.has,ok.vZ,ok.hd,ok.frames,ok.xw,ok.z9,ok.bs,ok.qK,ok.j4,ok.lu,ok.fq,ok.qL⟩
section
variable {X:Cx} {pins:List (Addr×Obj)} {σ:St} {H:Hp} {s:Shared} {E:Value->Shared->Prop}
theorem Inv.nD (I:Inv X pins σ H s) (E:Value->Shared->Prop):Inv (X.nD E) pins σ H s:=⟨I.ok.nD E,I.os,I.bare,I.base,I.loc,I.cell,I.free,I.dD,I.pin,I.bo,I.len⟩
theorem Inv.iq (I:Inv (X.nD E) pins σ H s):Inv X pins σ H s:=⟨I.ok.iq,I.os,I.bare,I.base,I.loc,I.cell,I.free,I.dD,I.pin,I.bo,I.len⟩
theorem SP.iq {D:Ends} {f:Flow} {s':Shared} (h:SP (X.nD E) pins D f s'):SP X pins D f s':=by
 cases f with
 | next=>obtain ⟨bO,H',I,q⟩:=h; exact ⟨bO,H',I.iq,q⟩
 | brk=>obtain ⟨bO,H',I,q⟩:=h; exact ⟨bO,H',I.iq,q⟩
 | cont=>obtain ⟨bO,H',I,q⟩:=h; exact ⟨bO,H',I.iq,q⟩
 | ret u=>obtain ⟨v,bO,H',I,r,q⟩:=h; exact ⟨v,bO,H',I.iq,r,q⟩
theorem iS.B5 {st:List Stmt} {t:TS} (h:iS X.B5 st t):iS X st t:=λpins s σ H D I hw=>
 R7 (h pins s σ H D (I.nD _) hw) (λ_ _ q=>q.iq) λ_ _ z=>False.elim z
end
section
variable {X:Cx} {st:Stmt} {rest:List Stmt} {t u:TS} {e:Expr} {te:TE} {pos:Pos}
def FN:TS:=λD σ H=>D.nx σ H
def IE (t u:TS):TS:=λD σ H=>t { D with nx:=u D } σ H
theorem Aq:iS X [] FN:=λ_ _ σ H _ I h=>Uo ⟨σ,H,I,h⟩
theorem xH (h1:PS X st t) (h2:iS X rest u):iS X (st :: rest) (IE t u):=by
 intro pins s σ H D I h
 refine wpAny_execs_cons (eh (h1 pins s σ H { D with nx:=u D } I h) λf s1 q=>?_)
 cases f with
 | next=>
   obtain ⟨bO,H',I',q⟩:=q
   exact h2 pins s1 bO H' D I' q
 | ret v=>exact q
 | brk=>exact q
 | cont=>exact q
theorem Ar (h1:PS X st t):iS X [st] t:=by
 intro pins s σ H D I h
 refine wpAny_execs_cons (eh (h1 pins s σ H D I h) λf s1 q=>?_)
 cases f with
 | next=>exact Uo q
 | ret v=>exact q
 | brk=>exact q
 | cont=>exact q
theorem Inv.quiet {pins:List (Addr×Obj)} {σ:St} {H:Hp} {s:Shared} (I:Inv X pins σ H s):interactive X.env=false:=by simp [interactive,I.ok.kind]
def xI (te:TE):TS:=λD σ H=>te σ H λ_ H1=>D.nx σ H1
theorem lM (he:PE X e te) (hs:swapsWith e none pos.line X.env=pure false:=by rfl):PS X (.Expr e pos) (xI te):=by
 intro pins s σ H D I h
 exact wpAny_Expr_any (eh (he pins s σ H _ I h) λv s1 ⟨x,H1,I1,r1,q1⟩=>⟨σ,H1,I1,q1⟩) I.quiet hs
def FO (te:TE):TS:=λD σ H=>te σ H D.rt
theorem pe (he:PE X e te):PS X (.Return (some e) pos) (FO te):=by
 intro pins s σ H D I h
 exact wpAny_Return_some (eh (he pins s σ H _ I h) λv s1 ⟨x,H1,I1,r1,q1⟩=>⟨x,σ,H1,I1,r1,q1⟩)
def IF (c:TT) (t u:TS):TS:=λD σ H=>c σ H λb H1=>if b=true then t D σ H1 else u D σ H1
theorem FP {c:Expr} {a b:List Stmt} {tc:TT} (hc:PT X c tc) (ha:iS X a t) (hb:iS X b u):PS X (.If c a b pos) (IF tc t u):=by
 intro pins s σ H D I h
 refine wpAny_If (eh (hc pins s σ H _ I h) λd s1 ⟨H1,I1,q1⟩=>?_)
 cases d with
 | true=>exact ha pins s1 σ H1 D I1 q1
 | false=>exact hb pins s1 σ H1 D I1 q1
def C4:TS:=λ_ _ _=>False
theorem xJ:PS X st C4:=λ_ _ _ _ _ _ h=>h.elim
end
abbrev TG:=V->St->Hp->(St->Hp->Prop)->Prop
abbrev As:=List V->St->Hp->(St->Hp->Prop)->Prop
def PG (X:Cx) (target:Expr) (t:TG):Prop:=
 ∀ (pins:List (Addr×Obj)) (s:Shared) (σ:St) (H:Hp) (v:V) (u:Value) (Q:St->Hp->Prop),Inv X pins σ H s->RelV v u->t v σ H Q->
   wpAny (model X.prog X.w) X.A (assign target X.env u) (λ_ s'=>∃ bO H',Inv X pins bO H' s' /\ Q bO H') X.xe s
def xK (X:Cx) (ts:List Expr) (t:As):Prop:=
 ∀ (pins:List (Addr×Obj)) (s:Shared) (σ:St) (H:Hp) (vs:List V) (us:List Value) (Q:St->Hp->Prop),Inv X pins σ H s->aO vs us->t vs σ H Q->
   wpAny (model X.prog X.w) X.A (assignInOrder ((assignEach ts X.env).map (·.2)) us) (λ_ s'=>∃ bO H',Inv X pins bO H' s' /\ Q bO H') X.xe s
abbrev C5:=V->V->V->Hp->(Hp->Prop)->Prop
def FQ (X:Cx) (t:C5):Prop:=
 ∀ (pins:List (Addr×Obj)) (s:Shared) (σ:St) (H:Hp) (o i v:V) (ov iv u:Value) (Q:Hp->Prop),Inv X pins σ H s->RelV o ov->RelV i iv->RelV v u->t o i v H Q->
   wpAny (model X.prog X.w) X.A (setItem ov iv u) (λ_ s'=>∃ H',Inv X pins σ H' s' /\ Q H') X.xe s
section
variable {X:Cx} {pos:Pos}
def ig (i:Nat):TG:=λv σ H Q=>Q (σ.set i (some v)) H
theorem bG {i:Nat} {x:Str} (hN:X.N.Nodup) (hi:X.N[i]?=some x) (hx:Loc X.env.scope x) (hf:X.fn x=true \/ X.env.scope.names.lookup x=some .local:=by first | exact .inl rfl | exact .inr rfl | assumption):PG X (.Name x pos) (ig i):=by
 intro pins s σ H v u Q I r h
 exact Va (j6 I hN hi hx r (λs' I'=>⟨_,H,I',h⟩) hf)
def IG:As:=λvs σ H Q=>vs=[] /\ Q σ H
def FR (t:TG) (u:As):As:=λvs σ H Q=>∃ v r,vs=v :: r /\ t v σ H λbO H'=>u r bO H' Q
theorem Au:xK X [] IG:=by
 intro pins s σ H vs us Q I r h
 obtain ⟨e,h⟩:=h
 subst e
 cases r
 exact assignInOrder_nil ⟨σ,H,I,h⟩
theorem xM {e:Expr} {es:List Expr} {t:TG} {u:As} (h1:PG X e t) (h2:xK X es u)
  (hs:(assignEach (e :: es) X.env).map (·.2)=assign e X.env :: (assignEach es X.env).map (·.2):=by rfl):xK X (e :: es) (FR t u):=by
 intro pins s σ H vs us Q I r h
 obtain ⟨v,vr,e1,h⟩:=h
 subst e1
 cases r with
 | cons r rr=>
   rw [hs]
   refine assignInOrder_cons (eh (h1 pins s σ H _ _ _ I r h) λ_ s1 ⟨C6,H1,I1,q1⟩=>?_)
   exact h2 pins s1 C6 H1 _ _ Q I1 rr q1
def IH (K:PySem.W.Frag) (n:Nat) (t:As):TG:=λv σ H Q=>∃ a xs,v=.ref a /\ jl K H a xs /\ xs.length=n /\ t xs σ H Q
theorem C7 {es:List Expr} {k:Nat} {t:As} {n:Nat} (hc:X.calm=true) (h:xK X es t)
  (hn:(assignEach es X.env).length=n:=by rfl) (B6:(assignEach es X.env).findIdx? (·.1)=none:=by rfl):PG X (.Tuple es k pos) (IH X.K n t):=by
 intro pins s σ H v u Q I r hw
 obtain ⟨a,xs,e1,hq,hl,hw⟩:=hw
 subst e1
 cases r
 obtain ⟨its,rv,ht,hz⟩:=I.tuple hq
 refine assign_Tuple_tuple (I.ok.hd hc) ht (by simp [hn,<- hl,rv.length]) B6 λh' hx=>?_
 have I1:Inv X pins σ H { s with heap:=h' }:=I.kept (t':=s.toks) λb o e=>hx b o (RW (RR e)) e
 exact h pins _ σ H xs _ Q I1 (by simpa using rv) hw
def FT (to ti:TE) (t:C5):TG:=λv σ H Q=>to σ H λo H1=>ti σ H1 λi H2=>t o i v H2 λH3=>Q σ H3
theorem C8 {o i:Expr} {to ti:TE} {t:C5} (ho:PE X o to) (hi:PE X i ti) (hs:FQ X t)
  (ha:∀ v,assign (.Subscript o i pos) X.env v=(do
   let ov <- holding [v] (eval o X.env)
   let iv <- holding [v,ov] (eval i X.env)
   standAt pos
   holding [v,ov,iv] (setItem ov iv v)
   release [v,ov,iv] []):=by intro _; rfl):PG X (.Subscript o i pos) (FT to ti t):=by
 intro pins s σ H v u Q I r h
 rw [ha]
 refine RF (Ts (eh (ho pins s σ H _ I h) λov s1 ⟨x,H1,I1,r1,q1⟩=>?_))
 refine RF (Ts (eh (hi pins s1 σ H1 _ I1 q1) λiv s2 ⟨y,H2,I2,r2,q2⟩=>?_))
 refine RF (wpAny_standAt (RF (Ts (eh (hs pins s2 σ H2 x y v ov iv u _ I2 r1 r2 r q2) λ_ s3 ⟨H3,I3,q3⟩=>?_))))
 exact wpAny_release ⟨σ,H3,I3,q3⟩
def lx (te:TE) (g:TG):TS:=λD σ H=>te σ H λx H1=>g x σ H1 D.nx
theorem C9 {tg e:Expr} {te:TE} {g:TG} (he:PE X e te) (hg:PG X tg g) (hs:swapsWithSole [tg] e pos.line X.env=pure false:=by rfl) (hw:swappedStores [tg] e X.env=pure none:=by rfl)
  (h1:(assignEach [tg] X.env).map (·.2)=[assign tg X.env]:=by rfl):PS X (.Assign [tg] e pos) (lx te g):=by
 intro pins s σ H D I h
 refine wpAny_Assign_stores (eh (he pins s σ H _ I h) λv s1 ⟨x,H1,I1,r1,q1⟩=>?_) hs hw
 rw [h1]
 exact eh (hg pins s1 σ H1 x v _ I1 r1 q1) λ_ s2 q=>q
theorem aP {i:Nat} {x:Str} {e:Expr} {te:TE} {pos':Pos} (hN:X.N.Nodup) (hi:X.N[i]?=some x) (hx:Loc X.env.scope x) (he:PE X e te) (hs:swapsWith e (some (.Name x pos')) pos.line X.env=pure false:=by rfl) (hf:X.fn x=true \/ X.env.scope.names.lookup x=some .local:=by first | exact .inl rfl | exact .inr rfl | assumption):
  PS X (.Assign [.Name x pos'] e pos) (lx te (ig i)):=by
 intro pins s σ H D I h
 refine wpAny_Assign_Name (eh (he pins s σ H _ I h) λv s1 ⟨y,H1,I1,r1,q1⟩=>?_) hs
 exact j6 I1 hN hi hx r1 (λs2 I2=>⟨_,H1,I2,q1⟩) hf
end
section
variable {X:Cx} {pos:Pos}
def Dc (c:TT) (tb:TS):TS:=λD σ H=>∃ W:Nat->St->Hp->Prop,(∃ m,W m σ H) /\ ∀ m σ H,W m σ H->
 c σ H λb H1=>if b=true then ∃ N:St->Hp->Prop,(∀ bO H',N bO H'->∃ m',m' < m /\ W m' bO H') /\ tb { D with nx:=N,ct:=N,bk:=D.nx } σ H1 else D.nx σ H1
theorem xN {c:Expr} {body:List Stmt} {tc:TT} {tb:TS} (hp:PassesOwn (model X.prog X.w) X.A X.env X.xe) (hc:PT X c tc) (hb:iS X body tb):PS X (.While c body [] pos) (Dc tc tb):=by
 intro pins s σ H D I h
 obtain ⟨W,⟨m0,w0⟩,turn⟩:=h
 refine wpAny_While (codeAny_whileLoop (λn s'=>∃ bO H',Inv X pins bO H' s' /\ W n bO H') ?_ m0 ⟨σ,H,I,w0⟩)
 rintro n s1 ⟨C6,H1,I1,w1⟩
 refine TB hp (eh (hc pins s1 C6 H1 _ I1 (turn n C6 H1 w1)) λb s2 ⟨H2,I2,q2⟩=>?_)
 cases b with
 | true=>
   obtain ⟨N,hN,q2⟩:=q2
   rw [RV rfl]
   refine TB hp (eh (hb pins s2 C6 H2 _ I2 q2) λf s3 q3=>?_)
   cases f with
   | next=>
     obtain ⟨xO,H3,I3,n3⟩:=q3
     obtain ⟨m',hm,w3⟩:=hN xO H3 n3
     exact ⟨m',hm,xO,H3,I3,w3⟩
   | cont=>
     obtain ⟨xO,H3,I3,n3⟩:=q3
     obtain ⟨m',hm,w3⟩:=hN xO H3 n3
     exact ⟨m',hm,xO,H3,I3,w3⟩
   | brk=>exact q3
   | ret v=>exact q3
 | false=>
   rw [R4 RS]
   exact Uo ⟨C6,H2,I2,q2⟩
end
structure It where
 go:Nat->Hp->Prop
 Dd:Nat->Hp->V->Hp->Prop
 stop:Nat->Hp->Prop
def jd (X:Cx) (pins:List (Addr×Obj)) (H:Hp) (b:Addr):Prop:=
 H b=none /\ b≠X.env.locals /\ b∉X.fs /\ (b∈X.ex \/ X.ee.heap.objs.size<=b) /\ (∀ x c,X.env.cells.lookup x=some c->c≠b) /\ ∀ p∈X.pn ++ pins,p.1≠b
theorem Inv.sZ {X:Cx} {pins:List (Addr×Obj)} {σ:St} {H H':Hp} {s:Shared} {b:Addr} (I:Inv X pins σ H s) (hb:s.heap.objs.size<=b) (hn:H' b=none):jd X pins H' b:=by
 refine ⟨hn,T5 (RL I.lt hb),I.CW hb,.inr (Sj I.sz hb),λx c e z=>?_,λp hp z=>?_⟩
 .obtain ⟨v,q⟩:=I.cell x c e
  exact absurd (RL q.lt (by rw [z]; exact hb)) (Sg _)
 .exact absurd (RL (RR (I.pin p hp).1) (by rw [z]; exact hb)) (Sg _)
abbrev qP (X:Cx):Prop:=X.calm=true
structure uX (gd:Cx->Prop) (P:Program) (w:World) (K:PySem.W.Frag) (tg:Expr) (J:It) (fp:List Addr) (it:Addr) (tn:Nat->Heap->Prop):Prop where
 mem:it∈fp
 obj:∀ i h,tn i h->∀ b∈fp,∃ o,h.get? b=some o /\ ∀ v,o.data≠.cell v
 keep:∀ i h h',tn i h->(∀ b∈fp,∀ o,h.get? b=some o->h'.get? b=some o)->tn i h'
 item:∀ (X:Cx),X.prog=P->X.w=w->X.K=K->gd X->∀ (i:Nat) (pins:List (Addr×Obj)) (s:Shared) (σ:St) (H:Hp) (E:Value->Shared->Prop),Inv X pins σ H s->(∀ b∈fp,jd X pins H b)->tn i s.heap->J.go i H->
  wpAny (model P w) X.A (pyNext (.ref it)) (λr s1=>∃ u,r=some u /\
   wpAny (model P w) X.A (letOwnedTupleGo tg (.ref it) u) (λ_ s2=>∃ x H',Inv X pins σ H' s2 /\ RelV x u /\ J.Dd i H x H' /\ tn (i + 1) s2.heap /\ ∀ b∈fp,H' b=none) E s1) E s
 done:∀ (X:Cx),X.prog=P->X.w=w->X.K=K->gd X->∀ (i:Nat) (pins:List (Addr×Obj)) (s:Shared) (σ:St) (H:Hp) (E:Value->Shared->Prop),Inv X pins σ H s->(∀ b∈fp,jd X pins H b)->tn i s.heap->J.stop i H->
  wpAny (model P w) X.A (pyNext (.ref it)) (λr s1=>r=none /\ Inv X pins σ H s1) E s
 self:∀ (A:Around) (i:Nat) (s:Shared) (Q:Value->Shared->Prop) (E:Value->Shared->Prop),tn i s.heap->Q (.ref it) s->wpAny (model P w) A (pyIter (.ref it)) Q E s
abbrev Turn:=uX qP
abbrev TI:=St->Hp->(It->Hp->Prop)->Prop
def xP (gd:Cx->Prop) (X:Cx) (pins:List (Addr×Obj)) (σ:St) (tg:Expr) (R:It->Hp->Prop) (v7:Value) (s2:Shared):Prop:=
 ∃ (it:Addr) (fp:List Addr) (tn:Nat->Heap->Prop) (J:It) (H':Hp),v7=.ref it /\ Inv X pins σ H' s2 /\ uX gd X.prog X.w X.K tg J fp it tn /\ tn 0 s2.heap /\ (∀ b∈fp,jd X pins H' b) /\ R J H'
abbrev Mq:=xP qP
def FU (gd:Cx->Prop) (X:Cx) (tg iter:Expr) (wi:TI):Prop:=
 ∀ (pins:List (Addr×Obj)) (s:Shared) (σ:St) (H:Hp) (R:It->Hp->Prop),Inv X pins σ H s->wi σ H R->
   wpAny (model X.prog X.w) X.A (eval iter X.env) (λv s1=>wpAny (model X.prog X.w) X.A (pyIter v) (xP gd X pins σ tg R) X.xe s1) X.xe s
abbrev PI:=FU qP
theorem qQ {M:Model} {A:Around} {E:Value->Shared->Prop} {s:Shared} {tg:Expr} {it:Addr} {u:Value} {o:Obj} {n:String} {vs:Array Value} {Q:Unit->Shared->Prop} (ho:s.heap.get? it=some o) (hc:o.cls=.type n) (hd:o.data=.fields vs)
  (hn:["enumerate","zip","dict_itemiterator","dict_reverseitemiterator","odict_iterator","itertools.zip_longest","itertools.pairwise"].contains n=false) (hQ:Q () s):wpAny M A (letOwnedTupleGo tg (.ref it) u) Q E s:=by
 unfold letOwnedTupleGo
 cases tg <;> first
  | exact RQ hQ
  | (cases u <;> first
    | exact RQ hQ
    | (refine RF (wpAny_load ho ?_)
       rw [hc,hd]
       show wpAny M A (if (["enumerate","zip","dict_itemiterator","dict_reverseitemiterator","odict_iterator","itertools.zip_longest","itertools.pairwise"].contains n && vs[0]? == some (rawInt _))=true then _ else _) Q E s
       rw [R4 (by intro h; rw [hn,Ua] at h; cases h)]
       exact RQ hQ))
def Mr (K:PySem.W.Frag) (a:Addr):It:=
 ⟨λi H=>∃ xs x,ie K H a xs /\ xs[i]?=some x,λi H x H'=>H'=H /\ ∀ xs,ie K H a xs->xs[i]?=some x,λi H=>∃ xs,ie K H a xs /\ xs.length<=i⟩
def Ms (K:PySem.W.Frag) (a:Addr):It:=
 ⟨λi H=>∃ xs x,jl K H a xs /\ xs[i]?=some x,λi H x H'=>H'=H /\ ∀ xs,jl K H a xs->xs[i]?=some x,λi H=>∃ xs,jl K H a xs /\ xs.length<=i⟩
def HG (lo:Int) (n:Nat):It:=⟨λi _=>i < n,λi H x H'=>H'=H /\ x=.int (lo + i),λi _=>n<=i⟩
theorem v8 {P:Program} {w:World} {K:PySem.W.Frag} {tg:Expr} (a it:Addr):Turn P w K tg (Mr K a) [it] it (λi h=>h.IsListIter it a i) where
 mem:=by simp
 obj:=λi h st b hb=>by
  have e:b=it:=by simpa using hb
  subst e
  obtain ⟨o,e,c,d⟩:=st
  exact ⟨o,e,λv z=>by rw [d] at z; cases z⟩
 keep:=λi h h' st k=>st.at λo e=>k it (by simp) o e
 item:=by
  intro X hP hw hK hc i pins s σ H E I hf st hg
  subst hP hw hK
  obtain ⟨xs,x,hq,hx⟩:=hg
  obtain ⟨its,rv,p,hz⟩:=I.list hq
  obtain ⟨u,hu,ru⟩:=rv.get hx
  obtain ⟨f0,f1,f2,f3,f4,f5⟩:=hf it (by simp)
  refine wpAny_pyNext_list_item st p.isList (x:=u) (by simpa using hu) λh' lN sb=>?_
  have I1:Inv X pins σ H { s with heap:=h' }:=I.turned (t':=s.toks) (λb o hb e=>(sb.2 b hb).trans e) f0 f1 f3 f4 f5
  obtain ⟨o,e,c,d⟩:=id lN
  exact ⟨u,rfl,qQ (s:={ s with heap:=h' }) e c d (by decide) ⟨x,H,I1,ru,⟨rfl,λys hy=>by rw [I.qO hy hq]; exact hx⟩,lN,λb hb=>(hf b hb).1⟩⟩
 done:=by
  intro X hP hw hK hc i pins s σ H E I hf st hg
  subst hP hw hK
  obtain ⟨xs,hq,hx⟩:=hg
  obtain ⟨its,rv,p,hz⟩:=I.list hq
  obtain ⟨f0,f1,f2,f3,f4,f5⟩:=hf it (by simp)
  have hl:=rv.length
  exact wpAny_pyNext_list_end (I.ok.hd hc) st p.isList (by simp; omega) λh' eb=>⟨rfl,I.turned (t':=s.toks) (λb o hb e=>eb b o hb e) f0 f1 f3 f4 f5⟩
 self:=λ_ _ _ _ _ st h=>wpAny_pyIter_listiter st h
theorem td {P:Program} {w:World} {K:PySem.W.Frag} {tg:Expr} (a it:Addr):Turn P w K tg (Ms K a) [it] it (λi h=>h.IsTupleIter it a i) where
 mem:=by simp
 obj:=λi h st b hb=>by
  have e:b=it:=by simpa using hb
  subst e
  obtain ⟨o,e,c,d⟩:=st
  exact ⟨o,e,λv z=>by rw [d] at z; cases z⟩
 keep:=λi h h' st k=>st.at λo e=>k it (by simp) o e
 item:=by
  intro X hP hw hK hc i pins s σ H E I hf st hg
  subst hP hw hK
  obtain ⟨xs,x,hq,hx⟩:=hg
  obtain ⟨its,rv,p,hz⟩:=I.tuple hq
  obtain ⟨u,hu,ru⟩:=rv.get hx
  obtain ⟨f0,f1,f2,f3,f4,f5⟩:=hf it (by simp)
  refine wpAny_pyNext_tuple_item st (show s.heap.IsTuple a its.toArray from p) (x:=u) (by simpa using hu) λh' lN sb=>?_
  have I1:Inv X pins σ H { s with heap:=h' }:=I.turned (t':=s.toks) (λb o hb e=>(sb.2 b hb).trans e) f0 f1 f3 f4 f5
  obtain ⟨o,e,c,d⟩:=id lN
  exact ⟨u,rfl,qQ (s:={ s with heap:=h' }) e c d (by decide) ⟨x,H,I1,ru,⟨rfl,λys hy=>by rw [I.v5 hy hq]; exact hx⟩,lN,λb hb=>(hf b hb).1⟩⟩
 done:=by
  intro X hP hw hK hc i pins s σ H E I hf st hg
  subst hP hw hK
  obtain ⟨xs,hq,hx⟩:=hg
  obtain ⟨its,rv,p,hz⟩:=I.tuple hq
  obtain ⟨f0,f1,f2,f3,f4,f5⟩:=hf it (by simp)
  have hl:=rv.length
  exact wpAny_pyNext_tuple_end (I.ok.hd hc) st (show s.heap.IsTuple a its.toArray from p) (by simp; omega) λh' eb=>⟨rfl,I.turned (t':=s.toks) (λb o hb e=>eb b o hb e) f0 f1 f3 f4 f5⟩
 self:=λ_ _ _ _ _ st h=>wpAny_pyIter_tupleiter st h
theorem tf {P:Program} {w:World} {K:PySem.W.Frag} {tg:Expr} (it:Addr) (lo:Int) (n:Nat):Turn P w K tg (HG lo n) [it] it (λi h=>IsRangeIter h it (lo + (i:Nat) * 1) ((n:Int) - (i:Nat)) 1) where
 mem:=by simp
 obj:=λi h st b hb=>by
  have e:b=it:=by simpa using hb
  subst e
  exact ⟨_,st,λv z=>by
   have z':Data.fields _=Data.cell v:=z
   cases z'⟩
 keep:=λi h h' st k=>k it (by simp) _ st
 item:=by
  intro X hP hw hK hc i pins s σ H E I hf st hg
  subst hP hw hK
  obtain ⟨f0,f1,f2,f3,f4,f5⟩:=hf it (by simp)
  have W:=Walks.range (prog:=X.prog) (w:=X.w) (I.ok.hd hc) it lo 1 n
  refine W.item i s _ _ hg st λv h' tk hv lN kk=>?_
  obtain ⟨t,rfl⟩:=hv
  have I1:Inv X pins σ H { s with heap:=h',toks:=tk }:=I.turned (λb o hb e=>kk b o (by simpa using hb) e) f0 f1 f3 f4 f5
  refine ⟨_,rfl,qQ (s:={ s with heap:=h',toks:=tk }) (n:="range_iterator") lN rfl rfl (by decide) ⟨.int (lo + i),H,I1,⟨t,?_⟩,⟨rfl,rfl⟩,lN,λb hb=>(hf b hb).1⟩⟩
  rw [Int.mul_one]
 done:=by
  intro X hP hw hK hc i pins s σ H E I hf st hg
  subst hP hw hK
  obtain ⟨f0,f1,f2,f3,f4,f5⟩:=hf it (by simp)
  exact wpAny_pyNext_range_end (I.ok.hd hc) st (by have:n<=i:=hg; omega) λh' eb=>⟨rfl,I.turned (t':=s.toks) (λb o hb e=>eb b o hb e) f0 f1 f3 f4 f5⟩
 self:=λ_ _ _ _ _ st h=>wpAny_pyIter_rangeiter st h
section
variable {X:Cx} {tg:Expr}
theorem xQ {pins:List (Addr×Obj)} {σ:St} {H:Hp} {s:Shared} {R:It->Hp->Prop} {E:Value->Shared->Prop} {lo hi:Int} {t u v:Tok} {tk:Nat} (I:Inv X pins σ H s) (h1: -(2 ^ 62)<=lo) (h2:lo < 2 ^ 62) (h3: -(2 ^ 62)<=hi) (h4:hi < 2 ^ 62)
  (q:R (HG lo (hi - lo).toNat) H):wpAny (model X.prog X.w) X.A (pyIter (.ref s.heap.objs.size)) (Mq X pins σ tg R) E { s with heap:=s.heap.push { cls:=.type "range",data:=.fields #[.int lo t,.int hi u,.int 1 v] },toks:=tk }:=by
 refine wpAny_pyIter_range (IsRange.new ..) (small_one h1 h2 h3 h4) ?_
 have I1:Inv X pins σ H { s with heap:=s.heap.push { cls:=.type "range",data:=.fields #[.int lo t,.int hi u,.int 1 v] },toks:=tk }:=I.kept λb o e=>RG _ e
 refine ⟨(s.heap.push { cls:=.type "range",data:=.fields #[.int lo t,.int hi u,.int 1 v] }).objs.size,[(s.heap.push { cls:=.type "range",data:=.fields #[.int lo t,.int hi u,.int 1 v] }).objs.size],_,_,H,rfl,
  I1.kept (t':=tk) λb o e=>RG _ e,tf _ lo (hi - lo).toNat,?_,λb hb=>?_,q⟩
 .have e1:lo + ((0:Nat):Int) * 1=lo:=by simp
  have e2:(((hi - lo).toNat:Nat):Int) - ((0:Nat):Int)=Builtin.Range.rangeSize lo hi 1:=by rw [rangeSize_one]; split <;> omega
  show IsRangeIter _ _ (lo + ((0:Nat):Int) * 1) ((((hi - lo).toNat:Nat):Int) - ((0:Nat):Int)) 1
  rw [e1,e2]
  exact RU _ rfl
 .have e:b=(s.heap.push { cls:=.type "range",data:=.fields #[.int lo t,.int hi u,.int 1 v] }).objs.size:=by simpa using hb
  subst e
  exact I1.sZ (RO _) (I1.bo.fresh (RO _))
def FV (ta:TA):TI:=λσ H R=>ta σ H λvs H1=>∃ j:Int,vs=[.int j] /\ -(2 ^ 62)<=j /\ j < 2 ^ 62 /\ R (HG 0 j.toNat) H1
theorem v9 {a:Expr} {ta:TA} {p pos:Pos} (hg:Gl X "range") (hm:X.mg "range"=none) (ha:PA X [a] ta) (hs:starEach [a] X.env=[(false,eval a X.env)]:=by rfl):PI X tg (.Call (.Name "range" p) [a] [] pos) (FV ta):=by
 intro pins s σ H R I h
 refine Call_ (kA I hg hm boot_range (Tq (eh (ha pos pins s σ H _ I h) λus s1 ⟨vs,H1,I1,r1,q1⟩=>?_) hs rfl))
 obtain ⟨j,e,q1,q2,q⟩:=q1
 subst e
 cases r1 with
 | cons r rr=>
   cases rr
   obtain ⟨t,rfl⟩:=r
   exact call_range_1 (xQ I1 (by omega) (by omega) q1 q2 (by simpa using q))
def II (wi:TI) (g:TG) (tb:TS):TS:=λD σ H=>wi σ H λJ H1=>∃ W:Nat->Nat->St->Hp->Prop,(∃ m,W 0 m σ H1) /\ ∀ i m σ H,W i m σ H->
 (J.stop i H /\ D.nx σ H) \/ (J.go i H /\ ∃ N:St->Hp->Prop,(∀ bO H',N bO H'->∃ m',m' < m /\ W (i + 1) m' bO H') /\ ∀ x H',J.Dd i H x H'->g x σ H' λNy H2=>tb { D with nx:=N,ct:=N,bk:=D.nx } Ny H2)
def gg (fp:List Addr) (h:Heap):List (Addr×Obj):=fp.filterMap λb=>(h.get? b).map λo=>(b,o)
theorem cZ {fp:List Addr} {h:Heap} {b:Addr} {o:Obj} (hb:b∈fp) (e:h.get? b=some o):(b,o)∈gg fp h:=Tu.mpr ⟨b,hb,by rw [e]; rfl⟩
theorem kB {fp:List Addr} {h:Heap} {p:Addr×Obj} (hp:p∈gg fp h):p.1∈fp /\ h.get? p.1=some p.2:=by
 obtain ⟨b,hb,e⟩:=Tu.mp hp
 cases q:h.get? b with
 | none=>rw [q] at e; cases e
 | some o=>
   rw [q] at e
   have e':(b,o)=p:=Su e
   subst e'
   exact ⟨hb,q⟩
theorem Inv.pinned {pins:List (Addr×Obj)} {σ:St} {H:Hp} {s:Shared} {fp:List Addr} (I:Inv X pins σ H s) (hf:∀ b∈fp,jd X pins H b) (ho:∀ b∈fp,∃ o,s.heap.get? b=some o /\ ∀ v,o.data≠.cell v):Inv X (pins ++ gg fp s.heap) σ H s:=
 I.ft λp hp=>(R0.mp hp).elim (λz=>I.pin p (RI _ z)) λz=>by
  obtain ⟨hb,e⟩:=kB z
  obtain ⟨f0,f1,f2,_⟩:=hf p.1 hb
  obtain ⟨o,e',d⟩:=ho p.1 hb
  rw [e] at e'; cases e'
  exact ⟨e,f0,f1,f2,d⟩
theorem Inv.lZ {pins pl:List (Addr×Obj)} {σ:St} {H:Hp} {s:Shared} (I:Inv X (pins ++ pl) σ H s):Inv X pins σ H s:=I.ft λp hp=>I.pin p (RI _ (So _ hp))
theorem De {iter:Expr} {body:List Stmt} {wi:TI} {g:TG} {tb:TS} {pos:Pos} (hp:PassesOwn (model X.prog X.w) X.A X.env X.xe) (hc:X.calm=true) (hi:PI X tg iter wi) (hg:PG X tg g) (hb:iS X body tb)
  (hs:∀ x,foldedSetIterable iter X.env x=pure x:=by intro _; rfl):PS X (.For tg iter body [] pos) (II wi g tb):=by
 intro pins s σ H D I h
 refine wpAny_For (eh (hi pins s σ H _ I h) λv s1 h1=>eh h1 λv7 s2 h2=>?_) hs
 obtain ⟨it,fp,tn,J,H2,e,I2,T,kC,f2,W,⟨m0,w0⟩,turn⟩:=h2
 subst e
 have l5:∀ {H':Hp},(∀ b∈fp,H' b=none)->∀ b∈fp,jd X pins H' b:=λhn b hb=>⟨hn b hb,(f2 b hb).2⟩
 refine codeAny_forLoop_any (λn s'=>∃ i bO H',Inv X pins bO H' s' /\ tn i s'.heap /\ (∀ b∈fp,H' b=none) /\ W i n bO H') ?_ m0 ⟨0,σ,H2,I2,kC,λb hb=>(f2 b hb).1,w0⟩
 rintro n s3 ⟨i,xO,H3,I3,Ac,HH,w3⟩
 rcases turn i n xO H3 w3 with ⟨stop,qn⟩ | ⟨go,N,hN,step⟩
 .refine TB hp (eh (T.done X rfl rfl rfl hc i pins s3 xO H3 X.xe I3 (l5 HH) Ac stop) λr s4 ⟨hr,I4⟩=>?_)
  subst hr
  exact Uo ⟨xO,H3,I4,qn⟩
 .refine TB hp (eh (T.item X rfl rfl rfl hc i pins s3 xO H3 X.xe I3 (l5 HH) Ac go) λr s4 ⟨u,hr,h4⟩=>?_)
  subst hr
  refine TB hp (eh h4 λ_ s5 ⟨x,H5,I5,r5,y5,tj,Dh⟩=>?_)
  have FW:=I5.pinned (l5 Dh) (T.obj _ _ tj)
  refine TB hp (eh (hg _ s5 xO H5 x u _ FW r5 (step x H5 y5)) λ_ s6 ⟨Nz,H6,I6,q6⟩=>?_)
  refine TB hp (eh (hb _ s6 Nz H6 _ I6 q6) λf s7 q7=>?_)
  have again:∀ {xR:St} {H7:Hp},Inv X (pins ++ gg fp s5.heap) xR H7 s7->N xR H7->∃ m,m < n /\ ∃ i bO H',Inv X pins bO H' s7 /\ tn i s7.heap /\ (∀ b∈fp,H' b=none) /\ W i m bO H':=λ{xR H7} I7 n7=>by
   obtain ⟨m',hm,w7⟩:=hN xR H7 n7
   refine ⟨m',hm,i + 1,xR,H7,I7.lZ,T.keep _ _ _ tj λb hb o e=>(I7.pin (b,o) (RI _ (RI _ (cZ hb e)))).1,λb hb=>?_,w7⟩
   obtain ⟨o,e,d⟩:=T.obj _ _ tj b hb
   exact (I7.pin (b,o) (RI _ (RI _ (cZ hb e)))).2.1
  cases f with
  | next=>obtain ⟨xR,H7,I7,n7⟩:=q7; exact again I7 n7
  | cont=>obtain ⟨xR,H7,I7,n7⟩:=q7; exact again I7 n7
  | brk=>obtain ⟨xR,H7,I7,q7⟩:=q7; exact ⟨xR,H7,I7.lZ,q7⟩
  | ret v=>obtain ⟨x7,xR,H7,I7,r7,q7⟩:=q7; exact ⟨x7,xR,H7,I7.lZ,r7,q7⟩
end
abbrev R2:=V->V->Hp->VK->Prop
def gz (X:Cx) (f:Value->Value->Sem Value) (r:R2):Prop:=
 ∀ (pins:List (Addr×Obj)) (s:Shared) (σ:St) (H:Hp) (x y:V) (v u:Value) (Q:VK),Inv X pins σ H s->RelV x v->RelV y u->r x y H Q->
   wpAny (model X.prog X.w) X.A (f v u) (EP X pins σ Q) X.xe s
def IJ (X:Cx) (f:Value->Sem Value) (r:V->Hp->VK->Prop):Prop:=
 ∀ (pins:List (Addr×Obj)) (s:Shared) (σ:St) (H:Hp) (x:V) (v:Value) (Q:VK),Inv X pins σ H s->RelV x v->r x H Q->
   wpAny (model X.prog X.w) X.A (f v) (EP X pins σ Q) X.xe s
def cU (X:Cx) (f:Value) (r:List V->Hp->VK->Prop):Prop:=
 ∀ (pins:List (Addr×Obj)) (s:Shared) (σ:St) (H:Hp) (xs:List V) (us:List Value) (Q:VK),Inv X pins σ H s->aO xs us->r xs H Q->
   wpAny (model X.prog X.w) X.A (call f us) (EP X pins σ Q) X.xe s
def IK (X:Cx) (r:V->Hp->(Bool->Hp->Prop)->Prop):Prop:=
 ∀ (pins:List (Addr×Obj)) (s:Shared) (σ:St) (H:Hp) (x:V) (v:Value) (Q:Bool->Hp->Prop),Inv X pins σ H s->RelV x v->r x H Q->
   wpAny (model X.prog X.w) X.A (truthy v) (TP X pins σ Q) X.xe s
def E7 (r:R2) (ta tb:TE):TE:=λσ H Q=>ta σ H λx H1=>tb σ H1 λy H2=>r x y H2 Q
def NA (r:V->Hp->VK->Prop) (ta:TE):TE:=λσ H Q=>ta σ H λx H1=>r x H1 Q
def rI (C:Int->Int->Prop) (g:Int->Int->V):R2:=λx y H Q=>∃ i j,x=.int i /\ y=.int j /\ C i j /\ Q (g i j) H
def xS (g:Int->Int->V):R2:=λx y H Q=>∃ i j,x=.int i /\ y=.int j /\ Q (g i j) H
def rU (g:Int->V):V->Hp->VK->Prop:=λx H Q=>∃ i,x=.int i /\ Q (g i) H
section
variable {X:Cx} {a b c:Expr} {ta tb tc:TE} {pos:Pos}
theorem Di (ha:PE X a ta) (hb:PE X b tb) {pins:List (Addr×Obj)} {s:Shared} {σ:St} {H:Hp} {R:V->V->Hp->Prop} (I:Inv X pins σ H s)
  (h:ta σ H λx H1=>tb σ H1 λy H2=>R x y H2) {Q:Value->Shared->Prop} {f:Value->Value->Sem Value}
  (hf:∀ v u s2 x y H2,Inv X pins σ H2 s2->RelV x v->RelV y u->R x y H2->wpAny (model X.prog X.w) X.A (f v u) Q X.xe s2):
  wpAny (model X.prog X.w) X.A (eval a X.env) (λv a9=>wpAny (model X.prog X.w) X.A (eval b X.env) (λu l6=>wpAny (model X.prog X.w) X.A (f v u) Q X.xe l6) X.xe a9) X.xe s:=by
 refine eh (ha pins s σ H _ I h) λv s1 ⟨x,H1,I1,r1,q1⟩=>?_
 refine eh (hb pins s1 σ H1 _ I1 q1) λu s2 ⟨y,H2,I2,r2,q2⟩=>?_
 exact hf v u s2 x y H2 I2 r1 r2 q2
theorem B7 {op:Operator} {r:R2} (ho:gz X (binaryOp op) r) (ha:PE X a ta) (hb:PE X b tb):PE X (.BinOp a op b pos) (E7 r ta tb):=by
 intro pins s σ H Q I h
 exact wpAny_BinOp (Di ha hb I h λv u s2 x y H2 I2 rx ry q=>ho pins s2 σ H2 x y v u Q I2 rx ry q)
theorem FX {op:UnaryOp} {r:V->Hp->VK->Prop} (ho:IJ X (unaryOp op) r) (ha:PE X a ta):PE X (.UnaryOp op a pos) (NA r ta):=by
 intro pins s σ H Q I h
 exact UnaryOp_ (eh (ha pins s σ H _ I h) λv s1 ⟨x,H1,I1,r1,q1⟩=>ho pins s1 σ H1 x v Q I1 r1 q1)
theorem HI {f:Value->Value->Sem Value} {C:Int->Int->Prop} {g:Int->Int->Int}
  (rule:∀ (i j:Int) (t u:Tok) (s:Shared) (Q:Value->Shared->Prop) (E:Value->Shared->Prop),C i j->Q (.int (g i j) s.toks) { s with toks:=s.toks + 1 }->wpAny (model X.prog X.w) X.A (f (.int i t) (.int j u)) Q E s):
  gz X f (rI C λi j=>.int (g i j)):=by
 intro pins s σ H x y v u Q I rx ry h
 obtain ⟨i,j,rfl,rfl,hc,q⟩:=h
 obtain ⟨t,rfl⟩:=rx
 obtain ⟨t',rfl⟩:=ry
 exact rule i j t t' s _ _ hc ⟨.int (g i j),H,I.tok _,⟨_,rfl⟩,q⟩
theorem FY {f:Value->Value->Sem Value} {g:Int->Int->Int}
  (rule:∀ (i j:Int) (t u:Tok) (s:Shared) (Q:Value->Shared->Prop) (E:Value->Shared->Prop),Q (.int (g i j) s.toks) { s with toks:=s.toks + 1 }->wpAny (model X.prog X.w) X.A (f (.int i t) (.int j u)) Q E s):
  gz X f (xS λi j=>.int (g i j)):=by
 intro pins s σ H x y v u Q I rx ry h
 obtain ⟨i,j,rfl,rfl,q⟩:=h
 obtain ⟨t,rfl⟩:=rx
 obtain ⟨t',rfl⟩:=ry
 exact rule i j t t' s _ _ ⟨.int (g i j),H,I.tok _,⟨_,rfl⟩,q⟩
theorem Av {f:Value->Value->Sem Value} {g:Int->Int->Bool}
  (rule:∀ (i j:Int) (t u:Tok) (s:Shared) (Q:Value->Shared->Prop) (E:Value->Shared->Prop),Q (.bool (g i j)) s->wpAny (model X.prog X.w) X.A (f (.int i t) (.int j u)) Q E s):
  gz X f (xS λi j=>.bl (g i j)):=by
 intro pins s σ H x y v u Q I rx ry h
 obtain ⟨i,j,rfl,rfl,q⟩:=h
 obtain ⟨t,rfl⟩:=rx
 obtain ⟨t',rfl⟩:=ry
 exact rule i j t t' s _ _ ⟨.bl (g i j),H,I,rfl,q⟩
def Dj (i j:Int):Prop:=0<=j /\ j<=1000000 /\ i.natAbs < 2 ^ 64
theorem Dk:gz X (binaryOp .Add) (xS λi j=>.int (i + j)):=FY λ_ _ _ _ _ _ _ q=>add_int q
theorem tq:gz X (binaryOp .Sub) (xS λi j=>.int (i - j)):=FY λ_ _ _ _ _ _ _ q=>sub_int q
theorem bf:gz X (binaryOp .Mod) (rI (λ_ j=>j≠0) λi j=>.int (i.fmod j)):=HI λ_ _ _ _ _ _ _ hc q=>mod_int' hc q
theorem pf:gz X (binaryOp .Pow) (rI Dj λi j=>.int (i ^ j.toNat)):=HI λ_ _ _ _ _ _ _ hc q=>pow_int_small hc.1 hc.2.1 hc.2.2 q
theorem NB {f:Value->Sem Value} {g:Int->Int}
  (rule:∀ (i:Int) (t:Tok) (s:Shared) (Q:Value->Shared->Prop) (E:Value->Shared->Prop),Q (.int (g i) s.toks) { s with toks:=s.toks + 1 }->wpAny (model X.prog X.w) X.A (f (.int i t)) Q E s):
  IJ X f (rU λi=>.int (g i)):=by
 intro pins s σ H x v Q I rx h
 obtain ⟨i,rfl,q⟩:=h
 obtain ⟨t,rfl⟩:=rx
 exact rule i t s _ _ ⟨.int (g i),H,I.tok _,⟨_,rfl⟩,q⟩
theorem Dl:IJ X (unaryOp .USub) (rU λi=>.int (-i)):=NB λ_ _ _ _ _ q=>neg_int q
end
section
variable {X:Cx} {a b c:Expr} {ta tb tc:TE} {pos:Pos}
theorem Dm {pins:List (Addr×Obj)} {σ:St} {H:Hp} {s:Shared} {Q:VK} {k k':Bool} (I:Inv X pins σ H s) (q:Q (.bl k) H) (e:k=k'):EP X pins σ Q (.bool k') s:=by
 subst e
 exact ⟨.bl k,H,I,rfl,q⟩
theorem qR:gz X (compareOp .Lt) (xS λi j=>.bl (decide (i < j))):=Av λ_ _ _ _ _ _ _ q=>lt_int q
theorem B8:gz X (compareOp .LtE) (xS λi j=>.bl (decide (i<=j))):=Av λ_ _ _ _ _ _ _ q=>le_int q
theorem j9:gz X (compareOp .Gt) (xS λi j=>.bl (decide (j < i))):=Av λ_ _ _ _ _ _ _ q=>gt_int q
theorem FZ:gz X (compareOp .GtE) (xS λi j=>.bl (decide (j<=i))):=Av λ_ _ _ _ _ _ _ q=>ge_int q
theorem oi:gz X (compareOp .In) (λx y H Q=>∃ i j,x=.str i /\ y=.str j /\ Q (.bl (!(Builtin.Str.occurrences j i 0 j.length 1).isEmpty)) H):=by
 intro pins s σ H x y v u Q I rx ry h
 obtain ⟨i,j,rfl,rfl,q⟩:=h
 obtain ⟨t,rfl⟩:=rx
 obtain ⟨t',rfl⟩:=ry
 exact in_str (Dm I q rfl)
theorem gz.or {f:Value->Value->Sem Value} {r r':R2} (h:gz X f r) (h':gz X f r'):gz X f (λx y H Q=>r x y H Q \/ r' x y H Q):=by
 intro pins s σ H x y v u Q I rx ry q
 rcases q with q | q
 .exact h pins s σ H x y v u Q I rx ry q
 .exact h' pins s σ H x y v u Q I rx ry q
theorem bq (b:Expr) {op:CmpOp} (h:op≠.In:=by decide) (h2:op≠.NotIn:=by decide):behindInMarks op b=false:=by
 have e1:(op == CmpOp.In)=false:=by cases op <;> first | rfl | exact absurd rfl h
 have e2:(op == CmpOp.NotIn)=false:=by cases op <;> first | rfl | exact absurd rfl h2
 cases b <;> simp [behindInMarks,e1,e2]
theorem Aw {op:CmpOp} {r:R2} (ho:gz X (compareOp op) r) (ha:PE X a ta) (hb:PE X b tb) (hm:behindInMarks op b=false):PE X (.Compare a [op] [b] pos) (E7 r ta tb):=by
 intro pins s σ H Q I h
 exact wpAny_Compare1 (Di ha hb I h λv u s2 x y H2 I2 rx ry q=>ho pins s2 σ H2 x y v u Q I2 rx ry q) hm
def B9 (t:TE):TT:=λσ H Q=>t σ H λx H'=>∃ k,x=.bl k /\ Q k H'
theorem Ax {op:CmpOp} {r:R2} (ho:gz X (compareOp op) r) (ha:PE X a ta) (hb:PE X b tb) (hm:behindInMarks op b=false):PT X (.Compare a [op] [b] pos) (B9 (E7 r ta tb)):=by
 intro pins s σ H Q I h
 refine wpAny_isTrue_Compare1 (eh (ha pins s σ H _ I h) λv s1 ⟨x,H1,I1,r1,q1⟩=>eh (hb pins s1 σ H1 _ I1 q1) λu s2 ⟨y,H2,I2,r2,q2⟩=>
  eh (ho pins s2 σ H2 x y v u _ I2 r1 r2 q2) λc s3 ⟨z,H3,I3,r3,k,e,q3⟩=>?_) hm
 subst e
 cases r3
 exact S4 ⟨H3,I3,q3⟩
def xT (r r':R2) (ta tb tc:TE):TE:=λσ H Q=>ta σ H λx H1=>tb σ H1 λy H2=>r x y H2 λz H3=>∃ k,z=.bl k /\
 (if k=true then tc σ H3 λw' H4=>r' y w' H4 Q else Q (.bl false) H3)
theorem xU {op Dp:CmpOp} {r r':R2} (ho:gz X (compareOp op) r) (qM:gz X (compareOp Dp) r') (ha:PE X a ta) (hb:PE X b tb) (hc:PE X c tc)
  (hm:lastMarks [op,Dp] [b,c]=false:=by with_unfolding_all rfl):PT X (.Compare a [op,Dp] [b,c] pos) (B9 (xT r r' ta tb tc)):=by
 intro pins s σ H Q I h
 refine isTrue_chain (eh (ha pins s σ H _ I h) λv s1 ⟨x,H1,I1,r1,q1⟩=>test_link (eh (hb pins s1 σ H1 _ I1 q1) λu s2 ⟨y,H2,I2,r2,q2⟩=>
  eh (ho pins s2 σ H2 x y v u _ I2 r1 r2 q2) λd s3 ⟨z,H3,I3,r3,k,e,q3⟩=>?_)) hm
 subst e
 cases r3
 refine S4 ?_
 cases k with
 | false=>
   obtain ⟨k',e',q'⟩:=q3
   cases e'
   exact ite_ff ⟨H3,I3,q'⟩
 | true=>
   refine ite_tt (test_last (eh (hc pins s3 σ H3 _ I3 q3) λw' s4 ⟨z',H4,I4,r4,q4⟩=>eh (qM pins s4 σ H4 y z' u w' _ I4 r2 r4 q4) λd' s5 ⟨z2,H5,I5,r5,k2,e2,q5⟩=>?_))
   subst e2
   cases r5
   exact S4 ⟨H5,I5,q5⟩
def F0 (K:PySem.W.Frag) (x:V) (H:Hp) (k:Bool):Prop:=
 match x with
 | .fF=>k=false
 | .bl b=>k=b
 | .int i=>k=(i != 0)
 | .str y=>y.length<=sizeLine /\ k=((y.length:Int) != 0)
 | .Fy y=>y.size<=sizeLine /\ k=((y.size:Int) != 0)
 | .ref p=>(∃ xs,ie K H p xs /\ k= !xs.isEmpty) \/ (∃ xs,jl K H p xs /\ k= !xs.isEmpty) \/ ∃ eY,H p=some (.dK eY) /\ k= !eY.isEmpty
 | _=>False
theorem tu {κ:Type} {eY:List (κ×V)} {vs:List (κ×Value)} (r:KV eY vs):(!vs.isEmpty)= !eY.isEmpty:=by
 cases r <;> rfl
theorem l7 {xs:List V} {its:List Value} (r:aO xs its):(!its.toArray.isEmpty)= !xs.isEmpty:=by
 cases r <;> simp
theorem jx:(sizeLine:Nat) < 2 ^ 63:=by rw [sizeLine_eq]; decide
theorem Dq:IK X (λx H Q=>∃ k,F0 X.K x H k /\ Q k H):=by
 intro pins s σ H x v Q I rx h
 obtain ⟨k,e,q⟩:=h
 have hl:=jx
 have hs:sizeLine=16777216:=sizeLine_eq
 cases x with
 | fF=>
   cases rx
   have e':k=false:=e
   subst e'
   exact truthy_none ⟨H,I,q⟩
 | bl b=>
   cases rx
   have e':k=b:=e
   subst e'
   exact S4 ⟨H,I,q⟩
 | int i=>
   obtain ⟨t,rfl⟩:=rx
   have e':k=(i != 0):=e
   subst e'
   exact PySem.P.truthy_int ⟨H,I,q⟩
 | str y=>
   obtain ⟨t,rfl⟩:=rx
   obtain ⟨hy,e'⟩:y.length<=sizeLine /\ k=((y.length:Int) != 0):=e
   subst e'
   exact PySem.P.truthy_str (by omega) ⟨H,I.tok _,q⟩
 | Fy y=>
   obtain ⟨t,rfl⟩:=rx
   obtain ⟨hy,e'⟩:y.size<=sizeLine /\ k=((y.size:Int) != 0):=e
   subst e'
   exact PySem.W.truthy_bytes (by omega) ⟨H,I.tok _,q⟩
 | ref p=>
   cases rx
   have e':(∃ xs,ie X.K H p xs /\ k= !xs.isEmpty) \/ (∃ xs,jl X.K H p xs /\ k= !xs.isEmpty) \/ ∃ eY,H p=some (.dK eY) /\ k= !eY.isEmpty:=e
   rcases e' with ⟨xs,hx,e'⟩ | ⟨xs,hx,e'⟩ | ⟨eY,hx,e'⟩
   .subst e'
    obtain ⟨its,r,pl,hz⟩:=I.list hx
    have hlen:=r.length
    exact wpAny_truthy_list pl.isList (by simp only [RZ]; omega) ⟨H,I.tok _,by rw [l7 r]; exact q⟩
   .subst e'
    obtain ⟨its,r,pl,hz⟩:=I.tuple hx
    have hlen:=r.length
    exact truthy_tuple pl (by simp only [RZ]; omega) ⟨H,I.tok _,by rw [l7 r]; exact q⟩
   .subst e'
    obtain ⟨hz,hS,vs,r,m⟩:eY.length<=sizeLine /\ (p == sysModules)=false /\ ∃ vs,KV eY vs /\ s.heap.DictOf (o8 X.prog X.w) p vs:=I.bo p _ hx
    have hlen:eY.length=vs.length:=Paired.length r
    exact wpAny_truthy_dict hS m (by omega) ⟨H,I.tok _,by rw [tu r]; exact q⟩
 | _=>exact (show False from e).elim
theorem xV (ha:PE X a ta) (he:∀ whole,isTrue a X.env whole=(do let v <- whole; standAt a.pos; holding [v] (truthy v))):
  PT X a (λσ H Q=>ta σ H λx H'=>∃ k,F0 X.K x H' k /\ Q k H'):=by
 intro pins s σ H Q I h
 exact isTrue_plain (eh (ha pins s σ H _ I h) λv s1 ⟨x,H1,I1,r1,q1⟩=>Dq pins s1 σ H1 x v Q I1 r1 q1) (he _)
theorem tw:gz X (binaryOp .Add) (λx y H Q=>∃ i j,x=.str i /\ y=.str j /\ i.length + j.length<=sizeLine /\ Q (.str (i ++ j)) H):=by
 intro pins s σ H x y v u Q I rx ry h
 obtain ⟨i,j,rfl,rfl,hz,q⟩:=h
 obtain ⟨t,rfl⟩:=rx
 obtain ⟨t',rfl⟩:=ry
 exact add_str (λt' tk=>⟨.str (i ++ j),H,I.tok _,⟨_,rfl⟩,q⟩) hz
theorem vals1 {x:V} {us:List Value} (r:aO [x] us):∃ u,us=[u] /\ RelV x u:=by
 cases r with
 | cons r1 r2=>cases r2; exact ⟨_,rfl,r1⟩
theorem vals2 {x y:V} {us:List Value} (r:aO [x,y] us):∃ u w',us=[u,w'] /\ RelV x u /\ RelV y w':=by
 cases r with
 | cons r1 r2=>
   cases r2 with
   | cons r3 r4=>cases r4; exact ⟨_,_,rfl,r1,r3⟩
theorem xW:cU X (.builtin "abs") (λxs H Q=>∃ i,xs=[.int i] /\ Q (.int (if i < 0 then -i else i)) H):=by
 intro pins s σ H xs us Q I r h
 obtain ⟨i,rfl,q⟩:=h
 obtain ⟨u,rfl,t,rfl⟩:=vals1 r
 exact call_abs_int λu tk=>⟨.int (if i < 0 then -i else i),H,I.tok _,⟨_,rfl⟩,q⟩
theorem wa (hc:X.calm=true):cU X (.builtin "max") (λxs H Q=>∃ i j,xs=[.int i,.int j] /\ Q (.int (if j > i then j else i)) H):=by
 intro pins s σ H xs us Q I r h
 obtain ⟨i,j,rfl,q⟩:=h
 obtain ⟨u,w',rfl,⟨t,rfl⟩,⟨t',rfl⟩⟩:=vals2 r
 refine max_two_ints (I.ok.hd hc) λh' tk k=>⟨_,H,I.kept k,?_,q⟩
 by_cases hj:j > i
 .rw [RV hj,RV hj]; exact ⟨_,rfl⟩
 .rw [R4 hj,R4 hj]; exact ⟨_,rfl⟩
theorem wb:cU X (.type "int") (λxs H Q=>(∃ i,xs=[.int i] /\ Q (.int i) H) \/ ∃ k,xs=[.bl k] /\ Q (.int (if k then 1 else 0)) H):=by
 intro pins s σ H xs us Q I r h
 rcases h with ⟨i,rfl,q⟩ | ⟨k,rfl,q⟩
 .obtain ⟨u,rfl,t,rfl⟩:=vals1 r
  exact call_int_int ⟨.int i,H,I,⟨_,rfl⟩,q⟩
 .obtain ⟨u,rfl,r1⟩:=vals1 r
  cases r1
  exact call_int_bool ⟨.int (if k then 1 else 0),H,I.tok _,⟨_,rfl⟩,q⟩
theorem gM:cU X (.type "str") (λxs H Q=>∃ i,xs=[.int i] /\ i.natAbs.log2 < 1920 /\ Q (.str (toString i)) H):=by
 intro pins s σ H xs us Q I r h
 obtain ⟨i,rfl,hz,q⟩:=h
 obtain ⟨u,rfl,t,rfl⟩:=vals1 r
 exact PySem.P.str_of_int hz ⟨.str _,H,I.tok _,⟨_,rfl⟩,q⟩
end
structure Dr (h:Heap) (x dx C:Addr) (mA:Str->Option Value):Prop where
 obj:h.get? x=some (PySem.W.instObj C dx)
 ns:h.Ns1 dx mA
 ne:dx≠x
set_option tactic.hygienic true in
theorem we {h:Heap} {dx:Addr} {mA:Str->Option Value} (n:h.Ns1 dx mA):∃ od,h.get? dx=some od /\ ∀ name,PySem.W.lookIn name od=some (mA name):=by
 obtain ⟨o,es,ep,ho,hd,hk,_,hm⟩:=n
 refine ⟨o,ho,λname=>?_⟩
 have e:=hm name
 unfold nsFind findBy at e
 rw [<- Array.find?_toList] at e
 unfold PySem.W.lookIn
 rw [hd]
 dsimp only
 split
 .rename_i y q
  rw [q] at e
  exact Tw some e
 .rename_i q
  rw [q] at e
  have a:es.toList.any (·.refKey)=false:=by
   rw [List.any_eq_false]
   intro y hy
   obtain ⟨z,t,IL⟩:=hk y (UM.mp hy)
   simp [DictEntry.refKey,IL]
  have a':¬ es.toList.any (·.refKey)=true:=by rw [a]; exact RS
  rw [R4 a']
  exact Tw some e
theorem Dr.look {h:Heap} {x dx C:Addr} {mA:Str->Option Value} (I:Dr h x dx C mA):∃ od,PySem.W.InstAt h x (PySem.W.instObj C dx) C (some od) /\ ∀ name,PySem.W.lookIn name od=some (mA name):=
 let ⟨od,ho,hl⟩:=we I.ns
 ⟨od,⟨I.obj,rfl,rfl,ho⟩,hl⟩
section
variable {prog:Program} {w:World} {A:Around} {E:Value->Shared->Prop} {s:Shared} {K:PySem.W.Frag} {x dx C f:Addr} {mA:Str->Option Value} {name:Str} {v:Value}
end
section
variable {P:Program} {w:World} {H H':Hp} {h h':Heap} {a C dx:Addr} {fs Nv:List (Str×V)}
theorem Ay (bo:kx P w H h) (e:H a=some (.ins C dx fs)):∃ mA,Dr h a dx C mA /\ (∀ f,CU (fs.lookup f) (mA f)) /\ PySem.Within mA (fs.map (·.1)) /\ fs.length<=1000 /\ H dx=some (.own a):=by
 obtain ⟨d,z,ne,ob,mA,n,r,q⟩:=(show cA P w H h a (.ins C dx fs) from bo a _ e)
 exact ⟨mA,⟨ob,n,ne⟩,r,q,z,d⟩
end
structure IM (K:PySem.W.Frag) (C:Addr):Prop where
 pg:PySem.W.plainGet K C Str.empty=true
 hd:PySem.W.hasDictIn K C=true
 po:PySem.W.plainOver K C=true
 sa:PySem.W.findIn K (.ref C) "__setattr__"=some (some (.builtin "object.__setattr__"))
theorem IM.get {K:PySem.W.Frag} {C:Addr} (c:IM K C) (f:Str):PySem.W.plainGet K C f=true:=c.pg
section
variable {X:Cx} {pins:List (Addr×Obj)} {σ:St} {H:Hp} {s:Shared} {a C dx:Addr} {fs:List (Str×V)} {f:Str} {v:V} {A:Around} {E:Value->Shared->Prop}
end
section
variable {X:Cx} {o e value:Expr} {f:Str} {pos pos' qS:Pos} {ta tv:TE}
end
section
variable {X:Cx} {pins:List (Addr×Obj)} {σ:St} {H:Hp} {s:Shared} {A:Around} {E:Value->Shared->Prop} {Q:Value->Shared->Prop} {c:Value} {b:Bool}
inductive kD (K:PySem.W.Frag) (H:Hp):V->Value->Prop where
 | fF:kD K H .fF (.type "NoneType")
 | bl (x:Bool):kD K H (.bl x) (.type "bool")
 | int (i:Int):kD K H (.int i) (.type "int")
 | str (x:Str):kD K H (.str x) (.type "str")
 | E5 (x:UInt64):kD K H (.E5 x) (.type "float")
 | lst {a:Addr} {xs:List V} (e:H a=some (.lst xs)):kD K H (.ref a) (.type "list")
 | lY {a:Addr} {o:Obj} {xs:List V} (e:H a=some (.lY o (.lst xs))):kD K H (.ref a) (.type "list")
 | tup {a:Addr} {xs:List V} (e:H a=some (.tup xs)):kD K H (.ref a) (.type "tuple")
 | dK {a:Addr} {eY:List (Key×V)} (e:H a=some (.dK eY)):kD K H (.ref a) (.type "dict")
 | dT {a:Addr} {eY:List (List Key×V)} (e:H a=some (.dT eY)):kD K H (.ref a) (.type "dict")
 | ins {a C dx:Addr} {fs:List (Str×V)} (e:H a=some (.ins C dx fs)) (cl:IM K C) (ha:PySem.W.findIn K (.ref C) "__class__"=some (some (.builtin "object.__class__")))
   (hn:PySem.W.specialIn K (.builtin "object.__class__") "__get__"=some (some (.builtin "getset_descriptor.__get__"))) (Mt:PySem.W.takesIn K (.builtin "object.__class__")=some true)
   (hm:PySem.W.mroIn K C (.type "object")=some true):kD K H (.ref a) (.ref C)
theorem wg {x:V} {u t:Value} (I:Inv X pins σ H s) (rx:RelV x u) (ty:kD X.K H x t) (e:PySem.W.kitOne X.K t c=some b) (h:∀ tk,Q (.bool b) { s with toks:=tk }):
  wpAny (model X.prog X.w) A (call (.builtin "isinstance") [u,c]) Q E s:=by
 cases ty with
 | fF=>cases (show u=Value.none from rx); exact SE PySem.W.kitx_none I.j5 True.intro e (λz=>nomatch z) h
 | bl y=>cases (show u=Value.bool y from rx); exact SE PySem.W.kitx_bool I.j5 True.intro e (λz=>nomatch z) h
 | int i=>obtain ⟨t,q⟩:=(show ∃ t,u=Value.int i t from rx); cases q; exact SE PySem.W.kitx_int I.j5 True.intro e (λz=>nomatch z) h
 | str y=>obtain ⟨t,q⟩:=(show ∃ t,u=Value.str y t from rx); cases q; exact SE PySem.W.kitx_str I.j5 True.intro e (λz=>nomatch z) h
 | E5 y=>obtain ⟨t,q⟩:=(show ∃ t,u=Value.float y t from rx); cases q; exact SE PySem.W.kitx_float I.j5 True.intro e (λz=>nomatch z) h
 | @lst a xs ea=>
   cases (show u=Value.ref a from rx)
   obtain ⟨_,_,n,_,h1⟩:=(show cA X.prog X.w H s.heap a (.lst xs) from I.bo a _ ea)
   exact SE Vb I.j5 ⟨_,h1,rfl⟩ e (λz=>nomatch z) h
 | @lY a ob xs ea=>
   cases (show u=Value.ref a from rx)
   obtain ⟨_,_,_,n,_,h1⟩:=(show cA X.prog X.w H s.heap a (.lY ob (.lst xs)) from I.bo a _ ea)
   exact SE Vb I.j5 ⟨_,h1,rfl⟩ e (λz=>nomatch z) h
 | @tup a xs ea=>
   cases (show u=Value.ref a from rx)
   obtain ⟨_,_,_,p⟩:=(show cA X.prog X.w H s.heap a (.tup xs) from I.bo a _ ea)
   obtain ⟨o,h1,h2,_⟩:=p
   exact SE PySem.W.kitx_tuple I.j5 ⟨o,h1,h2⟩ e (λz=>nomatch z) h
 | @dK a eY ea=>
   cases (show u=Value.ref a from rx)
   obtain ⟨_,_,vs,_,p⟩:=(show cA X.prog X.w H s.heap a (.dK eY) from I.bo a _ ea)
   obtain ⟨o,es,ep,h1,h2,_⟩:=p
   exact SE PySem.W.kitx_dict I.j5 ⟨o,h1,h2.1⟩ e (λz=>nomatch z) h
 | @dT a eY ea=>
   cases (show u=Value.ref a from rx)
   obtain ⟨_,_,xs,_,o,es,ep,h1,h2,_⟩:=(show cA X.prog X.w H s.heap a (.dT eY) from I.bo a _ ea)
   exact SE PySem.W.kitx_dict I.j5 ⟨o,h1,h2.1⟩ e (λz=>nomatch z) h
 | @ins a C dx fs ea cl ha hn Mt hm=>
   cases (show u=Value.ref a from rx)
   obtain ⟨mA,O,_⟩:=Ay I.bo ea
   obtain ⟨od,J,_⟩:=O.look
   exact SE (PySem.W.kitx_own (cl.get _) cl.hd ha hn Mt hm) I.j5 J e (λz=>nomatch z) h
end
structure dQ (k:Nat) (A:Around):Prop where
 hd:A.handled=none
 dp:A.depth + 3 * k + 5 < recursionLimit
 un:A.units + 16 * k + 200 < cLine
theorem dQ.mono {j k:Nat} {A:Around} (r:dQ k A) (h:j<=k):dQ j A:=⟨r.hd,by have:=r.dp; omega,by have:=r.un; omega⟩
theorem dQ.deeper {k:Nat} {A:Around} (r:dQ (k + 1) A) (env:Env):dQ k (A.deeper env):=
 ⟨r.hd,by have:=r.dp; show A.depth + 1 + 3 * k + 5 < _; omega,by have:=r.un; show A.units + 3 + 16 * k + 200 < _; omega⟩
theorem dQ.depth {k:Nat} {A:Around} (r:dQ k A):A.depth < recursionLimit:=by have:=r.dp; omega
theorem dQ.units {k:Nat} {A:Around} (r:dQ k A):A.units + 64 < cLine:=by have:=r.un; omega
def F4:TA:=λ_ H Q=>Q [] H
def Ca (ta:TE) (tr:TA):TA:=λσ H Q=>ta σ H λx H1=>tr σ H1 λxs H2=>Q (x :: xs) H2
section
variable {X:Cx} {e:Expr} {es:List Expr} {te:TE} {t:TA} {pos:Pos}
theorem el:PA X [] F4:=λ_ _ _ _ H Q I h=>Calls.spliced_nil ⟨[],H,I,.nil,h⟩
theorem cq (ha:PE X e te) (hr:PA X es t) (hs:starEach (e :: es) X.env=(false,eval e X.env) :: starEach es X.env:=by rfl):PA X (e :: es) (Ca te t):=by
 intro pos pins s σ H Q I h
 rw [hs]
 show wpAny _ _ (spliced ((false,eval e X.env) :: backTo pos (starEach es X.env))) _ _ s
 refine Calls.spliced_cons (eh (ha pins s σ H _ I h) λu s1 ⟨x,H1,I1,r1,q1⟩=>?_)
 exact eh (hr pos pins s1 σ H1 _ I1 q1) λus s2 ⟨xs,H2,I2,r2,q2⟩=>⟨x :: xs,H2,I2,.cons r1 r2,q2⟩
def IP (t:TA):TE:=λσ H Q=>t σ H λxs H1=>xs.length<=sizeLine /\ ∀ p,H1 p=none->Q (.ref p) (upd H1 p (.tup xs))
def IQ (t:TA):TE:=λσ H Q=>t σ H λxs H1=>xs.length<=sizeLine /\ ∀ p,H1 p=none->Q (.ref p) (upd H1 p (.lst xs))
theorem Ds {x1} (h:PA X es t):PE X (.Tuple es x1 pos) (IP t):=by
 intro pins s σ H Q I hq
 refine wpAny_Tuple_spliced (eh (h pos pins s σ H _ I hq) λus s1 ⟨xs,H1,I1,r,z,q⟩=>⟨by rw [<- r.length]; exact z,?_⟩)
 have hf:H1 s1.heap.objs.size=none:=I1.bo.fresh (RO _)
 refine ⟨.ref s1.heap.objs.size,upd H1 s1.heap.objs.size (.tup xs),I1.laid (t':=s1.toks) (λb u e=>RG _ e) (RO _) ?_,rfl,q _ hf⟩
 exact ⟨z,us,r,⟨_,RU _ rfl,rfl,_,rfl⟩⟩
theorem Dt (h:PA X es t):PE X (.List es pos) (IQ t):=by
 intro pins s σ H Q I hq
 refine wpAny_List_spliced (eh (h pos pins s σ H _ I hq) λus s1 ⟨xs,H1,I1,r,z,q⟩=>⟨by rw [<- r.length]; exact z,?_⟩)
 have hf:H1 s1.heap.objs.size=none:=I1.bo.fresh (RO _)
 refine ⟨.ref s1.heap.objs.size,upd H1 s1.heap.objs.size (.lst xs),I1.laid (t':=s1.toks) (λb u e=>RG _ e) (RO _) ?_,rfl,q _ hf⟩
 exact ⟨z,us,0,r,RU _ rfl⟩
end
abbrev Sp:=List V->Hp->VK->XK->Prop
abbrev xx:=List Env->Hp->Shared->XK->Value->Shared->Prop
structure wj (P:Program) (w:World) (K:PySem.W.Frag) (mg:Str->Option Value) (base:Heap) (A:Around) (outer:List Env) (s:Shared) (H:Hp):Prop where
 frames:A.frames=some outer
 mod:Mod K mg base
 bs:∀ b o,base.get? b=some o->s.heap.get? b=some o /\ H b=none
 qK:base.objs.size<=s.heap.objs.size
 fq:s.heap.FunFrames base outer
 qL:∀ b∈ip outer,H b=none
 bo:kx P w H s.heap
 bare:AllBare s.gens
def CE (outer:List Env) (P:Program) (w:World) (H:Hp) (s:Shared) (Q:VK) (u:Value) (s':Shared):Prop:=
 ∃ v H',s'.os=s.os /\ AllBare s'.gens /\ Un (ip outer) [] H H' s.heap s'.heap /\ kx P w H' s'.heap /\ RelV v u /\ Q v H'
def CR (CX:xx) (outer:List Env) (P:Program) (w:World) (H:Hp) (s:Shared) (Q:VK) (E:XK) (r:Result) (s':Shared):Prop:=
 match r with
 | .ok (.ret u)=>CE outer P w H s Q u s'
 | .ok _=>False
 | .error e=>CX outer H s E e s'
structure ly (P:Program) (w:World) (K:PySem.W.Frag) (mg:Str->Option Value) (base:Heap) (CX:xx) (k:Nat) (f:Addr) (fd:FuncData) (ps:List Str) (sp:Sp):Prop where
 len:∀ vs H Q E,sp vs H Q E->vs.length=ps.length
 run:∀ (A:Around) (outer:List Env) (s:Shared) (H:Hp) (args:Args) (us:List Value) (vs:List V) (Q:VK) (E:XK),dQ k A->wj P w K mg base A outer s H->BindsTo s fd args (ps.zip us)->aO vs us->sp vs H Q E->
  codeAny (model P w) A (.call (.ref f) args) (CR CX outer P w H s Q E) s
section
variable {X:Cx} {pins:List (Addr×Obj)} {σ:St} {H:Hp} {s s':Shared}
theorem Inv.F5 (I:Inv X pins σ H s):wj X.prog X.w X.K X.mg X.base X.A X.stack s H:=
 ⟨I.ok.frames,I.ok.mod,I.bs,Sj I.ok.qK I.sz,I.stack,I.lL,I.bo,I.bare⟩
theorem Inv.after {Q:VK} {u:Value} (I:Inv X pins σ H s) (h:CE X.stack X.prog X.w H s Q u s'):EP X pins σ Q u s':=by
 obtain ⟨v,H',os,bare,un,bo,r,q⟩:=h
 obtain ⟨hh,g,d,t,IS⟩:=s'
 obtain rfl:IS=s.os:=os
 exact ⟨v,H',I.call (h':=hh) (g':=g) (d':=d) (t':=t) (ch:=[]) un bo bare (λb z=>absurd z (by simp)),r,q⟩
end
def l8 (sp:Sp) (Cb:List V) (E:XK) (t:TA):TE:=λσ H Q=>t σ H λvs H1=>sp (vs ++ Cb) H1 Q E
def Binds (K:PySem.W.Frag) (fd:FuncData) (ps:List Str) (ds:List Value):Prop:=
 ∀ (s:Shared) (us:List Value),K.In s.heap->(us ++ ds).length=ps.length->BindsTo s fd ⟨us,[]⟩ (ps.zip (us ++ ds))
theorem Binds.all {K:PySem.W.Frag} {fd:FuncData} {ps:List Str} (h:∀ us:List Value,us.length=ps.length->bindArgs fd ⟨us,[]⟩=pure (ps.zip us)):Binds K fd ps []:=λs us _ hl=>by
 rw [SI] at hl ⊢
 exact .of_eq (h us hl)
def kE (CX:xx) (X:Cx) (E:XK):Prop:=∀ (pins:List (Addr×Obj)) (σ:St) (H:Hp) (s:Shared) (e:Value) (s':Shared),Inv X pins σ H s->CX X.stack H s E e s'->X.xe e s'
section
variable {X:Cx} {CX:xx} {k:Nat} {f C:Addr} {fd:FuncData} {ps:List Str} {sp:Sp} {Cb:List V} {ds:List Value} {E:XK} {x m:Str} {p pos apos:Pos} {e o:Expr} {es:List Expr} {ta:TE} {t:TA}
theorem Du {pins:List (Addr×Obj)} {σ:St} {H:Hp} {s:Shared} {Q:VK} {us:List Value} {vs:List V} (F:ly X.prog X.w X.K X.mg X.base CX k f fd ps sp) (hr:dQ k X.A) (hb:Binds X.K fd ps ds) (hd:aO Cb ds) (hx:kE CX X E)
  (I:Inv X pins σ H s) (r:aO vs us) (h:sp (vs ++ Cb) H Q E):wpAny (model X.prog X.w) X.A (call (.ref f) us) (EP X pins σ Q) X.xe s:=by
 have r2:aO (vs ++ Cb) (us ++ ds):=r.append hd
 have hl:(us ++ ds).length=ps.length:=by rw [<- r2.length]; exact F.len _ _ _ _ h
 refine wpAny_call (Ud (F.run X.A X.stack s H ⟨us,[]⟩ (us ++ ds) (vs ++ Cb) Q E hr I.F5 (hb s us I.j5 hl) r2 h) λr s' hq=>?_)
 cases r with
 | error e=>exact hx pins σ H s e s' I hq
 | ok fl=>
   cases fl with
   | ret u=>exact I.after hq
   | next=>exact False.elim hq
   | brk=>exact False.elim hq
   | cont=>exact False.elim hq
theorem uY (F:ly X.prog X.w X.K X.mg X.base CX k f fd ps sp) (hr:dQ k X.A) (hg:Gl X x) (hm:X.mg x=some (.ref f)) (hk:PySem.W.keepIn X.K (.ref f)=true) (hb:Binds X.K fd ps ds) (hd:aO Cb ds) (hx:kE CX X E)
  (ha:PA X (e :: es) t) (nF:(x == ("__debug__":Str))=false:=by decide) (he:starEach (e :: es) X.env=(false,eval e X.env) :: starEach es X.env:=by rfl) (gA:(backTo pos (starEach es X.env)).any (·.1)=false:=by rfl):
  PE X (.Call (.Name x p) (e :: es) [] pos) (l8 sp Cb E t):=by
 intro pins s σ H Q I h
 refine Uq (j7 I hg hm ?_ nF)
 refine PySem.W.callWith_K (h₀:=X.base) I.ok.mod.FE hk (eh (ha pos pins s σ H _ I h) λus s1 ⟨vs,H1,I1,r,q⟩=>⟨I1.j5,?_⟩) he gA
 exact Du F hr hb hd hx I1 r q
end
section
variable {X:Cx} {CX:xx} {k:Nat} {f C:Addr} {fd:FuncData} {ps ks:List Str} {sp:Sp} {E:XK} {x m:Str} {p pos apos NC:Pos} {e o:Expr} {es:List Expr} {Rn:List Keyword} {te ta:TE} {t tk:TA} {nm:Option Str}
variable {g:List Value->List Value->List Value} {gV:List V->List V->List V}
end
structure aN (N P:List Str) (sc:Scope):Prop where
 kind:sc.kind=.function
 co:sc.isCoroutine=false
 gen:sc.isGenerator=false
 nd:N.Nodup
 pre:N.take P.length=P
 par:∀ x∈P,sc.names.lookup x=some .local \/ sc.names.lookup x=some .cell
 Dv:∀ y∈sc.names,y.2≠.free
theorem oj {kindOf:Str->Option NameKind} {x:Str}:∀ {binds:List (Str×Value)} {m:Str->Option Value},(∀ v,(x,v)∉binds)->bindL kindOf binds m x=m x
 | [],_,_=>rfl
 | (n,v) :: r,m,h=>by
   unfold bindL
   rw [oj λw hw=>h w (RM _ hw)]
   split
   .have:x≠n:=by rintro rfl; exact h v RK
    simp [this]
   .rfl
theorem om {kindOf:Str->Option NameKind} {x:Str}:∀ {binds:List (Str×Value)} {m:Str->Option Value},(∀ v,(x,v)∉binds)->bindC kindOf binds m x=m x
 | [],_,_=>rfl
 | (n,v) :: r,m,h=>by
   unfold bindC
   rw [om λw hw=>h w (RM _ hw)]
   split
   .rfl
   .have:x≠n:=by rintro rfl; exact h v RK
    simp [this]
theorem oo {kindOf:Str->Option NameKind} {x:Str} {v:Value}:∀ {P:List Str} {vs:List Value} {i:Nat} {m:Str->Option Value},P.Nodup->P[i]?=some x->vs[i]?=some v->kindOf x=some .local->
  bindL kindOf (P.zip vs) m x=some v
 | [],_,_,_,_,h,_,_=>by simp at h
 | _ :: _,[],_,_,_,_,h,_=>by simp at h
 | p :: P,w :: vs,0,m,nd,h1,h2,hk=>by
   simp at h1 h2; subst h1; subst h2
   show bindL kindOf ((p,w) :: P.zip vs) m p=_
   unfold bindL
   rw [oj λv hv=>(List.nodup_cons.mp nd).1 (UR hv).1,RV hk]
   simp
 | p :: P,w :: vs,i + 1,m,nd,h1,h2,hk=>by
   show bindL kindOf ((p,w) :: P.zip vs) m x=_
   unfold bindL
   exact oo (i:=i) (List.nodup_cons.mp nd).2 (by simpa using h1) (by simpa using h2) hk
theorem oq {kindOf:Str->Option NameKind} {x:Str} {v:Value}:∀ {P:List Str} {vs:List Value} {i:Nat} {m:Str->Option Value},P.Nodup->P[i]?=some x->vs[i]?=some v->kindOf x≠some .local->
  bindC kindOf (P.zip vs) m x=some v
 | [],_,_,_,_,h,_,_=>by simp at h
 | _ :: _,[],_,_,_,_,h,_=>by simp at h
 | p :: P,w :: vs,0,m,nd,h1,h2,hk=>by
   simp at h1 h2; subst h1; subst h2
   show bindC kindOf ((p,w) :: P.zip vs) m p=_
   unfold bindC
   rw [om λv hv=>(List.nodup_cons.mp nd).1 (UR hv).1,R4 hk]
   simp
 | p :: P,w :: vs,i + 1,m,nd,h1,h2,hk=>by
   show bindC kindOf ((p,w) :: P.zip vs) m x=_
   unfold bindC
   exact oq (i:=i) (List.nodup_cons.mp nd).2 (by simpa using h1) (by simpa using h2) hk
def start (N:List Str) (vs:List V):St:=vs.map some ++ List.replicate (N.length - vs.length) none
def du (CX:xx) (P:Program) (w:World) (K:PySem.W.Frag) (mg:Str->Option Value) (base:Heap) (N:List Str) (qual:Str) (scope:Scope) (f:Addr) (cd:Value) (A:Around) (outer:List Env) (s:Shared) (H:Hp) (E:XK):Cx where
 prog:=P
 w:=w
 K:=K
 mg:=mg
 base:=base
 A:=A.deeper (envOfC qual scope s.heap.objs.size f cd)
 N:=N
 ee:=s
 xG:=H
 env:=envOfC qual scope s.heap.objs.size f cd
 outer:=outer
 stack:=envOfC qual scope s.heap.objs.size f cd :: outer
 ex:=[]
 calm:=true
 fn:=λ_=>true
 pn:=[]
 xe:=λe s'=>wpAny (model P w) (A.deeper (envOfC qual scope s.heap.objs.size f cd)) (leaving (envOfC qual scope s.heap.objs.size f cd) e) (λ_ F6=>CX outer H s E e F6) (λe' F6=>CX outer H s E e' F6) s'
theorem qT {sc:Scope} {n:Nat} {x:Str} (h:sc.names.lookup x=some .cell):∃ c,(cellsFrom n sc.names []).lookup x=some c:=by
 have q:=PySem.W.cellsFrom_some sc.names n [] (.inl h)
 exact Option.isSome_iff_exists.mp q
theorem ou {CX:xx} {P:Program} {w:World} {K:PySem.W.Frag} {mg:Str->Option Value} {base:Heap} {N ps:List Str} {qual:Str} {scope:Scope} {f:Addr} {cd:Value} {A:Around} {outer:List Env} {s s1:Shared} {H:Hp} {E:XK} {us:List Value} {vs:List V}
  (S:aN N ps scope) (hd:A.handled=none) (e0:wj P w K mg base A outer s H) (hl:vs.length=ps.length) (r:aO vs us)
  (x:InCallC s s.heap.objs.size (bindL (envOfC qual scope s.heap.objs.size f cd).kindOf (ps.zip us) λ_=>none) (cellsFrom (s.heap.objs.size + 1) scope.names []) (bindC (envOfC qual scope s.heap.objs.size f cd).kindOf (ps.zip us) λ_=>none) s1):
  Inv (du CX P w K mg base N qual scope f cd A outer s H E) [] (start N vs) H s1:=by
 have gA:ps.length<=N.length:=by have:=Tw List.length S.pre; rw [SJ] at this; omega
 obtain ⟨h1,tk,rfl,hk⟩:=x.done
 have F7:∀ b:Addr,b∉(du CX P w K mg base N qual scope f cd A outer s H E).ex:=λb z=>absurd (show b∈([]:List Addr) from z) (by simp)
 refine ⟨⟨e0.mod,S.kind,rfl,rfl,RO _,λy z c h1 h2=>?_,λy hy=>?_,λy c _ h=>?_,λ_=>hd,Around.frames_deeper e0.frames,.inr ⟨rfl,rfl⟩,λb z=>absurd z (F7 b),e0.bs,e0.qK,λb _ _=>F7 b,λb z=>absurd z (F7 b),e0.fq,e0.qL⟩,
  rfl,e0.bare,Un.kept hk,⟨_,x.toInCall.ns,λi y v h1 h2 h3=>?_⟩,λy c h=>⟨_,x.cell y c h⟩,e0.bo.fresh (RO _),λy c h=>?_,λp hp=>absurd (show p∈([]:List (Addr×Obj)) from hp) (by simp),e0.bo.kept hk,?_⟩
 .exact name_of_addr x.apart (TN h1) (TN h2)
 .have hy:scope.names.lookup y=some .cell \/ scope.names.lookup y=some .free:=hy
  rcases hy with hy | hy
  .exact qT hy
  .exact absurd rfl (S.Dv _ (TN hy))
 .exact T4 (x.above y c (TN h))
 .have hi:i < vs.length:=by
   unfold start at h2
   by_cases hi:i < vs.length
   .exact hi
   .rw [List.getElem?_append_right (by simpa using hi)] at h2
    rw [List.getElem?_replicate] at h2
    split at h2 <;> cases h2
  have ha:vs[i]?=some v:=by
   unfold start at h2
   rw [List.getElem?_append_left (by simpa using hi),List.getElem?_map] at h2
   cases e:vs[i]? with
   | none=>rw [e] at h2; cases h2
   | some a=>rw [e] at h2; cases h2; rfl
  obtain ⟨u,hu,rv⟩:=r.get ha
  have hp:ps[i]?=some y:=by
   rw [<- S.pre,List.getElem?_take_of_lt (by omega)]; exact h1
  have Mu:ps.Nodup:=by rw [<- S.pre]; exact S.nd.sublist (List.take_sublist _ _)
  refine ⟨u,rv,?_⟩
  rcases S.par y (SW hp) with k | k
  .exact .inl ⟨k,oo Mu hp hu k⟩
  .obtain ⟨c,e⟩:=qT (n:=s.heap.objs.size + 1) k
   refine .inr ⟨.inl k,c,e,?_⟩
   have q:=x.cell y c e
   rw [oq Mu hp hu (by show scope.names.lookup y≠_; rw [k]; decide)] at q
   exact q
 .exact e0.bo.fresh (T4 (x.above y c (TN h)))
 .unfold start
  show _=N.length
  rw [SO,RJ,T8]
  omega
theorem Cd {CX:xx} {P:Program} {w:World} {K:PySem.W.Frag} {mg:Str->Option Value} {base:Heap} {k:Nat} {f:Addr} {name qual:Str} {params:Arguments} {body:List Stmt} {scope:Scope} {dV kV doc pm b6 ct oc:Value} {an od:Option Addr}
  {tz:Array (Option Value)} {N ps:List Str} {sp:Sp} (lk:K.lookup f=some ⟨oc,od,.func (PySem.W.fnOf name qual params body scope dV kV doc pm an b6 ct),tz⟩) (nB:PySem.W.codeIn K b6 qual=true) (S:aN N ps scope)
  (len:∀ vs H Q E,sp vs H Q E->vs.length=ps.length)
  (ka:∀ (A:Around) (outer:List Env) (s:Shared) (H:Hp) (vs:List V) (Q:VK) (E:XK),dQ k (A.deeper (envOfC qual scope s.heap.objs.size f b6))->sp vs H Q E->
   ∃ t,iS (du CX P w K mg base N qual scope f b6 A outer s H E) body t /\ t { nx:=λ_ H'=>Q .fF H',rt:=Q } (start N vs) H):
  ly P w K mg base CX (k + 1) f (PySem.W.fnOf name qual params body scope dV kV doc pm an b6 ct) ps sp:=by
 refine ⟨len,λA outer s H args us vs Q E hr e0 hb r xX=>?_⟩
 have hl:=len _ _ _ _ xX
 have KX:K.In s.heap:=e0.mod.FE.keeps λb o e=>(e0.bs b o e).1
 have lim:s.heap.NoLimit:=e0.mod.nolimit.keeps λb o e=>(e0.bs b o e).1
 have xY:∀ y∈ps.zip us,scope.names.lookup y.1=some .local \/ (scope.names.lookup y.1=some .cell /\ ((cellsFrom (s.heap.objs.size + 1) scope.names []).lookup y.1).isSome=true):=λ⟨n,v⟩ hy=>by
  rcases S.par n (UR hy).1 with q | q
  .exact .inl q
  .exact .inr ⟨q,PySem.W.cellsFrom_some _ _ _ (.inl q)⟩
 refine codeAny_call_function hr.depth (KX _ _ lk) rfl S.co S.gen rfl (PySem.W.codeRec_of KX nB) (hb _ _ _ _ ?_)
 refine wpAny_newFunctionEnv_cells S.kind xY λenv he s1 x=>?_
 subst he
 refine ⟨lim.keeps x.toInCall.keep,codeAny_func ?_⟩
 obtain ⟨t,ht,hq⟩:=ka A outer s H vs Q E (hr.deeper _) xX
 have I:Inv (du CX P w K mg base N qual scope f b6 A outer s H E) [] (start N vs) H s1:=ou S hr.hd e0 hl r x
 refine R7 (ht [] s1 (start N vs) H _ I hq) (λfl s' hs=>?_) λe s' hs=>hs
 have fin:∀ {bO:St} {H':Hp} {v:V} {u:Value},Inv (du CX P w K mg base N qual scope f b6 A outer s H E) [] bO H' s'->RelV v u->Q v H'->CE outer P w H s Q u s':=
  λ{bO H' v u} J rv q=>⟨v,H',J.os,J.bare,J.base,J.bo,rv,q⟩
 cases fl with
 | ret u=>
   obtain ⟨v,bO,H',J,rv,q⟩:=hs
   exact fin J rv q
 | next=>
   obtain ⟨bO,H',J,q⟩:=hs
   exact fin (v:=V.fF) (u:=Value.none) J rfl q
 | brk=>
   obtain ⟨_,_,_,q⟩:=hs
   exact False.elim q
 | cont=>
   obtain ⟨_,_,_,q⟩:=hs
   exact False.elim q
section
variable {X:Cx} {x:Str} {p pos:Pos} {e:Expr} {es:List Expr} {t:TA} {id T:String} {r:List V->Hp->VK->Prop}
def HJ (r:List V->Hp->VK->Prop) (t:TA):TE:=λσ H Q=>t σ H λvs H1=>r vs H1 Q
theorem kb (hc:cU X (.builtin id) r) (hg:Gl X x) (hm:X.mg x=none) (hv:bootBuiltins x=some (.builtin id)) (ha:PA X (e :: es) t) (hn:x≠"__name__":=by decide) (nF:(x == ("__debug__":Str))=false:=by decide)
  (he:starEach (e :: es) X.env=(false,eval e X.env) :: starEach es X.env:=by rfl) (gA:(backTo pos (starEach es X.env)).any (·.1)=false:=by rfl):PE X (.Call (.Name x p) (e :: es) [] pos) (HJ r t):=by
 intro pins s σ H Q I h
 refine Uq (kA I hg hm hv ?_ hn nF)
 exact PyProof.Rows.callWith_builtin1 (eh (ha pos pins s σ H _ I h) λus s1 ⟨vs,H1,I1,r1,q1⟩=>hc pins s1 σ H1 vs us Q I1 r1 q1) he gA
theorem iT (hc:cU X (.type T) r) (hg:Gl X x) (hm:X.mg x=none) (hv:bootBuiltins x=some (.type T)) (ha:PA X (e :: es) t) (hn:x≠"__name__":=by decide) (nF:(x == ("__debug__":Str))=false:=by decide)
  (he:starEach (e :: es) X.env=(false,eval e X.env) :: starEach es X.env:=by rfl) (gA:(backTo pos (starEach es X.env)).any (·.1)=false:=by rfl):PE X (.Call (.Name x p) (e :: es) [] pos) (HJ r t):=by
 intro pins s σ H Q I h
 refine Uq (kA I hg hm hv ?_ hn nF)
 exact Tq (eh (ha pos pins s σ H _ I h) λus s1 ⟨vs,H1,I1,r1,q1⟩=>hc pins s1 σ H1 vs us Q I1 r1 q1) he gA
end
end L2
namespace HT
open PySem PyProof.Rows
section
open PySem.SeqAt
open PySem.AutoSeq1 (wpAny_loadPart')
open PySem.MeetsSeq PySem.MeetsSeq2 PySem.MeetsSeq3
end
section
variable {prog:Program} {w:World} {A:Around} {E:Value->Shared->Prop} {s:Shared}
theorem Az {t b:Addr} {vs ws:List Value} {Q:Value->Shared->Prop} (ht:IsTup s.heap t vs.toArray) (hb:IsTup s.heap b ws.toArray) (hv:vs≠[])
  (h1:ws=[]->Q (.ref t) s) (h2:ws≠[]->Q (.ref s.heap.objs.size) { s with heap:=s.heap.push { cls:=.type "tuple",data:=.seq (vs ++ ws).toArray } })
  (AA:vs.length + ws.length<=sizeLine):wpAny (model prog w) A (binaryOp .Add (.ref t) (.ref b)) Q E s:=by
 obtain ⟨⟨cls,dd,data,sl⟩,ho,hc,n,hd⟩:=id ht
 obtain ⟨⟨ND,Mv,data2,AB⟩,lK,hc2,n2,hd2⟩:=id hb
 simp only at hc hd hc2 hd2
 subst hc hd hc2 hd2
 have e:vs.toArray ++ ws.toArray=(vs ++ ws).toArray:=by simp
 by_cases hw:ws=[]
 .exact concat_meets ⟨_,ho,rfl⟩ ⟨_,lK,rfl⟩ noFill_tuple_add seq_tuple_add Ux Ut (Uh _ _)
   (tuple_addW1 t b vs.toArray ws.toArray n n2 dd Mv sl AB (by simpa using hv) (by simp [hw])) ⟨ho,lK,h1 hw⟩
 .refine concat_meets ⟨_,ho,rfl⟩ ⟨_,lK,rfl⟩ noFill_tuple_add seq_tuple_add Ux Ut (Uh _ _)
   (tuple_addW2 t b vs.toArray ws.toArray n n2 dd Mv sl AB (by simpa using hv) (by simpa using hw) (by rw [List.size_toArray,List.size_toArray]; exact AA)) ⟨ho,lK,?_⟩
  rw [e]
  exact h2 hw
def kY (n d:Nat):Option Int->Nat
 | none=>d
 | some v=>if v < 0 then (v + (n:Int)).toNat else min v.toNat n
theorem uZ (n d k:Nat):kY n d (some (k:Int))=min k n:=by
 show (if (k:Int) < 0 then ((k:Int) + (n:Int)).toNat else min (k:Int).toNat n)=min k n
 rw [R4 (by omega),SR]
end
end HT
namespace L2
open PySem PySem.Spec PyProof.Rows
abbrev TO:=St->Hp->(Option Int->Hp->Prop)->Prop
def PO (X:Cx) (e:Option Expr) (t:TO):Prop:=
 ∀ (pins:List (Addr×Obj)) (s:Shared) (σ:St) (H:Hp) (Q:Option Int->Hp->Prop),Inv X pins σ H s->t σ H Q->
   wpAny (model X.prog X.w) X.A (evalPart e X.env) (λu s'=>∃ o H',Inv X pins σ H' s' /\ IsPart u o /\ Q o H') X.xe s
def AD:TO:=λ_ H Q=>Q none H
def F8 (t:TE):TO:=λσ H Q=>t σ H λx H1=>∃ i,x=.int i /\ Q (some i) H1
theorem intsAre_of {ns:List Int}:∀ {us:List Value},aO (ns.map V.int) us->IntsAre us ns:=by
 induction ns with
 | nil=>intro us r; rw [UW] at r; cases r; exact .nil
 | cons n ns ih=>
   intro us r
   rw [RY] at r
   cases r with
   | cons r1 r2=>
     obtain ⟨t,e⟩:=r1
     subst e
     exact .cons n t (ih r2)
section
variable {X:Cx} {e:Expr} {te:TE} {lo hi:Option Expr} {tl th:TO} {pos p2:Pos}
theorem AE:PO X none AD:=by
 intro pins s σ H Q I h
 rw [evalPart_none]
 exact RQ ⟨none,H,I,.none,h⟩
theorem AF (h:PE X e te):PO X (some e) (F8 te):=by
 intro pins s σ H Q I hw
 rw [evalPart_some]
 refine eh (h pins s σ H _ I hw) λu s1 ⟨x,H1,I1,r1,q1⟩=>?_
 obtain ⟨i,rfl,q⟩:=q1
 obtain ⟨t,rfl⟩:=r1
 exact ⟨some i,H1,I1,.int i t,q⟩
def IT (X:Cx) (r:V->Option Int->Option Int->Hp->VK->Prop):Prop:=
 ∀ (pins:List (Addr×Obj)) (s:Shared) (σ:St) (H:Hp) (x:V) (v vl vu:Value) (lo hi:Option Int) (sl:Addr) (Q:VK),Inv X pins σ H s->RelV x v->s.heap.IsSliceOf sl vl vu .none->IsPart vl lo->IsPart vu hi->r x lo hi H Q->
   ∃ T id,typeLookup (.type T) "__getitem__"=pure (some (.builtin id)) /\ s.TypeIs v T /\ wpAny (model X.prog X.w) X.A (getItem v (.ref sl)) (EP X pins σ Q) X.xe s
def NF (r:V->Option Int->Option Int->Hp->VK->Prop) (te:TE) (tl th:TO):TE:=λσ H Q=>te σ H λx H1=>tl σ H1 λl H2=>th σ H2 λu H3=>r x l u H3 Q
theorem qU {r:V->Option Int->Option Int->Hp->VK->Prop} (hr:IT X r) (he:PE X e te) (hl:PO X lo tl) (hu:PO X hi th):PE X (.Subscript e (.Slice lo hi none p2) pos) (NF r te tl th):=by
 intro pins s σ H Q I h
 refine Subscript_ (eh (he pins s σ H _ I h) λv s1 ⟨x,H1,I1,r1,q1⟩=>?_)
 refine wpAny_Slice (eh (hl pins s1 σ H1 _ I1 q1) λvl s2 ⟨l,H2,I2,pl,q2⟩=>eh (hu pins s2 σ H2 _ I2 q2) λvu s3 ⟨u,H3,I3,pu,q3⟩=>?_)
 rw [evalPart_none]
 refine RQ ?_
 have I4:Inv X pins σ H3 { s3 with heap:=s3.heap.push { cls:=.type "slice",data:=.fields #[vl,vu,.none] } }:=I3.kept (t':=s3.toks) λb ob q=>RG _ q
 obtain ⟨T,id,hT,ht,hg⟩:=hr pins { s3 with heap:=s3.heap.push { cls:=.type "slice",data:=.fields #[vl,vu,.none] } } σ H3 x v vl vu l u s3.heap.objs.size Q I4 r1 (Heap.IsSliceOf.new ..) pl pu q3
 show wpAny (model X.prog X.w) X.A (subscriptTail e (.Slice lo hi none p2) v (.ref s3.heap.objs.size)) (EP X pins σ Q) X.xe { s3 with heap:=s3.heap.push { cls:=.type "slice",data:=.fields #[vl,vu,.none] } }
 exact tail_any (ops:=[.ref s3.heap.objs.size,v]) ht hT hg (by with_unfolding_all rfl)
def xZ (xs:List V) (lo hi:Option Int):List V:=(xs.drop (HT.kY xs.length 0 lo)).take (HT.kY xs.length xs.length hi - HT.kY xs.length 0 lo)
theorem qV (xs:List V) (lo hi:Option Int):(xZ xs lo hi).length<=xs.length:=by
 unfold xZ
 rw [SJ,Ue]
 omega
def Ce (K:PySem.W.Frag):R2:=λx y H Q=>∃ a b xs ys,x=.ref a /\ y=.ref b /\ jl K H a xs /\ jl K H b ys /\ xs≠[] /\ xs.length + ys.length<=sizeLine /\
 (ys=[]->Q (.ref a) H) /\ (ys≠[]->∀ p,H p=none->Q (.ref p) (upd H p (.tup (xs ++ ys))))
theorem aO.lO {xs:List V} {us:List Value} (r:aO xs us):us=[]↔xs=[]:=by
 cases r with
 | nil=>simp
 | cons _ _=>simp
theorem AG:gz X (binaryOp .Add) (Ce X.K):=by
 intro pins s σ H x y v u Q I rx ry h
 obtain ⟨a,b,xs,ys,rfl,rfl,ha,hb,hx,hz,q1,q2⟩:=h
 cases rx
 cases ry
 obtain ⟨its,r1,p1,_⟩:=I.tuple ha
 obtain ⟨ya,r2,p2,_⟩:=I.tuple hb
 refine HT.Az p1 p2 (λz=>hx (r1.lO.mp z)) (λz=>⟨.ref a,H,I,rfl,q1 (r2.lO.mp z)⟩) (λz=>?_) (by rw [<- r1.length,<- r2.length]; exact hz)
 refine ⟨.ref s.heap.objs.size,_,I.laid (t':=s.toks) (o:=.tup (xs ++ ys)) (λb ob q=>RG _ q) (RO _) ?_,rfl,q2 (λw=>z (r2.lO.mpr w)) _ (I.bo.fresh (RO _))⟩
 exact ⟨by rw [SO]; exact hz,_,r1.append r2,IsTup.new _ _⟩
end
def yb (n:Nat) (i:Int):Option Nat:=if 0<=i then (if i < n then some i.toNat else none) else if -(n:Int)<=i then some (i + n).toNat else none
def lP {α:Type} (xs:List α) (i:Int):Option α:=(yb xs.length i).bind λj=>xs[j]?
theorem u0 {n:Nat} {i:Int} {j:Nat} (h:yb n i=some j):seqIndex? i n=some j /\ j < n /\ -(n:Int)<=i /\ i < n:=by
 unfold yb at h
 by_cases h0:0<=i
 .rw [RV h0] at h
  by_cases h1:i < n
  .rw [RV h1] at h
   have e:i.toNat=j:=Su h
   exact ⟨by rw [seqIndex_of h0 h1,e],by omega,by omega,h1⟩
  .rw [R4 h1] at h; cases h
 .rw [R4 h0] at h
  by_cases h1: -(n:Int)<=i
  .rw [RV h1] at h
   have e:(i + n).toNat=j:=Su h
   exact ⟨by rw [seqIndex_neg (by omega) h1,e],by omega,h1,by omega⟩
  .rw [R4 h1] at h; cases h
theorem ph {α:Type} {xs:List α} {i:Int} {v:α} (h:lP xs i=some v):∃ j,seqIndex? i xs.length=some j /\ xs[j]?=some v /\ j < xs.length /\ -(xs.length:Int)<=i /\ i < xs.length:=by
 unfold lP at h
 cases e:yb xs.length i with
 | none=>rw [e] at h; cases h
 | some j=>
   rw [e] at h
   obtain ⟨h1,h2,h3,h4⟩:=u0 e
   exact ⟨j,h1,h,h2,h3,h4⟩
theorem eP {α:Type} {xs:List α} {j:Nat} {v:α} (h:xs[j]?=some v):lP xs (j:Int)=some v:=by
 have hj:j < xs.length:=(Sh.mp h).1
 have e:yb xs.length (j:Int)=some j:=by
  unfold yb
  rw [RV (by omega),RV (by omega)]; simp
 unfold lP; rw [e]; exact h
def u3 (b:Expr):Prop:=∀ o i,subscripted b false o i=operate [o,i] (getItem o i)
def AH (X:Cx) (r:R2):Prop:=
 ∀ (value slice:Expr) (pins:List (Addr×Obj)) (s:Shared) (σ:St) (H:Hp) (x y:V) (v u:Value) (Q:VK),Inv X pins σ H s->RelV x v->RelV y u->r x y H Q->
   subscripted slice false v u=operate [v,u] (getItem v u)->wpAny (model X.prog X.w) X.A (subscriptTail value slice v u) (EP X pins σ Q) X.xe s
def HK (X:Cx) (id:String) (r:V->List V->Hp->VK->Prop):Prop:=
 ∀ (pins:List (Addr×Obj)) (s:Shared) (σ:St) (H:Hp) (x:V) (xs:List V) (v:Value) (us:List Value) (Q:VK),Inv X pins σ H s->RelV x v->aO xs us->r x xs H Q->
   wpAny (model X.prog X.w) X.A (call (.builtin id) (v :: us)) (EP X pins σ Q) X.xe s
section
variable {X:Cx} {a b:Expr} {ta tb:TE} {pos:Pos}
theorem AH.or {r r':R2} (h:AH X r) (h':AH X r'):AH X (λx y H Q=>r x y H Q \/ r' x y H Q):=by
 intro value slice pins s σ H x y v u Q I rx ry q hs
 rcases q with q | q
 .exact h value slice pins s σ H x y v u Q I rx ry q hs
 .exact h' value slice pins s σ H x y v u Q I rx ry q hs
theorem F9 {r:R2} (hr:AH X r) (ha:PE X a ta) (hb:PE X b tb) (hs:u3 b):PE X (.Subscript a b pos) (E7 r ta tb):=by
 intro pins s σ H Q I h
 exact Subscript_ (Di ha hb I h λv u s2 x y H2 I2 rx ry q=>hr a b pins s2 σ H2 x y v u Q I2 rx ry q (hs _ _))
def Ga (K:PySem.W.Frag):R2:=λx y H Q=>∃ p xs i v,x=.ref p /\ y=.int i /\ ie K H p xs /\ lP xs i=some v /\ Q v H
def Gb (K:PySem.W.Frag):R2:=λx y H Q=>∃ p xs i v,x=.ref p /\ y=.int i /\ jl K H p xs /\ lP xs i=some v /\ Q v H
def Gc:R2:=λx y H Q=>∃ z i c,x=.str z /\ y=.int i /\ z.length<=sizeLine /\ lP z.cps.toList i=some c /\ Q (.str ⟨#[c]⟩) H
theorem AI:AH X (Ga X.K):=by
 intro value slice pins s σ H x y v u Q I rx ry h hs
 obtain ⟨p,xs,i,z,rfl,rfl,hq,he,q⟩:=h
 cases rx
 obtain ⟨t,rfl⟩:=ry
 obtain ⟨its,r,pl,hz⟩:=I.list hq
 obtain ⟨j,h1,h2,h3,h4,h5⟩:=ph he
 obtain ⟨w,ew,IU⟩:=r.get h2
 have hl:=r.length
 have hn:=jx
 have fin:EP X pins σ Q w s:=⟨z,H,I,IU,q⟩
 by_cases h0:0<=i
 .have hj:i.toNat=j:=by
   rw [seqIndex_of h0 h5] at h1
   exact Su h1
  exact item_listR pl.isList h0 (by omega) (by rw [hj]; simpa using ew) fin hs
 .have hj:(i + (its.toArray.size:Int)).toNat=j:=by
   rw [seqIndex_neg (by omega) h4] at h1
   rw [RZ,<- hl]
   exact Su h1
  exact subscriptTail_builtinR (x:=w) pl.isList.typeIs slot_list_getitem.lookup
   (wpAny_getItem_list_neg (Q:=λr s'=>r=w /\ EP X pins σ Q r s') pl.isList (by omega) (by rw [List.size_toArray] <;> omega) (by omega) (by rw [hj]; simpa using ew) ⟨rfl,fin⟩) hs
theorem Dw:AH X (Gb X.K):=by
 intro value slice pins s σ H x y v u Q I rx ry h hs
 obtain ⟨p,xs,i,z,rfl,rfl,hq,he,q⟩:=h
 cases rx
 obtain ⟨t,rfl⟩:=ry
 obtain ⟨its,r,pl,hz⟩:=I.tuple hq
 obtain ⟨j,h1,h2,h3,h4,h5⟩:=ph he
 obtain ⟨w,ew,IU⟩:=r.get h2
 have hl:=r.length
 have hn:=jx
 have fin:EP X pins σ Q w s:=⟨z,H,I,IU,q⟩
 exact subscriptTail_builtinR (x:=w) pl.typeIs slot_tuple_getitem.lookup
  (getItem_tuple (j:=j) (Q:=λr s'=>r=w /\ EP X pins σ Q r s') pl (by omega) (by omega) (by rw [List.size_toArray,<- hl]; exact h1) (by simpa using ew) ⟨rfl,fin⟩) hs
theorem Dx:AH X Gc:=by
 intro value slice pins s σ H x y v u Q I rx ry h hs
 obtain ⟨z,i,c,rfl,rfl,hz,he,q⟩:=h
 obtain ⟨t,rfl⟩:=rx
 obtain ⟨t',rfl⟩:=ry
 obtain ⟨j,h1,h2,h3,h4,h5⟩:=ph he
 have hl:z.cps.toList.length=z.length:=by simp [Str.length]
 rw [hl] at h1 h4 h5
 have hn:=jx
 exact tail_any (U0 s z t) slot_str_getitem.lookup (getItem_str (c:=c) (by
  have e1:decide (i < -(2 ^ 63:Int))=false:=Si (by omega)
  have e2:decide (i >=2 ^ 63)=false:=Si (by omega)
  rw [e1,e2,Bool.or_false]) (by rw [h1]; simpa using h2) ⟨.str ⟨#[c]⟩,H,I.tok _,⟨_,rfl⟩,q⟩) hs
def Mw (K:PySem.W.Frag):R2:=λx y H Q=>Ga K x y H Q \/ Gb K x y H Q \/ Gc x y H Q
theorem Dy:AH X (Mw X.K):=AI.or (Dw.or Dx)
theorem tB (its:List Value) (n j:Nat) (u:Value):Obj.mapSeq (·.setIfInBounds j u) { cls:=.type "list",data:=.seq its.toArray n }={ cls:=.type "list",data:=.seq (its.set j u).toArray n }:=by
 simp [Obj.mapSeq]
theorem Inv.lst {pins:List (Addr×Obj)} {σ:St} {H:Hp} {s:Shared} {p:Addr} {xs:List V} (I:Inv X pins σ H s) (h:H p=some (.lst xs)):
  ∃ (its:List Value) (n:Nat),aO xs its /\ s.heap.get? p=some { cls:=.type "list",data:=.seq its.toArray n } /\ xs.length<=sizeLine:=by
 obtain ⟨z,its,n,r,e⟩:=I.bo p _ h
 exact ⟨its,n,r,e,z⟩
theorem Inv.Dz {pins:List (Addr×Obj)} {σ:St} {H:Hp} {s:Shared} {p:Addr} {xs ys:List V} {its its':List Value} {n n':Nat} {f:Obj->Obj} (I:Inv X pins σ H s) (h:H p=some (.lst xs))
  (ho:s.heap.get? p=some { cls:=.type "list",data:=.seq its.toArray n }) (hf:f { cls:=.type "list",data:=.seq its.toArray n }={ cls:=.type "list",data:=.seq its'.toArray n' }) (r:aO ys its') (hz:ys.length<=sizeLine) (t:Nat):
  Inv X pins σ (upd H p (.lst ys)) { s with heap:=s.heap.update p f,toks:=t }:=by
 have e:(s.heap.update p f).get? p=some { cls:=.type "list",data:=.seq its'.toArray n' }:=by
  rw [Sq f ho (by rw [hf] <;> rfl),hf]
 refine I.write (x:=p) (e:=p) (by rw [h]; trivial) (.inl rfl) (λb u hb q=>(Se _ _ (Tf hb)).trans q) ⟨_,e⟩ ?_
 exact ⟨hz,its',n',r,e⟩
def Cf:V->V->V->Hp->(Hp->Prop)->Prop:=λo i v H Q=>∃ p xs k j,o=.ref p /\ i=.int k /\ H p=some (.lst xs) /\ yb xs.length k=some j /\ Q (upd H p (.lst (xs.set j v)))
theorem set_list:FQ X Cf:=by
 intro pins s σ H o i v ov iv u Q I ro ri rv h
 obtain ⟨p,xs,k,j,rfl,rfl,hp,hj,q⟩:=h
 cases ro
 obtain ⟨t,rfl⟩:=ri
 obtain ⟨its,n,r,ho,hz⟩:=I.lst hp
 obtain ⟨h1,h2,h3,h4⟩:=u0 hj
 have hl:=r.length
 have hn:=jx
 have I':Inv X pins σ (upd H p (.lst (xs.set j v))) { s with heap:=s.heap.update p (Obj.mapSeq (·.setIfInBounds j u)) }:=
  I.Dz hp ho (tB its n j u) (r.set rv j) (by rw [Sr]; exact hz) s.toks
 by_cases h0:0<=k
 .have hk:k.toNat=j:=by
   rw [seqIndex_of h0 h4] at h1
   exact Su h1
  exact PySem.W.ki_setAt ho h0 (by omega) (by rw [RZ,<- hl]; exact h4) (by rw [hk]; exact ⟨_,I',q⟩)
 .have hk:(k + (its.toArray.size:Int)).toNat=j:=by
   rw [seqIndex_neg (by omega) h3] at h1
   rw [RZ,<- hl]
   exact Su h1
  exact PySem.W.ki_setBack ho (by omega) (by rw [RZ,<- hl]; exact h3) (by omega) (by rw [hk]; exact ⟨_,I',q⟩)
theorem pj (lo hi:Option Int) (n:Nat):(sliceBounds lo hi none n).1=((HT.kY n 0 lo:Nat):Int) /\ (sliceBounds lo hi none n).2.1=((HT.kY n n hi:Nat):Int) /\ (sliceBounds lo hi none n).2.2=1:=by
 refine ⟨?_,?_,rfl⟩
 .cases lo with
  | none=>simp [sliceBounds,HT.kY]
  | some i=>
    simp only [sliceBounds,HT.kY,Option.getD_none,show (1:Int) > 0 by decide,if_true]
    by_cases h:i < 0
    .simp only [h,if_true] <;> omega
    .simp only [h,if_false] <;> omega
 .cases hi with
  | none=>simp [sliceBounds,HT.kY]
  | some i=>
    simp only [sliceBounds,HT.kY,Option.getD_none,show (1:Int) > 0 by decide,if_true]
    by_cases h:i < 0
    .simp only [h,if_true] <;> omega
    .simp only [h,if_false] <;> omega
theorem nG (its:List Value) (lo hi:Option Int):slicePick its.toArray lo hi none=((its.drop (HT.kY its.length 0 lo)).take (HT.kY its.length its.length hi - HT.kY its.length 0 lo)).toArray:=by
 obtain ⟨h1,h2,h3⟩:=pj lo hi its.toArray.size
 unfold slicePick
 rw [h1,h2,h3]
 simp only [sliceRange_one,pick_run,RZ] <;> rfl
def IV (K:PySem.W.Frag):V->Option Int->Option Int->Hp->VK->Prop:=λx lo hi H Q=>∃ a xs,x=.ref a /\ ie K H a xs /\ ∀ p,H p=none->Q (.ref p) (upd H p (.lst (xZ xs lo hi)))
theorem AJ:IT X (IV X.K):=by
 intro pins s σ H x v vl vu lo hi sl Q I rx hs pl pu h
 obtain ⟨a,xs,rfl,hx,q⟩:=h
 cases rx
 obtain ⟨its,r,ht,hz⟩:=I.list hx
 have hlen:=r.length
 refine ⟨"list",_,slot_list_getitem.lookup,ht.isList.typeIs,?_⟩
 refine wpAny_getItem_list_slice ht.isList hs pl pu .none (by simp) ?_ (by rw [RZ] <;> omega)
 rw [nG,<- hlen]
 refine ⟨.ref s.heap.objs.size,_,I.laid (t':=s.toks) (o:=.lst (xZ xs lo hi)) (λb ob q=>RG _ q) (RO _) ?_,rfl,q _ (I.bo.fresh (RO _))⟩
 exact ⟨Sj (qV xs lo hi) hz,_,0,(r.drop (HT.kY xs.length 0 lo)).take (HT.kY xs.length xs.length hi - HT.kY xs.length 0 lo),RU _ rfl⟩
def ij:V->Bool
 | .fF=>true
 | .bl _=>true
 | .int _=>true
 | .str _=>true
 | _=>false
def Ad:V->V->Bool
 | .fF,.fF=>true
 | .bl a,.bl b=>a == b
 | .bl a,.int b=>(if a then 1 else 0) == b
 | .int a,.bl b=>a == (if b then 1 else 0)
 | .int a,.int b=>a == b
 | .str a,.str b=>a == b
 | _,_=>false
theorem DA {A:Around} {s:Shared} {y x:V} {u v:Value} (ry:RelV y u) (rx:RelV x v) (fy:ij y=true) (fx:ij x=true):SeqAt.EqAt A s u v (Ad y x):=by
 cases y with
 | fF=>
   cases ry
   cases x with
   | fF=>cases rx; exact SeqAt.EqAt.same _
   | bl b=>cases rx; exact SeqAt.EqAt.none_bool b
   | int b=>obtain ⟨t,rfl⟩:=rx; exact SeqAt.EqAt.none_int b t
   | str b=>obtain ⟨t,rfl⟩:=rx; exact SeqAt.EqAt.none_str b t
   | _=>exact absurd (show false=true from fx) RS
 | bl a=>
   cases ry
   cases x with
   | fF=>cases rx; exact SeqAt.EqAt.bool_none a
   | bl b=>cases rx; exact SeqAt.EqAt.bool_bool a b
   | int b=>obtain ⟨t,rfl⟩:=rx; exact SeqAt.EqAt.bool_int a b t
   | str b=>obtain ⟨t,rfl⟩:=rx; exact SeqAt.EqAt.bool_str a b t
   | _=>exact absurd (show false=true from fx) RS
 | int a=>
   obtain ⟨t',rfl⟩:=ry
   cases x with
   | fF=>cases rx; exact SeqAt.EqAt.int_none a t'
   | bl b=>cases rx; exact SeqAt.EqAt.int_bool a t' b
   | int b=>obtain ⟨t,rfl⟩:=rx; exact SeqAt.EqAt.int_int a t' b t
   | str b=>obtain ⟨t,rfl⟩:=rx; exact SeqAt.EqAt.int_str a t' b t
   | _=>exact absurd (show false=true from fx) RS
 | str a=>
   obtain ⟨t',rfl⟩:=ry
   cases x with
   | fF=>cases rx; exact SeqAt.EqAt.str_none a t'
   | bl b=>cases rx; exact SeqAt.EqAt.str_bool a t' b
   | int b=>obtain ⟨t,rfl⟩:=rx; exact SeqAt.EqAt.str_int a t' b t
   | str b=>obtain ⟨t,rfl⟩:=rx; exact SeqAt.EqAt.str_str a t' b t
   | _=>exact absurd (show false=true from fx) RS
 | _=>exact absurd (show false=true from fy) RS
def AK (x:V) (u:Value):Bool:=match u with
 | .none=>Ad .fF x
 | .bool b=>Ad (.bl b) x
 | .int i _=>Ad (.int i) x
 | .str z _=>Ad (.str z) x
 | _=>false
theorem yc {x y:V} {u:Value} (r:RelV y u) (f:ij y=true):AK x u=Ad y x:=by
 cases y with
 | fF=>cases r; rfl
 | bl b=>cases r; rfl
 | int i=>obtain ⟨t,rfl⟩:=r; rfl
 | str z=>obtain ⟨t,rfl⟩:=r; rfl
 | _=>exact absurd (show false=true from f) RS
theorem pk {x:V}:∀ {xs:List V} {us:List Value},aO xs us->xs.all ij=true->us.any (AK x)=xs.any λy=>Ad y x
 | _,_,.nil,_=>rfl
 | y :: xs,u :: us,.cons r t,f=>by
   rw [Ui,RT] at f
   rw [List.any_cons,List.any_cons,yc r f.1,pk t f.2]
theorem l9 {A:Around} {s:Shared} {x:V} {v:Value} (rx:RelV x v) (fx:ij x=true):∀ {xs:List V} {us:List Value},aO xs us->xs.all ij=true->∀ u∈us,SeqAt.EqAt A s u v (AK x u)
 | _,_,.nil,_=>λu hu=>by cases hu
 | y :: xs,u :: us,.cons r t,f=>λu' hu=>by
   rw [Ui,RT] at f
   rcases RN.mp hu with rfl | hu
   .rw [yc r f.1]; exact DA r rx f.1 fx
   .exact l9 rx fx t f.2 u' hu
def E8 (x:V) (xs:List V):Bool:=xs.any λy=>Ad y x
def IW (K:PySem.W.Frag) (neg:Bool):R2:=λx y H Q=>∃ p xs,y=.ref p /\ (ie K H p xs \/ jl K H p xs) /\ ij x=true /\ xs.all ij=true /\ Q (.bl (if neg then !E8 x xs else E8 x xs)) H
theorem wm:gz X (compareOp .In) (IW X.K false):=by
 intro pins s σ H x y v u Q I rx ry h
 obtain ⟨p,xs,rfl,hq,fx,fs,q⟩:=h
 cases ry
 rcases hq with hq | hq
 .obtain ⟨its,r,pl,hz⟩:=I.list hq
  refine SeqAt.in_listAt (AK x) pl.isList (λw hw=>l9 rx fx r fs w (by simpa using hw)) ⟨.bl _,H,I,rfl,?_⟩
  rw [show its.toArray.any (AK x)=its.any (AK x) by simp,pk r fs]
  exact q
 .obtain ⟨its,r,pl,hz⟩:=I.tuple hq
  refine SeqAt.in_tupleAt (AK x) pl (λw hw=>l9 rx fx r fs w (by simpa using hw)) ⟨.bl _,H,I,rfl,?_⟩
  rw [show its.toArray.any (AK x)=its.any (AK x) by simp,pk r fs]
  exact q
theorem pq:cU X (.builtin "len") (λxs H Q=>∃ p ys,xs=[.ref p] /\ (ie X.K H p ys \/ jl X.K H p ys) /\ Q (.int ys.length) H):=by
 intro pins s σ H xs us Q I r h
 obtain ⟨p,ys,rfl,hq,q⟩:=h
 obtain ⟨u,rfl,rx⟩:=vals1 r
 cases rx
 have hn:=jx
 rcases hq with hq | hq
 .obtain ⟨its,r',pl,hz⟩:=I.list hq
  have hlen:=r'.length
  exact Calls.call_len_list pl.isList (by simp only [RZ] <;> omega) ⟨.int ys.length,H,I.tok _,⟨s.toks + 1,by rw [RZ,hlen]⟩,q⟩
 .obtain ⟨its,r',pl,hz⟩:=I.tuple hq
  have hlen:=r'.length
  exact len_tuple pl (by simp only [RZ] <;> omega) ⟨.int ys.length,H,I.tok _,⟨s.toks + 1,by rw [RZ,hlen]⟩,q⟩
theorem pw:cU X (.builtin "len") (λxs H Q=>∃ z,xs=[.str z] /\ z.length<=sizeLine /\ Q (.int z.length) H):=by
 intro pins s σ H xs us Q I r h
 obtain ⟨z,rfl,hz,q⟩:=h
 obtain ⟨u,rfl,t,rfl⟩:=vals1 r
 have hn:=jx
 exact len_str (by omega) ⟨.int z.length,H,I.tok _,⟨_,rfl⟩,q⟩
theorem cU.or {f:Value} {r r':List V->Hp->VK->Prop} (h:cU X f r) (h':cU X f r'):cU X f (λxs H Q=>r xs H Q \/ r' xs H Q):=by
 intro pins s σ H xs us Q I rs q
 rcases q with q | q
 .exact h pins s σ H xs us Q I rs q
 .exact h' pins s σ H xs us Q I rs q
theorem kc:cU X (.type "list") (λxs H Q=>∃ p ys,xs=[.ref p] /\ (ie X.K H p ys \/ jl X.K H p ys) /\ ∀ l,H l=none->Q (.ref l) (upd H l (.lst ys))):=by
 intro pins s σ H xs us Q I r h
 obtain ⟨p,ys,rfl,hq,q⟩:=h
 obtain ⟨u,rfl,rx⟩:=vals1 r
 cases rx
 have fin:∀ (its:List Value),aO ys its->ys.length<=sizeLine->∀ (h':Heap) (c':Nat),(∀ b o',s.heap.get? b=some o'->h'.get? b=some o')->
   h'.get? s.heap.objs.size=some { cls:=.type "list",dict:=none,data:=.seq its.toArray c',slots:=#[] }->EP X pins σ Q (.ref s.heap.objs.size) { s with heap:=h' }:=λits r' hz h' c' kp e=>
  ⟨.ref s.heap.objs.size,_,I.laid (t':=s.toks) kp (RO _) (show cA X.prog X.w _ h' _ (.lst ys) from ⟨hz,its,c',r',e⟩),rfl,q _ (I.bo.fresh (RO _))⟩
 rcases hq with hq | hq
 .obtain ⟨its,r',pl,hz⟩:=I.list hq
  have hlen:=r'.length
  obtain ⟨o,ho,hc,n,hd⟩:=pl.isList
  exact call_list_seq p (.inl rfl) ho hc hd (λh' c' kp e=>fin its r' hz h' c' kp e) (by simp only [RZ] <;> omega)
 .obtain ⟨its,r',pl,hz⟩:=I.tuple hq
  have hlen:=r'.length
  obtain ⟨o,ho,hc,n,hd⟩:=pl
  exact call_list_seq p (.inr rfl) ho hc hd (λh' c' kp e=>fin its r' hz h' c' kp e) (by simp only [RZ] <;> omega)
theorem dF:cU X (.type "tuple") (λxs H Q=>∃ p ys,xs=[.ref p] /\ ((ie X.K H p ys /\ ∀ l,H l=none->Q (.ref l) (upd H l (.tup ys))) \/ (jl X.K H p ys /\ Q (.ref p) H))):=by
 intro pins s σ H xs us Q I r h
 obtain ⟨p,ys,rfl,h⟩:=h
 obtain ⟨u,rfl,rx⟩:=vals1 r
 cases rx
 rcases h with ⟨hq,q⟩ | ⟨hq,q⟩
 .obtain ⟨its,r',pl,hz⟩:=I.list hq
  have hlen:=r'.length
  refine call_tuple_list pl.isList (λh' kp=>?_) (by simp only [RZ] <;> omega)
  have I1:Inv X pins σ H { s with heap:=h' }:=I.kept (t':=s.toks) kp
  have I2:Inv X pins σ (upd H h'.objs.size (.tup ys)) { s with heap:=h'.push { cls:=.type "tuple",data:=.seq its.toArray } }:=
   I1.laid (t':=s.toks) (λb o e=>RG _ e) (RO _) (show cA X.prog X.w _ _ _ (.tup ys) from ⟨hz,its,r',IsTup.new _ _⟩)
  exact ⟨.ref h'.objs.size,_,I2,rfl,q _ (I1.bo.fresh (RO _))⟩
 .obtain ⟨its,r',pl,hz⟩:=I.tuple hq
  exact call_tuple_same pl ⟨.ref p,H,I,rfl,q⟩
def Mx (K:PySem.W.Frag) (T:String) (x:V) (H:Hp):Prop:=match x with
 | .str _=>T="str"
 | .int _=>T="int"
 | .ref p=>(T="list" /\ ∃ xs,ie K H p xs) \/ (T="tuple" /\ ∃ o,K.lookup p=some o /\ o.cls=.type "tuple" /\ o.dict=none) \/
   (T="dict" /\ ((∃ eY,H p=some (.dK eY)) \/ ∃ eY,H p=some (.dT eY))) \/ (T="set" /\ ∃ S n,H p=some (.set S n))
 | _=>False
theorem DB {pins:List (Addr×Obj)} {σ:St} {H:Hp} {s:Shared} {T:String} {x:V} {v:Value} (I:Inv X pins σ H s) (r:RelV x v) (ty:Mx X.K T x H):
  s.TypeIs v T /\ ∀ a,v=.ref a->∃ ob,s.heap.get? a=some ob /\ ob.dict=none:=by
 cases x with
 | str z=>
   obtain ⟨t,rfl⟩:=r
   cases (show T="str" from ty)
   exact ⟨U0 s z t,λ_ e=>nomatch e⟩
 | int i=>
   obtain ⟨t,rfl⟩:=r
   cases (show T="int" from ty)
   exact ⟨typeIs_int s i t,λ_ e=>nomatch e⟩
 | ref p=>
   cases r
   rcases ty with ⟨rfl,xs,hq⟩ | ⟨rfl,o,hk,hc,hd⟩ | ⟨rfl,hk⟩ | ⟨rfl,S,n,hk⟩
   .obtain ⟨its,_,pl,_⟩:=I.list hq
    refine ⟨pl.isList.typeIs,λa e=>?_⟩
    cases e
    obtain ⟨o,n,e,c,hd,_⟩:=pl
    exact ⟨o,e,hd⟩
   .refine ⟨⟨o,I.j5 p o hk,hc⟩,λa e=>?_⟩
    cases e
    exact ⟨o,I.j5 _ o hk,hd⟩
   .have z:∃ o,s.heap.get? p=some o /\ o.ExactDict:=by
     rcases hk with ⟨eY,hk⟩ | ⟨eY,hk⟩
     .obtain ⟨_,_,_,_,o,_,_,e,ex,_⟩:=I.bo p _ hk
      exact ⟨o,e,ex⟩
     .obtain ⟨_,_,_,_,o,_,_,e,ex,_⟩:=I.bo p _ hk
      exact ⟨o,e,ex⟩
    obtain ⟨o,e,ex⟩:=z
    refine ⟨⟨o,e,ex.1⟩,λa e2=>?_⟩
    cases e2
    exact ⟨o,e,ex.2.1⟩
   .obtain ⟨o,_,_,_,e,ex,_⟩:=I.bo p _ hk
    refine ⟨⟨o,e,ex.1⟩,λa e2=>?_⟩
    cases e2
    exact ⟨o,e,ex.2.1⟩
 | _=>exact False.elim ty
def My (K:PySem.W.Frag) (T:String) (r:V->List V->Hp->VK->Prop) (to:TE) (t:TA):TE:=λσ H Q=>to σ H λx H1=>Mx K T x H1 /\ t σ H1 λxs H2=>r x xs H2 Q
variable {o e:Expr} {es:List Expr} {to:TE} {t:TA} {name:Str} {apos eE:Pos} {T id:String} {r:V->List V->Hp->VK->Prop}
theorem qW (pa:PlainAttrs T) (slot:Slot T name id) (NG:typeOf (.builtin id)=pure (.type "method_descriptor")) (hm:HK X id r) (ho:PE X o to) (ha:PA X (e :: es) t)
  (qX:attributeBase o name X.env (eval o X.env)=eval o X.env:=by rfl)
  (yd:((backTo eE (starEach (e :: es) X.env)).all (λx=> !x.1) && (backToKw eE (keywordEach [] X.env)).all (λx=>x.1.isSome)
   && decide ((e :: es).length + ([]:List Keyword).length + (if ([]:List Keyword).isEmpty then 0 else 1) < 30))=true:=by rfl)
  (qY:(apos.endLine == eE.line)=true:=by rfl) (hs:starEach (e :: es) X.env=(false,eval e X.env) :: starEach es X.env:=by rfl) (tD:(backTo eE (starEach es X.env)).any (·.1)=false:=by rfl):
  PE X (.Call (.Attribute o name apos) (e :: es) [] eE) (My X.K T r to t):=by
 intro pins s σ H Q I h
 refine wpAny_Call_method_late qX yd qY rfl (eh (ho pins s σ H _ I h) λv s1 ⟨x,H1,I1,r1,ty,q1⟩=>?_)
 obtain ⟨h1,h2⟩:=DB I1 r1 ty
 refine ⟨T,id,pa,slot,NG,h1,h2,?_⟩
 have hA:=ha eE pins s1 σ H1 _ I1 q1
 rw [hs] at hA ⊢
 refine Calls.callWith_builtin (by show (false || (backTo eE (starEach es X.env)).any (·.1))=false; rw [tD] <;> rfl) (Calls.evalArgs_plain ?_)
 exact eh hA λus s2 ⟨vs,H2,I2,r2,q2⟩=>hm pins s2 σ H2 x vs v us Q I2 r1 r2 q2
/- xs.append(e),list.index on a module's tuple .. are HK facts of 06m -/
end
def NH (X:Cx) (id:String) (r:V->List V->Hp->VK->Prop):Prop:=
 ∀ (pins:List (Addr×Obj)) (s:Shared) (σ:St) (H:Hp) (x:V) (xs:List V) (v:Value) (us:List Value) (Q:VK),Inv X pins σ H s->RelV x v->aO xs us->r x xs H Q->
   wpAny (model X.prog X.w) X.A (call (.builtin id) (v :: us)) (EP X pins σ Q) X.xe s
theorem aO.one:∀ {x:V} {us:List Value},aO [x] us->∃ u,us=[u] /\ RelV x u
 | _,_,.cons r .nil=>⟨_,rfl,r⟩
section
variable {X:Cx} {pins:List (Addr×Obj)} {σ:St} {H:Hp} {s:Shared} {l b:Addr} {xs ys zs:List V}
theorem Inv.IY {its its':List Value} {n:Nat} {f:Array Value->Array Value} {t':Nat} (I:Inv X pins σ H s) (hH:H l=some (.lst xs))
  (e:s.heap.get? l=some { cls:=.type "list",data:=.seq its.toArray n }) (hf:f its.toArray=its'.toArray) (hv:aO ys its') (hz:ys.length<=sizeLine):
  Inv X pins σ (upd H l (.lst ys)) { s with heap:=s.heap.update l (Obj.mapSeq f),toks:=t' }:=by
 have q:=Vo e f
 rw [hf] at q
 refine I.write (x:=l) (e:=l) (by rw [hH]; exact trivial) (.inl rfl) (λb' u hb hu=>(Se s.heap (Obj.mapSeq f) (Tf hb)).trans hu) ⟨_,q⟩ ?_
 exact ⟨hz,its',_,hv,q⟩
theorem Inv.IZ {its:List Value} {t':Nat} (I:Inv X pins σ H s) (hv:aO ys its) (hz:ys.length<=sizeLine):
  Inv X pins σ (upd H s.heap.objs.size (.lst ys)) { s with heap:=s.heap.push { cls:=.type "list",data:=.seq its.toArray },toks:=t' }:=
 I.laid (λ_ _ q=>RG _ q) (RO _) ⟨hz,its,0,hv,RU _ rfl⟩
theorem Inv.fresh (I:Inv X pins σ H s):H s.heap.objs.size=none:=I.bo.fresh (RO _)
theorem Inv.Ja (I:Inv X pins σ H s) (hH:H l=some (.lst xs)):xs.length<=sizeLine /\ ∃ (its:List Value) (n:Nat),aO xs its /\ xs.length=its.length /\ s.heap.get? l=some { cls:=.type "list",data:=.seq its.toArray n }:=by
 obtain ⟨z,its,n,r,e⟩:=I.bo l _ hH
 exact ⟨z,its,n,r,r.length,e⟩
end
section
variable {X:Cx}
def u4:V->List V->Hp->VK->Prop:=λx vs H Q=>∃ l xs y,x=.ref l /\ vs=[y] /\ H l=some (.lst xs) /\ xs.length < sizeLine /\ Q .fF (upd H l (.lst (xs ++ [y])))
theorem kF:NH X "list.append" u4:=by
 intro pins s σ H x vs v us Q I rx rv h
 obtain ⟨l,xs,y,rfl,rfl,hH,hz,q⟩:=h
 cases rx
 obtain ⟨u,rfl,ru⟩:=rv.one
 obtain ⟨z,its,n,r,hl,e⟩:=I.Ja hH
 refine U1 S9 ⟨_,e,rfl⟩ UT (UN _ _) (Vc l its.toArray n u (by rw [RZ]; omega)) ⟨e,?_⟩
 refine ⟨.fF,_,I.IY (its':=its ++ [u]) hH e (by simp) (r.append (.cons ru .nil)) ?_,rfl,q⟩
 rw [SO,List.length_singleton]
 omega
end
section
variable {prog:Program} {w:World} {A:Around} {E:Value->Shared->Prop} {s:Shared}
end
section
variable {X:Cx}
end
end L2
namespace Mz
open PySem PySem.W PySem.Calls PyProof.Rows
theorem lz {P:Params} {h:Heap}:∀ (ns:List Int) (vs:List Value),WellAll P h vs (ns.map WData.int)->IntsAre vs ns:=by
 intro ns
 induction ns with
 | nil=>
   intro vs w
   rw [UW] at w
   cases w
   exact .nil
 | cons n ns ih=>
   intro vs w
   rw [RY] at w
   cases w with
   | cons a b=>
     cases a
     exact .cons _ _ (ih _ b)
theorem wq {l:OpenLaw} {n:Nat} (hn:l.most=some n) {P:Params} {h:Heap} {args:List WData} {vals:List Value}
  (AL:l.row.toRowW.claim.pre args=true) (pA:WellAll P h vals args):
  ∃ a vs ns,vals=[Value.ref a] /\ args=[WData.list (ns.map WData.int)] /\ h.get? a=some { cls:=.type "list",data:=.seq vs.toArray } /\ IntsAre vs ns /\ ns.length<=n:=by
 have hsh:WShape.hasAll [] args [.list .int]=true:=(pre_splitW AL).1
 have hc:l.pre.holds [] { args:=args }=true:=(pre_splitW AL).2
 obtain ⟨d,r,rfl,h1,h2⟩:=hasAllW_cons hsh
 obtain rfl:=hasAllW_nil h2
 obtain ⟨xs,rfl,h3⟩:=hasW_list h1
 obtain ⟨ns,rfl⟩:=items_int h3
 have hlen:ns.length<=n:=by
  unfold OpenLaw.pre at hc
  have h4:(WTm.not (.lt (.lit (.int (n:Int))) (.len (.arg 0)))).holds [] { args:=[.list (ns.map .int)] }=true:=by
   have h4:=(holds_andW hc).1
   rw [hn] at h4
   exact h4
  have h5:=condW_of h4 (w_not (w_lt w_lit (w_len_list (w_arg rfl))))
  rw [RJ] at h5
  refine UH λq=>?_
  have q':(n:Int) < ((ns.length:Nat):Int):=by omega
  first
   | (rw [Sl q'] at h5; exact absurd h5 (by decide))
   | (simp at h5; omega)
 cases pA with
 | cons w1 w2=>
   cases w2
   cases w1 with
   | list ho AM=>exact ⟨_,_,ns,rfl,rfl,ho,lz ns _ AM,hlen⟩
theorem wt (l:OpenLaw) (args:List WData):l.row.toRowW.claim.post args (.bool true) args=true:=
 postW_of (r:=l.row.toRowW) (X:=(true == true))
  (show WShape.has [] (.bool true) .bool=true by first | rfl | decide | simp [WShape.has,WShape.arms,WShape.armsAll])
  (show (WTm.eq .res (.lit (.bool true))).value [] { args:=args,res:=some (.bool true),after:=args }=some (.bool (true == true)) from w_eq_bool (w_res rfl) w_lit) rfl
theorem qZ {l:OpenLaw} {n:Nat} {q:Program} {loose:List Str} {XP:(Str->Option Value)->Heap->Prop} {YP:World->Heap->Prop} {d:DefRec}
  (hn:l.most=some n) (Gd:d.params.defaults=[])
  (call:∀ (w:World) (ee a9:Shared) (mg mb:Str->Option Value) (fa:Addr) (o:Obj) (pm cd doc:Value) (a:Addr) (vs:List Value) (ns:List Int),
   Ground q loose [] XP w ee mg mb a9.heap->YP w a9.heap->
   a9.heap.get? fa=some o->o.data=.func (docDef d.name d.params d.body d.scope pm cd doc)->a9.heap.CodeRec cd d.name->mg d.name=some (.ref fa)->
   a9.heap.get? a=some { cls:=.type "list",data:=.seq vs.toArray }->IntsAre vs ns->ns.length<=n->a9.gens=#[]->
   codeAny (model l.prog w) callerA (.call (.ref fa) ⟨[.ref a],[]⟩) (λr s'=>r=.ok (.ret (.bool true)) /\ OldK a9.heap s'.heap /\ s'.os=a9.os /\ AllBare s'.gens) a9):
  WalkO q loose XP YP l.row.toRowW d [] (λf vs=>PySem.call f vs):=by
 intro w ee a9 mg mb G Y fa o pm cd doc dV kV ho hd nB hD Ge hg args vals as AL NI Ro pA Rp
 obtain rfl:dV=.none:=Dflts.none hD Gd
 obtain rfl:kV=.none:=Dflts.noKw hD
 obtain ⟨a,vs,ns,rfl,rfl,DC,hints,hlen⟩:=wq hn AL pA
 refine enter_call (Ud (call w ee a9 mg mb fa o pm cd doc a vs ns G Y ho (fd_plain hd) nB Ge DC hints hlen hg) λr s' hq=>?_)
 obtain ⟨rfl,h2,h3,h4⟩:=hq
 exact ⟨.inl ⟨.bool true,.bool true,[],rfl,λ_=>rfl,.bool true,wt l _,λ_=>⟨List.Pairwise.nil,λ_ hm=>(nomatch hm)⟩⟩,h2,h3,h4⟩
section
variable {prog:Program} {w:World} {A:Around} {E:Value->Shared->Prop} {s:Shared} {K:Frag}
end
end Mz
namespace L2
open PySem PySem.Spec PyProof.Rows
theorem oy:∀ {vs:List Value} {ns:List Int},IntsAre vs ns->aO (ns.map V.int) vs
 | _,_,.nil=>.nil
 | _,_,.cons n t h=>.cons ⟨t,rfl⟩ (oy h)
def NJ (H:Hp):Prop:=∀ b,H b=none \/ ∃ o xs,H b=some (.lY o (.lst xs))
def sS (K:PySem.W.Frag) (H:Hp) (a:Addr) (xs:List V):Prop:=
 Rd H a (.lst xs) \/ ∃ (its:List Value) (n:Nat),K.lookup a=some { cls:=.type "list",data:=.seq its.toArray n } /\ its.length<=sizeLine /\ aO xs its
abbrev sT:xx:=λ_ _ _ _ _ _=>False
abbrev E0:XK:=λ_ _ _=>False
theorem Gf {X:Cx}:kE sT X E0:=λ_ _ _ _ _ _ _ h=>h.elim
structure jY (K:PySem.W.Frag) (x qual:Str) (st:Stmt) (f:Addr) (fd:FuncData):Prop where
 ex:∃ (oc:Value) (od:Option Addr) (kV doc pm:Value) (an:Option Addr) (b6 ct:Value) (tz:Array (Option Value)),
  fd=PySem.W.fnOf x qual (gL st) (cD st) (ai st) .none kV doc pm an b6 ct /\ K.lookup f=some ⟨oc,od,.func fd,tz⟩ /\ PySem.W.codeIn K b6 qual=true
 kp:PySem.W.keepIn K (.ref f)=true
section
variable {P:Program} {w:World} {K:PySem.W.Frag} {mg:Str->Option Value} {base:Heap}
theorem jY.ok {x qual:Str} {st:Stmt} {f:Addr} {fd:FuncData} {N ps:List Str} {k:Nat} {sp:Sp} (F:jY K x qual st f fd) (S:aN N ps (ai st)) (len:∀ vs H Q E,sp vs H Q E->vs.length=ps.length)
  (ka:∀ (b6:Value) (A:Around) (outer:List Env) (s:Shared) (H:Hp) (vs:List V) (Q:VK) (E:XK),dQ k (A.deeper (envOfC qual (ai st) s.heap.objs.size f b6))->sp vs H Q E->
   ∃ t,iS (du sT P w K mg base N qual (ai st) f b6 A outer s H E).B5 (cD st) t /\ t { nx:=λ_ H'=>Q .fF H',rt:=Q } (start N vs) H):ly P w K mg base sT (k + 1) f fd ps sp:=by
 obtain ⟨oc,od,kV,doc,pm,an,b6,ct,tz,rfl,lk,nB⟩:=F.ex
 refine Cd lk nB S len λA outer s H vs Q E hr xX=>?_
 obtain ⟨t,h,q⟩:=ka b6 A outer s H vs Q E hr xX
 exact ⟨t,h.B5,q⟩
theorem jY.binds {x qual:Str} {st:Stmt} {f:Addr} {fd:FuncData} {ps:List Str} (F:jY K x qual st f fd)
  (h:∀ (kV doc pm:Value) (an:Option Addr) (b6 ct:Value) (us:List Value),us.length=ps.length->bindArgs (PySem.W.fnOf x qual (gL st) (cD st) (ai st) .none kV doc pm an b6 ct) ⟨us,[]⟩=pure (ps.zip us)):Binds K fd ps []:=by
 obtain ⟨oc,od,kV,doc,pm,an,b6,ct,tz,rfl,lk,nB⟩:=F.ex
 exact .all (h kV doc pm an b6 ct)
theorem cf {x qual:Str} {st:Stmt} {f:Addr} {oc:Value} {od an:Option Addr} {tz:Array (Option Value)} {kV doc pm b6 ct:Value} (l:K.lookup f=some ⟨oc,od,.func (PySem.W.fnOf x qual (gL st) (cD st) (ai st) .none kV doc pm an b6 ct),tz⟩)
  (c:PySem.W.codeIn K b6 qual=true) (k:PySem.W.keepIn K (.ref f)=true):jY K x qual st f (PySem.W.fnOf x qual (gL st) (cD st) (ai st) .none kV doc pm an b6 ct):=⟨⟨oc,od,kV,doc,pm,an,b6,ct,tz,rfl,l,c⟩,k⟩
end
def Gg:Option NameKind->Bool
 | some .local=>true
 | some .cell=>true
 | some .free=>true
 | _=>false
theorem DD {sc:Scope} {x:Str} (h:Gg (sc.names.lookup x)=true):E6 sc x:=by
 unfold E6
 cases e:sc.names.lookup x with
 | none=>rw [e] at h; cases h
 | some k=>
   rw [e] at h
   cases k <;> first | exact .inl rfl | exact .inr (.inl rfl) | exact .inr (.inr rfl) | cases h
section
variable {X:Cx}
theorem pv (i:Nat) {x:Str} {pos:Pos} (hN:X.N[i]?=some x:=by rfl) (hv:Gg (X.env.scope.names.lookup x)=true:=by rfl) (hd:(x == ("__debug__":Str))=false:=by decide)
  (nB:(x == ("__classdict__":Str))=false:=by decide):PE X (.Name x pos) (sX i):=CZ hN (DD hv) hd nB
end
def av (H H':Hp):Prop:=∀ b o,H b=some o->H' b=some o
theorem av.refl (H:Hp):av H H:=λ_ _ h=>h
theorem av.trans {H H1 H2:Hp} (a:av H H1) (b:av H1 H2):av H H2:=λc o h=>b c o (a c o h)
theorem av.free {H H':Hp} (e:av H H') {l:Addr} (h:H' l=Option.none):H l=Option.none:=by
 cases q:H l with
 | none=>rfl
 | some o=>
   rw [e l o q] at h
   cases h
end L2
set_option maxHeartbeats 4000000
namespace L2
open PySem PySem.Spec PyProof.Rows
section
variable {X:Cx}
theorem iU:gz X (binaryOp .Mult) (rI IntMulOk λi j=>.int (i * j)):=HI λ_ _ _ _ _ _ _ hc q=>mul_int q hc
def ye (i j:Int):Prop:=j≠0 /\ Builtin.divisionGoesByPylong i j=false
theorem eZ:gz X (binaryOp .FloorDiv) (rI ye λi j=>.int (i.fdiv j)):=HI λ_ _ _ _ _ _ _ hc q=>floordiv_int hc.1 q (.inl hc.2)
theorem wu {i j:Int} (h:Builtin.Int.intBits j<=9000):Builtin.divisionGoesByPylong i j=false:=by
 refine PyProof.noPylong_of_log2 ?_
 unfold Builtin.Int.intBits at h
 by_cases hj:j=0
 .subst hj; decide +kernel
 .rw [if_neg (by simpa using hj)] at h
  omega
theorem mul_right {i j:Int} (h1: -(2 ^ 64) < j) (h2:j < 2 ^ 64):IntMulOk i j:=.of_right (intBits_le_64 h1 h2)
def MA (K:PySem.W.Frag) (H:Hp) (x:V) (t:String):Prop:=
 kD K H x (.type t) \/ (∃ a xs,x=.ref a /\ jl K H a xs /\ t="tuple") \/ (∃ a xs,x=.ref a /\ ie K H a xs /\ t="list")
def Jb (K:PySem.W.Frag):List V->Hp->VK->Prop:=λxs H Q=>∃ x n t b,xs=[x,.ty n] /\ MA K H x t /\ PySem.W.kitOne K (.type t) (.type n)=some b /\ Q (.bl b) H
theorem yf:cU X (.builtin "isinstance") (Jb X.K):=by
 intro pins s σ H xs us Q I r h
 obtain ⟨x,n,t,b,rfl,ty,e,q⟩:=h
 obtain ⟨u1,u2,rfl,r1,r2⟩:∃ u1 u2,us=[u1,u2] /\ RelV x u1 /\ RelV (.ty n) u2:=by
  cases r with
  | cons p q=>cases q with
    | cons p' q'=>cases q'; exact ⟨_,_,rfl,p,p'⟩
 cases (show u2=Value.type n from r2)
 have fin:∀ tk,EP X pins σ Q (.bool b) { s with toks:=tk }:=λtk=>⟨.bl b,H,I.tok _,rfl,q⟩
 rcases ty with ty | ⟨a,ys,rfl,hq,rfl⟩ | ⟨a,ys,rfl,hq,rfl⟩
 .exact wg I r1 ty e fin
 .cases (show u1=Value.ref a from r1)
  obtain ⟨its,_,p,_⟩:=I.tuple hq
  obtain ⟨o,h1,h2,_⟩:=p
  exact SE PySem.W.kitx_tuple I.j5 ⟨o,h1,h2⟩ e (λz=>nomatch z) fin
 .cases (show u1=Value.ref a from r1)
  obtain ⟨its,_,p,_⟩:=I.list hq
  obtain ⟨o,n,h1,h2,_⟩:=p
  exact SE Vb I.j5 ⟨o,h1,h2⟩ e (λz=>nomatch z) fin
theorem yg {K:PySem.W.Frag} {t:String}:PySem.W.kitOne K (.type t) (.type t)=some true:=by
 unfold PySem.W.kitOne
 rw [RV (by simp)]
def Dn (P:Program) (w:World) (K:PySem.W.Frag) (mg:Str->Option Value) (base:Heap) (k:Nat) (x:Str) (ps:List Str) (sp:Sp):Prop:=
 ∃ f fd,ly P w K mg base sT k f fd ps sp /\ mg x=some (.ref f) /\ PySem.W.keepIn K (.ref f)=true /\ Binds K fd ps []
theorem Cg {k kk:Nat} {x:Str} {ps:List Str} {sp:Sp} {e:Expr} {es:List Expr} {t:TA} {p pos:Pos} (D:Dn X.prog X.w X.K X.mg X.base k x ps sp) (hr:dQ kk X.A) (hk:k<=kk) (ha:PA X (e :: es) t) (hg:Gl X x:=by rfl)
  (nF:(x == ("__debug__":Str))=false:=by decide) (he:starEach (e :: es) X.env=(false,eval e X.env) :: starEach es X.env:=by rfl) (gA:(backTo pos (starEach es X.env)).any (·.1)=false:=by rfl):
  PE X (.Call (.Name x p) (e :: es) [] pos) (l8 sp [] E0 t):=by
 obtain ⟨f,fd,F,m,kp,b⟩:=D
 exact uY F (hr.mono hk) hg m kp b .nil Gf ha nF he gA
structure Bs (mg:Str->Option Value):Prop where
 len:mg "len"=none
 range:mg "range"=none
 isinstance:mg "isinstance"=none
 max:mg "max"=none
 min:mg "min"=none
 int:mg "int"=none
 bool:mg "bool"=none
 tuple:mg "tuple"=none
 list:mg "list"=none
 abs:mg "abs"=none
 str:mg "str"=none
 sum:mg "sum"=none
 sorted:mg "sorted"=none
 reversed:mg "reversed"=none
 enumerate:mg "enumerate"=none
 set:mg "set"=none
 all:mg "all"=none
 zip:mg "zip"=none
 any:mg "any"=none
def Df (K:PySem.W.Frag) (mg:Str->Option Value) (x:Str) (st:Stmt) (ps:List Str):Prop:=∃ f fd,jY K x x st f fd /\ mg x=some (.ref f) /\ Binds K fd ps []
theorem Df.ok {P:Program} {w:World} {K:PySem.W.Frag} {mg:Str->Option Value} {base:Heap} {x:Str} {st:Stmt} {N ps:List Str} {k:Nat} {sp:Sp} (F:Df K mg x st ps) (S:aN N ps (ai st)) (len:∀ vs H Q E,sp vs H Q E->vs.length=ps.length)
  (ka:∀ (f:Addr) (b6:Value) (A:Around) (outer:List Env) (s:Shared) (H:Hp) (vs:List V) (Q:VK) (E:XK),dQ k (A.deeper (envOfC x (ai st) s.heap.objs.size f b6))->sp vs H Q E->
   ∃ t,iS (du sT P w K mg base N x (ai st) f b6 A outer s H E).B5 (cD st) t /\ t { nx:=λ_ H'=>Q .fF H',rt:=Q } (start N vs) H):Dn P w K mg base (k + 1) x ps sp:=by
 obtain ⟨f,fd,F,m,b⟩:=F
 exact ⟨f,fd,F.ok S len (ka f),m,F.kp,b⟩
def Cn (mg:Str->Option Value) (x:Str) (v:V):Prop:=∃ u,mg x=some u /\ RelV v u
theorem ra {x:Str} {v:V} {pos:Pos} (c:Cn X.mg x v) (hg:Gl X x:=by rfl) (hd:(x == ("__debug__":Str))=false:=by decide):PE X (.Name x pos) (tC v):=by
 obtain ⟨u,m,r⟩:=c
 exact Ap hg m r hd
end
theorem b9 {H:Hp} {p:Addr} (h:H p=none) (o:HO):av H (upd H p o):=λb u q=>by rw [aG (aY q h)]; exact q
theorem av.tup {K:PySem.W.Frag} {H H':Hp} {a:Addr} {xs:List V} (e:av H H') (h:jl K H a xs):jl K H' a xs:=by
 rcases h with (h | ⟨o,h⟩) | h
 .exact .inl (.inl (e _ _ h))
 .exact .inl (.inr ⟨o,e _ _ h⟩)
 .exact .inr h
theorem small {n:Nat} (h:n<=100000):n<=sizeLine:=Sj h (by decide)
theorem ma {n:Nat} (h:n<=100000):n < sizeLine:=Nat.lt_of_le_of_lt h (by decide)
section
variable {X:Cx}
end
theorem av.upd {H H':Hp} {l:Addr} (s:av H H') (h:H l=none) (o:HO):av H (upd H' l o):=λb u q=>by rw [aG (aY q h)]; exact s b u q
theorem pB:bootBuiltins "int"=some (.type "int"):=by decide +kernel
theorem AN:bootBuiltins "bool"=some (.type "bool"):=by decide +kernel
theorem fH:bootBuiltins "tuple"=some (.type "tuple"):=by decide +kernel
theorem u5:bootBuiltins "list"=some (.type "list"):=by decide +kernel
theorem tF:bootBuiltins "str"=some (.type "str"):=by decide +kernel
theorem cw:bootBuiltins "len"=some (.builtin "len"):=by decide +kernel
theorem DE:bootBuiltins "abs"=some (.builtin "abs"):=by decide +kernel
theorem DF:bootBuiltins "max"=some (.builtin "max"):=by decide +kernel
theorem jm:bootBuiltins "isinstance"=some (.builtin "isinstance"):=by decide +kernel
section
variable {X:Cx}
end
section
variable {X:Cx}
end
section
variable {X:Cx}
theorem jy {scope:Scope} {env:Env} (h:∀ y∈scope.names,y.2=.free->∃ c,env.cells.lookup y.1=some c):
  ∃ cl:List (Str×Addr),closureFor scope env=pure cl /\ (∀ n c,cl.lookup n=some c->env.cells.lookup n=some c) /\ ∀ n,(n,NameKind.free)∈scope.names->∃ c,cl.lookup n=some c:=by
 have go:∀ (l:List (Str×NameKind)) (cs:List (Str×Addr)),(∀ y∈l,y.2=.free->∃ c,env.cells.lookup y.1=some c)->(∀ n c,cs.lookup n=some c->env.cells.lookup n=some c)->
   ∃ cl:List (Str×Addr),(forIn l cs λx r=>(match x with | (name,kind)=>if (kind == NameKind.free)=true then (do let a <- cellOf env name; pure (ForInStep.yield ((name,a) :: r))) else pure (ForInStep.yield r):Sem (ForInStep (List (Str×Addr)))))=(pure cl:Sem _) /\
     (∀ n c,cl.lookup n=some c->env.cells.lookup n=some c) /\ (∀ n,(n,NameKind.free)∈l->∃ c,cl.lookup n=some c) /\ ∀ n c,cs.lookup n=some c->∃ c',cl.lookup n=some c':=by
  intro l
  induction l with
  | nil=>intro cs _ hc; exact ⟨cs,rfl,hc,λn hn=>by simp at hn,λn c e=>⟨c,e⟩⟩
  | cons y r ih=>
    intro cs hl hc
    obtain ⟨name,kind⟩:=y
    by_cases hk:kind=.free
    .subst hk
     obtain ⟨c,e⟩:=hl (name,.free) RK rfl
     have CY:∀ n d,((name,c) :: cs).lookup n=some d->env.cells.lookup n=some d:=by
      intro n d q
      rw [SX] at q
      cases hb:n == name with
      | true=>rw [hb] at q; cases q; rw [eq_of_beq hb]; exact e
      | false=>rw [hb] at q; exact hc n d q
     obtain ⟨cl,h1,h2,h3,h4⟩:=ih ((name,c) :: cs) (λy hy=>hl y (RM _ hy)) CY
     refine ⟨cl,?_,h2,λn hn=>?_,λn d q=>?_⟩
     .rw [US]
      have ec:cellOf env name=pure c:=by unfold cellOf; rw [e]
      simp only [beq_self_eq_true,if_true,ec,pure_bind]
      exact h1
     .rcases RN.mp hn with z | z
      .cases z
       exact h4 name c (by rw [SX]; simp)
      .exact h3 n z
     .by_cases hb:n == name
      .exact h4 n c (by rw [SX,hb])
      .exact h4 n d (by rw [SX]; simp only [hb]; exact q)
    .obtain ⟨cl,h1,h2,h3,h4⟩:=ih cs (λy hy=>hl y (RM _ hy)) hc
     refine ⟨cl,?_,h2,λn hn=>?_,h4⟩
     .rw [US]
      have eb:(kind == NameKind.free)=false:=by simpa using hk
      simp only [eb,Bool.false_eq_true,if_false,pure_bind]
      exact h1
     .rcases RN.mp hn with z | z
      .cases z; exact absurd rfl hk
      .exact h3 n z
 obtain ⟨cl,h1,h2,h3,_⟩:=go scope.names [] h (λn c e=>by simp at e)
 refine ⟨cl,?_,h2,h3⟩
 simp only [closureFor]
 rw [h1]
 rfl
def aH (X:Cx) (scope:Scope) (N':List Str) (cl:List (Str×Addr)) (C:Addr) (s2:Shared) (H2:Hp) (fp:List Addr) (pins:List (Addr×Obj)):Cx:=
 { X with N:=N',ee:=s2,xG:=H2,env:=compEnvC scope cl C X.env,outer:=X.stack,stack:=X.stack,ex:=fp,fn:=λ_=>false,pn:=X.pn ++ pins,xe:=λ_ _=>False }
structure md (X:Cx) (scope:Scope) (x:Str) (ix:List Nat) (N':List Str):Prop where
 kind:scope.kind=.function
 tH:∀ y∈scope.names,y.2≠.cell
 names:∀ y∈scope.names,y.2=.local->scope.names.lookup y.1=some .local
 own:scope.names.lookup x=some .local
 free:∀ y∈scope.names,y.2=.free->X.env.kindOf y.1=some .cell \/ X.env.kindOf y.1=some .free
 only:∀ n,(X.env.scope.kind=.function)->((relabel scope X.env).names.lookup n=some .cell \/ (relabel scope X.env).names.lookup n=some .free)->(n,NameKind.free)∈scope.names
 nm:N'=x :: ix.map λj=>X.N.getD j ""
 Jc:∀ j∈ix,j < X.N.length /\ (X.N.getD j "",NameKind.free)∈scope.names /\ ((relabel scope X.env).names.lookup (X.N.getD j "")=some .cell \/ (relabel scope X.env).names.lookup (X.N.getD j "")=some .free)
def fu (ix:List Nat) (σ:St):St:=ix.map λj=>(σ[j]?).join
section
variable {scope:Scope} {x:Str} {ix:List Nat} {N':List Str} {cl:List (Str×Addr)} {C:Addr} {s2 s3:Shared} {H2:Hp} {fp:List Addr} {pins:List (Addr×Obj)} {σ:St}
theorem AO (S:md X scope x ix N') (I:Inv X pins σ H2 s2) (hC:s2.heap.objs.size<=C) (h1:∀ n c,cl.lookup n=some c->X.env.cells.lookup n=some c) (h2:∀ n,(n,NameKind.free)∈scope.names->∃ c,cl.lookup n=some c)
  (hf:∀ b∈fp,jd X pins H2 b) (oz:∀ b∈fp,b < s2.heap.objs.size):(aH X scope N' cl C s2 H2 fp pins).Ok where
 mod:=I.ok.mod
 kind:=by show (relabel scope X.env).kind=_; exact S.kind
 glob:=I.ok.glob
 blt:=I.ok.blt
 above:=hC
 inj:=λa b c e1 e2=>I.ok.inj a b c (h1 _ _ e1) (h1 _ _ e2)
 has:=λa h=>h2 a (S.only a I.ok.kind h)
 vZ:=λa c h=>by cases h
 hd:=I.ok.hd
 frames:=I.ok.frames
 xw:=.inl rfl
 z9:=λb hb=>⟨RW (RL (oz b hb) hC),λa c e=>(hf b hb).2.2.2.2.1 a c (h1 _ _ e)⟩
 bs:=I.bs
 qK:=Sj I.ok.qK I.sz
 j4:=λb o e hb=>by
  rcases (hf b hb).2.2.2.1 with z | z
  .exact I.ok.j4 b o e z
  .have:=(I.ok.bs b o e).1
   exact absurd (RL (RR this) z) (Sg _)
 lu:=λb hb z=>by
  rcases RN.mp (I.ff b z) with e | e
  .exact (hf b hb).2.1 e
  .exact (hf b hb).2.2.1 e
 fq:=I.stack
 qL:=I.lL
theorem rb {j:Nat} {v:V} (h:(fu ix σ)[j]?=some (some v)):∃ i,ix[j]?=some i /\ σ[i]?=some (some v):=by
 unfold fu at h
 rw [Sa] at h
 cases e:ix[j]? with
 | none=>rw [e] at h; cases h
 | some i=>
   rw [e] at h
   have h':(σ[i]?).join=some v:=Su h
   refine ⟨i,rfl,?_⟩
   cases q:σ[i]? with
   | none=>rw [q] at h'; cases h'
   | some w=>rw [q] at h'; rw [show w=some v from h']
theorem yh (S:md X scope x ix N') (I:Inv X pins σ H2 s2) (hC:s2.heap.objs.size<=C) (h1:∀ n c,cl.lookup n=some c->X.env.cells.lookup n=some c) (h2:∀ n,(n,NameKind.free)∈scope.names->∃ c,cl.lookup n=some c)
  (hf:∀ b∈fp,jd X pins H2 b) (oz:∀ b∈fp,b < s2.heap.objs.size) (Gh:s3.os=s2.os) (hg:s3.gens=s2.gens) (k:∀ b o,s2.heap.get? b=some o->s3.heap.get? b=some o) {m:Str->Option Value} (hn:s3.heap.Ns C m):
  Inv (aH X scope N' cl C s2 H2 fp pins) [] (none :: fu ix σ) H2 s3 where
 ok:=AO S I hC h1 h2 hf oz
 os:=Gh
 bare:=by rw [hg]; exact I.bare
 base:=⟨λb o e _ _ _=>k b o e,λb o e _ _ _=>⟨o.slots,k b o e⟩,λb o e n _=>n,λb o e _=>⟨o,k b o e⟩,λ_ _ e=>e,λ_ _ _ e=>e,λb ps e=>⟨#[],by rw [Ur]; exact e⟩⟩
 loc:=by
  refine ⟨m,hn,λi y v e1 e2 e3=>?_⟩
  cases i with
  | zero=>simp at e2
  | succ i=>
    have E9:(fu ix σ)[i]?=some (some v):=by simpa using e2
    obtain ⟨j,ej,es⟩:=rb E9
    have AQ:N'[i + 1]?=some y:=e1
    rw [S.nm,SY,Sa,ej] at AQ
    have ey:X.N.getD j ""=y:=Su AQ
    obtain ⟨hj,lA,hk⟩:=S.Jc j (SW ej)
    obtain ⟨m0,NK,Jd⟩:=I.loc
    have eN:X.N[j]?=some y:=by rw [<- ey,R6,RP hj]; rfl
    have kd:=S.free _ lA rfl
    have hv:E6 X.env.scope y:=by
     rw [<- ey]
     rcases kd with z | z
     .exact .inr (.inl z)
     .exact .inr (.inr z)
    obtain ⟨u,r,l⟩:=Jd j y v eN es hv
    refine ⟨u,r,.inr ?_⟩
    rcases l with ⟨q,_⟩ | ⟨_,c,ec,z⟩
    .have Je:X.env.kindOf y=some .cell \/ X.env.kindOf y=some .free:=by rw [<- ey]; exact kd
     rcases Je with w | w <;> rw [q] at w <;> cases w
    .obtain ⟨c',e'⟩:=h2 _ lA
     rw [ey] at e'
     have:=h1 _ _ e'
     rw [ec] at this; cases this
     obtain ⟨o,ho,hd⟩:=z
     exact ⟨by rw [<- ey]; exact hk,c,e',o,k c o ho,hd⟩
 cell:=λa c e=>by
  obtain ⟨v,o,ho,hd⟩:=I.cell a c (h1 _ _ e)
  exact ⟨v,o,k c o ho,hd⟩
 free:=I.bo.fresh hC
 dD:=λa c e=>I.dD a c (h1 _ _ e)
 pin:=λp hp=>by
  have Fb:p∈X.pn ++ pins:=by
   rcases R0.mp hp with z | z
   .exact z
   .simp at z
  obtain ⟨e,n,ne,nf,d⟩:=I.pin p Fb
  refine ⟨k _ _ e,n,RW (RL (RR e) hC),λz=>?_,d⟩
  rcases RN.mp (I.ff _ z) with q | q
  .exact ne q
  .exact nf q
 bo:=I.bo.kept k
 len:=by
  show (none :: fu ix σ).length=N'.length
  rw [S.nm]
  unfold fu
  simp
abbrev lB (its:List Value) (n:Nat):Obj:={ cls:=.type "list",data:=.seq its.toArray n }
theorem Inv.Gi {X:Cx} {pins:List (Addr×Obj)} {σ:St} {H:Hp} {s:Shared} {D:Addr} {ys:List V} {its:List Value} {n:Nat} (I:Inv X pins σ H s) (hD:H D=none) (hs:X.ee.heap.objs.size<=D) (hl:D≠X.env.locals) (hc:∀ x c,X.env.cells.lookup x=some c->c≠D)
  (hp:∀ p∈X.pn ++ pins,p.1≠D) (e:s.heap.get? D=some (lB its n)) (r:aO ys its) (hz:ys.length<=sizeLine):Inv X pins σ (upd H D (.lst ys)) s:=by
 have h:=I.step (H':=upd H D (.lst ys)) (h':=s.heap) (g':=s.gens) (t':=s.toks) (d':=s.drawn) (ch:=[D]) (λb hb=>by
   have e:b=D:=by simpa using hb
   subst e
   exact ⟨.inr hs,hl,hc,hp⟩)
  (λb o _ _ _ q _=>q) (λb o _ _ _ q _=>⟨o.slots,q⟩) (λb o hb _ q=>by rw [aG (by simpa using hb)]; exact q) (λb o _ q=>⟨o,q⟩)
  (λb xs q=>by rw [aG (aY q hD)]; exact q) (λb o u q=>by rw [aG (aY q hD)]; exact q) (λb ps q=>⟨#[],by rw [aG (aY q hD),Ur]; exact q⟩) (λm hm=>hm) (λb u q=>?_) I.bare
 .exact h
 .by_cases hb:b=D
  .subst hb
   rw [bM] at q; cases q
   exact ⟨hz,its,n,r,e⟩
  .rw [aG hb] at q
   exact (I.bo b u q).ls (λ_ _ _ z=>z) (λc z=>by rw [aG (aY z hD)]; exact z) λc xs z=>z.new hD
theorem oA (I0:Inv X pins σ H2 s2) (hC:s2.heap.objs.size<=C) {D:Addr} (hD:s2.heap.objs.size<=D) (hf:∀ b∈fp,jd X pins H2 b) {bO:St} {H:Hp} {s1:Shared} {ys:List V} {its:List Value} {n:Nat} {more:List (Addr×Obj)}
  (I:Inv (aH X scope N' cl C s2 H2 fp pins) ((D,lB its n) :: more) bO H s1) (r:aO ys its) (hz:ys.length<=sizeLine) {h':Heap} (hs:Heap.SameBut C s1.heap h') (tJ:D≠C):
  Inv X pins σ (upd H D (.lst ys)) { s1 with heap:=h' }:=by
 have nC:∀ b o,s2.heap.get? b=some o->b≠C:=λb o e=>RW (RL (RR e) hC)
 have B:Un (ip X.stack) fp H2 H s2.heap s1.heap:=I.base
 have fC:H C=none:=I.free
 have pD:=I.pin (D,lB its n) (RI _ RK)
 have u:Un (ip X.stack) fp H2 H s2.heap h':=⟨λb o e n hb hx=>(hs.2 b (nC b o e)).trans (B.keep b o e n hb hx),λb o e n hb hx=>by
   obtain ⟨sl,q⟩:=B.slot b o e n hb hx
   exact ⟨sl,(hs.2 b (nC b o e)).trans q⟩,B.free,λb o e hx=>by
   obtain ⟨o',q⟩:=B.there b o e hx
   exact ⟨o',(hs.2 b (nC b o e)).trans q⟩,B.jv,B.jc,B.jw⟩
 have bo:kx X.prog X.w H h':=λb o e=>(I.bo b o e).ls (λc v hc q=>(hs.2 c (by
   rintro rfl
   rcases hc with z | z
   .subst z; rw [fC] at e; cases e
   .rw [fC] at z; cases z)).trans q) (λ_ q=>q) λ_ _ q=>q
 have I1:Inv X pins σ H { s1 with heap:=h' }:=I0.uW (s':={ s1 with heap:=h' }) (ch:=fp) I.os u bo I.bare λb hb=>⟨(hf b hb).2.2.2.1,(hf b hb).2.1,(hf b hb).2.2.2.2.1,(hf b hb).2.2.2.2.2⟩
 refine I1.Gi (its:=its) (n:=n) pD.2.1 (Sj I0.sz hD) (T5 (RL I0.lt hD)) (λa c e z=>?_) (λp hp z=>?_) ((hs.2 D tJ).trans pD.1) r hz
 .obtain ⟨v,q⟩:=I0.cell a c e
  exact absurd (RL q.lt (by rw [z]; exact hD)) (Sg _)
 .exact absurd (RL (RR (I0.pin p hp).1) (by rw [z]; exact hD)) (Sg _)
end
def tK (J:It) (ix:List Nat) (te:TE) (σ:St) (H:Hp) (Q:VK):Prop:=∃ W:Nat->Nat->List V->Hp->Prop,(∃ m,W 0 m [] H) /\ ∀ i m ys H,W i m ys H->ys.length<=sizeLine /\
 ((J.stop i H /\ ∀ p,H p=none->Q (.ref p) (upd H p (.lst ys))) \/ (J.go i H /\ ys.length < sizeLine /\ ∃ N:VK,(∀ y H2,N y H2->∃ m',m' < m /\ W (i + 1) m' (ys ++ [y]) H2) /\ ∀ v H',J.Dd i H v H'->te (some v :: fu ix σ) H' N))
def Gj (wi:TI) (ix:List Nat) (te:TE):TE:=λσ H Q=>wi σ H λJ H1=>tK J ix te σ H1 Q
section
variable {scope:Scope} {x:Str} {ix:List Nat} {N':List Str} {elt iter:Expr} {px pos:Pos} {wi:TI} {te:TE}
end
def rf (sc scope:Scope):List (Str×NameKind):=scope.names.map λ(n,k)=>if (k == .free && sc.kind == .function && sc.names.lookup n == some .cell) then (n,.cell) else (n,k)
def pC (sc scope:Scope) (N:List Str) (x:Str) (ix:List Nat) (N':List Str):Bool:=
 (scope.kind == .function) && scope.names.all (λy=> !(y.2 == .cell)) && scope.names.all (λy=> !(y.2 == .local) || (scope.names.lookup y.1 == some .local)) && (scope.names.lookup x == some .local)
 && scope.names.all (λy=> !(y.2 == .free) || (sc.names.lookup y.1 == some .cell || sc.names.lookup y.1 == some .free))
 && (rf sc scope).all (λy=> !(y.2 == .cell || y.2 == .free) || scope.names.any (λz=>z.1 == y.1 && z.2 == .free))
 && (N' == x :: ix.map λj=>N.getD j "") && ix.all (λj=>decide (j < N.length) && scope.names.any (λz=>z.1 == N.getD j "" && z.2 == .free) && ((rf sc scope).lookup (N.getD j "") == some .cell || (rf sc scope).lookup (N.getD j "") == some .free))
theorem lookup_mem {n:Str} {k:NameKind}:∀ {l:List (Str×NameKind)},l.lookup n=some k->(n,k)∈l
 | [],h=>by simp at h
 | (a,b) :: r,h=>by
   rw [SX] at h
   cases e:n == a with
   | true=>rw [e] at h; cases h; rw [eq_of_beq e]; exact RK
   | false=>rw [e] at h; exact RM _ (lookup_mem h)
theorem wx {sc scope:Scope} {N:List Str} {x:Str} {ix:List Nat} {N':List Str} (h:pC sc scope N x ix N'=true) (e1:X.env.scope=sc) (e2:X.N=N):md X scope x ix N':=by
 subst e1 e2
 unfold pC at h
 simp only [RT,Ss,Ti,SS,TY,Sf,Ta,S5] at h
 obtain ⟨⟨⟨⟨⟨⟨⟨a1,a2⟩,a3⟩,a4⟩,a5⟩,a6⟩,a7⟩,a8⟩:=h
 refine ⟨a1,a2,λy hy hk=>(a3 y hy).elim (λz=>absurd hk z) id,a4,λy hy hk=>(a5 y hy).elim (λz=>absurd hk z) id,λn _ hn=>?_,a7,λj hj=>?_⟩
 .have:∃ k,(n,k)∈rf X.env.scope scope /\ (k=NameKind.cell \/ k=NameKind.free):=by
   rcases hn with z | z
   .exact ⟨_,lookup_mem z,.inl rfl⟩
   .exact ⟨_,lookup_mem z,.inr rfl⟩
  obtain ⟨k,hk,jZ⟩:=this
  rcases a6 (n,k) hk with z | ⟨z,hz,e1,e2⟩
  .exfalso
   simp at z
   rcases jZ with q | q
   .exact z.1 q
   .exact z.2 q
  .obtain ⟨z1,z2⟩:=z
   cases e1; cases e2; exact hz
 .obtain ⟨⟨b1,⟨z,hz,e1,e2⟩⟩,b3⟩:=a8 j hj
  refine ⟨b1,?_,b3⟩
  obtain ⟨z1,z2⟩:=z
  cases e2
  have AQ:z1=X.N.getD j "":=e1
  rw [<- AQ]; exact hz
section
variable {scope:Scope} {x:Str} {elt iter:Expr} {px pos:Pos} {wi:TI} {te:TE}
end
end
section
variable {X:Cx} {pins:List (Addr×Obj)} {σ:St} {H:Hp} {s:Shared}
end
section
variable {X:Cx}
end
abbrev D:=PyData
abbrev DS:=List (Option D)
def cg:List (Addr×List V):=[]
theorem av.rg {H H':Hp} {a:Addr} {xs:List V} (s:av H H') (h:fG H a xs):fG H' a xs:=by
 rcases h with h | ⟨ob,h⟩
 .exact .inl (s _ _ h)
 .exact .inr ⟨ob,s _ _ h⟩
def wo (H:Hp) (A:List Addr):Hp:=λa=>if a∈A then none else H a
section
variable {K:PySem.W.Frag} {H H':Hp} {A A':List Addr} {a l p r:Addr} {o:HO}
theorem bD (h:a∉A):wo H A a=H a:=by unfold wo; rw [if_neg h]
theorem ir (h:a∈A):wo H A a=none:=by unfold wo; rw [if_pos h]
theorem iV (h:wo H A a=some o):a∉A /\ H a=some o:=by
 unfold wo at h
 split at h
 .cases h
 .exact ⟨by assumption,h⟩
theorem dM:av (wo H A) H:=λ_ _ h=>(iV h).2
theorem cE (s:av H H'):av (wo H A) (wo H' A):=λb u h=>by
 obtain ⟨h1,h2⟩:=iV h
 rw [bD h1]; exact s b u h2
theorem jz (h:∀ a∈A',a∈A):av (wo H A) (wo H A'):=λb u q=>by
 obtain ⟨h1,h2⟩:=iV q
 rw [bD λz=>h1 (h b z)]; exact h2
theorem yi:wo H []=H:=by funext a; exact bD (by simp)
theorem yj (h:p∉A):wo (upd H p o) A=upd (wo H A) p o:=by
 funext a
 by_cases e:a=p
 .subst e; rw [bD h,bM,bM]
 .rw [aG e]
  by_cases z:a∈A
  .rw [ir z,ir z]
  .rw [bD z,bD z,aG e]
theorem DG (h:l∈A):wo (upd H l o) A=wo H A:=by
 funext a
 by_cases z:a∈A
 .rw [ir z,ir z]
 .rw [bD z,bD z,aG]
  intro e; subst e; exact z h
theorem rh (h:H r=none):wo (upd H r o) (r :: A)=wo H A:=by
 funext a
 by_cases e:a=r
 .subst e
  rw [ir (by simp)]
  by_cases z:a∈A
  .rw [ir z]
  .rw [bD z,h]
 .by_cases z:a∈A
  .rw [ir (by simp [z]),ir z]
  .rw [bD (by simp [e,z]),bD z,aG e]
theorem u6 (s:av H H') (h:H r=none):av (wo H A) (wo H' (r :: A)):=λb u q=>by
 obtain ⟨h1,h2⟩:=iV q
 rw [bD (by simp only [RN,Wa]; exact ⟨aY h2 h,h1⟩)]
 exact s b u h2
def DH:HO->Prop
 | .lst _=>True
 | .dT _=>True
 | _=>False
def Ls (A:List Addr) (H:Hp):Prop:=(∀ a∈A,∃ o,H a=some o /\ DH o) /\ ∀ p xs,(p,xs)∈cg->fG H p xs
theorem Ls.same (h:Ls A H) (s:av H H'):Ls A H':=⟨λa ha=>let ⟨o,e,q⟩:=h.1 a ha; ⟨o,s _ _ e,q⟩,λp xs m=>s.rg (h.2 p xs m)⟩
theorem fG.apart {xs:List V} (t:fG H p xs) (e:H l=some o) (w:DH o):p≠l:=λz=>by
 subst z
 rcases t with t | ⟨ob,t⟩ <;> rw [e] at t <;> cases t <;> exact w
theorem fG.wo {xs:List V} (t:fG H p xs) (n:p∉A):fG (L2.wo H A) p xs:=by
 rcases t with t | ⟨ob,t⟩
 .exact .inl (by rw [bD n]; exact t)
 .exact .inr ⟨ob,by rw [bD n]; exact t⟩
theorem Ls.free (h:Ls A H) (n:H p=none):p∉A:=λz=>by
 obtain ⟨ys,e,_⟩:=h.1 p z
 rw [n] at e; cases e
end
def bx (h:Heap) (e:Addr):Prop:=∃ o fs,h.get? e=some o /\ o.data=.fields fs /\ fs[2]?=some Value.none
def DI (a C:Addr):HO:=.ext λh=>(∃ o,h.get? a=some o /\ o.cls=.ref C) /\ bx h a
def AR:Key->D:=Sum.elim .int .str
mutual
inductive HD (K:PySem.W.Frag) (H:Hp):V->D->Prop
 | fF:HD K H .fF .none
 | bl (b:Bool):HD K H (.bl b) (.bool b)
 | int (i:Int):HD K H (.int i) (.int i)
 | str (x:Str):HD K H (.str x) (.str x)
 | lst {a:Addr} {xs:List V} {ds:List D}:sS K H a xs->b7 K H xs ds->HD K H (.ref a) (.list ds)
 | tup {a:Addr} {xs:List V} {ds:List D}:fG H a xs->b7 K H xs ds->HD K H (.ref a) (.tuple ds)
 | tL {a:Addr} {eY:List (List Key×V)} {tM:List (D×D)}:H a=some (.dT eY)->tM.map (·.1)=eY.map (λp=>PyData.tuple (p.1.map AR))->b7 K H (eY.map (·.2)) (tM.map (·.2))->HD K H (.ref a) (.dict tM)
 | exc {a C:Addr} {c:Str}:PySem.W.nsIn K mainGlobals c=some (some (.ref C))->H a=some (DI a C)->HD K H (.ref a) (.dict [(.list [],.tuple [.int (a:Nat),.str c])])
inductive b7 (K:PySem.W.Frag) (H:Hp):List V->List D->Prop
 | nil:b7 K H [] []
 | cons {x:V} {xs:List V} {d:D} {ds:List D}:HD K H x d->b7 K H xs ds->b7 K H (x :: xs) (d :: ds)
end
theorem av.rd {H H':Hp} {a:Addr} {u:HO} (s:av H H') (h:Rd H a u):Rd H' a u:=by
 rcases h with h | ⟨o,h⟩
 .exact .inl (s _ _ h)
 .exact .inr ⟨o,s _ _ h⟩
theorem sS.of {K:PySem.W.Frag} {H:Hp} {a:Addr} {xs:List V} (h:H a=some (.lst xs)):sS K H a xs:=.inl (.inl h)
theorem sS.sq {K:PySem.W.Frag} {H:Hp} {a:Addr} {xs:List V} (h:sS K H a xs):ie K H a xs:=by
 rcases h with h | ⟨its,n,h1,h2,h3⟩
 .exact .inl h
 .exact .inr ⟨_,its.toArray,n,h1,rfl,rfl,rfl,by rw [List.size_toArray]; exact h2,by simpa using h3⟩
theorem sS.same {K:PySem.W.Frag} {H H':Hp} {a:Addr} {xs:List V} (s:av H H') (h:sS K H a xs):sS K H' a xs:=by
 rcases h with h | h
 .exact .inl (s.rd h)
 .exact .inr h
theorem Inv.MB {X:Cx} {pins:List (Addr×Obj)} {σ:St} {H:Hp} {s:Shared} {a:Addr} {xs:List V} (I:Inv X pins σ H s) (h:sS X.K H a xs):xs.length<=sizeLine /\ ∃ (its:List Value) (n:Nat),aO xs its /\ s.heap.get? a=some { cls:=.type "list",data:=.seq its.toArray n }:=by
 rcases h with h | ⟨its,n,h1,h2,h3⟩
 .exact h.ok I.bo
 .exact ⟨by rw [h3.length]; exact h2,its,n,h3,I.j5 a _ h1⟩
theorem HD.same {K:PySem.W.Frag} {H H':Hp} (e:av H H') {x:V} {d:D} (h:HD K H x d):HD K H' x d:=
 HD.rec (motive_1:=λx d _=>HD K H' x d) (motive_2:=λx d _=>b7 K H' x d) .fF .bl .int .str (λhq _ i=>.lst (hq.same e) i) (λhq _ i=>.tup (e.rg hq) i) (λhq k _ i=>.tL (e _ _ hq) k i) (λk h=>.exc k (e _ _ h)) .nil (λ_ _ i j=>.cons i j) h
theorem b7.same {K:PySem.W.Frag} {H H':Hp} (e:av H H') {x:List V} {d:List D} (h:b7 K H x d):b7 K H' x d:=
 b7.rec (motive_1:=λx d _=>HD K H' x d) (motive_2:=λx d _=>b7 K H' x d) .fF .bl .int .str (λhq _ i=>.lst (hq.same e) i) (λhq _ i=>.tup (e.rg hq) i) (λhq k _ i=>.tL (e _ _ hq) k i) (λk h=>.exc k (e _ _ h)) .nil (λ_ _ i j=>.cons i j) h
section
variable {X:Cx} {pins:List (Addr×Obj)} {σ:St} {H:Hp} {s:Shared}
theorem eI {d:D} (h:SeqAt.shaped d=true):d.canLay0=true:=by
 unfold SeqAt.shaped at h
 rw [RT] at h
 exact h.1
theorem DJ (I:Inv X pins σ H s) {a:Addr} {xs:List V} {ds:List D} {u:Value} (hq:sS X.K H a xs) (r:RelV (.ref a) u) (h:∀ {us},aO xs us->∃ as,ReadsAll s.heap us ds as):∃ as,Reads s.heap u (.list ds) as:=by
 cases (show u=Value.ref a from r)
 obtain ⟨its,rv,⟨o,n,h1,h2,_,h3⟩,_⟩:=I.list hq.sq
 obtain ⟨as,q⟩:=h rv
 exact ⟨_,.list h1 h2 h3 (by simpa using q)⟩
theorem DK (I:Inv X pins σ H s) {a:Addr} {xs:List V} {ds:List D} {u:Value} (hq:fG H a xs) (r:RelV (.ref a) u) (h:∀ {us},aO xs us->∃ as,ReadsAll s.heap us ds as):∃ as,Reads s.heap u (.tuple ds) as:=by
 cases (show u=Value.ref a from r)
 obtain ⟨its,rv,⟨o,h1,h2,n,h3⟩,_⟩:=I.tuple (.inl hq)
 obtain ⟨as,q⟩:=h rv
 exact ⟨_,.tuple h1 h2 h3 (by simpa using q)⟩
theorem HD.reads (I:Inv X pins σ H s) {x:V} {d:D} (h:HD X.K H x d):∀ {u:Value},RelV x u->PyData.canLay0 d=true->∃ as,Reads s.heap u d as:=
 HD.rec (motive_1:=λx d _=>∀ {u},RelV x u->d.canLay0=true->∃ as,Reads s.heap u d as) (motive_2:=λx d _=>∀ {u},aO x u->PyData.canLayAll0 d=true->∃ as,ReadsAll s.heap u d as)
  (λ{u} r _=>by cases (show u=Value.none from r); exact ⟨_,.none⟩) (λb {u} r _=>by cases (show u=Value.bool b from r); exact ⟨_,.bool b⟩) (λi {u} r _=>by obtain ⟨t,rfl⟩:=r; exact ⟨_,.int i t⟩) (λi {u} r _=>by obtain ⟨t,rfl⟩:=r; exact ⟨_,.str i t⟩)
  (λ{_ _ _} hq _ i {_} r c=>DJ I hq r λrv=>i rv (by rw [PyData.canLay0] at c; exact c)) (λ{_ _ _} hq _ i {_} r c=>DK I hq r λrv=>i rv (by rw [PyData.canLay0] at c; exact c)) (λ{_ _ _} _ _ _ _ {_} _ c=>by rw [PyData.canLay0] at c; cases c) (λ{_ _ _} _ _ {_} _ c=>by rw [PyData.canLay0] at c; cases c)
  (λ{_} r _=>by cases r; exact ⟨_,.nil⟩) (λ{_ _ _ _} _ _ i j {_} r c=>by
   rw [PyData.canLayAll0,RT] at c
   cases r with
   | cons r rs=>
     obtain ⟨as,q⟩:=i r c.1
     obtain ⟨bs,qs⟩:=j rs c.2
     exact ⟨_,.cons q qs⟩) h
end
theorem b7.len {K:PySem.W.Frag} {H:Hp}:∀ {xs:List V} {ds:List D},b7 K H xs ds->xs.length=ds.length
 | _,_,.nil=>rfl
 | _,_,.cons _ t=>by rw [Sx,Sx,b7.len t]
theorem b7.get {K:PySem.W.Frag} {H:Hp}:∀ {xs:List V} {ds:List D} {i:Nat} {d:D},b7 K H xs ds->ds[i]?=some d->∃ x,xs[i]?=some x /\ HD K H x d
 | _,_,_,_,.nil,e=>by simp at e
 | _,_,0,_,.cons r _,e=>by simp at e; subst e; exact ⟨_,rfl,r⟩
 | _,_,i + 1,y,.cons _ t,e=>by
   obtain ⟨u,h1,h2⟩:=b7.get (i:=i) (d:=y) t (by simpa using e)
   exact ⟨u,by simpa using h1,h2⟩
theorem b7.app {K:PySem.W.Frag} {H:Hp}:∀ {xs MC:List V} {ds MD:List D},b7 K H xs ds->b7 K H MC MD->b7 K H (xs ++ MC) (ds ++ MD)
 | _,_,_,_,.nil,s=>s
 | _,_,_,_,.cons r t,s=>.cons r (b7.app t s)
theorem b7.Ci {K:PySem.W.Frag} {H:Hp}:∀ {xs:List V} {ds:List D} (n:Nat),b7 K H xs ds->b7 K H (xs.take n) (ds.take n)
 | _,_,0,_=>.nil
 | _,_,_ + 1,.nil=>.nil
 | _,_,n + 1,.cons r t=>.cons r (b7.Ci n t)
theorem b7.Cj {K:PySem.W.Frag} {H:Hp}:∀ {xs:List V} {ds:List D} (n:Nat),b7 K H xs ds->b7 K H (xs.drop n) (ds.drop n)
 | _,_,0,r=>r
 | _,_,_ + 1,.nil=>.nil
 | _,_,n + 1,.cons _ t=>b7.Cj n t
theorem b7.Gk {K:PySem.W.Frag} {H:Hp} {x:V} {d:D} (r:HD K H x d):∀ {xs:List V} {ds:List D} (i:Nat),b7 K H xs ds->b7 K H (xs.set i x) (ds.set i d)
 | _,_,_,.nil=>.nil
 | _,_,0,.cons _ t=>.cons r t
 | _,_,i + 1,.cons q t=>.cons q (b7.Gk r i t)
theorem b7.ints {K:PySem.W.Frag} {H:Hp}:∀ ns:List Int,b7 K H (ns.map V.int) (ns.map PyData.int)
 | []=>.nil
 | n :: ns=>.cons (.int n) (b7.ints ns)
inductive u7 (K:PySem.W.Frag) (H:Hp):HO->D->Prop
 | lst {ys:List V} {ds:List D}:b7 K H ys ds->u7 K H (.lst ys) (.list ds)
 | tL {eY:List (List Key×V)} {tM:List (D×D)}:tM.map (·.1)=eY.map (λp=>PyData.tuple (p.1.map AR))->b7 K H (eY.map (·.2)) (tM.map (·.2))->u7 K H (.dT eY) (.dict tM)
theorem u7.same {K:PySem.W.Frag} {H H':Hp} {o:HO} {d:D} (s:av H H') (h:u7 K H o d):u7 K H' o d:=by
 cases h with
 | lst q=>exact .lst (q.same s)
 | tL k q=>exact .tL k (q.same s)
theorem u7.own {K:PySem.W.Frag} {H:Hp} {o:HO} {d:D} (h:u7 K H o d):DH o:=by cases h <;> trivial
theorem u7.hd {K:PySem.W.Frag} {H:Hp} {o:HO} {d:D} {l:Addr} (h:u7 K H o d) (e:H l=some o):HD K H (.ref l) d:=by
 cases h with
 | lst q=>exact .lst (.of e) q
 | tL k q=>exact .tL e k q
def fT (K:PySem.W.Frag) (A:List Addr) (H:Hp) (v:V) (d:D):Prop:=HD K (wo H A) v d \/ ∃ l o,v=.ref l /\ H l=some o /\ u7 K (wo H A) o d
section
variable {K:PySem.W.Frag} {H H':Hp} {A A':List Addr} {v:V} {d:D}
theorem fT.of (h:HD K (wo H A) v d):fT K A H v d:=.inl h
theorem fT.same (s:av H H') (h:fT K A H v d):fT K A H' v d:=by
 rcases h with h | ⟨l,o,rfl,e,q⟩
 .exact .inl (h.same (cE s))
 .exact .inr ⟨l,o,rfl,s _ _ e,q.same (cE s)⟩
theorem fT.HL (h:fT K A H v d):HD K H v d:=by
 rcases h with h | ⟨l,o,rfl,e,q⟩
 .exact h.same dM
 .exact (q.same dM).hd e
theorem fT.list {ds:List D} (h:fT K A H v (.list ds)):∃ l ys,v=.ref l /\ sS K H l ys /\ b7 K (wo H A) ys ds:=by
 rcases h with h | ⟨l,o,rfl,e,q⟩
 .cases h with
  | lst hq h=>exact ⟨_,_,rfl,hq.same dM,h⟩
 .cases q with
  | lst q=>exact ⟨l,_,rfl,.of e,q⟩
theorem fT.Jf {ds:List D} (h:fT K A H v (.tuple ds)):∃ l ys,v=.ref l /\ fG H l ys /\ b7 K (wo H A) ys ds:=by
 rcases h with h | ⟨l,o,rfl,e,q⟩
 .cases h with
  | tup hq h=>exact ⟨_,_,rfl,dM.rg hq,h⟩
 .cases q
theorem fT.tuple {ds:List D} (h:fT K A H v (.tuple ds)):∃ l ys,v=.ref l /\ jl K H l ys /\ b7 K (wo H A) ys ds:=
 let ⟨l,ys,a,b,c⟩:=h.Jf; ⟨l,ys,a,.inl b,c⟩
theorem fT.fz {ds:List D} (h:fT K A H v (.tuple ds)):HD K (wo H A) v (.tuple ds):=by
 rcases h with h | ⟨l,o,rfl,e,q⟩
 .exact h
 .cases q
theorem fT.int {i:Int} (h:fT K A H v (.int i)):v=.int i:=by
 rcases h with h | ⟨l,o,rfl,e,q⟩
 .cases h; rfl
 .cases q
theorem fT.bool {b:Bool} (h:fT K A H v (.bool b)):v=.bl b:=by
 rcases h with h | ⟨l,o,rfl,e,q⟩
 .cases h; rfl
 .cases q
theorem fT.str {b:Str} (h:fT K A H v (.str b)):v=.str b:=by
 rcases h with h | ⟨l,o,rfl,e,q⟩
 .cases h; rfl
 .cases q
theorem fT.fF (h:fT K A H v .none):v=.fF:=by
 rcases h with h | ⟨l,o,rfl,e,q⟩
 .cases h; rfl
 .cases q
end
structure Rel (K:PySem.W.Frag) (O:List Nat) (U A0:List Addr) (σ:St) (δ:DS) (H:Hp):Prop where
 len:σ.length=δ.length
 fz:∀ (i:Nat) d,i∉O->δ[i]?=some (some d)->∃ v,σ[i]?=some (some v) /\ HD K (wo H (U ++ A0)) v d
 ow:∀ (i:Nat) d,i∈O->δ[i]?=some (some d)->∃ l o,σ[i]?=some (some (.ref l)) /\ l∈U /\ H l=some o /\ u7 K (wo H (U ++ A0)) o d
 inj:∀ (i j:Nat) d e l,i∈O->j∈O->i≠j->δ[i]?=some (some d)->δ[j]?=some (some e)->σ[i]?=some (some (.ref l))->σ[j]?=some (some (.ref l))->False
 al:Ls (U ++ A0) H
section
variable {K:PySem.W.Frag} {O:List Nat} {U A0:List Addr} {σ:St} {δ:DS} {H H':Hp}
theorem Rel.same (R:Rel K O U A0 σ δ H) (s:av H H'):Rel K O U A0 σ δ H' where
 len:=R.len
 fz:=λi d hi e=>let ⟨v,a,b⟩:=R.fz i d hi e; ⟨v,a,b.same (cE s)⟩
 ow:=λi d hi e=>let ⟨l,o,a,c,f,g⟩:=R.ow i d hi e; ⟨l,o,a,c,s _ _ f,g.same (cE s)⟩
 inj:=R.inj
 al:=R.al.same s
theorem Rel.ME (R:Rel K O U A0 σ δ H) (i:Nat) (d:D) (hi:i∈O) (e:δ[i]?=some (some d)):(∃ l ys ds,σ[i]?=some (some (.ref l)) /\ d=.list ds /\ l∈U /\ H l=some (.lst ys) /\ b7 K (wo H (U ++ A0)) ys ds) \/ ∃ tM,d=.dict tM:=by
 obtain ⟨l,o,a,c,f,g⟩:=R.ow i d hi e
 cases g with
 | lst q=>exact .inl ⟨l,_,_,a,rfl,c,f,q⟩
 | tL k q=>exact .inr ⟨_,rfl⟩
theorem Rel.at (R:Rel K O U A0 σ δ H) {i:Nat} {d:D} (e:δ[i]?=some (some d)):∃ v,σ[i]?=some (some v) /\ fT K (U ++ A0) H v d:=by
 by_cases hi:i∈O
 .obtain ⟨l,o,a,c,f,g⟩:=R.ow i d hi e
  exact ⟨_,a,.inr ⟨l,o,rfl,f,g⟩⟩
 .obtain ⟨v,a,b⟩:=R.fz i d hi e
  exact ⟨v,a,.inl b⟩
theorem Rel.set (R:Rel K O U A0 σ δ H) {i:Nat} {v:V} {d:D} (hi:i∉O) (h:HD K (wo H (U ++ A0)) v d):Rel K O U A0 (σ.set i (some v)) (δ.set i (some d)) H where
 len:=by rw [Sr,Sr]; exact R.len
 fz:=λj e hj q=>by
  by_cases nH:i=j
  .subst nH
   have hl:i < δ.length:=by have:=(Sh.mp q).1; rwa [Sr] at this
   rw [Sk hl] at q
   cases q
   exact ⟨v,Sk (by rw [R.len]; exact hl),h⟩
  .rw [R8 nH] at q ⊢
   exact R.fz j e hj q
 ow:=λj e hj q=>by
  have nH:i≠j:=λz=>hi (z ▸ hj)
  rw [R8 nH] at q ⊢
  exact R.ow j e hj q
 inj:=λj k d e l hj hk Fc q1 q2 e1 e2=>by
  have nH:i≠j:=λz=>hi (z ▸ hj)
  have Ck:i≠k:=λz=>hi (z ▸ hk)
  rw [R8 nH] at q1 e1
  rw [R8 Ck] at q2 e2
  exact R.inj j k d e l hj hk Fc q1 q2 e1 e2
 al:=R.al
theorem Rel.Jg (R:Rel K O U A0 σ δ H) (s:av H H') {i:Nat} {r:Addr} {ob:HO} {db:D} (hr:H r=none) (h:H' r=some ob) (q:u7 K (wo H' (r :: (U ++ A0))) ob db) (hi:i∈O):
  Rel K O (r :: U) A0 (σ.set i (some (.ref r))) (δ.set i (some db)) H' where
 len:=by rw [Sr,Sr]; exact R.len
 fz:=λj e hj q=>by
  have nH:i≠j:=λz=>hj (z ▸ hi)
  rw [R8 nH] at q ⊢
  obtain ⟨v,a,b⟩:=R.fz j e hj q
  exact ⟨v,a,b.same (u6 s hr)⟩
 ow:=λj e hj w=>by
  by_cases nH:i=j
  .subst nH
   have hl:i < δ.length:=by have:=(Sh.mp w).1; rwa [Sr] at this
   rw [Sk hl] at w
   cases w
   exact ⟨r,ob,Sk (by rw [R.len]; exact hl),by simp,h,q⟩
  .rw [R8 nH] at w ⊢
   obtain ⟨l,o,a,c,f,g⟩:=R.ow j e hj w
   exact ⟨l,o,a,by simp [c],s _ _ f,g.same (u6 s hr)⟩
 inj:=λj k d e l hj hk Fc q1 q2 e1 e2=>by
  have DL:∀ {x:D},(δ.set i (some db))[i]?=some (some x)->i < δ.length:=λw=>by have:=(Sh.mp w).1; rwa [Sr] at this
  by_cases nH:i=j
  .subst nH
   have Ck:i≠k:=Fc
   rw [Sk (by rw [R.len]; exact DL q1)] at e1
   rw [R8 Ck] at q2 e2
   cases e1
   obtain ⟨l,o,a,c,f,g⟩:=R.ow k e hk q2
   rw [a] at e2; cases e2
   rw [hr] at f; cases f
  .by_cases Ck:i=k
   .subst Ck
    rw [Sk (by rw [R.len]; exact DL q2)] at e2
    rw [R8 nH] at q1 e1
    cases e2
    obtain ⟨l,o,a,c,f,g⟩:=R.ow j d hj q1
    rw [a] at e1; cases e1
    rw [hr] at f; cases f
   .rw [R8 nH] at q1 e1
    rw [R8 Ck] at q2 e2
    exact R.inj j k d e l hj hk Fc q1 q2 e1 e2
 al:=⟨λa ha=>by
  rcases R0.mp ha with z | z
  .rcases RN.mp z with z | z
   .subst z; exact ⟨ob,h,q.own⟩
   .exact (R.al.same s).1 a (So _ z)
  .exact (R.al.same s).1 a (RI _ z),(R.al.same s).2⟩
theorem Rel.Jh (R:Rel K O U A0 σ δ H) (s:av H H') {i:Nat} {r:Addr} {ys:List V} {ds:List D} (hr:H r=none) (h:H' r=some (.lst ys)) (q:b7 K (wo H' (r :: (U ++ A0))) ys ds) (hi:i∈O):
  Rel K O (r :: U) A0 (σ.set i (some (.ref r))) (δ.set i (some (.list ds))) H':=R.Jg s hr h (.lst q) hi
theorem Rel.Ji (R:Rel K O U A0 σ δ H) {i:Nat} {l:Addr} {ob:HO} {db:D} (hi:i∈O) (hl:σ[i]?=some (some (.ref l))) (hU:l∈U) (q:u7 K (wo H (U ++ A0)) ob db) (hd:∃ d,δ[i]?=some (some d)):
  Rel K O U A0 σ (δ.set i (some db)) (upd H l ob):=by
 have hw:wo (upd H l ob) (U ++ A0)=wo H (U ++ A0):=DG (So _ hU)
 obtain ⟨d0,hd⟩:=hd
 have hlen:i < δ.length:=(Sh.mp hd).1
 exact {
  len:=by rw [Sr]; exact R.len
  fz:=λj e hj w=>by
   have nH:i≠j:=λz=>hj (z ▸ hi)
   rw [R8 nH] at w
   rw [hw]
   exact R.fz j e hj w
  ow:=λj e hj w=>by
   rw [hw]
   by_cases nH:i=j
   .subst nH
    rw [Sk hlen] at w
    cases w
    exact ⟨l,ob,hl,hU,bM,q⟩
   .rw [R8 nH] at w
    obtain ⟨l',o',a,c,f,g⟩:=R.ow j e hj w
    have fV:l'≠l:=by
     intro z; subst z
     exact R.inj i j d0 e _ hi hj nH hd w hl a
    exact ⟨l',o',a,c,by rw [aG fV]; exact f,g⟩
  inj:=λj k d e l hj hk Fc q1 q2 e1 e2=>by
   have f:∀ {m:Nat} {x:D},(δ.set i (some db))[m]?=some (some x)->∃ y,δ[m]?=some (some y):=by
    intro m x w
    by_cases MF:i=m
    .subst MF; exact ⟨d0,hd⟩
    .rw [R8 MF] at w; exact ⟨x,w⟩
   obtain ⟨y1,w1⟩:=f q1
   obtain ⟨y2,w2⟩:=f q2
   exact R.inj j k y1 y2 l hj hk Fc w1 w2 e1 e2
  al:=⟨λa ha=>by
   by_cases e:a=l
   .subst e; exact ⟨ob,bM,q.own⟩
   .rw [aG e]; exact R.al.1 a ha,λp xs m=>
    let ⟨_,e,w⟩:=R.al.1 l (So _ hU)
    (R.al.2 p xs m).ne ((R.al.2 p xs m).apart e w)⟩ }
theorem Rel.put (R:Rel K O U A0 σ δ H) {i:Nat} {l:Addr} {ys:List V} {ds:List D} (hi:i∈O) (hl:σ[i]?=some (some (.ref l))) (hU:l∈U) (q:b7 K (wo H (U ++ A0)) ys ds) (hd:∃ d,δ[i]?=some (some d)):
  Rel K O U A0 σ (δ.set i (some (.list ds))) (upd H l (.lst ys)):=R.Ji hi hl hU (.lst q) hd
end
structure Fx (H0:Hp) (A0 U:List Addr) (H:Hp):Prop where
 same:av H0 H
 new:∀ a∈U,H0 a=none
 old:Ls A0 H0
section
variable {K:PySem.W.Frag} {O:List Nat} {U U' A0:List Addr} {σ:St} {δ:DS} {H0 H H':Hp}
theorem Fx.grow (F:Fx H0 A0 U H) (s:av H H'):Fx H0 A0 U H':=⟨F.same.trans s,F.new,F.old⟩
theorem Fx.more (F:Fx H0 A0 U H) (s:av H H') {r:Addr} (hr:H r=none):Fx H0 A0 (r :: U) H':=⟨F.same.trans s,λa ha=>by
 rcases RN.mp ha with z | z
 .subst z; exact F.same.free hr
 .exact F.new a z,F.old⟩
theorem Fx.put (F:Fx H0 A0 U H) {l:Addr} (hl:l∈U) (o:HO):Fx H0 A0 U (upd H l o):=⟨F.same.upd (F.new l hl) o,F.new,F.old⟩
theorem Fx.out (F:Fx H0 A0 U H) {l:Addr} (hl:l∈U):l∉A0:=λz=>by
 obtain ⟨ys,e,_⟩:=F.old.1 l z
 rw [F.new l hl] at e; cases e
theorem Fx.here (F:Fx H0 A0 U H):Fx (wo H U) A0 U H:=⟨dM,λ_ h=>ir h,λa ha=>by
 obtain ⟨ys,e,q⟩:=F.old.1 a ha
 refine ⟨ys,?_,q⟩
 rw [bD λz=>?_]
 .exact F.same _ _ e
 .exact F.out z ha,λp xs m=>(F.same.rg (F.old.2 p xs m)).wo λz=>by
 rcases F.old.2 p xs m with t | ⟨ob,t⟩ <;> rw [F.new p z] at t <;> cases t⟩
theorem Fx.trans (F:Fx H0 A0 U H) (G:Fx (wo H U) A0 U' H'):Fx H0 A0 U' H':=by
 have k:∀ a o,H0 a=some o->wo H U a=some o:=λa o e=>by
  rw [bD λz=>?_]
  .exact F.same _ _ e
  .rw [F.new a z] at e; cases e
 refine ⟨λa o e=>G.same _ _ (k a o e),λa ha=>?_,F.old⟩
 cases e:H0 a with
 | none=>rfl
 | some o=>
   have:=G.new a ha
   rw [k a o e] at this; cases this
theorem Fx.keeps (G:Fx (wo H U) A0 U' H'):av (wo H (U ++ A0)) (wo H' (U' ++ A0)):=λb o e=>by
 obtain ⟨h1,h2⟩:=iV e
 simp only [R0,Wa] at h1
 have h3:wo H U b=some o:=by rw [bD h1.1]; exact h2
 rw [bD]
 .exact G.same _ _ h3
 .simp only [R0,Wa]
  refine ⟨λz=>?_,h1.2⟩
  rw [G.new b z] at h3; cases h3
end
def tE (K:PySem.W.Frag) (O:List Nat) (g:DS->Option D):TE:=λσ H Q=>∃ U A0 δ d,Rel K O U A0 σ δ H /\ g δ=some d /\ ∀ v H',av H H'->HD K (wo H' (U ++ A0)) v d->Q v H'
theorem tE.e {K:PySem.W.Frag} {O:List Nat} {g:DS->Option D}  {σ:_} {H:_} {Q:_} {GG:Prop} (hh:tE K O g σ H Q) (kk:∀ U A0 δ d,(Rel K O U A0 σ δ H)->(g δ=some d)->(∀ v H',av H H'->HD K (wo H' (U ++ A0)) v d->Q v H')->GG):GG:=by obtain ⟨U,A0,δ,d,x0,x1,x2⟩:=hh; exact kk U A0 δ d x0 x1 x2
def gK (K:PySem.W.Frag) (O:List Nat) (g:DS->Option D):TE:=λσ H Q=>∃ U A0 δ d,Rel K O U A0 σ δ H /\ g δ=some d /\ ∀ v H',av H H'->fT K (U ++ A0) H' v d->Q v H'
theorem gK.e {K:PySem.W.Frag} {O:List Nat} {g:DS->Option D}  {σ:_} {H:_} {Q:_} {GG:Prop} (hh:gK K O g σ H Q) (kk:∀ U A0 δ d,(Rel K O U A0 σ δ H)->(g δ=some d)->(∀ v H',av H H'->fT K (U ++ A0) H' v d->Q v H')->GG):GG:=by obtain ⟨U,A0,δ,d,x0,x1,x2⟩:=hh; exact kk U A0 δ d x0 x1 x2
def tN (K:PySem.W.Frag) (O:List Nat) (g:DS->Option (List D)):TE:=λσ H Q=>∃ U A0 δ ds,Rel K O U A0 σ δ H /\ g δ=some ds /\
 ∀ r ys H',av H H'->H r=none->H' r=some (.lst ys)->b7 K (wo H' (r :: (U ++ A0))) ys ds->Q (.ref r) H'
theorem tN.e {K:PySem.W.Frag} {O:List Nat} {g:DS->Option (List D)}  {σ:_} {H:_} {Q:_} {GG:Prop} (hh:tN K O g σ H Q) (kk:∀ U A0 δ ds,(Rel K O U A0 σ δ H)->(g δ=some ds)->(∀ r ys H',av H H'->H r=none->H' r=some (.lst ys)->b7 K (wo H' (r :: (U ++ A0))) ys ds->Q (.ref r) H')->GG):GG:=by obtain ⟨U,A0,δ,ds,x0,x1,x2⟩:=hh; exact kk U A0 δ ds x0 x1 x2
def tT (K:PySem.W.Frag) (O:List Nat) (g:DS->Option Bool):TT:=λσ H Q=>∃ U A0 δ b,Rel K O U A0 σ δ H /\ g δ=some b /\ ∀ H',av H H'->Q b H'
theorem tT.e {K:PySem.W.Frag} {O:List Nat} {g:DS->Option Bool}  {σ:_} {H:_} {Q:_} {GG:Prop} (hh:tT K O g σ H Q) (kk:∀ U A0 δ b,(Rel K O U A0 σ δ H)->(g δ=some b)->(∀ H',av H H'->Q b H')->GG):GG:=by obtain ⟨U,A0,δ,b,x0,x1,x2⟩:=hh; exact kk U A0 δ b x0 x1 x2
def pE (K:PySem.W.Frag) (O:List Nat) (g:DS->Option (List D)):TA:=λσ H Q=>∃ U A0 δ ds,Rel K O U A0 σ δ H /\ g δ=some ds /\ ∀ vs H',av H H'->b7 K (wo H' (U ++ A0)) vs ds->Q vs H'
theorem pE.e {K:PySem.W.Frag} {O:List Nat} {g:DS->Option (List D)}  {σ:_} {H:_} {Q:_} {GG:Prop} (hh:pE K O g σ H Q) (kk:∀ U A0 δ ds,(Rel K O U A0 σ δ H)->(g δ=some ds)->(∀ vs H',av H H'->b7 K (wo H' (U ++ A0)) vs ds->Q vs H')->GG):GG:=by obtain ⟨U,A0,δ,ds,x0,x1,x2⟩:=hh; exact kk U A0 δ ds x0 x1 x2
def rj (K:PySem.W.Frag) (A:List Addr) (H:Hp):List V->List D->Prop:=Paired (fT K A H)
def nI (K:PySem.W.Frag) (O:List Nat) (g:DS->Option (List D)):TA:=λσ H Q=>∃ U A0 δ ds,Rel K O U A0 σ δ H /\ g δ=some ds /\ ∀ vs H',av H H'->rj K (U ++ A0) H' vs ds->Q vs H'
theorem nI.e {K:PySem.W.Frag} {O:List Nat} {g:DS->Option (List D)}  {σ:_} {H:_} {Q:_} {GG:Prop} (hh:nI K O g σ H Q) (kk:∀ U A0 δ ds,(Rel K O U A0 σ δ H)->(g δ=some ds)->(∀ vs H',av H H'->rj K (U ++ A0) H' vs ds->Q vs H')->GG):GG:=by obtain ⟨U,A0,δ,ds,x0,x1,x2⟩:=hh; exact kk U A0 δ ds x0 x1 x2
inductive Res where
 | nx (δ:DS) | rt (d:D) | bk (δ:DS) | ct (δ:DS)
def je (K:PySem.W.Frag) (fr:Bool) (H0:Hp) (A0:List Addr) (v:V) (d:D) (H':Hp):Prop:=
 if fr=true then ∃ r o,v=.ref r /\ av H0 H' /\ H0 r=none /\ H' r=some o /\ u7 K (wo H' (r :: A0)) o d else av H0 H' /\ HD K (wo H' A0) v d
def kG (c:Str):D:=.dict [(.none,.str c)]
abbrev Fr:=Bool×(Str->Hp->Prop)
def Gm (K:PySem.W.Frag) (O:List Nat) (fr:Fr) (H0:Hp) (A0:List Addr) (E:Ends):Res->Prop
 | .nx δ=>∀ U σ H,Rel K O U A0 σ δ H->Fx H0 A0 U H->E.nx σ H
 | .bk δ=>∀ U σ H,Rel K O U A0 σ δ H->Fx H0 A0 U H->E.bk σ H
 | .ct δ=>∀ U σ H,Rel K O U A0 σ δ H->Fx H0 A0 U H->E.ct σ H
 | .rt d=>(∀ v H,je K fr.1 H0 A0 v d H->E.rt v H) /\ ∀ c H,d=kG c->av H0 H->fr.2 c H
def tS (K:PySem.W.Frag) (O:List Nat) (fr:Fr) (g:DS->Option Res):TS:=λE σ H=>∃ H0 U A0 δ r,Rel K O U A0 σ δ H /\ Fx H0 A0 U H /\ g δ=some r /\ Gm K O fr H0 A0 E r
theorem tS.e {K:PySem.W.Frag} {O:List Nat} {fr:Fr} {g:DS->Option Res}  {E:_} {σ:_} {H:_} {GG:Prop} (hh:tS K O fr g E σ H) (kk:∀ H0 U A0 δ r,(Rel K O U A0 σ δ H)->(Fx H0 A0 U H)->(g δ=some r)->(Gm K O fr H0 A0 E r)->GG):GG:=by obtain ⟨H0,U,A0,δ,r,x0,x1,x2,x3⟩:=hh; exact kk H0 U A0 δ r x0 x1 x2 x3
def Walks (K:PySem.W.Frag) (A:List Addr) (H1:Hp) (J:It) (ds:List D):Prop:=∀ (A':List Addr) (i:Nat) (H:Hp),av (wo H1 A) (wo H A')->Ls A' H->
 (∀ d,ds[i]?=some d->J.go i H /\ ∀ x H2,J.Dd i H x H2->av H H2 /\ HD K (wo H2 A') x d) /\ (i=ds.length->J.stop i H)
def tI (K:PySem.W.Frag) (O:List Nat) (g:DS->Option (List D)):TI:=λσ H R=>∃ U A0 δ ds,Rel K O U A0 σ δ H /\ g δ=some ds /\ ∀ J H1,av H H1->Walks K (U ++ A0) H1 J ds->R J H1
theorem tI.e {K:PySem.W.Frag} {O:List Nat} {g:DS->Option (List D)}  {σ:_} {H:_} {R:_} {GG:Prop} (hh:tI K O g σ H R) (kk:∀ U A0 δ ds,(Rel K O U A0 σ δ H)->(g δ=some ds)->(∀ J H1,av H H1->Walks K (U ++ A0) H1 J ds->R J H1)->GG):GG:=by obtain ⟨U,A0,δ,ds,x0,x1,x2⟩:=hh; exact kk U A0 δ ds x0 x1 x2
def tG (K:PySem.W.Frag) (O:List Nat) (g:D->DS->Option DS):TG:=λv σ H Q=>∃ U A0 δ d δ',Rel K O U A0 σ δ H /\ HD K (wo H (U ++ A0)) v d /\ g d δ=some δ' /\ ∀ bO,Rel K O U A0 bO δ' H->Q bO H
theorem tG.e {K:PySem.W.Frag} {O:List Nat} {g:D->DS->Option DS}  {v:_} {σ:_} {H:_} {Q:_} {GG:Prop} (hh:tG K O g v σ H Q) (kk:∀ U A0 δ d δ',(Rel K O U A0 σ δ H)->(HD K (wo H (U ++ A0)) v d)->(g d δ=some δ')->(∀ bO,Rel K O U A0 bO δ' H->Q bO H)->GG):GG:=by obtain ⟨U,A0,δ,d,δ',x0,x1,x2,x3⟩:=hh; exact kk U A0 δ d δ' x0 x1 x2 x3
section
variable {X:Cx}
theorem PE.mono {e:Expr} {t t':TE} (h:PE X e t) (m:∀ σ H Q,t' σ H Q->t σ H Q):PE X e t':=λpins s σ H Q I q=>h pins s σ H Q I (m σ H Q q)
theorem PT.mono {e:Expr} {t t':TT} (h:PT X e t) (m:∀ σ H Q,t' σ H Q->t σ H Q):PT X e t':=λpins s σ H Q I q=>h pins s σ H Q I (m σ H Q q)
theorem PW.mono {e:Expr} {t t':TT} (h:PW X e t) (m:∀ σ H Q,t' σ H Q->t σ H Q):PW X e t':=λw pins s σ H Q I q=>h w pins s σ H Q I (m σ H Q q)
theorem PA.mono {e:List Expr} {t t':TA} (h:PA X e t) (m:∀ σ H Q,t' σ H Q->t σ H Q):PA X e t':=λpos pins s σ H Q I q=>h pos pins s σ H Q I (m σ H Q q)
theorem PS.mono {e:Stmt} {t t':TS} (h:PS X e t) (m:∀ E σ H,t' E σ H->t E σ H):PS X e t':=λpins s σ H E I q=>h pins s σ H E I (m E σ H q)
theorem iS.mono {e:List Stmt} {t t':TS} (h:iS X e t) (m:∀ E σ H,t' E σ H->t E σ H):iS X e t':=λpins s σ H E I q=>h pins s σ H E I (m E σ H q)
theorem PI.mono {tg e:Expr} {t t':TI} (h:PI X tg e t) (m:∀ σ H R,t' σ H R->t σ H R):PI X tg e t':=λpins s σ H R I q=>h pins s σ H R I (m σ H R q)
theorem PG.mono {e:Expr} {t t':TG} (h:PG X e t) (m:∀ v σ H Q,t' v σ H Q->t v σ H Q):PG X e t':=λpins s σ H v u Q I r q=>h pins s σ H v u Q I r (m v σ H Q q)
theorem PO.mono {e:Option Expr} {t t':TO} (h:PO X e t) (m:∀ σ H Q,t' σ H Q->t σ H Q):PO X e t':=λpins s σ H Q I q=>h pins s σ H Q I (m σ H Q q)
end
def ae (i:Nat):DS->Option D:=λδ=>(δ[i]?).join
def gC (d:D):DS->Option D:=λ_=>some d
def aw (g:DS->Option (List D)):DS->Option D:=λδ=>(g δ).map .list
theorem join_some {α:Type} {o:Option (Option α)} {d:α} (h:o.join=some d):o=some (some d):=by
 cases o with
 | none=>cases h
 | some p=>cases p with
   | none=>cases h
   | some q=>cases h; rfl
section
variable {X:Cx} {O:List Nat} {e:Expr} {g:DS->Option D}
theorem aI {i:Nat} (h:PE X e (sX i)) (hi:i∉O:=by decide):PE X e (tE X.K O (ae i)):=h.mono λσ H Q hh=>hh.e λU A0 δ d R ed q=>by
 obtain ⟨v,hv,hd⟩:=R.fz i d hi (join_some ed)
 exact ⟨v,hv,q v H (av.refl H) hd⟩
theorem af {i:Nat} (h:PE X e (sX i)):PE X e (gK X.K O (ae i)):=h.mono λσ H Q hh=>hh.e λU A0 δ d R ed q=>by
 obtain ⟨v,hv,hd⟩:=R.at (join_some ed)
 exact ⟨v,hv,q v H (av.refl H) hd⟩
theorem DM {v:V} {d:D} (h:PE X e (tC v)) (hd:∀ H,HD X.K H v d):PE X e (tE X.K O (gC d)):=h.mono λσ H Q hh=>hh.e λU A0 δ d' R ed q=>by
 cases ed
 exact q v H (av.refl H) (hd _)
theorem aj {i:Int} (h:PE X e (tC (.int i))):PE X e (tE X.K O (gC (.int i))):=DM h λ_=>.int i
theorem jn {i:Bool} (h:PE X e (tC (.bl i))):PE X e (tE X.K O (gC (.bool i))):=DM h λ_=>.bl i
theorem be {i:Str} (h:PE X e (tC (.str i))):PE X e (tE X.K O (gC (.str i))):=DM h λ_=>.str i
theorem PE.sh (h:PE X e (tE X.K O g)):PE X e (gK X.K O g):=h.mono λσ H Q hh=>hh.e λU A0 δ d R ed q=>⟨U,A0,δ,d,R,ed,λv H' s z=>q v H' s (.inl z)⟩
theorem Cm {K:PySem.W.Frag} {g:DS->Option (List D)} {σ:St} {H:Hp} {Q:VK}:tE K O (aw g) σ H Q->tN K O g σ H Q:=λ⟨U,A0,δ,d,R,ed,q⟩=>by
 unfold aw at ed
 cases eg:g δ with
 | none=>rw [eg] at ed; cases ed
 | some ds=>
   rw [eg] at ed; cases ed
   refine ⟨U,A0,δ,ds,R,eg,λr ys H' s hr h1 h2=>q _ H' s ?_⟩
   have hn:=R.al.free hr
   exact .lst (.of (by rw [bD hn]; exact h1)) (h2.same (jz λa ha=>RM _ ha))
theorem PE.nE {g:DS->Option (List D)} (h:PE X e (tN X.K O g)):PE X e (tE X.K O (aw g)):=h.mono λ_ _ _=>Cm
end
def g2 (f:D->D->Option D) (a b:DS->Option D):DS->Option D:=λδ=>(a δ).bind λx=>(b δ).bind λy=>f x y
def ky (f:D->D->Option (List D)) (a b:DS->Option D):DS->Option (List D):=λδ=>(a δ).bind λx=>(b δ).bind λy=>f x y
def gN (K:PySem.W.Frag) (r:R2) (f:D->D->Option D):Prop:=∀ (A:List Addr) (H:Hp) (x y:V) (dx dy d:D) (Q:VK),Ls A H->fT K A H x dx->fT K A H y dy->f dx dy=some d->(∀ v H',av H H'->HD K (wo H' A) v d->Q v H')->r x y H Q
def yk (K:PySem.W.Frag) (r:R2) (f:D->D->Option (List D)):Prop:=∀ (A:List Addr) (H:Hp) (x y:V) (dx dy:D) (ds:List D) (Q:VK),Ls A H->fT K A H x dx->fT K A H y dy->f dx dy=some ds->
 (∀ p ys,H p=none->b7 K (wo H A) ys ds->Q (.ref p) (upd H p (.lst ys)))->r x y H Q
theorem u9 {α β γ:Type} {a:Option α} {b:Option β} {f:α->β->Option γ} {d:γ} (h:(a.bind λx=>b.bind λy=>f x y)=some d):∃ x y,a=some x /\ b=some y /\ f x y=some d:=by
 cases a with
 | none=>cases h
 | some x=>cases b with
   | none=>cases h
   | some y=>exact ⟨x,y,rfl,rfl,h⟩
theorem bind1 {α β:Type} {a:Option α} {f:α->Option β} {d:β} (h:a.bind f=some d):∃ x,a=some x /\ f x=some d:=by
 cases a with
 | none=>cases h
 | some x=>exact ⟨x,rfl,h⟩
section
variable {X:Cx} {O:List Nat} {a b:Expr} {ga gb:DS->Option D} {pos:Pos} {r:R2}
theorem vb {K:PySem.W.Frag} {f:D->D->Option D} (imp:gN K r f) {σ:St} {H:Hp} {Q:VK}:tE K O (g2 f ga gb) σ H Q->E7 r (gK K O ga) (gK K O gb) σ H Q:=λ⟨U,A0,δ,d,R,ed,q⟩=>by
 obtain ⟨x,y,ex,ey,ef⟩:=u9 ed
 exact ⟨U,A0,δ,x,R,ex,λv1 H1 s1 h1=>⟨U,A0,δ,y,R.same s1,ey,λv2 H2 s2 h2=>imp _ H2 v1 v2 x y d Q (R.same (s1.trans s2)).al (h1.same s2) h2 ef λv H' s h=>q v H' ((s1.trans s2).trans s) h⟩⟩
theorem oB {K:PySem.W.Frag} {A:List Addr} {H H2:Hp} {ds:List D} {Q:VK} (s:av H H2) (q:∀ r ys H',av H H'->H r=none->H' r=some (.lst ys)->b7 K (wo H' (r :: A)) ys ds->Q (.ref r) H'):∀ p ys,H2 p=none->b7 K (wo H2 A) ys ds->Q (.ref p) (upd H2 p (.lst ys)):=
 λp ys hp h=>q p ys _ (s.trans (b9 hp _)) (s.free hp) bM (by rw [rh hp]; exact h)
theorem Gn {K:PySem.W.Frag} {f:D->D->Option (List D)} (imp:yk K r f) {σ:St} {H:Hp} {Q:VK}:tN K O (ky f ga gb) σ H Q->E7 r (gK K O ga) (gK K O gb) σ H Q:=λ⟨U,A0,δ,d,R,ed,q⟩=>by
 obtain ⟨x,y,ex,ey,ef⟩:=u9 ed
 exact ⟨U,A0,δ,x,R,ex,λv1 H1 s1 h1=>⟨U,A0,δ,y,R.same s1,ey,λv2 H2 s2 h2=>imp _ H2 v1 v2 x y d Q (R.same (s1.trans s2)).al (h1.same s2) h2 ef (oB (s1.trans s2) q)⟩⟩
theorem ay {op:Operator} {f:D->D->Option D} (ho:gz X (binaryOp op) r) (imp:gN X.K r f) (ha:PE X a (gK X.K O ga)) (hb:PE X b (gK X.K O gb)):PE X (.BinOp a op b pos) (tE X.K O (g2 f ga gb)):=(B7 ho ha hb).mono λ_ _ _=>vb imp
theorem cS {op:Operator} {f:D->D->Option (List D)} (ho:gz X (binaryOp op) r) (imp:yk X.K r f) (ha:PE X a (gK X.K O ga)) (hb:PE X b (gK X.K O gb)):PE X (.BinOp a op b pos) (tN X.K O (ky f ga gb)):=(B7 ho ha hb).mono λ_ _ _=>Gn imp
theorem jA {op:CmpOp} {f:D->D->Option D} (ho:gz X (compareOp op) r) (imp:gN X.K r f) (ha:PE X a (gK X.K O ga)) (hb:PE X b (gK X.K O gb)) (hm:behindInMarks op b=false):PE X (.Compare a [op] [b] pos) (tE X.K O (g2 f ga gb)):=(Aw ho ha hb hm).mono λ_ _ _=>vb imp
def gB (g:DS->Option D):DS->Option Bool:=λδ=>(g δ).bind λ| .bool b=>some b | _=>none
theorem Co {K:PySem.W.Frag} {g:DS->Option D} {te:TE} (m:∀ σ H Q,tE K O g σ H Q->te σ H Q) {σ:St} {H:Hp} {Q:Bool->Hp->Prop}:tT K O (gB g) σ H Q->te σ H λx H'=>∃ k,x=.bl k /\ Q k H':=λ⟨U,A0,δ,b,R,ed,q⟩=>by
 obtain ⟨d,e1,e2⟩:=bind1 ed
 cases d with
 | bool c=>
   cases e2
   exact m σ H _ ⟨U,A0,δ,_,R,e1,λv H' s h=>by cases h; exact ⟨_,rfl,q H' s⟩⟩
 | _=>cases e2
theorem bc {op:CmpOp} {f:D->D->Option D} (ho:gz X (compareOp op) r) (imp:gN X.K r f) (ha:PE X a (gK X.K O ga)) (hb:PE X b (gK X.K O gb)) (hm:behindInMarks op b=false):PT X (.Compare a [op] [b] pos) (tT X.K O (gB (g2 f ga gb))):=(Ax ho ha hb hm).mono λ_ _ _=>Co λ_ _ _=>vb imp
end
def dI (g:Int->Int->D):D->D->Option D
 | .int a,.int b=>some (g a b)
 | _,_=>none
open Classical in
def DN (C:Int->Int->Prop) (g:Int->Int->D):D->D->Option D
 | .int a,.int b=>if C a b then some (g a b) else none
 | _,_=>none
open Classical in
theorem pF {C:Int->Int->Prop} {g:Int->Int->D} {a b:Int} (h:C a b):DN C g (.int a) (.int b)=some (g a b):=by
 show (if C a b then some (g a b) else none)=_
 rw [RV h]
theorem Gp {g:Int->Int->D} {a b:Int}:dI g (.int a) (.int b)=some (g a b):=rfl
theorem ym {K:PySem.W.Frag} {g:Int->Int->Int}:gN K (xS λi j=>.int (g i j)) (dI λi j=>.int (g i j)):=by
 intro A H x y dx dy d Q al hx hy e q
 unfold dI at e
 split at e
 .cases e
  exact ⟨_,_,hx.int,hy.int,q _ H (av.refl H) (.int _)⟩
 .cases e
theorem c5 {K:PySem.W.Frag} {g:Int->Int->Bool}:gN K (xS λi j=>.bl (g i j)) (dI λi j=>.bool (g i j)):=by
 intro A H x y dx dy d Q al hx hy e q
 unfold dI at e
 split at e
 .cases e
  exact ⟨_,_,hx.int,hy.int,q _ H (av.refl H) (.bl _)⟩
 .cases e
set_option tactic.hygienic true in
theorem aK {K:PySem.W.Frag} {C:Int->Int->Prop} {g:Int->Int->Int}:gN K (rI C λi j=>.int (g i j)) (DN C λi j=>.int (g i j)):=by
 intro A H x y dx dy d Q al hx hy e q
 unfold DN at e
 split at e
 .split at e
  .rename_i c
   cases e
   exact ⟨_,_,hx.int,hy.int,c,q _ H (av.refl H) (.int _)⟩
  .cases e
 .cases e
abbrev wy:D->D->Option D:=dI λi j=>.int (i - j)
abbrev ik:D->D->Option D:=DN IntMulOk λi j=>.int (i * j)
abbrev kH:D->D->Option D:=DN ye λi j=>.int (i.fdiv j)
abbrev cT:D->D->Option D:=DN (λ_ j=>j≠0) λi j=>.int (i.fmod j)
abbrev gO:D->D->Option D:=DN Dj λi j=>.int (i ^ j.toNat)
abbrev wz:D->D->Option D:=dI λi j=>.bool (decide (i < j))
abbrev HM:D->D->Option D:=dI λi j=>.bool (decide (i<=j))
abbrev nA:D->D->Option D:=dI λi j=>.bool (decide (j < i))
abbrev Jj:D->D->Option D:=dI λi j=>.bool (decide (j<=i))
def jq:D->D->Option D
 | .int a,.int b=>some (.bool (decide (a=b)))
 | a,b=>if (SeqAt.shaped a && SeqAt.shaped b)=true then some (.bool (PyData.eqv a b)) else none
def Fd:D->D->Option D:=λa b=>(jq a b).bind λ| .bool c=>some (.bool (!c)) | _=>none
set_option tactic.hygienic true in
theorem vc {a b d:D} (h:jq a b=some d):SeqAt.shaped a=true /\ SeqAt.shaped b=true /\ d=.bool (PyData.eqv a b):=by
 unfold jq at h
 split at h
 .cases h
  refine ⟨by simp [SeqAt.shaped,PyData.canLay0,PyData.depth],by simp [SeqAt.shaped,PyData.canLay0,PyData.depth],?_⟩
  rw [PyData.eqv]; rfl
 .split at h
  .rename_i c
   rw [RT] at c
   cases h
   exact ⟨c.1,c.2,rfl⟩
  .cases h
def yn (K:PySem.W.Frag) (neg:Bool):R2:=λx y H Q=>∃ d e,HD K H x d /\ HD K H y e /\ SeqAt.shaped d=true /\ SeqAt.shaped e=true /\ Q (.bl (if neg=true then !PyData.eqv d e else PyData.eqv d e)) H
section
variable {X:Cx}
theorem fi {k:Nat} (hr:dQ k X.A):gz X (compareOp .Eq) (yn X.K false):=by
 intro pins s σ H x y v u Q I rx ry h
 obtain ⟨d,e,h1,h2,s1,s2,q⟩:=h
 obtain ⟨as,r1⟩:=h1.reads I rx (eI s1)
 obtain ⟨bs,r2⟩:=h2.reads I ry (eI s2)
 exact eq_dataH r1 r2 s1 s2 hr.units ⟨.bl _,H,I,rfl,q⟩
theorem yo {k:Nat} (hr:dQ k X.A):gz X (compareOp .NotEq) (yn X.K true):=by
 intro pins s σ H x y v u Q I rx ry h
 obtain ⟨d,e,h1,h2,s1,s2,q⟩:=h
 obtain ⟨as,r1⟩:=h1.reads I rx (eI s1)
 obtain ⟨bs,r2⟩:=h2.reads I ry (eI s2)
 exact ne_dataH r1 r2 s1 s2 hr.units ⟨.bl _,H,I,rfl,q⟩
end
theorem imp_eq {K:PySem.W.Frag}:gN K (yn K false) jq:=by
 intro A H x y dx dy d Q al hx hy e q
 obtain ⟨a,b,rfl⟩:=vc e
 exact ⟨dx,dy,hx.HL,hy.HL,a,b,q _ H (av.refl H) (.bl _)⟩
theorem yp {K:PySem.W.Frag}:gN K (yn K true) Fd:=by
 intro A H x y dx dy d Q al hx hy e q
 obtain ⟨c,e1,e2⟩:=bind1 e
 obtain ⟨a,b,rfl⟩:=vc e1
 cases e2
 exact ⟨dx,dy,hx.HL,hy.HL,a,b,q _ H (av.refl H) (.bl _)⟩
def yq (K:PySem.W.Frag):R2:=λx y H Q=>∃ l b xs zs,x=.ref l /\ y=.ref b /\ sS K H l xs /\ sS K H b zs /\ xs.length + zs.length<=sizeLine /\ ∀ p,H p=none->Q (.ref p) (upd H p (.lst (xs ++ zs)))
theorem bP {X:Cx}:gz X (binaryOp .Add) (yq X.K):=by
 intro pins s σ H x y v u Q I rx ry h
 obtain ⟨l,b,xs,zs,rfl,rfl,hH,hB,hz,q⟩:=h
 cases rx
 cases ry
 obtain ⟨z,its,n,r,e⟩:=I.MB hH
 obtain ⟨z2,ya,n2,r2,e2⟩:=I.MB hB
 have hl:=r.length
 have Ae:=r2.length
 refine PySem.P.add_list e e2 ?_ (by rw [RZ,RZ]; omega)
 have ea:its.toArray ++ ya.toArray=(its ++ ya).toArray:=by simp
 rw [ea]
 exact ⟨.ref _,_,I.IZ (t':=s.toks) (r.append r2) (by rw [SO]; omega),rfl,q _ I.fresh⟩
def eJ:D->D->Option (List D)
 | .list a,.list b=>if a.length + b.length<=100000 then some (a ++ b) else none
 | _,_=>none
set_option tactic.hygienic true in
theorem bQ {K:PySem.W.Frag}:yk K (yq K) eJ:=by
 intro A H x y dx dy ds Q al hx hy e q
 unfold eJ at e
 split at e
 .split at e
  .rename_i hz
   cases e
   obtain ⟨l,xs,rfl,h1,h2⟩:=hx.list
   obtain ⟨b,zs,rfl,h3,h4⟩:=hy.list
   have:=h2.len
   have:=h4.len
   exact ⟨l,b,xs,zs,rfl,rfl,h1,h3,small (by omega),λp hp=>q p _ hp (h2.app h4)⟩
  .cases e
 .cases e
def DO:D->D->Option D
 | .int a,.int b=>some (.int (a + b))
 | .str a,.str b=>if a.length + b.length<=100000 then some (.str (a ++ b)) else none
 | .list a,.list b=>if a.length + b.length<=100000 then some (.list (a ++ b)) else none
 | .tuple a,.tuple b=>if a.length + b.length<=100000 /\ a≠[] then some (.tuple (a ++ b)) else none
 | _,_=>none
def vd (K:PySem.W.Frag):R2:=λx y H Q=>xS (λi j=>.int (i + j)) x y H Q \/ (∃ i j,x=.str i /\ y=.str j /\ i.length + j.length<=sizeLine /\ Q (.str (i ++ j)) H) \/ yq K x y H Q \/ Ce K x y H Q
theorem AS {X:Cx}:gz X (binaryOp .Add) (vd X.K):=Dk.or (tw.or (bP.or AG))
theorem HD.Jk {K:PySem.W.Frag} {A:List Addr} {H:Hp} {p:Addr} {ys:List V} {ds:List D} (al:Ls A H) (hp:H p=none) (h:b7 K (wo H A) ys ds):HD K (wo (upd H p (.lst ys)) A) (.ref p) (.list ds):=by
 rw [yj (al.free hp)]
 have hn:wo H A p=none:=by
  by_cases z:p∈A
  .exact ir z
  .rw [bD z]; exact hp
 exact .lst (.of bM) (h.same (b9 hn _))
theorem HD.yr {K:PySem.W.Frag} {A:List Addr} {H:Hp} {p:Addr} {ys:List V} {ds:List D} (al:Ls A H) (hp:H p=none) (h:b7 K (wo H A) ys ds):HD K (wo (upd H p (.tup ys)) A) (.ref p) (.tuple ds):=by
 rw [yj (al.free hp)]
 have hn:wo H A p=none:=by
  by_cases z:p∈A
  .exact ir z
  .rw [bD z]; exact hp
 exact .tup (.inl bM) (h.same (b9 hn _))
set_option tactic.hygienic true in
theorem AU {K:PySem.W.Frag}:gN K (vd K) DO:=by
 intro A H x y dx dy d Q al hx hy e q
 unfold DO at e
 split at e
 .cases e
  exact .inl ⟨_,_,hx.int,hy.int,q _ H (av.refl H) (.int _)⟩
 .split at e
  .cases e
   exact .inr (.inl ⟨_,_,hx.str,hy.str,small (by assumption),q _ H (av.refl H) (.str _)⟩)
  .cases e
 .split at e
  .rename_i hz
   cases e
   refine .inr (.inr (.inl (bQ (K:=K) A H x y _ _ _ Q al hx hy (show (if _ then some _ else none)=some _ from RV hz) λp ys hp h=>?_)))
   exact q _ _ (b9 hp _) (HD.Jk al hp h)
  .cases e
 .split at e
  .rename_i hz
   cases e
   have NL:=hx.fz
   obtain ⟨a,xs,rfl,h1,h2⟩:=hx.tuple
   obtain ⟨b,zs,rfl,h3,h4⟩:=hy.tuple
   have l2:=h2.len
   have l4:=h4.len
   refine .inr (.inr (.inr ⟨a,b,xs,zs,rfl,rfl,h1,h3,?_,small (by omega),λz=>?_,λz p hp=>?_⟩))
   .intro z; subst z; cases h2; exact hz.2 rfl
   .subst z; cases h4
    rw [SI] at q
    exact q _ H (av.refl H) NL
   .exact q _ _ (b9 hp _) (HD.yr al hp (h2.app h4))
  .cases e
 .cases e
def fW:D->D->Option D
 | .list ds,.int i=>lP ds i
 | .tuple ds,.int i=>lP ds i
 | .str z,.int i=>if z.length<=100000 then (lP z.cps.toList i).map λc=>.str ⟨#[c]⟩ else none
 | _,_=>none
theorem b7.lP {K:PySem.W.Frag} {H:Hp} {xs:List V} {ds:List D} {i:Int} {d:D} (h:b7 K H xs ds) (e:lP ds i=some d):∃ v,L2.lP xs i=some v /\ HD K H v d:=by
 unfold L2.lP at e ⊢
 obtain ⟨j,e1,e2⟩:=bind1 e
 rw [h.len,e1]
 obtain ⟨x,hx,q⟩:=h.get e2
 exact ⟨x,hx,q⟩
set_option tactic.hygienic true in
theorem DP {K:PySem.W.Frag}:gN K (Mw K) fW:=by
 intro A H x y dx dy d Q al hx hy e q
 unfold fW at e
 split at e
 .obtain ⟨l,xs,rfl,h1,h2⟩:=hx.list
  obtain ⟨v,e1,e2⟩:=h2.lP e
  exact .inl ⟨l,xs,_,v,rfl,hy.int,h1.sq,e1,q _ H (av.refl H) e2⟩
 .obtain ⟨l,xs,rfl,h1,h2⟩:=hx.tuple
  obtain ⟨v,e1,e2⟩:=h2.lP e
  exact .inr (.inl ⟨l,xs,_,v,rfl,hy.int,h1,e1,q _ H (av.refl H) e2⟩)
 .split at e
  .rename_i z i hz
   cases ec:L2.lP z.cps.toList i with
   | none=>rw [ec] at e; cases e
   | some c=>
     rw [ec] at e; cases e
     exact .inr (.inr ⟨z,i,c,hx.str,hy.int,small hz,ec,q _ H (av.refl H) (.str _)⟩)
  .cases e
 .cases e
section
variable {X:Cx} {O:List Nat} {a b:Expr} {ga gb:DS->Option D} {pos:Pos}
theorem c6 (ha:PE X a (gK X.K O ga)) (hb:PE X b (gK X.K O gb)) (hs:u3 b:=by exact λ_ _=>rfl):PE X (.Subscript a b pos) (tE X.K O (g2 fW ga gb)):=(F9 Dy ha hb hs).mono λ_ _ _=>vb DP
end
def g1 (f:D->Option D) (a:DS->Option D):DS->Option D:=λδ=>(a δ).bind f
def tO:D->Option D
 | .int a=>some (.int (-a))
 | _=>none
def AV:D->Option D
 | .bool a=>some (.bool (!a))
 | _=>none
section
variable {X:Cx} {O:List Nat} {a b c:Expr} {ga gb:DS->Option D} {pos:Pos}
theorem yt (ha:PE X a (gK X.K O ga)):PE X (.UnaryOp .USub a pos) (tE X.K O (g1 tO ga)):=(FX Dl ha).mono λσ H Q hh=>hh.e λU A0 δ d R ed q=>by
 obtain ⟨x,e1,e2⟩:=bind1 ed
 cases x with
 | int i=>cases e2; exact ⟨U,A0,δ,_,R,e1,λv H' s h=>⟨i,h.int,q _ H' s (.int _)⟩⟩
 | _=>cases e2
theorem DQ (ha:PE X a (gK X.K O ga)):PE X (.UnaryOp .Not a pos) (tE X.K O (g1 AV ga)):=(C3 ha).mono λσ H Q hh=>hh.e λU A0 δ d R ed q=>by
 obtain ⟨x,e1,e2⟩:=bind1 ed
 cases x with
 | bool i=>cases e2; exact ⟨U,A0,δ,_,R,e1,λv H' s h=>⟨i,h.bool,q _ H' s (.bl _)⟩⟩
 | _=>cases e2
def kZ (a b:DS->Option D):DS->Option D:=λδ=>(gB a δ).bind λx=>if x=true then b δ else some (.bool false)
def yu (a b:DS->Option D):DS->Option D:=λδ=>(gB a δ).bind λx=>if x=true then some (.bool true) else b δ
theorem ve {g:DS->Option D} {δ:DS} {b:Bool} (h:gB g δ=some b):g δ=some (.bool b):=by
 obtain ⟨d,e1,e2⟩:=bind1 h
 cases d with
 | bool c=>cases e2; exact e1
 | _=>cases e2
theorem yw {rest:List Expr} (ha:PE X a (tE X.K O ga)) (hb:PE X (.BoolOp .And (b :: rest) pos) (tE X.K O gb)):PE X (.BoolOp .And (a :: b :: rest) pos) (tE X.K O (kZ ga gb)):=(C1 ha hb).mono λσ H Q hh=>hh.e λU A0 δ d R ed q=>by
 obtain ⟨x,e1,e2⟩:=bind1 ed
 refine ⟨U,A0,δ,_,R,ve e1,λv H' s h=>?_⟩
 cases h
 refine ⟨x,rfl,?_⟩
 cases x with
 | true=>rw [RV rfl] at e2 ⊢; exact ⟨U,A0,δ,d,R.same s,e2,λv H2 s2 h2=>q v H2 (s.trans s2) h2⟩
 | false=>rw [R4 RS] at e2 ⊢; cases e2; exact q _ H' s (.bl _)
theorem Gq {rest:List Expr} (ha:PE X a (tE X.K O ga)) (hb:PE X (.BoolOp .Or (b :: rest) pos) (tE X.K O gb)):PE X (.BoolOp .Or (a :: b :: rest) pos) (tE X.K O (yu ga gb)):=(FL ha hb).mono λσ H Q hh=>hh.e λU A0 δ d R ed q=>by
 obtain ⟨x,e1,e2⟩:=bind1 ed
 refine ⟨U,A0,δ,_,R,ve e1,λv H' s h=>?_⟩
 cases h
 refine ⟨x,rfl,?_⟩
 cases x with
 | true=>rw [RV rfl] at e2 ⊢; cases e2; exact q _ H' s (.bl _)
 | false=>rw [R4 RS] at e2 ⊢; exact ⟨U,A0,δ,d,R.same s,e2,λv H2 s2 h2=>q v H2 (s.trans s2) h2⟩
def lC (a b:DS->Option Bool):DS->Option Bool:=λδ=>(a δ).bind λx=>if x=true then b δ else some false
def wA (a b:DS->Option Bool):DS->Option Bool:=λδ=>(a δ).bind λx=>if x=true then some true else b δ
def dv (a:DS->Option Bool):DS->Option Bool:=λδ=>(a δ).map λx=> !x
variable {ta tb:DS->Option Bool} {rest:List Expr}
theorem pG (ha:PT X a (tT X.K O ta)) (hb:PW X (.BoolOp .And (b :: rest) pos) (tT X.K O tb)):PW X (.BoolOp .And (a :: b :: rest) pos) (tT X.K O (lC ta tb)):=(pw_and ha hb).mono λσ H Q hh=>hh.e λU A0 δ d R ed q=>by
 obtain ⟨x,e1,e2⟩:=bind1 ed
 refine ⟨U,A0,δ,_,R,e1,λH' s=>?_⟩
 cases x with
 | true=>rw [RV rfl] at e2 ⊢; exact ⟨U,A0,δ,d,R.same s,e2,λH2 s2=>q H2 (s.trans s2)⟩
 | false=>rw [R4 RS] at e2 ⊢; cases e2; exact q H' s
theorem kI (ha:PT X a (tT X.K O ta)) (hb:PW X (.BoolOp .Or (b :: rest) pos) (tT X.K O tb)):PW X (.BoolOp .Or (a :: b :: rest) pos) (tT X.K O (wA ta tb)):=(pw_or ha hb).mono λσ H Q hh=>hh.e λU A0 δ d R ed q=>by
 obtain ⟨x,e1,e2⟩:=bind1 ed
 refine ⟨U,A0,δ,_,R,e1,λH' s=>?_⟩
 cases x with
 | true=>rw [RV rfl] at e2 ⊢; cases e2; exact q H' s
 | false=>rw [R4 RS] at e2 ⊢; exact ⟨U,A0,δ,d,R.same s,e2,λH2 s2=>q H2 (s.trans s2)⟩
theorem cV (ha:PT X a (tT X.K O ta)):PT X (.UnaryOp .Not a pos) (tT X.K O (dv ta)):=(C0 ha).mono λσ H Q hh=>hh.e λU A0 δ d R ed q=>by
 unfold dv at ed
 cases e:ta δ with
 | none=>rw [e] at ed; cases ed
 | some x=>rw [e] at ed; cases ed; exact ⟨U,A0,δ,x,R,e,λH' s=>q H' s⟩
def Jl:D->Option Bool
 | .none=>some false
 | .bool b=>some b
 | .int i=>some (i != 0)
 | .str x=>if x.length<=100000 then some ((x.length:Int) != 0) else none
 | .list l=>some (!l.isEmpty)
 | .tuple l=>some (!l.isEmpty)
 | _=>none
def dG (g:DS->Option D):DS->Option Bool:=λδ=>(g δ).bind Jl
theorem me {K:PySem.W.Frag} {H:Hp} {xs:List V} {ds:List D} (h:b7 K H xs ds):xs.isEmpty=ds.isEmpty:=by cases h <;> rfl
theorem cy (ha:PE X a (gK X.K O ga)) (he:∀ whole,isTrue a X.env whole=(do let v <- whole; standAt a.pos; holding [v] (truthy v)):=by exact λ_=>rfl):PT X a (tT X.K O (dG ga)):=(xV ha he).mono λσ H Q hh=>hh.e λU A0 δ k R ed q=>by
 obtain ⟨d,e1,e2⟩:=bind1 ed
 refine ⟨U,A0,δ,d,R,e1,λv H' s h=>⟨k,?_,q H' s⟩⟩
 cases d with
 | none=>cases e2; rw [h.fF]; exact rfl
 | bool b=>cases e2; rw [h.bool]; exact rfl
 | int i=>cases e2; rw [h.int]; exact rfl
 | str x=>
   rw [h.str]
   have e3:(if x.length<=100000 then some ((x.length:Int) != 0) else none)=some k:=e2
   split at e3
   .cases e3; exact ⟨small (by assumption),rfl⟩
   .cases e3
 | list l=>
   cases e2
   obtain ⟨p,xs,rfl,h1,h2⟩:=h.list
   exact .inl ⟨xs,h1.sq,by rw [me h2]⟩
 | tuple l=>
   cases e2
   obtain ⟨p,xs,rfl,h1,h2⟩:=h.tuple
   exact .inr (.inl ⟨xs,h1,by rw [me h2]⟩)
 | dict _=>cases e2
end
def ah:DS->Option (List D):=λ_=>some []
def aa (a:DS->Option D) (r:DS->Option (List D)):DS->Option (List D):=λδ=>(a δ).bind λx=>(r δ).bind λxs=>some (x :: xs)
def Cp (r:DS->Option (List D)):DS->Option D:=λδ=>(r δ).bind λxs=>if xs.length<=100000 then some (.tuple xs) else none
def bH (r:DS->Option (List D)):DS->Option (List D):=λδ=>(r δ).bind λxs=>if xs.length<=100000 then some xs else none
section
variable {X:Cx} {O:List Nat} {e:Expr} {es:List Expr} {ga:DS->Option D} {gr:DS->Option (List D)} {pos:Pos}
theorem aq:PA X [] (pE X.K O ah):=el.mono λσ H Q hh=>hh.e λU A0 δ d R ed q=>by cases ed; exact q [] H (av.refl H) .nil
theorem ag (ha:PE X e (tE X.K O ga)) (hr:PA X es (pE X.K O gr)) (hs:starEach (e :: es) X.env=(false,eval e X.env) :: starEach es X.env:=by rfl):PA X (e :: es) (pE X.K O (aa ga gr)):=(cq ha hr hs).mono λσ H Q hh=>hh.e λU A0 δ ds R ed q=>by
 obtain ⟨x,xs,e1,e2,e3⟩:=u9 ed
 cases e3
 exact ⟨U,A0,δ,x,R,e1,λv H1 s1 h1=>⟨U,A0,δ,xs,R.same s1,e2,λvs H2 s2 h2=>q _ H2 (s1.trans s2) (.cons (h1.same (cE s2)) h2)⟩⟩
theorem aB:PA X [] (nI X.K O ah):=el.mono λσ H Q hh=>hh.e λU A0 δ d R ed q=>by cases ed; exact q [] H (av.refl H) .nil
theorem au (ha:PE X e (gK X.K O ga)) (hr:PA X es (nI X.K O gr)) (hs:starEach (e :: es) X.env=(false,eval e X.env) :: starEach es X.env:=by rfl):PA X (e :: es) (nI X.K O (aa ga gr)):=(cq ha hr hs).mono λσ H Q hh=>hh.e λU A0 δ ds R ed q=>by
 obtain ⟨x,xs,e1,e2,e3⟩:=u9 ed
 cases e3
 exact ⟨U,A0,δ,x,R,e1,λv H1 s1 h1=>⟨U,A0,δ,xs,R.same s1,e2,λvs H2 s2 h2=>q _ H2 (s1.trans s2) (.cons (h1.same s2) h2)⟩⟩
set_option tactic.hygienic true in
theorem DR {x1} (h:PA X es (pE X.K O gr)):PE X (.Tuple es x1 pos) (tE X.K O (Cp gr)):=(Ds h).mono λσ H Q hh=>hh.e λU A0 δ d R ed q=>by
 obtain ⟨xs,e1,e2⟩:=bind1 ed
 split at e2
 .rename_i hz
  cases e2
  refine ⟨U,A0,δ,xs,R,e1,λvs H' s h=>⟨by have:=h.len; exact small (by omega),λp hp=>q _ _ (s.trans (b9 hp _)) (HD.yr (R.same s).al hp h)⟩⟩
 .cases e2
set_option tactic.hygienic true in
theorem bY (h:PA X es (pE X.K O gr)):PE X (.List es pos) (tN X.K O (bH gr)):=(Dt h).mono λσ H Q hh=>hh.e λU A0 δ d R ed q=>by
 obtain ⟨xs,e1,e2⟩:=bind1 ed
 split at e2
 .rename_i hz
  cases e2
  refine ⟨U,A0,δ,d,R,e1,λvs H' s h=>⟨by have:=h.len; exact small (by omega),λp hp=>oB s q p vs hp h⟩⟩
 .cases e2
end
def gj (K:PySem.W.Frag) (n:Nat) (G:List D->Option D):Sp:=λvs H Q _=>vs.length=n /\ ∃ A ds d,Ls A H /\ b7 K (wo H A) vs ds /\ G ds=some d /\ ∀ v H',av H H'->HD K (wo H' A) v d->Q v H'
def xy (K:PySem.W.Frag) (n:Nat) (G:List D->Option (List D)):Sp:=λvs H Q _=>vs.length=n /\ ∃ A ds d,Ls A H /\ b7 K (wo H A) vs ds /\ G ds=some d /\
 ∀ r ys H',av H H'->H r=none->H' r=some (.lst ys)->b7 K (wo H' (r :: A)) ys d->Q (.ref r) H'
def aJ (G:List D->Option D) (n:Nat) (g:DS->Option (List D)):DS->Option D:=λδ=>(g δ).bind λds=>if ds.length=n then G ds else none
def dS (G:List D->Option (List D)) (n:Nat) (g:DS->Option (List D)):DS->Option (List D):=λδ=>(g δ).bind λds=>if ds.length=n then G ds else none
section
variable {X:Cx} {O:List Nat} {e:Expr} {es:List Expr} {gr:DS->Option (List D)} {pos p:Pos} {n k kk:Nat} {x:Str} {ps:List Str}
set_option tactic.hygienic true in
theorem bI {G:List D->Option D} (F:Dn X.prog X.w X.K X.mg X.base k x ps (gj X.K n G)) (hr:dQ kk X.A) (hk:k<=kk) (ha:PA X (e :: es) (pE X.K O gr)) (hg:Gl X x:=by rfl)
  (nF:(x == ("__debug__":Str))=false:=by decide) (he:starEach (e :: es) X.env=(false,eval e X.env) :: starEach es X.env:=by rfl) (gA:(backTo pos (starEach es X.env)).any (·.1)=false:=by rfl):
  PE X (.Call (.Name x p) (e :: es) [] pos) (tE X.K O (aJ G n gr)):=(Cg F hr hk ha hg nF he gA).mono λσ H Q hh=>hh.e λU A0 δ d R ed q=>by
 obtain ⟨ds,e1,e2⟩:=bind1 ed
 split at e2
 .rename_i hn
  refine ⟨U,A0,δ,ds,R,e1,λvs H' s h=>?_⟩
  show gj X.K n G (vs ++ []) H' Q E0
  rw [SI]
  exact ⟨by rw [h.len]; exact hn,U ++ A0,ds,d,(R.same s).al,h,e2,λv H2 s2 h2=>q v H2 (s.trans s2) h2⟩
 .cases e2
set_option tactic.hygienic true in
theorem iu {G:List D->Option (List D)} (F:Dn X.prog X.w X.K X.mg X.base k x ps (xy X.K n G)) (hr:dQ kk X.A) (hk:k<=kk) (ha:PA X (e :: es) (pE X.K O gr)) (hg:Gl X x:=by rfl)
  (nF:(x == ("__debug__":Str))=false:=by decide) (he:starEach (e :: es) X.env=(false,eval e X.env) :: starEach es X.env:=by rfl) (gA:(backTo pos (starEach es X.env)).any (·.1)=false:=by rfl):
  PE X (.Call (.Name x p) (e :: es) [] pos) (tN X.K O (dS G n gr)):=(Cg F hr hk ha hg nF he gA).mono λσ H Q hh=>hh.e λU A0 δ d R ed q=>by
 obtain ⟨ds,e1,e2⟩:=bind1 ed
 split at e2
 .rename_i hn
  refine ⟨U,A0,δ,ds,R,e1,λvs H' s h=>?_⟩
  show xy X.K n G (vs ++ []) H' Q E0
  rw [SI]
  exact ⟨by rw [h.len]; exact hn,U ++ A0,ds,d,(R.same s).al,h,e2,λr ys H2 s2 h0 h1 h2=>q r ys H2 (s.trans s2) (s.free h0) h1 h2⟩
 .cases e2
end
def mf (K:PySem.W.Frag) (r:List V->Hp->VK->Prop) (f:List D->Option D):Prop:=∀ (A:List Addr) (H:Hp) (vs:List V) (ds:List D) (d:D) (Q:VK),Ls A H->rj K A H vs ds->f ds=some d->(∀ v H',av H H'->HD K (wo H' A) v d->Q v H')->r vs H Q
def yx (K:PySem.W.Frag) (r:List V->Hp->VK->Prop) (f:List D->Option (List D)):Prop:=∀ (A:List Addr) (H:Hp) (vs:List V) (ds:List D) (d:List D) (Q:VK),Ls A H->rj K A H vs ds->f ds=some d->
 (∀ p ys,H p=none->b7 K (wo H A) ys d->Q (.ref p) (upd H p (.lst ys)))->r vs H Q
def dw (f:List D->Option D) (g:DS->Option (List D)):DS->Option D:=λδ=>(g δ).bind f
def yy (f:List D->Option (List D)) (g:DS->Option (List D)):DS->Option (List D):=λδ=>(g δ).bind f
section
variable {X:Cx} {O:List Nat} {e:Expr} {es:List Expr} {gr:DS->Option (List D)} {pos p:Pos} {x:Str} {r:List V->Hp->VK->Prop} {id T:String}
theorem Cq {K:PySem.W.Frag} {f:List D->Option D} (imp:mf K r f) {σ:St} {H:Hp} {Q:VK}:tE K O (dw f gr) σ H Q->HJ r (nI K O gr) σ H Q:=λ⟨U,A0,δ,d,R,ed,q⟩=>by
 obtain ⟨ds,e1,e2⟩:=bind1 ed
 exact ⟨U,A0,δ,ds,R,e1,λvs H' s h=>imp _ H' vs ds d Q (R.same s).al h e2 λv H2 s2 h2=>q v H2 (s.trans s2) h2⟩
theorem Gr {K:PySem.W.Frag} {f:List D->Option (List D)} (imp:yx K r f) {σ:St} {H:Hp} {Q:VK}:tN K O (yy f gr) σ H Q->HJ r (nI K O gr) σ H Q:=λ⟨U,A0,δ,d,R,ed,q⟩=>by
 obtain ⟨ds,e1,e2⟩:=bind1 ed
 exact ⟨U,A0,δ,ds,R,e1,λvs H' s h=>imp _ H' vs ds d Q (R.same s).al h e2 (oB s q)⟩
theorem aS {f:List D->Option D} (hc:cU X (.builtin id) r) (imp:mf X.K r f) (hg:Gl X x) (hm:X.mg x=none) (hv:bootBuiltins x=some (.builtin id)) (ha:PA X (e :: es) (nI X.K O gr)) (hn:x≠"__name__":=by decide) (nF:(x == ("__debug__":Str))=false:=by decide)
  (he:starEach (e :: es) X.env=(false,eval e X.env) :: starEach es X.env:=by rfl) (gA:(backTo pos (starEach es X.env)).any (·.1)=false:=by rfl):PE X (.Call (.Name x p) (e :: es) [] pos) (tE X.K O (dw f gr)):=
 (kb hc hg hm hv ha hn nF he gA).mono λ_ _ _=>Cq imp
theorem cP {f:List D->Option D} (hc:cU X (.type T) r) (imp:mf X.K r f) (hg:Gl X x) (hm:X.mg x=none) (hv:bootBuiltins x=some (.type T)) (ha:PA X (e :: es) (nI X.K O gr)) (hn:x≠"__name__":=by decide) (nF:(x == ("__debug__":Str))=false:=by decide)
  (he:starEach (e :: es) X.env=(false,eval e X.env) :: starEach es X.env:=by rfl) (gA:(backTo pos (starEach es X.env)).any (·.1)=false:=by rfl):PE X (.Call (.Name x p) (e :: es) [] pos) (tE X.K O (dw f gr)):=
 (iT hc hg hm hv ha hn nF he gA).mono λ_ _ _=>Cq imp
theorem mh {f:List D->Option (List D)} (hc:cU X (.type T) r) (imp:yx X.K r f) (hg:Gl X x) (hm:X.mg x=none) (hv:bootBuiltins x=some (.type T)) (ha:PA X (e :: es) (nI X.K O gr)) (hn:x≠"__name__":=by decide) (nF:(x == ("__debug__":Str))=false:=by decide)
  (he:starEach (e :: es) X.env=(false,eval e X.env) :: starEach es X.env:=by rfl) (gA:(backTo pos (starEach es X.env)).any (·.1)=false:=by rfl):PE X (.Call (.Name x p) (e :: es) [] pos) (tN X.K O (yy f gr)):=
 (iT hc hg hm hv ha hn nF he gA).mono λ_ _ _=>Gr imp
end
theorem wB {K:PySem.W.Frag} {A:List Addr} {H:Hp} {vs:List V} {d:D} (h:rj K A H vs [d]):∃ v,vs=[v] /\ fT K A H v d:=by
 unfold rj at h
 cases h with
 | cons a t=>cases t; exact ⟨_,rfl,a⟩
theorem NM {K:PySem.W.Frag} {A:List Addr} {H:Hp} {vs:List V} {d e:D} (h:rj K A H vs [d,e]):∃ v u,vs=[v,u] /\ fT K A H v d /\ fT K A H u e:=by
 unfold rj at h
 cases h with
 | cons a t=>cases t with
   | cons b t=>cases t; exact ⟨_,_,rfl,a,b⟩
def cp:List D->Option D
 | [.list l]=>some (.int l.length)
 | [.tuple l]=>some (.int l.length)
 | [.str z]=>if z.length<=100000 then some (.int z.length) else none
 | _=>none
theorem aU {X:Cx}:cU X (.builtin "len") (λxs H Q=>(∃ p ys,xs=[.ref p] /\ (ie X.K H p ys \/ jl X.K H p ys) /\ Q (.int ys.length) H) \/ ∃ z,xs=[.str z] /\ z.length<=sizeLine /\ Q (.int z.length) H):=pq.or pw
theorem bJ {K:PySem.W.Frag}:mf K (λxs H Q=>(∃ p ys,xs=[.ref p] /\ (ie K H p ys \/ jl K H p ys) /\ Q (.int ys.length) H) \/ ∃ z,xs=[.str z] /\ z.length<=sizeLine /\ Q (.int z.length) H) cp:=by
 intro A H vs ds d Q al h e q
 unfold cp at e
 split at e
 .cases e
  obtain ⟨v,rfl,h1⟩:=wB h
  clear h
  have h:=h1
  obtain ⟨p,xs,rfl,h1,h2⟩:=h.list
  refine .inl ⟨p,xs,rfl,.inl h1.sq,?_⟩
  rw [h2.len]
  exact q _ H (av.refl H) (.int _)
 .cases e
  obtain ⟨v,rfl,h1⟩:=wB h
  clear h
  have h:=h1
  obtain ⟨p,xs,rfl,h1,h2⟩:=h.tuple
  refine .inl ⟨p,xs,rfl,.inr h1,?_⟩
  rw [h2.len]
  exact q _ H (av.refl H) (.int _)
 .split at e
  .cases e
   obtain ⟨v,rfl,h1⟩:=wB h
   exact .inr ⟨_,by rw [h1.str],small (by assumption),q _ H (av.refl H) (.int _)⟩
  .cases e
 .cases e
def yz:List D->Option D
 | [.int i]=>some (.int (if i < 0 then -i else i))
 | _=>none
theorem AW {K:PySem.W.Frag}:mf K (λxs H Q=>∃ i,xs=[.int i] /\ Q (.int (if i < 0 then -i else i)) H) yz:=by
 intro A H vs ds d Q al h e q
 unfold yz at e
 split at e
 .cases e
  obtain ⟨v,rfl,h1⟩:=wB h
  clear h
  have h:=h1
  exact ⟨_,by rw [h.int],q _ H (av.refl H) (.int _)⟩
 .cases e
def rk:List D->Option D
 | [.int i,.int j]=>some (.int (if j > i then j else i))
 | _=>none
theorem AX {K:PySem.W.Frag}:mf K (λxs H Q=>∃ i j,xs=[.int i,.int j] /\ Q (.int (if j > i then j else i)) H) rk:=by
 intro A H vs ds d Q al h e q
 unfold rk at e
 split at e
 .cases e
  obtain ⟨v,u,rfl,h1,h'⟩:=NM h
  clear h
  have h:=h1
  exact ⟨_,_,by rw [h.int,h'.int],q _ H (av.refl H) (.int _)⟩
 .cases e
def AY:List D->Option D
 | [.int i]=>some (.int i)
 | [.bool k]=>some (.int (if k then 1 else 0))
 | _=>none
theorem AZ {K:PySem.W.Frag}:mf K (λxs H Q=>(∃ i,xs=[.int i] /\ Q (.int i) H) \/ ∃ k,xs=[.bl k] /\ Q (.int (if k then 1 else 0)) H) AY:=by
 intro A H vs ds d Q al h e q
 unfold AY at e
 split at e
 .cases e
  obtain ⟨v,rfl,h1⟩:=wB h
  clear h
  have h:=h1
  exact .inl ⟨_,by rw [h.int],q _ H (av.refl H) (.int _)⟩
 .cases e
  obtain ⟨v,rfl,h1⟩:=wB h
  clear h
  have h:=h1
  exact .inr ⟨_,by rw [h.bool],q _ H (av.refl H) (.int _)⟩
 .cases e
def mi:List D->Option (List D)
 | [.list l]=>some l
 | [.tuple l]=>some l
 | _=>none
theorem rl {K:PySem.W.Frag}:yx K (λxs H Q=>∃ p ys,xs=[.ref p] /\ (ie K H p ys \/ jl K H p ys) /\ ∀ l,H l=none->Q (.ref l) (upd H l (.lst ys))) mi:=by
 intro A H vs ds d Q al h e q
 unfold mi at e
 split at e
 .cases e
  obtain ⟨v,rfl,h1⟩:=wB h
  clear h
  have h:=h1
  obtain ⟨p,xs,rfl,h1,h2⟩:=h.list
  exact ⟨p,xs,rfl,.inl h1.sq,λl hl=>q l xs hl h2⟩
 .cases e
  obtain ⟨v,rfl,h1⟩:=wB h
  clear h
  have h:=h1
  obtain ⟨p,xs,rfl,h1,h2⟩:=h.tuple
  exact ⟨p,xs,rfl,.inr h1,λl hl=>q l xs hl h2⟩
 .cases e
def gD:List D->Option D
 | [.list l]=>some (.tuple l)
 | [.tuple l]=>some (.tuple l)
 | _=>none
theorem gE {K:PySem.W.Frag}:mf K (λxs H Q=>∃ p ys,xs=[.ref p] /\ ((ie K H p ys /\ ∀ l,H l=none->Q (.ref l) (upd H l (.tup ys))) \/ (jl K H p ys /\ Q (.ref p) H))) gD:=by
 intro A H vs ds d Q al h e q
 unfold gD at e
 split at e
 .cases e
  obtain ⟨v,rfl,h1⟩:=wB h
  clear h
  have h:=h1
  obtain ⟨p,xs,rfl,h1,h2⟩:=h.list
  exact ⟨p,xs,rfl,.inl ⟨h1.sq,λl hl=>q _ _ (b9 hl _) (HD.yr al hl h2)⟩⟩
 .cases e
  obtain ⟨v,rfl,h1⟩:=wB h
  clear h
  have h:=h1
  have h':=h.fz
  obtain ⟨p,xs,rfl,h1,h2⟩:=h.tuple
  exact ⟨p,xs,rfl,.inr ⟨h1,q _ H (av.refl H) h'⟩⟩
 .cases e
def tyName:D->String
 | .none=>"NoneType"
 | .bool _=>"bool"
 | .int _=>"int"
 | .str _=>"str"
 | .list _=>"list"
 | .tuple _=>"tuple"
 | .dict _=>"dict"
theorem DT {K:PySem.W.Frag} {t n:String} {b:Bool} (h:(Value.type t == Value.type n)=false) (h2:PySem.W.kitMeta n=true) (h3:(fastBuiltinMro t).map (·.contains (Value.type n))=some b):PySem.W.kitOne K (.type t) (.type n)=some b:=by
 unfold PySem.W.kitOne PySem.W.kitCls
 rw [h,R4 (by decide)]
 show (if PySem.W.kitMeta n=true then PySem.W.subIn K (.type t) (.type n) else none)=some b
 rw [RV h2]
 exact h3
def bZ:List String:=["int","bool","str","list","tuple","NoneType"]
def Jm (n:String):List D->Option D
 | [d]=>if tyName d∈bZ /\ n∈bZ then some (.bool (decide (tyName d=n) || (decide (tyName d="bool") && decide (n="int")))) else none
 | _=>none
theorem A1 {K:PySem.W.Frag} {t n:String} (ht:t∈bZ) (hn:n∈bZ):PySem.W.kitOne K (.type t) (.type n)=some (decide (t=n) || (decide (t="bool") && decide (n="int"))):=by
 by_cases h:t=n
 .subst h
  rw [yg]; simp
 .have all:∀ t∈bZ,∀ n∈bZ,t≠n->(Value.type t == Value.type n)=false /\ PySem.W.kitMeta n=true /\ (fastBuiltinMro t).map (·.contains (Value.type n))=some (decide (t=n) || (decide (t="bool") && decide (n="int"))):=by decide +kernel
  obtain ⟨h1,h2,h3⟩:=all t ht n hn h
  exact DT h1 h2 h3
theorem fT.ty {K:PySem.W.Frag} {A:List Addr} {H:Hp} {v:V} {d:D} (h:fT K A H v d) (hn:tyName d∈bZ):MA K H v (tyName d):=by
 cases d with
 | none=>rw [h.fF]; exact .inl .fF
 | bool b=>rw [h.bool]; exact .inl (.bl b)
 | int i=>rw [h.int]; exact .inl (.int i)
 | str x=>rw [h.str]; exact .inl (.str x)
 | list l=>obtain ⟨p,xs,rfl,h1,_⟩:=h.list; exact .inr (.inr ⟨p,xs,rfl,h1.sq,rfl⟩)
 | tuple l=>obtain ⟨p,xs,rfl,h1,_⟩:=h.tuple; exact .inr (.inl ⟨p,xs,rfl,h1,rfl⟩)
 | dict l=>simp [tyName,bZ] at hn
section
variable {X:Cx} {O:List Nat} {e:Expr} {ga:DS->Option D} {pos p p2:Pos}
def ke (n:String) (g:DS->Option D):DS->Option D:=λδ=>(g δ).bind λd=>Jm n [d]
set_option tactic.hygienic true in
theorem pH {n:Str} (T:String) (hB:X.mg "isinstance"=none) (ha:PE X e (gK X.K O ga)) (ht:PE X (.Name n p2) (tC (.ty T))) (hg:Gl X "isinstance":=by rfl)
  (he:starEach [e,.Name n p2] X.env=(false,eval e X.env) :: starEach [.Name n p2] X.env:=by rfl) (DU:starEach [.Name n p2] X.env=(false,eval (.Name n p2) X.env) :: starEach [] X.env:=by rfl) (gA:(backTo pos (starEach [.Name n p2] X.env)).any (·.1)=false:=by rfl):
  PE X (.Call (.Name "isinstance" p) [e,.Name n p2] [] pos) (tE X.K O (ke T ga)):=
 (kb yf hg hB jm (cq ha (cq ht el DU) he) (by decide) (by decide) he gA).mono λσ H Q hh=>hh.e λU A0 δ d R ed q=>by
  obtain ⟨x,e1,e2⟩:=bind1 ed
  have e3:(if tyName x∈bZ /\ T∈bZ then some (PyData.bool (decide (tyName x=T) || (decide (tyName x="bool") && decide (T="int")))) else none)=some d:=e2
  split at e3
  .rename_i hz
   cases e3
   refine ⟨U,A0,δ,x,R,e1,λv H' s h=>?_⟩
   exact ⟨v,T,tyName x,_,rfl,h.ty hz.1,A1 hz.1 hz.2,q _ H' s (.bl _)⟩
  .cases e3
end
def bN (g:DS->Option D):DS->Option (Option Int):=λδ=>(g δ).bind λ| .int i=>some (some i) | _=>none
def aX:DS->Option (Option Int):=λ_=>some none
def Cr (K:PySem.W.Frag) (O:List Nat) (g:DS->Option (Option Int)):TO:=λσ H Q=>∃ U A0 δ d,Rel K O U A0 σ δ H /\ g δ=some d /\ ∀ H',av H H'->Q d H'
theorem Cr.e {K:PySem.W.Frag} {O:List Nat} {g:DS->Option (Option Int)}  {σ:_} {H:_} {Q:_} {GG:Prop} (hh:Cr K O g σ H Q) (kk:∀ U A0 δ d,(Rel K O U A0 σ δ H)->(g δ=some d)->(∀ H',av H H'->Q d H')->GG):GG:=by obtain ⟨U,A0,δ,d,x0,x1,x2⟩:=hh; exact kk U A0 δ d x0 x1 x2
def cutD (xs:List D) (lo hi:Option Int):List D:=(xs.drop (HT.kY xs.length 0 lo)).take (HT.kY xs.length xs.length hi - HT.kY xs.length 0 lo)
def gF (a:DS->Option D) (lo hi:DS->Option (Option Int)):DS->Option (List D):=λδ=>(a δ).bind λx=>(lo δ).bind λl=>(hi δ).bind λh=>match x with
 | .list ds=>some (cutD ds l h)
 | _=>none
section
variable {X:Cx} {O:List Nat} {e:Expr} {lo hi:Option Expr} {ga:DS->Option D} {gl gh:DS->Option (Option Int)} {pos p2:Pos}
theorem b0:PO X none (Cr X.K O aX):=AE.mono λσ H Q hh=>hh.e λU A0 δ d R ed q=>by cases ed; exact q H (av.refl H)
theorem bg (h:PE X e (gK X.K O ga)):PO X (some e) (Cr X.K O (bN ga)):=(AF h).mono λσ H Q hh=>hh.e λU A0 δ d R ed q=>by
 obtain ⟨x,e1,e2⟩:=bind1 ed
 cases x with
 | int i=>cases e2; exact ⟨U,A0,δ,_,R,e1,λv H' s h=>⟨i,h.int,q H' s⟩⟩
 | _=>cases e2
theorem fI (ha:PE X e (gK X.K O ga)) (hl:PO X lo (Cr X.K O gl)) (hh:PO X hi (Cr X.K O gh)):PE X (.Subscript e (.Slice lo hi none p2) pos) (tN X.K O (gF ga gl gh)):=(qU AJ ha hl hh).mono λσ H Q hh=>hh.e λU A0 δ d R ed q=>by
 obtain ⟨x,e1,e2⟩:=bind1 ed
 obtain ⟨l,e3,e4⟩:=bind1 e2
 obtain ⟨h,e5,e6⟩:=bind1 e4
 cases x with
 | list ds=>
   cases e6
   refine ⟨U,A0,δ,_,R,e1,λv H1 s1 h1=>⟨U,A0,δ,l,R.same s1,e3,λH2 s2=>⟨U,A0,δ,h,R.same (s1.trans s2),e5,λH3 s3=>?_⟩⟩⟩
   obtain ⟨p,xs,rfl,r1,r2⟩:=(h1.same (s2.trans s3)).list
   refine ⟨p,xs,rfl,r1.sq,λr hr=>oB ((s1.trans s2).trans s3) q r _ hr ?_⟩
   unfold xZ cutD
   rw [r2.len]
   exact (r2.Cj _).Ci _
 | _=>cases e6
end
def aC (a b:DS->Option Res):DS->Option Res:=λδ=>(a δ).bind λ| .nx δ'=>b δ' | r=>some r
def ba:DS->Option Res:=λδ=>some (.nx δ)
def fJ (c:DS->Option Bool) (a b:DS->Option Res):DS->Option Res:=λδ=>(c δ).bind λx=>if x=true then a δ else b δ
def bA (i:Nat) (g:DS->Option D):DS->Option Res:=λδ=>(g δ).bind λd=>some (.nx (δ.set i (some d)))
def mj (i:Nat) (g:DS->Option (List D)):DS->Option Res:=λδ=>(g δ).bind λd=>some (.nx (δ.set i (some (.list d))))
def aV (g:DS->Option D):DS->Option Res:=λδ=>(g δ).bind λd=>some (.rt d)
section
variable {X:Cx} {O:List Nat} {fr:Fr} {xk:Str->Hp->Prop} {st:Stmt} {rest a b:List Stmt} {ga gb:DS->Option Res} {gc:DS->Option Bool} {ge:DS->Option D} {gl:DS->Option (List D)} {e c:Expr} {pos:Pos}
theorem ar (h1:PS X st (tS X.K O fr ga)) (h2:iS X rest (tS X.K O fr gb)):iS X (st :: rest) (tS X.K O fr (aC ga gb)):=(xH h1 h2).mono λE σ H hh=>hh.e λH0 U A0 δ r R F ed P=>by
 obtain ⟨r1,e1,e2⟩:=bind1 ed
 cases r1 with
 | nx δ'=>exact ⟨H0,U,A0,δ,.nx δ',R,F,e1,λU' bO H' R' F'=>⟨H0,U',A0,δ',r,R',F',e2,P⟩⟩
 | rt d=>cases e2; exact ⟨H0,U,A0,δ,_,R,F,e1,P⟩
 | bk d=>cases e2; exact ⟨H0,U,A0,δ,_,R,F,e1,P⟩
 | ct d=>cases e2; exact ⟨H0,U,A0,δ,_,R,F,e1,P⟩
theorem az (h1:PS X st (tS X.K O fr ga)):iS X [st] (tS X.K O fr ga):=Ar h1
theorem bE:iS X [] (tS X.K O fr ba):=Aq.mono λE σ H hh=>hh.e λH0 U A0 δ r R F ed P=>by cases ed; exact P U σ H R F
theorem rm:PS X st (tS X.K O fr λ_=>none):=xJ.mono λE σ H hh=>hh.e λH0 U A0 δ r R F ed P=>by cases ed
theorem cB (hc:PT X c (tT X.K O gc)) (ha:iS X a (tS X.K O fr ga)) (hb:iS X b (tS X.K O fr gb)):PS X (.If c a b pos) (tS X.K O fr (fJ gc ga gb)):=(FP hc ha hb).mono λE σ H hh=>hh.e λH0 U A0 δ r R F ed P=>by
 obtain ⟨x,e1,e2⟩:=bind1 ed
 refine ⟨U,A0,δ,x,R,e1,λH' s=>?_⟩
 cases x with
 | true=>rw [RV rfl] at e2 ⊢; exact ⟨H0,U,A0,δ,r,R.same s,F.grow s,e2,P⟩
 | false=>rw [R4 RS] at e2 ⊢; exact ⟨H0,U,A0,δ,r,R.same s,F.grow s,e2,P⟩
theorem aT {i:Nat} (h:PS X st (lx (tE X.K O ge) (ig i))) (hi:i∉O:=by decide):PS X st (tS X.K O fr (bA i ge)):=h.mono λE σ H hh=>hh.e λH0 U A0 δ r R F ed P=>by
 obtain ⟨d,e1,e2⟩:=bind1 ed
 cases e2
 exact ⟨U,A0,δ,d,R,e1,λv H' s hv=>P U _ H' ((R.same s).set hi hv) (F.grow s)⟩
theorem lQ {i:Nat} (h:PS X st (lx (tN X.K O gl) (ig i))) (hi:i∈O:=by decide):PS X st (tS X.K O fr (mj i gl)):=h.mono λE σ H hh=>hh.e λH0 U A0 δ r R F ed P=>by
 obtain ⟨d,e1,e2⟩:=bind1 ed
 cases e2
 exact ⟨U,A0,δ,d,R,e1,λr ys H' s hr h1 h2=>P (r :: U) _ H' (R.Jh s hr h1 h2 hi) (F.more s hr)⟩
theorem aW (h:PE X e (tE X.K O ge)):PS X (.Return (some e) pos) (tS X.K O (false,xk) (aV ge)):=(pe h).mono λE σ H hh=>hh.e λH0 U A0 δ r R F ed P=>by
 obtain ⟨d,e1,e2⟩:=bind1 ed
 cases e2
 refine ⟨U,A0,δ,d,R,e1,λv H' s hv=>P.1 v H' ?_⟩
 unfold je
 rw [R4 RS]
 exact ⟨F.same.trans s,hv.same (jz λa ha=>RI _ ha)⟩
theorem gP (h:PE X e (tN X.K O gl)):PS X (.Return (some e) pos) (tS X.K O (true,xk) (aV (aw gl))):=(pe h).mono λE σ H hh=>hh.e λH0 U A0 δ r R F ed P=>by
 obtain ⟨d,e1,e2⟩:=bind1 ed
 cases e2
 unfold aw at e1
 cases eg:gl δ with
 | none=>rw [eg] at e1; cases e1
 | some l=>
   rw [eg] at e1; cases e1
   refine ⟨U,A0,δ,l,R,eg,λr ys H' s hr h1 h2=>P.1 (.ref r) H' ?_⟩
   unfold je
   rw [RV rfl]
   refine ⟨r,_,rfl,F.same.trans s,F.same.free hr,h1,.lst (h2.same (jz λa ha=>?_))⟩
   rcases RN.mp ha with z | z
   .subst z; simp
   .exact RM _ (RI _ z)
theorem oD {i:Nat} (h:PE X e (sX i)) (hi:i∈O:=by decide):PS X (.Return (some e) pos) (tS X.K O fr (aV (ae i))):=(pe h).mono λE σ H hh=>hh.e λH0 U A0 δ r R F ed P=>by
 obtain ⟨d,e1,e2⟩:=bind1 ed
 cases e2
 obtain ⟨l,o,hl,hU,h1,h2⟩:=R.ow i d hi (join_some e1)
 refine ⟨.ref l,hl,P.1 (.ref l) H ?_⟩
 unfold je
 split
 .refine ⟨l,o,rfl,F.same,F.new l hU,h1,h2.same (jz λa ha=>?_)⟩
  rcases RN.mp ha with z | z
  .subst z; exact So _ hU
  .exact RI _ z
 .refine ⟨F.same,(h2.same (jz λa ha=>RI _ ha)).hd ?_⟩
  rw [bD (F.out hU)]; exact h1
def wC (i:Nat) (g:DS->Option D):DS->Option Res:=λδ=>(ae i δ).bind λx=>(g δ).bind λd=>match x with
 | .list ds=>if ds.length < 100000 then some (.nx (δ.set i (some (.list (ds ++ [d]))))) else none
 | _=>none
set_option tactic.hygienic true in
theorem kJ {i:Nat} (h:PS X st (xI (My X.K "list" u4 (sX i) (Ca (tE X.K O ge) F4)))) (hi:i∈O:=by decide):PS X st (tS X.K O fr (wC i ge)):=h.mono λE σ H hh=>hh.e λH0 U A0 δ r R F ed P=>by
 obtain ⟨x,e1,e2⟩:=bind1 ed
 obtain ⟨d,e3,e4⟩:=bind1 e2
 rcases R.ME i x hi (join_some e1) with ⟨l,ys,ds,hl,rfl,hU,h1,h2⟩ | ⟨tM,rfl⟩
 rotate_left
 ·(exfalso; simp_all; done)
 simp only at e4
 split at e4
 .rename_i hz
  cases e4
  refine ⟨.ref l,hl,.inl ⟨rfl,ys,ie.of h1⟩,U,A0,δ,d,R,e3,λv H' s hv=>?_⟩
  have NN:=s _ _ h1
  have A2:=h2.same (cE (A:=U ++ A0) s)
  have hlen:=h2.len
  refine ⟨l,ys,v,rfl,rfl,NN,ma (by omega),?_⟩
  exact P U σ _ ((R.same s).put hi hl hU (A2.app (.cons hv .nil)) ⟨_,join_some e1⟩) ((F.grow s).put hU _)
 .cases e4
def pI (i:Nat) (gx ge:DS->Option D):DS->Option Res:=λδ=>(ge δ).bind λd=>(ae i δ).bind λx=>(gx δ).bind λk=>match x,k with
 | .list ds,.int n=>(yb ds.length n).bind λj=>some (.nx (δ.set i (some (.list (ds.set j d)))))
 | _,_=>none
theorem yA {i:Nat} {gx:DS->Option D} (h:PS X st (lx (tE X.K O ge) (FT (sX i) (gK X.K O gx) Cf))) (hi:i∈O:=by decide):PS X st (tS X.K O fr (pI i gx ge)):=h.mono λE σ H hh=>hh.e λH0 U A0 δ r R F ed P=>by
 obtain ⟨d,e1,e2⟩:=bind1 ed
 obtain ⟨x,e3,e4⟩:=bind1 e2
 obtain ⟨k,e5,e6⟩:=bind1 e4
 rcases R.ME i x hi (join_some e3) with ⟨l,ys,ds,hl,rfl,hU,h1,h2⟩ | ⟨tM,rfl⟩
 rotate_left
 ·(exfalso; simp_all; done)
 cases k with
 | int n=>
   obtain ⟨j,e7,e8⟩:=bind1 e6
   cases e8
   refine ⟨U,A0,δ,d,R,e1,λv H1 s1 hv=>⟨.ref l,hl,U,A0,δ,_,R.same s1,e5,λv2 H2 s2 A2=>?_⟩⟩
   have s:=s1.trans s2
   refine ⟨l,ys,n,j,rfl,A2.int,s _ _ h1,by rw [h2.len]; exact e7,?_⟩
   exact P U σ _ ((R.same s).put hi hl hU (b7.Gk (hv.same (cE s2)) j (h2.same (cE s))) ⟨_,join_some e3⟩) ((F.grow s).put hU _)
 | _=>cases e6
end
def pJ (c:DS->Option Bool) (b:DS->Option Res):Nat->DS->Option Res
 | 0,_=>none
 | n + 1,δ=>(c δ).bind λx=>if x=true then (b δ).bind (λ| .nx δ'=>pJ c b n δ' | .ct δ'=>pJ c b n δ' | .bk δ'=>some (.nx δ') | .rt d=>some (.rt d)) else some (.nx δ)
theorem tP {c:DS->Option Bool} {b:DS->Option Res}:∀ {n:Nat} {δ:DS} {r:Res},pJ c b n δ=some r->pJ c b (n + 1) δ=some r
 | 0,_,_,h=>by cases h
 | n + 1,δ,r,h=>by
   rw [pJ] at h ⊢
   obtain ⟨x,e1,e2⟩:=bind1 h
   rw [e1,RH]
   cases x with
   | false=>exact e2
   | true=>
     rw [RV rfl] at e2 ⊢
     obtain ⟨q,e3,e4⟩:=bind1 e2
     rw [e3,RH]
     cases q with
     | nx δ'=>exact tP e4
     | ct δ'=>exact tP e4
     | bk _=>exact e4
     | rt _=>exact e4
theorem yB {c:DS->Option Bool} {b:DS->Option Res} {n m:Nat} {δ:DS} {r:Res} (h:pJ c b n δ=some r) (hm:n<=m):pJ c b m δ=some r:=by
 induction hm with
 | refl=>exact h
 | step _ ih=>exact tP ih
open Classical in
def gQ (c:DS->Option Bool) (b:DS->Option Res):DS->Option Res:=λδ=>if h:∃ p:Nat×Res,pJ c b p.1 δ=some p.2 then some (choose h).2 else none
set_option tactic.hygienic true in
theorem rn {c:DS->Option Bool} {b:DS->Option Res} {δ:DS} {r:Res} (h:gQ c b δ=some r):∃ n,pJ c b n δ=some r:=by
 unfold gQ at h
 split at h
 .rename_i hp
  cases h
  exact ⟨_,Classical.choose_spec hp⟩
 .cases h
theorem wD {c:DS->Option Bool} {b:DS->Option Res} {n:Nat} {δ:DS} {r:Res} (h:pJ c b n δ=some r):gQ c b δ=some r:=by
 have hp:∃ p:Nat×Res,pJ c b p.1 δ=some p.2:=⟨(n,r),h⟩
 unfold gQ
 rw [dif_pos hp]
 have h2:=Classical.choose_spec hp
 have a1:=yB h (Nat.le_max_left n (Classical.choose hp).1)
 have a2:=yB h2 (Nat.le_max_right n (Classical.choose hp).1)
 rw [a1] at a2
 exact a2.symm
theorem wF {c:DS->Option Bool} {b:DS->Option Res} (W:Nat->DS->Prop) (r:DS->Res->Prop) (m:Nat) (δ:DS) (h:W m δ)
  (hs:∀ m δ,W m δ->(c δ=some false /\ r δ (.nx δ)) \/ (c δ=some true /\ ((∃ δ' m',(b δ=some (.nx δ') \/ b δ=some (.ct δ')) /\ m' < m /\ W m' δ' /\ ∀ q,r δ' q->r δ q) \/ (∃ δ',b δ=some (.bk δ') /\ r δ (.nx δ')) \/ ∃ d,b δ=some (.rt d) /\ r δ (.rt d)))):
  ∃ q,gQ c b δ=some q /\ r δ q:=by
 suffices hh:∀ k m δ,m < k->W m δ->∃ n q,pJ c b n δ=some q /\ r δ q by
  obtain ⟨n,q,e,hq⟩:=hh (m + 1) m δ (Tb m) h
  exact ⟨q,wD e,hq⟩
 intro k
 induction k with
 | zero=>intro m δ hm; omega
 | succ k ih=>
   intro m δ hm hW
   rcases hs m δ hW with ⟨hc,hr⟩ | ⟨hc,⟨δ',m',hb,jf,NO,imp⟩ | ⟨δ',hb,hr⟩ | ⟨d,hb,hr⟩⟩
   .exact ⟨1,_,by rw [pJ,hc]; rfl,hr⟩
   .obtain ⟨n,q,e,hq⟩:=ih m' δ' (by omega) NO
    refine ⟨n + 1,q,?_,imp q hq⟩
    rw [pJ,hc,RH,RV rfl]
    rcases hb with hb | hb <;> rw [hb,RH] <;> exact e
   .exact ⟨1,_,by rw [pJ,hc,RH,RV rfl,hb]; rfl,hr⟩
   .exact ⟨1,_,by rw [pJ,hc,RH,RV rfl,hb]; rfl,hr⟩
section
variable {X:Cx} {O:List Nat} {fr:Fr} {body:List Stmt} {gb:DS->Option Res} {gc:DS->Option Bool} {c:Expr} {pos:Pos}
theorem yC (hp:PassesOwn (model X.prog X.w) X.A X.env X.xe) (hc:PT X c (tT X.K O gc)) (hb:iS X body (tS X.K O fr gb)):PS X (.While c body [] pos) (tS X.K O fr (gQ gc gb)):=(xN hp hc hb).mono λE σ H hh=>hh.e λH0 U A0 δ r R F ed P=>by
 obtain ⟨n,en⟩:=rn ed
 refine ⟨λm σ H=>∃ U δ,Rel X.K O U A0 σ δ H /\ Fx H0 A0 U H /\ pJ gc gb m δ=some r,⟨n,U,δ,R,F,en⟩,?_⟩
 rintro m σ H ⟨U,δ,R,F,em⟩
 cases m with
 | zero=>cases em
 | succ m=>
   rw [pJ] at em
   obtain ⟨x,e1,e2⟩:=bind1 em
   refine ⟨U,A0,δ,x,R,e1,λH' s=>?_⟩
   cases x with
   | false=>rw [R4 RS] at e2 ⊢; cases e2; exact P U σ H' (R.same s) (F.grow s)
   | true=>
     rw [RV rfl] at e2 ⊢
     obtain ⟨q,e3,e4⟩:=bind1 e2
     refine ⟨λbO H'=>∃ m',m' < m + 1 /\ ∃ U δ,Rel X.K O U A0 bO δ H' /\ Fx H0 A0 U H' /\ pJ gc gb m' δ=some r,λ_ _ h=>h,H0,U,A0,δ,q,R.same s,F.grow s,e3,?_⟩
     cases q with
     | nx δ'=>exact λU' bO H' R' F'=>⟨m,Tb m,U',δ',R',F',e4⟩
     | ct δ'=>exact λU' bO H' R' F'=>⟨m,Tb m,U',δ',R',F',e4⟩
     | bk δ'=>cases e4; exact P
     | rt d=>cases e4; exact P
end
def bF (i:Nat):D->DS->Option DS:=λd δ=>some (δ.set i (some d))
def ml (n:Nat) (g:List D->DS->Option DS):D->DS->Option DS:=λd δ=>match d with
 | .tuple ds=>if ds.length=n then g ds δ else none
 | _=>none
def oE:List D->DS->Option DS:=λds δ=>if ds=[] then some δ else none
def gR (t:D->DS->Option DS) (u:List D->DS->Option DS):List D->DS->Option DS:=λds δ=>match ds with
 | d :: r=>(t d δ).bind λδ'=>u r δ'
 | []=>none
def Fe (K:PySem.W.Frag) (O:List Nat) (g:List D->DS->Option DS):As:=λvs σ H Q=>∃ U A0 δ ds δ',Rel K O U A0 σ δ H /\ b7 K (wo H (U ++ A0)) vs ds /\ g ds δ=some δ' /\ ∀ bO,Rel K O U A0 bO δ' H->Q bO H
theorem Fe.e {K:PySem.W.Frag} {O:List Nat} {g:List D->DS->Option DS}  {vs:_} {σ:_} {H:_} {Q:_} {GG:Prop} (hh:Fe K O g vs σ H Q) (kk:∀ U A0 δ ds δ',(Rel K O U A0 σ δ H)->(b7 K (wo H (U ++ A0)) vs ds)->(g ds δ=some δ')->(∀ bO,Rel K O U A0 bO δ' H->Q bO H)->GG):GG:=by obtain ⟨U,A0,δ,ds,δ',x0,x1,x2,x3⟩:=hh; exact kk U A0 δ ds δ' x0 x1 x2 x3
section
variable {X:Cx} {O:List Nat} {e:Expr} {es:List Expr} {pos:Pos}
theorem xK.mono {t t':As} (h:xK X es t) (m:∀ v σ H Q,t' v σ H Q->t v σ H Q):xK X es t':=λpins s σ H v u Q I r q=>h pins s σ H v u Q I r (m v σ H Q q)
theorem bb {i:Nat} (h:PG X e (ig i)) (hi:i∉O:=by decide):PG X e (tG X.K O (bF i)):=h.mono λv σ H Q hh=>hh.e λU A0 δ d δ' R hd e1 q=>by
 cases e1
 exact q _ (R.set hi hd)
set_option tactic.hygienic true in
theorem A3:xK X [] (Fe X.K O oE):=Au.mono λvs σ H Q hh=>hh.e λU A0 δ ds δ' R hd e1 q=>by
 unfold oE at e1
 split at e1
 .rename_i hz
  cases e1
  subst hz
  cases hd
  exact ⟨rfl,q σ R⟩
 .cases e1
theorem rp {t:D->DS->Option DS} {u:List D->DS->Option DS} (h1:PG X e (tG X.K O t)) (h2:xK X es (Fe X.K O u)) (hs:(assignEach (e :: es) X.env).map (·.2)=assign e X.env :: (assignEach es X.env).map (·.2):=by rfl):xK X (e :: es) (Fe X.K O (gR t u)):=
 (xM h1 h2 hs).mono λvs σ H Q hh=>hh.e λU A0 δ ds δ' R hd e1 q=>by
  cases hd with
  | nil=>cases e1
  | cons hx hr=>
    obtain ⟨fU,e2,e3⟩:=bind1 e1
    exact ⟨_,_,rfl,U,A0,δ,_,fU,R,hx,e2,λC6 R1=>⟨U,A0,fU,_,δ',R1,hr,e3,q⟩⟩
set_option tactic.hygienic true in
theorem A4 {n k:Nat} {t:List D->DS->Option DS} (hc:X.calm=true) (h:xK X es (Fe X.K O t)) (hn:(assignEach es X.env).length=n:=by rfl) (B6:(assignEach es X.env).findIdx? (·.1)=none:=by rfl):PG X (.Tuple es k pos) (tG X.K O (ml n t)):=
 (C7 hc h hn B6).mono λv σ H Q hh=>hh.e λU A0 δ d δ' R hd e1 q=>by
  unfold ml at e1
  split at e1
  .split at e1
   .rename_i hz
    obtain ⟨a,xs,rfl,h1,h2⟩:=(fT.of hd).tuple
    exact ⟨a,xs,rfl,h1,by rw [h2.len]; exact hz,U,A0,δ,_,δ',R,h2,e1,q⟩
   .cases e1
  .cases e1
end
def jB (t:D->DS->Option DS) (b:DS->Option Res):List D->DS->Option Res
 | [],δ=>some (.nx δ)
 | d :: ds,δ=>(t d δ).bind λfU=>(b fU).bind λ| .nx δ'=>jB t b ds δ' | .ct δ'=>jB t b ds δ' | .bk δ'=>some (.nx δ') | .rt d=>some (.rt d)
def nJ (gi:DS->Option (List D)) (t:D->DS->Option DS) (b:DS->Option Res):DS->Option Res:=λδ=>(gi δ).bind λds=>jB t b ds δ
theorem Fx.Gs {H0 H H':Hp} {A0 U:List Addr} (F:Fx H0 A0 U H) (s:av (wo H U) H'):av H0 H':=λa o e=>s a o (by
 rw [bD λz=>?_]
 .exact F.same _ _ e
 .rw [F.new a z] at e; cases e)
set_option tactic.hygienic true in
theorem je.trans {K:PySem.W.Frag} {fr:Bool} {H0 H H':Hp} {A0 U:List Addr} {v:V} {d:D} (F:Fx H0 A0 U H) (h:je K fr (wo H U) A0 v d H'):je K fr H0 A0 v d H':=by
 have k:∀ a o,H0 a=some o->wo H U a=some o:=λa o e=>by
  rw [bD λz=>?_]
  .exact F.same _ _ e
  .rw [F.new a z] at e; cases e
 unfold je at h ⊢
 split
 .rename_i hf
  rw [RV hf] at h
  obtain ⟨r,ob,a,c,e,f,g⟩:=h
  refine ⟨r,ob,a,λx o q=>c _ _ (k x o q),?_,f,g⟩
  cases q:H0 r with
  | none=>rfl
  | some o=>rw [k r o q] at e; cases e
 .rename_i hf
  rw [R4 hf] at h
  exact ⟨λx o q=>h.1 _ _ (k x o q),h.2⟩
section
variable {X:Cx} {O:List Nat} {fr:Fr} {body:List Stmt} {gb:DS->Option Res} {gi:DS->Option (List D)} {tg iter:Expr} {gt:D->DS->Option DS} {pos:Pos}
theorem pK (hp:PassesOwn (model X.prog X.w) X.A X.env X.xe) (hc:X.calm=true) (hi:PI X tg iter (tI X.K O gi)) (hg:PG X tg (tG X.K O gt)) (hb:iS X body (tS X.K O fr gb))
  (hs:∀ x,foldedSetIterable iter X.env x=pure x:=by intro _; rfl):PS X (.For tg iter body [] pos) (tS X.K O fr (nJ gi gt gb)):=(De hp hc hi hg hb hs).mono λE σ H hh=>hh.e λH0 U A0 δ r R F ed P=>by
 obtain ⟨ds,e1,e2⟩:=bind1 ed
 refine ⟨U,A0,δ,ds,R,e1,λJ H1 s hw=>?_⟩
 have F1:=F.grow s
 refine ⟨λi m σ H=>m=ds.length - i /\ i<=ds.length /\ ∃ U2 δ,Rel X.K O U2 A0 σ δ H /\ Fx H0 A0 U2 H /\ Fx (wo H1 U) A0 U2 H /\ jB gt gb (ds.drop i) δ=some r,⟨ds.length,by simp,Nat.zero_le _,U,δ,R.same s,F1,F1.here,by simpa using e2⟩,?_⟩
 rintro i m σ H ⟨rfl,hle,U2,δ,R2,F2,G2,ef⟩
 obtain ⟨Gu,rq⟩:=hw (U2 ++ A0) i H G2.keeps R2.al
 by_cases jf:i < ds.length
 .obtain ⟨d,hd⟩:∃ d,ds[i]?=some d:=⟨_,RP jf⟩
  have Gv:ds.drop i=d :: ds.drop (i + 1):=by
   rw [Tz jf]
   rw [RP jf] at hd
   cases hd; rfl
  obtain ⟨go,hy⟩:=Gu d hd
  rw [Gv,jB] at ef
  obtain ⟨fU,e3,e4⟩:=bind1 ef
  obtain ⟨q,e5,e6⟩:=bind1 e4
  refine .inr ⟨go,λbO H'=>∃ m',m' < ds.length - i /\ (m'=ds.length - (i + 1) /\ i + 1<=ds.length /\ ∃ U2 δ,Rel X.K O U2 A0 bO δ H' /\ Fx H0 A0 U2 H' /\ Fx (wo H1 U) A0 U2 H' /\ jB gt gb (ds.drop (i + 1)) δ=some r),λ_ _ h=>h,λx H2 y=>?_⟩
  obtain ⟨s2,hx⟩:=hy x H2 y
  refine ⟨U2,A0,δ,d,fU,R2.same s2,hx,e3,λbO R'=>?_⟩
  have F3:=F2.grow s2
  have G3:=G2.grow s2
  refine ⟨wo H2 U2,U2,A0,fU,q,R',F3.here,e5,?_⟩
  cases q with
  | nx δ'=>exact λU' bO H' R' F'=>⟨_,by omega,rfl,jf,U',δ',R',F3.trans F',G3.trans F',e6⟩
  | ct δ'=>exact λU' bO H' R' F'=>⟨_,by omega,rfl,jf,U',δ',R',F3.trans F',G3.trans F',e6⟩
  | bk δ'=>cases e6; exact λU' bO H' R' F'=>P U' bO H' R' (F3.trans F')
  | rt d=>cases e6; exact ⟨λv H' h=>P.1 v H' (h.trans F3),λc H' e s=>P.2 c H' e (F3.Gs s)⟩
 .have hi:i=ds.length:=by omega
  subst hi
  rw [Vp,jB] at ef
  cases ef
  exact .inl ⟨rq rfl,P U2 σ H R2 F2⟩
end
def gk (lo:Int) (n:Nat):List D:=(List.range n).map λk:Nat=>PyData.int (lo + k)
theorem mm {lo:Int} {n i:Nat} {d:D} (h:(gk lo n)[i]?=some d):i < n /\ d=.int (lo + i):=by
 unfold gk at h
 rw [Sa] at h
 cases e:(List.range n)[i]? with
 | none=>rw [e] at h; cases h
 | some k=>
   rw [e] at h; cases h
   have hi:=(Sh.mp e).1
   rw [Uy] at hi
   rw [List.getElem?_range hi] at e
   cases e
   exact ⟨hi,rfl⟩
theorem mn {lo:Int} {n:Nat}:(gk lo n).length=n:=by unfold gk; simp
theorem rz {K:PySem.W.Frag} {A:List Addr} {H1:Hp} {lo:Int} {n:Nat}:Walks K A H1 (HG lo n) (gk lo n):=by
 intro A' i H _ _
 refine ⟨λd hd=>?_,λhi=>?_⟩
 .obtain ⟨hi,rfl⟩:=mm hd
  refine ⟨hi,λx H2 y=>?_⟩
  obtain ⟨rfl,rfl⟩:=y
  exact ⟨av.refl _,.int _⟩
 .rw [mn] at hi
  subst hi
  exact RO _
def ez (g:DS->Option (List D)):DS->Option (List D):=λδ=>(g δ).bind λ| [.int j]=>if -(2 ^ 62)<=j /\ j < 2 ^ 62 then some (gk 0 j.toNat) else none | _=>none
def aR (g:DS->Option D):DS->Option (List D):=λδ=>(g δ).bind λ| .list l=>some l | .tuple l=>some l | _=>none
section
variable {X:Cx} {O:List Nat} {tg a b e:Expr} {gr:DS->Option (List D)} {ge:DS->Option D} {pos p:Pos}
set_option tactic.hygienic true in
theorem iW (hm:X.mg "range"=none) (ha:PA X [a] (pE X.K O gr)) (hg:Gl X "range":=by rfl) (hs:starEach [a] X.env=[(false,eval a X.env)]:=by rfl):PI X tg (.Call (.Name "range" p) [a] [] pos) (tI X.K O (ez gr)):=(v9 hg hm ha hs).mono λσ H Q hh=>hh.e λU A0 δ ds R ed q=>by
 obtain ⟨x,e1,e2⟩:=bind1 ed
 refine ⟨U,A0,δ,x,R,e1,λvs H' s h=>?_⟩
 split at e2
 .split at e2
  .rename_i hz
   cases e2
   cases h with
   | cons h1 h2=>
     cases h2
     cases h1
     exact ⟨_,rfl,hz.1,hz.2,q _ H' s rz⟩
  .cases e2
 .cases e2
def Jn (K:PySem.W.Frag) (tl:TE):TI:=λσ H R=>tl σ H λx H1=>(∃ a,x=.ref a /\ (∃ xs,ie K H1 a xs) /\ R (Mr K a) H1) \/ ∃ a,x=.ref a /\ (∃ xs,jl K H1 a xs) /\ R (Ms K a) H1
theorem yD {l:Expr} {tl:TE} (hl:PE X l tl):PI X tg l (Jn X.K tl):=by
 intro pins s σ H R I h
 refine eh (hl pins s σ H _ I h) λv s1 ⟨x,H1,I1,r1,q1⟩=>?_
 rcases q1 with ⟨a,e,⟨xs,hq⟩,q⟩ | ⟨a,e,⟨xs,hq⟩,q⟩
 .subst e
  cases r1
  obtain ⟨its,rv,p,hz⟩:=I1.list hq
  refine Vd p.isList ?_
  refine ⟨s1.heap.objs.size,[s1.heap.objs.size],_,_,H1,rfl,I1.kept (t':=s1.toks) λb o e=>RG _ e,v8 a _,⟨_,RU _ rfl,rfl,rfl⟩,λb hb=>?_,q⟩
  have e:b=s1.heap.objs.size:=by simpa using hb
  subst e
  exact I1.sZ (RO _) (I1.bo.fresh (RO _))
 .subst e
  cases r1
  obtain ⟨its,rv,p,hz⟩:=I1.tuple hq
  refine wpAny_pyIter_tuple (show s1.heap.IsTuple a its.toArray from p) ?_
  refine ⟨s1.heap.objs.size,[s1.heap.objs.size],_,_,H1,rfl,I1.kept (t':=s1.toks) λb o e=>RG _ e,td a _,⟨_,RU _ rfl,rfl,rfl⟩,λb hb=>?_,q⟩
  have e:b=s1.heap.objs.size:=by simpa using hb
  subst e
  exact I1.sZ (RO _) (I1.bo.fresh (RO _))
theorem dz (h:PE X e (tE X.K O ge)):PI X tg e (tI X.K O (aR ge)):=(yD h).mono λσ H Q hh=>hh.e λU A0 δ ds R ed q=>by
 obtain ⟨x,e1,e2⟩:=bind1 ed
 cases x with
 | list l=>
   cases e2
   refine ⟨U,A0,δ,_,R,e1,λv H' s h=>?_⟩
   cases h with
   | lst hq h=>
     refine .inl ⟨_,rfl,⟨_,(hq.same dM).sq⟩,q _ H' s ?_⟩
     intro A' i H2 s2 _
     have Jo:=hq.same s2
     have h2:=h.same s2
     have hL:ie X.K H2 _ _:=(Jo.same dM).sq
     refine ⟨λd hd=>?_,λhi=>⟨_,hL,by rw [h2.len]; omega⟩⟩
     obtain ⟨x,hx,DV⟩:=h2.get hd
     refine ⟨⟨_,x,hL,hx⟩,λy H3 hy=>?_⟩
     obtain ⟨rfl,hy⟩:=hy
     have:=hy _ hL
     rw [hx] at this
     cases this
     exact ⟨av.refl _,DV⟩
 | tuple l=>
   cases e2
   refine ⟨U,A0,δ,_,R,e1,λv H' s h=>?_⟩
   cases h with
   | tup hq h=>
     refine .inr ⟨_,rfl,⟨_,(.inl (dM.rg hq))⟩,q _ H' s ?_⟩
     intro A' i H2 s2 _
     have Jo:=s2.rg hq
     have h2:=h.same s2
     have hL:jl X.K H2 _ _:=.inl (dM.rg Jo)
     refine ⟨λd hd=>?_,λhi=>⟨_,hL,by rw [h2.len]; omega⟩⟩
     obtain ⟨x,hx,DV⟩:=h2.get hd
     refine ⟨⟨_,x,hL,hx⟩,λy H3 hy=>?_⟩
     obtain ⟨rfl,hy⟩:=hy
     have:=hy _ hL
     rw [hx] at this
     cases this
     exact ⟨av.refl _,DV⟩
 | _=>cases e2
end
def cb (ix:List Nat) (δ:DS):DS:=ix.map λj=>(δ[j]?).join
def yE (f:D->Option D):List D->Option (List D)
 | []=>some []
 | d :: ds=>(f d).bind λx=>(yE f ds).bind λxs=>some (x :: xs)
def b4 (gi:DS->Option (List D)) (ix:List Nat) (ge:DS->Option D):DS->Option (List D):=λδ=>(gi δ).bind λds=>if ds.length<=100000 then yE (λd=>ge (some d :: cb ix δ)) ds else none
theorem Rel.fu {K:PySem.W.Frag} {O:List Nat} {U A0:List Addr} {σ:St} {δ:DS} {H:Hp} (R:Rel K O U A0 σ δ H) {ix:List Nat} (rA:∀ j∈ix,j∉O) {v:V} {d:D} (h:HD K (wo H (U ++ A0)) v d):
  Rel K [] U A0 (some v :: L2.fu ix σ) (some d :: cb ix δ) H where
 len:=by simp [L2.fu,cb]
 fz:=λi e _ q=>by
  cases i with
  | zero=>simp at q; subst q; exact ⟨v,rfl,h⟩
  | succ i=>
    rw [SY] at q ⊢
    unfold cb at q
    unfold L2.fu
    rw [Sa] at q ⊢
    cases ei:ix[i]? with
    | none=>rw [ei] at q; cases q
    | some j=>
      rw [ei] at q
      simp only [UQ,Ve] at q
      obtain ⟨u,hu,hd⟩:=R.fz j e (rA j (SW ei)) (join_some q)
      exact ⟨u,by simp [hu],hd⟩
 ow:=λi e hi=>by simp at hi
 inj:=λi j d e l hi=>by simp at hi
 al:=R.al
section
variable {X:Cx} {O:List Nat} {fr:Fr} {scope:Scope} {x:Str} {elt iter:Expr} {px pos:Pos} {gi:DS->Option (List D)} {ge:DS->Option D}
theorem PS.nE {st:Stmt} {i:Nat} {g:DS->Option (List D)} (h:PS X st (lx (tN X.K O g) (ig i))):PS X st (lx (tE X.K O (aw g)) (ig i)):=h.mono λ_ _ _ h=>Cm h
end
def fj:Res->Option D
 | .rt d=>some d
 | .nx _=>some .none
 | _=>none
def oF:Res->Option (List D)
 | .rt (.list l)=>some l
 | _=>none
def fK (n:Nat) (g:DS->Option Res):List D->Option D:=λds=>(g (ds.map some ++ List.replicate (n - ds.length) none)).bind fj
def rB (n:Nat) (g:DS->Option Res):List D->Option (List D):=λds=>(g (ds.map some ++ List.replicate (n - ds.length) none)).bind oF
theorem Rel.start {K:PySem.W.Frag} {O:List Nat} {A:List Addr} {N:List Str} {vs:List V} {ds:List D} {H:Hp} (al:Ls A H) (h:b7 K (wo H A) vs ds) (hO:∀ i∈O,ds.length<=i):Rel K O [] A (start N vs) (ds.map some ++ List.replicate (N.length - ds.length) none) H:=by
 have hl:=h.len
 have none_of:∀ (i:Nat) d,ds.length<=i->(ds.map some ++ List.replicate (N.length - ds.length) none)[i]?=some (some d)->False:=by
  intro i d hi q
  rw [List.getElem?_append_right (by simpa using hi)] at q
  have:=SW q
  rw [List.mem_replicate] at this
  exact absurd this.2 (by simp)
 exact {
  len:=by unfold L2.start; simp [hl]
  fz:=λi d _ q=>by
   by_cases hi:i < ds.length
   .rw [List.getElem?_append_left (by simpa using hi),List.getElem?_map,List.getElem?_eq_getElem hi] at q
    simp only [UQ,Ve] at q
    obtain ⟨v,e,hv⟩:=h.get (RP hi)
    refine ⟨v,?_,?_⟩
    .unfold L2.start
     rw [List.getElem?_append_left (by rw [RJ]; omega),Sa,e]; rfl
    .rw [S7,<- q]; exact hv
   .exact (none_of i d (by omega) q).elim
  ow:=λi d hi q=>(none_of i d (hO i hi) q).elim
  inj:=λi j d e l hi _ _ q=>(none_of i d (hO i hi) q).elim
  al:=al }
theorem Fx.start {A:List Addr} {H:Hp} (al:Ls A H):Fx H A [] H:=⟨av.refl H,λ_ h=>by simp at h,al⟩
section
variable {P:Program} {w:World} {K:PySem.W.Frag} {mg:Str->Option Value} {base:Heap} {x:Str} {st:Stmt} {N ps:List Str} {k:Nat}
theorem eA (O:List Nat) (g:DS->Option Res) (F:Df K mg x st ps) (S:aN N ps (ai st))
  (body:∀ (f:Addr) (b6:Value) (A:Around) (outer:List Env) (s:Shared) (H:Hp) (E:XK),dQ k (A.deeper (envOfC x (ai st) s.heap.objs.size f b6))->iS (du sT P w K mg base N x (ai st) f b6 A outer s H E).B5 (cD st) (tS K O (false,λ_ _=>True) g))
  (hO:∀ i∈O,ps.length<=i:=by decide) {n m:Nat} (hN:N.length=n:=by rfl) (hP:ps.length=m:=by rfl):Dn P w K mg base (k + 1) x ps (gj K m (fK n g)):=by
 subst hN hP
 refine F.ok S (λvs H Q E h=>h.1) (λf b6 A outer s H vs Q E hr h=>⟨_,body f b6 A outer s H E hr,?_⟩)
 obtain ⟨hn,A',ds,d,al,hd,e,q⟩:=h
 obtain ⟨r,e1,e2⟩:=bind1 e
 refine ⟨H,[],A',_,r,Rel.start al hd (λi hi=>by have:=hO i hi; rw [<- hd.len,hn]; exact this),Fx.start al,e1,?_⟩
 cases r with
 | nx δ=>cases e2; exact λU σ H' R F'=>q .fF H' F'.same .fF
 | rt d=>cases e2; exact ⟨λv H' h=>by unfold je at h; rw [if_neg Bool.false_ne_true] at h; exact q v H' h.1 h.2,λ_ _ _ _=>trivial⟩
 | bk _=>cases e2
 | ct _=>cases e2
theorem Gw {f:Addr} {fd:FuncData} (O:List Nat) (g:DS->Option Res) (F:jY K x x st f fd) (S:aN N ps (ai st))
  (body:∀ (f:Addr) (b6:Value) (A:Around) (outer:List Env) (s:Shared) (H:Hp) (E:XK),dQ k (A.deeper (envOfC x (ai st) s.heap.objs.size f b6))->iS (du sT P w K mg base N x (ai st) f b6 A outer s H E).B5 (cD st) (tS K O (false,λ_ _=>True) g))
  (hO:∀ i∈O,ps.length<=i:=by decide) {n m:Nat} (hN:N.length=n:=by rfl) (hP:ps.length=m:=by rfl):ly P w K mg base sT (k + 1) f fd ps (gj K m (fK n g)):=by
 subst hN hP
 refine F.ok S (λvs H Q E h=>h.1) (λb6 A outer s H vs Q E hr h=>⟨_,body f b6 A outer s H E hr,?_⟩)
 obtain ⟨hn,A',ds,d,al,hd,e,q⟩:=h
 obtain ⟨r,e1,e2⟩:=bind1 e
 refine ⟨H,[],A',_,r,Rel.start al hd (λi hi=>by have:=hO i hi; rw [<- hd.len,hn]; exact this),Fx.start al,e1,?_⟩
 cases r with
 | nx δ=>cases e2; exact λU σ H' R F'=>q .fF H' F'.same .fF
 | rt d=>cases e2; exact ⟨λv H' h=>by unfold je at h; rw [if_neg Bool.false_ne_true] at h; exact q v H' h.1 h.2,λ_ _ _ _=>trivial⟩
 | bk _=>cases e2
 | ct _=>cases e2
theorem lR (O:List Nat) (g:DS->Option Res) (F:Df K mg x st ps) (S:aN N ps (ai st))
  (body:∀ (f:Addr) (b6:Value) (A:Around) (outer:List Env) (s:Shared) (H:Hp) (E:XK),dQ k (A.deeper (envOfC x (ai st) s.heap.objs.size f b6))->iS (du sT P w K mg base N x (ai st) f b6 A outer s H E).B5 (cD st) (tS K O (true,λ_ _=>True) g))
  (hO:∀ i∈O,ps.length<=i:=by decide) {n m:Nat} (hN:N.length=n:=by rfl) (hP:ps.length=m:=by rfl):Dn P w K mg base (k + 1) x ps (xy K m (rB n g)):=by
 subst hN hP
 refine F.ok S (λvs H Q E h=>h.1) (λf b6 A outer s H vs Q E hr h=>⟨_,body f b6 A outer s H E hr,?_⟩)
 obtain ⟨hn,A',ds,d,al,hd,e,q⟩:=h
 obtain ⟨r,e1,e2⟩:=bind1 e
 refine ⟨H,[],A',_,r,Rel.start al hd (λi hi=>by have:=hO i hi; rw [<- hd.len,hn]; exact this),Fx.start al,e1,?_⟩
 cases r with
 | rt d'=>
   refine ⟨λv H' h=>?_,λ_ _ _ _=>trivial⟩
   unfold je at h
   rw [RV rfl] at h
   obtain ⟨r,ob,rfl,a,b,c,f⟩:=h
   cases f with
   | lst f=>cases e2; exact q r _ H' a b c f
   | tL _ _=>cases e2
 | nx δ=>cases e2
 | bk _=>cases e2
 | ct _=>cases e2
end
def iw (f f':D->D->Option D) (a b c:DS->Option D):DS->Option D:=λδ=>(a δ).bind λx=>(b δ).bind λy=>(f x y).bind λz=>match z with
 | .bool true=>(c δ).bind λw=>f' y w
 | .bool false=>some (.bool false)
 | _=>none
section
variable {X:Cx} {O:List Nat} {a b c:Expr} {ga gb gc:DS->Option D} {pos:Pos} {r r':R2}
theorem yF {K:PySem.W.Frag} {f f':D->D->Option D} (imp:gN K r f) (imp':gN K r' f') {σ:St} {H:Hp} {Q:VK}:tE K O (iw f f' ga gb gc) σ H Q->xT r r' (gK K O ga) (gK K O gb) (gK K O gc) σ H Q:=λ⟨U,A0,δ,d,R,ed,q⟩=>by
 obtain ⟨x,e1,ed⟩:=bind1 ed
 obtain ⟨y,e2,ed⟩:=bind1 ed
 obtain ⟨z,e3,ed⟩:=bind1 ed
 refine ⟨U,A0,δ,x,R,e1,λv1 H1 s1 h1=>⟨U,A0,δ,y,R.same s1,e2,λv2 H2 s2 h2=>imp _ H2 v1 v2 x y z _ (R.same (s1.trans s2)).al (h1.same s2) h2 e3 λv3 H3 s3 h3=>?_⟩⟩
 cases z with
 | bool k=>
   cases h3
   refine ⟨k,rfl,?_⟩
   cases k with
   | true=>
     obtain ⟨w,e4,e5⟩:=bind1 ed
     first
      | rw [RV rfl]
      | skip
     exact ⟨U,A0,δ,w,R.same ((s1.trans s2).trans s3),e4,λv4 H4 s4 h4=>imp' _ H4 v2 v4 y w d Q (R.same (((s1.trans s2).trans s3).trans s4)).al (h2.same (s3.trans s4)) h4 e5 λv H' s h=>q v H' ((((s1.trans s2).trans s3).trans s4).trans s) h⟩
   | false=>
     cases ed
     first
      | rw [R4 RS]
      | skip
     exact q _ H3 ((s1.trans s2).trans s3) (.bl _)
 | _=>cases ed
theorem oG {op Dp:CmpOp} {f f':D->D->Option D} (ho:gz X (compareOp op) r) (imp:gN X.K r f) (qM:gz X (compareOp Dp) r') (imp':gN X.K r' f') (ha:PE X a (gK X.K O ga)) (hb:PE X b (gK X.K O gb)) (hc:PE X c (gK X.K O gc)) (hm:lastMarks [op,Dp] [b,c]=false:=by with_unfolding_all rfl):PT X (.Compare a [op,Dp] [b,c] pos) (tT X.K O (gB (iw f f' ga gb gc))):=(xU ho qM ha hb hc hm).mono λ_ _ _=>Co λ_ _ _=>yF imp imp'
end
section
variable {X:Cx} {O:List Nat} {fr:Fr} {st:Stmt} {gr:DS->Option (List D)} {i j:Nat}
end
def iy:D->Bool
 | .none | .bool _ | .int _ | .str _=>true
 | _=>false
def dV:D->V
 | .none=>.fF
 | .bool b=>.bl b
 | .int i=>.int i
 | .str x=>.str x
 | _=>.fF
def DW (a b:D):Bool:=Ad (dV a) (dV b)
def DX:D->D->Option D:=λx y=>match y with
 | .list l=>if (iy x && l.all iy)=true then some (.bool (l.any λz=>DW z x)) else none
 | .tuple l=>if (iy x && l.all iy)=true then some (.bool (l.any λz=>DW z x)) else none
 | _=>none
theorem fT.flat {K:PySem.W.Frag} {A:List Addr} {H:Hp} {v:V} {d:D} (h:fT K A H v d) (f:iy d=true):v=dV d /\ ij v=true:=by
 cases d with
 | none=>rw [h.fF]; exact ⟨rfl,rfl⟩
 | bool b=>rw [h.bool]; exact ⟨rfl,rfl⟩
 | int i=>rw [h.int]; exact ⟨rfl,rfl⟩
 | str x=>rw [h.str]; exact ⟨rfl,rfl⟩
 | _=>cases f
theorem b7.flat {K:PySem.W.Frag} {H:Hp}:∀ {xs:List V} {ds:List D},b7 K H xs ds->ds.all iy=true->xs=ds.map dV /\ xs.all ij=true
 | _,_,.nil,_=>⟨rfl,rfl⟩
 | _,_,.cons h t,f=>by
   rw [Ui,RT] at f
   obtain ⟨e1,e2⟩:=b7.flat t f.2
   obtain ⟨e3,e4⟩:=(fT.of (A:=[]) (by rw [yi]; exact h)).flat f.1
   exact ⟨by rw [RY,<- e1,<- e3],by rw [Ui,e4,e2]; rfl⟩
theorem Cs (x:D) (l:List D):E8 (dV x) (l.map dV)=l.any λz=>DW z x:=by
 unfold E8 DW
 rw [List.any_map]; rfl
section
variable {X:Cx}
theorem DY:gz X (compareOp .In) (IW X.K false):=wm
end
set_option tactic.hygienic true in
theorem A5 {K:PySem.W.Frag} {A:List Addr} {H:Hp} {x y:V} {dx dy d:D} (hx:fT K A H x dx) (hy:fT K A H y dy) (e:DX dx dy=some d):∃ p xs b,y=.ref p /\ (ie K H p xs \/ jl K H p xs) /\ ij x=true /\ xs.all ij=true /\ d=.bool b /\ E8 x xs=b:=by
 unfold DX at e
 split at e
 .split at e
  .rename_i hf
   rw [RT] at hf
   cases e
   obtain ⟨p,xs,rfl,h1,h2⟩:=hy.list
   obtain ⟨e1,e2⟩:=h2.flat hf.2
   obtain ⟨e3,e4⟩:=hx.flat hf.1
   exact ⟨p,xs,_,rfl,.inl h1.sq,e4,e2,rfl,by rw [e1,e3,Cs]⟩
  .cases e
 .split at e
  .rename_i hf
   rw [RT] at hf
   cases e
   obtain ⟨p,xs,rfl,h1,h2⟩:=hy.tuple
   obtain ⟨e1,e2⟩:=h2.flat hf.2
   obtain ⟨e3,e4⟩:=hx.flat hf.1
   exact ⟨p,xs,_,rfl,.inr h1,e4,e2,rfl,by rw [e1,e3,Cs]⟩
  .cases e
 .cases e
theorem DZ {K:PySem.W.Frag}:gN K (IW K false) DX:=by
 intro A H x y dx dy d Q al hx hy e q
 obtain ⟨p,xs,b,h1,h2,h3,h4,rfl,h5⟩:=A5 hx hy e
 refine ⟨p,xs,h1,h2,h3,h4,?_⟩
 show Q (.bl (E8 x xs)) H
 rw [h5]
 exact q _ H (av.refl H) (.bl _)
theorem vf (a b:Int):DW (.int a) (.int b)=decide (a=b):=by
 simp only [DW,dV,Ad]
 rw [Bool.beq_eq_decide_eq]
section
variable {X:Cx} {O:List Nat} {fr:Fr} {st:Stmt} {ge gx:DS->Option D} {gl:DS->Option (List D)} {i:Nat}
end
section
variable {X:Cx} {O:List Nat} {tg a:Expr} {ge:DS->Option D} {p pos:Pos}
end
section
variable {X:Cx} {pins:List (Addr×Obj)} {σ:St} {H:Hp} {s:Shared} {h':Heap}
theorem Inv.vg {t':Nat} {ch:List Addr} (I:Inv X pins σ H s) (k:∀ b o,b∉ch->s.heap.get? b=some o->h'.get? b=some o) (hf:∀ b∈ch,jd X pins H b):Inv X pins σ H { s with heap:=h',toks:=t' }:=by
 have FG:∀ b u,H b=some u->b∉ch:=λb u e z=>by rw [(hf b z).1] at e; cases e
 refine I.step (g':=s.gens) (d':=s.drawn) (ch:=ch) (λb hb=>?_) (λb o _ _ hc e _=>k b o hc e) (λb o _ _ hc e _=>⟨o.slots,k b o hc e⟩) (λ_ _ _ _ n=>n)
  (λb o hc e=>⟨o,k b o hc e⟩) (λ_ _ e=>e) (λ_ _ _ e=>e) (λb ps e=>⟨#[],by rw [e]; simp⟩) (λm hm=>?_) (λb u e=>?_) I.bare
 .obtain ⟨_,a,_,b',c,d⟩:=hf b hb
  exact ⟨b',a,c,d⟩
 .obtain ⟨o,es,ep,ho,r⟩:=hm
  exact ⟨o,es,ep,k _ o (λz=>(hf _ z).2.1 rfl) ho,r⟩
 .refine (I.bo b u e).ls (λc v hc q=>k c v ?_ q) (λ_ q=>q) λ_ _ q=>q
  rcases hc with z | z
  .rw [z]; exact FG b u e
  .exact FG c _ z
theorem Inv.D0 {D:Addr} {ys:List V} {its:List Value} (I:Inv X pins σ H s) (hD:H D=none) (hs:X.ee.heap.objs.size<=D) (hl:D≠X.env.locals) (hc:∀ x c,X.env.cells.lookup x=some c->c≠D)
  (hp:∀ p∈X.pn ++ pins,p.1≠D) (e:IsTup s.heap D its.toArray) (r:aO ys its) (hz:ys.length<=sizeLine):Inv X pins σ (upd H D (.tup ys)) s:=by
 have h:=I.step (H':=upd H D (.tup ys)) (h':=s.heap) (g':=s.gens) (t':=s.toks) (d':=s.drawn) (ch:=[D]) (λb hb=>by
   have e:b=D:=by simpa using hb
   subst e
   exact ⟨.inr hs,hl,hc,hp⟩)
  (λb o _ _ _ q _=>q) (λb o _ _ _ q _=>⟨o.slots,q⟩) (λb o hb _ q=>by rw [aG (by simpa using hb)]; exact q) (λb o _ q=>⟨o,q⟩)
  (λb xs q=>by rw [aG (aY q hD)]; exact q) (λb o u q=>by rw [aG (aY q hD)]; exact q) (λb ps q=>⟨#[],by rw [aG (aY q hD),Ur]; exact q⟩) (λm hm=>hm) (λb u q=>?_) I.bare
 .exact h
 .by_cases hb:b=D
  .subst hb
   rw [bM] at q; cases q
   exact ⟨hz,its,r,e⟩
  .rw [aG hb] at q
   exact (I.bo b u q).ls (λ_ _ _ z=>z) (λc z=>by rw [aG (aY z hD)]; exact z) λc xs z=>z.new hD
end
def MG (K:PySem.W.Frag) (a:Addr):It:=
 ⟨λi H=>∃ xs x,ie K H a xs /\ xs[i]?=some x,λi H x H'=>∃ p v,H p=none /\ x=.ref p /\ H'=upd H p (.tup [.int i,v]) /\ ∀ xs,ie K H a xs->xs[i]?=some v,λi H=>∃ xs,ie K H a xs /\ xs.length<=i⟩
theorem wG {P:Program} {w:World} {K:PySem.W.Frag} {es:List Expr} {kk} {qS:Pos} (a e it:Addr) (fV:e≠it):Turn P w K (.Tuple es kk qS) (MG K a) [e,it] e (λi h=>(∃ old,IsEnum h e it i old) /\ h.IsListIter it a i) where
 mem:=by simp
 obj:=λi h st b hb=>by
  obtain ⟨⟨old,he⟩,o,ho,c,d⟩:=st
  rcases RN.mp hb with z | z
  .subst z; exact ⟨_,he,λv z=>by cases z⟩
  .have z:b=it:=by simpa using z
   subst z; exact ⟨o,ho,λv z=>by rw [d] at z; cases z⟩
 keep:=λi h h' st k=>by
  obtain ⟨⟨old,he⟩,kC⟩:=st
  exact ⟨⟨old,k e (by simp) _ he⟩,kC.at λo eo=>k it (by simp) o eo⟩
 item:=by
  intro X hP hw hK hc i pins s σ H E I hf st hg
  subst hP hw hK
  obtain ⟨xs,x,hq,hx⟩:=hg
  obtain ⟨its,rv,p,hz⟩:=I.list hq
  obtain ⟨u,hu,ru⟩:=rv.get hx
  obtain ⟨⟨old,he⟩,kC⟩:=st
  refine wpAny_pyNext_enum_item he kC p.isList (x:=u) (by simpa using hu) fV λh1 B2 Jp NP HN NQ=>?_
  refine ⟨_,rfl,wpAny_letOwnedTupleGo_enum B2 λh2 DU xA=>?_⟩
  replace xA:Heap.SameBut e h1 h2:=xA
  have MH:e < s.heap.objs.size:=RR he
  have I1:Inv X pins σ H { s with heap:=h2,toks:=s.toks + 1 }:=I.vg (t':=s.toks + 1) (ch:=[e,it]) (λb o hb eo=>by
   simp only [RN,S0,Vq,Wa] at hb
   exact (xA.2 b hb.1).trans (NQ b o hb.1 hb.2 eo)) hf
  have NR:IsTup h2 s.heap.objs.size [Value.int i s.toks,u].toArray:=⟨_,(xA.2 _ (T5 MH)).trans NP,rfl,_,rfl⟩
  have lA:H s.heap.objs.size=none:=I.bo.fresh (RO _)
  have fo:=I.sZ (H':=H) (RO _) lA
  have I2:Inv X pins σ (upd H s.heap.objs.size (.tup [.int i,x])) { s with heap:=h2,toks:=s.toks + 1 }:=I1.D0 lA (Sj I.sz (RO _)) fo.2.1 fo.2.2.2.2.1 fo.2.2.2.2.2 NR (.cons ⟨_,rfl⟩ (.cons ru .nil)) (by show 2<=sizeLine; decide)
  refine ⟨.ref s.heap.objs.size,_,I2,rfl,⟨_,x,lA,rfl,rfl,λys hy=>by rw [I.qO hy hq]; exact hx⟩,⟨⟨u,DU⟩,Jp.extBut xA.extBut (Tf fV)⟩,λb hb=>?_⟩
  have jf:b < s.heap.objs.size:=by
   rcases RN.mp hb with z | z
   .subst z; exact MH
   .have z:b=it:=by simpa using z
    subst z
    obtain ⟨o,ho,_⟩:=kC
    exact RR ho
  rw [aG (RW jf)]
  exact (hf b hb).1
 done:=by
  intro X hP hw hK hc i pins s σ H E I hf st hg
  subst hP hw hK
  obtain ⟨xs,hq,hx⟩:=hg
  obtain ⟨its,rv,p,hz⟩:=I.list hq
  obtain ⟨⟨old,he⟩,kC⟩:=st
  have hl:=rv.length
  refine wpAny_pyNext_enum_end (I.ok.hd hc) he kC p.isList (by simp; omega) λh1 eb=>⟨rfl,?_⟩
  exact I.vg (t':=s.toks) (ch:=[e,it]) (λb o hb eo=>eb b o (λz=>hb (by simp [z])) eo) hf
 self:=λ_ _ _ _ _ st h=>by
  obtain ⟨⟨old,he⟩,_⟩:=st
  exact wpAny_pyIter_enum he h
theorem pL:bootBuiltins "enumerate"=some (.type "enumerate"):=by decide +kernel
def oH (l:List D):List D:=l.zipIdx.map λp=>.tuple [.int (p.2:Nat),p.1]
theorem wH {l:List D} {i:Nat} {d:D} (h:(oH l)[i]?=some d):∃ x,l[i]?=some x /\ d=.tuple [.int (i:Nat),x]:=by
 unfold oH at h
 rw [Sa,List.getElem?_zipIdx] at h
 cases e:l[i]? with
 | none=>rw [e] at h; cases h
 | some x=>rw [e] at h; simp at h; exact ⟨x,rfl,h.symm⟩
theorem oJ {l:List D}:(oH l).length=l.length:=by unfold oH; simp
section
variable {X:Cx} {O:List Nat} {a:Expr} {ge:DS->Option D} {p pos:Pos} {es:List Expr} {kk} {qS:Pos}
def Gx (K:PySem.W.Frag) (ta:TA):TI:=λσ H R=>ta σ H λvs H1=>∃ a xs,vs=[.ref a] /\ ie K H1 a xs /\ R (MG K a) H1
theorem A6 {ta:TA} (hg:Gl X "enumerate") (hm:X.mg "enumerate"=none) (ha:PA X [a] ta) (hs:starEach [a] X.env=[(false,eval a X.env)]:=by rfl):PI X (.Tuple es kk qS) (.Call (.Name "enumerate" p) [a] [] pos) (Gx X.K ta):=by
 intro pins s σ H R I h
 refine Call_ (kA I hg hm pL (Tq (eh (ha pos pins s σ H _ I h) λus s1 ⟨vs,H1,I1,r1,q1⟩=>?_) hs rfl))
 obtain ⟨b,xs,e,hq,q⟩:=q1
 subst e
 obtain ⟨u,rfl,ru⟩:=vals1 r1
 cases ru
 obtain ⟨its,rv,pl,hz⟩:=I1.list hq
 refine call_enumerate_list pl.isList λh' he hit AA hk=>?_
 refine wpAny_pyIter_enum he ?_
 refine ⟨s1.heap.objs.size + 1,[s1.heap.objs.size + 1,s1.heap.objs.size],_,_,H1,rfl,I1.kept (t':=s1.toks) hk,wG b _ s1.heap.objs.size (Nat.succ_ne_self _),⟨⟨_,he⟩,hit⟩,λb hb=>?_,q⟩
 have hle:s1.heap.objs.size<=b:=by
  simp only [RN,S0,Vq] at hb
  rcases hb with z | z
  .rw [z]; exact T3 _
  .rw [z]; exact RO _
 exact I1.sZ hle (I1.bo.fresh hle)
def gS (g:DS->Option D):DS->Option (List D):=λδ=>(g δ).bind λ| .list l=>some (oH l) | _=>none
theorem pM (hm:X.mg "enumerate"=none) (ha:PE X a (tE X.K O ge)) (hg:Gl X "enumerate":=by rfl) (hs:starEach [a] X.env=[(false,eval a X.env)]:=by rfl) (A7:starEach ([]:List Expr) X.env=[]:=by rfl):PI X (.Tuple es kk qS) (.Call (.Name "enumerate" p) [a] [] pos) (tI X.K O (gS ge)):=
 (A6 hg hm (cq ha el (by rw [hs,A7])) hs).mono λσ H Q hh=>hh.e λU A0 δ ds R ed q=>by
  obtain ⟨x,e1,e2⟩:=bind1 ed
  cases x with
  | list l=>
    cases e2
    refine ⟨U,A0,δ,_,R,e1,λv H' s h=>?_⟩
    cases h with
    | lst hq h=>
      refine ⟨_,_,rfl,(hq.same dM).sq,q _ H' s ?_⟩
      intro A' i H2 s2 al
      have h2:=h.same s2
      have hL:ie X.K H2 _ _:=((hq.same s2).same dM).sq
      refine ⟨λd hd=>?_,λhi=>⟨_,hL,by rw [hi,oJ,h2.len]; exact RO _⟩⟩
      obtain ⟨y,hy,rfl⟩:=wH hd
      obtain ⟨v,hv,NS⟩:=h2.get hy
      refine ⟨⟨_,v,hL,hv⟩,λz H3 hz=>?_⟩
      obtain ⟨p,v',hp,rfl,rfl,NT⟩:=hz
      have:=NT _ hL
      rw [hv] at this
      cases this
      exact ⟨b9 hp _,HD.yr al hp (.cons (.int _) (.cons NS .nil))⟩
  | _=>cases e2
end
def WalksS (K:PySem.W.Frag) (A:List Addr) (H1:Hp) (J:It) (ds:List D):Prop:=∀ (i:Nat) (H:Hp),av H1 H->
 (∀ d,ds[i]?=some d->J.go i H /\ ∀ x H2,J.Dd i H x H2->av H H2 /\ HD K (wo H2 A) x d) /\ (i=ds.length->J.stop i H)
def A8 (K:PySem.W.Frag) (O:List Nat) (g:DS->Option (List D)):TI:=λσ H R=>∃ U A0 δ ds,Rel K O U A0 σ δ H /\ g δ=some ds /\ ∀ J H1,av H H1->WalksS K (U ++ A0) H1 J ds->R J H1
theorem A8.e {K:PySem.W.Frag} {O:List Nat} {g:DS->Option (List D)}  {σ:_} {H:_} {R:_} {GG:Prop} (hh:A8 K O g σ H R) (kk:∀ U A0 δ ds,(Rel K O U A0 σ δ H)->(g δ=some ds)->(∀ J H1,av H H1->WalksS K (U ++ A0) H1 J ds->R J H1)->GG):GG:=by obtain ⟨U,A0,δ,ds,x0,x1,x2⟩:=hh; exact kk U A0 δ ds x0 x1 x2
section
variable {X:Cx} {O:List Nat} {tg e:Expr} {gi:DS->Option (List D)} {ge:DS->Option D} {pos:Pos}
theorem PI.c (h:PI X tg e (tI X.K O gi)):PI X tg e (A8 X.K O gi):=h.mono λσ H Q hh=>hh.e λU A0 δ ds R ed q=>⟨U,A0,δ,ds,R,ed,λJ H1 s hw=>q J H1 s λi H2 s2=>hw (U ++ A0) i H2 (cE s2) ((R.same (s.trans s2)).al)⟩
theorem A9 (h:PE X e (gK X.K O ge)):PI X tg e (A8 X.K O (aR ge)):=(yD h).mono λσ H Q hh=>hh.e λU A0 δ ds R ed q=>by
 obtain ⟨x,e1,e2⟩:=bind1 ed
 cases x with
 | list l=>
   cases e2
   refine ⟨U,A0,δ,_,R,e1,λv H' s h=>?_⟩
   obtain ⟨p,xs,rfl,h1,h2⟩:=h.list
   refine .inl ⟨_,rfl,⟨_,h1.sq⟩,q _ H' s ?_⟩
   intro i H2 s2
   have A2:=h2.same (cE (A:=U ++ A0) s2)
   have hL:ie X.K H2 _ _:=(h1.same s2).sq
   refine ⟨λd hd=>?_,λhi=>⟨_,hL,by rw [A2.len]; omega⟩⟩
   obtain ⟨x,hx,DV⟩:=A2.get hd
   refine ⟨⟨_,x,hL,hx⟩,λy H3 hy=>?_⟩
   obtain ⟨rfl,hy⟩:=hy
   have:=hy _ hL
   rw [hx] at this
   cases this
   exact ⟨av.refl _,DV⟩
 | tuple l=>
   cases e2
   refine ⟨U,A0,δ,_,R,e1,λv H' s h=>?_⟩
   obtain ⟨p,xs,rfl,h1,h2⟩:=h.tuple
   refine .inr ⟨_,rfl,⟨_,h1⟩,q _ H' s ?_⟩
   intro i H2 s2
   have A2:=h2.same (cE (A:=U ++ A0) s2)
   have hL:jl X.K H2 _ _:=s2.tup h1
   refine ⟨λd hd=>?_,λhi=>⟨_,hL,by rw [A2.len]; omega⟩⟩
   obtain ⟨x,hx,DV⟩:=A2.get hd
   refine ⟨⟨_,x,hL,hx⟩,λy H3 hy=>?_⟩
   obtain ⟨rfl,hy⟩:=hy
   have:=hy _ hL
   rw [hx] at this
   cases this
   exact ⟨av.refl _,DV⟩
 | _=>cases e2
end
section
variable {X:Cx} {O:List Nat} {fr:Fr} {scope:Scope} {x:Str} {elt iter:Expr} {px pos:Pos} {gi:DS->Option (List D)} {ge:DS->Option D}
end
end L2
namespace LS
open PySem PySem.Spec PyProof.Rows
section
variable {prog:Program} {w:World} {A:Around} {E:Value->Shared->Prop} {s:Shared} {it t:Addr} {i:Nat} {items:Array Value}
end
set_option maxHeartbeats 1000000 in
set_option tactic.hygienic true in
theorem yr (l:Addr) (items:Array Value) (n:Nat) (tL:Option Addr) (sl:Array (Option Value)):
  Meets (Builtin.«enumerate.__new__» ⟨[.type "enumerate",.ref l],[]⟩) (λ_ R s=>s.heap.get? l=some { cls:=.type "tuple",dict:=tL,data:=.seq items n,slots:=sl } /\
   R (.ok (.ret (.ref (s.heap.push { cls:=.type "tuple_iterator",data:=.fields #[.ref l,.int 0 0] }).objs.size)))
     { s with heap:=(s.heap.push { cls:=.type "tuple_iterator",data:=.fields #[.ref l,.int 0 0] }).push { cls:=.type "enumerate",data:=.fields #[.none,.bool false,.ref s.heap.objs.size,rawInt 0,.none,.none] } }):=
 .of_wp λprog w A R s h=>by
  obtain ⟨hp,g,d,tk,os⟩:=s; obtain ⟨hl,h⟩:=h
  have iz:=sub_enumerate
  have hL:Heap.IsTuple (Shared.heap ⟨hp,g,d,tk,os⟩) l items:=⟨_,hl,rfl,n,rfl⟩
  wp_walk using AutoSeq1.wpAny_loadPart' hl
  refine wpAny_stack_any λst=>RQ ?_
  split
  .rename_i c _ _ _ _ _
   cases (c == Value.type "enumerate")
   .wp_walk using AutoSeq1.wpAny_loadPart' hl,wpAny_pyIter_tuple hL
    exact ⟨_,rfl,h⟩
   .wp_walk using AutoSeq1.wpAny_loadPart' hl,wpAny_pyIter_tuple hL
    exact ⟨_,rfl,h⟩
  .wp_walk using AutoSeq1.wpAny_loadPart' hl,wpAny_pyIter_tuple hL
   exact ⟨_,rfl,h⟩
section
variable {prog:Program} {w:World} {A:Around} {E:Value->Shared->Prop} {s:Shared}
end
end LS
namespace LS
open PySem
def oK (l:List Nat):Prop:=l.Pairwise (· < ·)
theorem iX {xs:Array Nat} (h:oK xs.toList) {a b:Nat} (Ff:a < b) (hb:b < xs.size) (d e:Nat):xs.getD a d < xs.getD b e:=by
 have ha:a < xs.size:=by omega
 have:=List.pairwise_iff_getElem.mp h a b (by simpa using ha) (by simpa using hb) Ff
 simpa [Array.getD,ha,hb] using this
theorem yG {xs:Array Nat} (hs:oK xs.toList) (j:Nat) (fuel:Nat):∀ (lo hi:Nat),hi - lo<=fuel->lo<=hi->hi<=xs.size->(∀ k,k < lo->xs.getD k 0 < j)->(∀ k,hi<=k->k < xs.size->j<=xs.getD k 0)->
  SetTable.below.go xs j fuel lo hi<=xs.size /\ (∀ k,k < SetTable.below.go xs j fuel lo hi->xs.getD k 0 < j) /\ ∀ k,SetTable.below.go xs j fuel lo hi<=k->k < xs.size->j<=xs.getD k 0:=by
 induction fuel with
 | zero=>
   intro lo hi h1 h2 h3 h4 h5
   have e:lo=hi:=VB h2 (Nat.le_of_sub_eq_zero (Nat.le_zero.mp h1))
   subst e
   exact ⟨h3,h4,h5⟩
 | succ fuel ih=>
   intro lo hi h1 h2 h3 h4 h5
   rw [SetTable.below.go]
   by_cases hl:lo < hi
   .rw [RV hl]
    have a:lo<=(lo + hi) / 2 /\ (lo + hi) / 2 < hi:=by omega
    dsimp only
    generalize (lo + hi) / 2=m at a
    have hm:m < xs.size:=RL a.2 h3
    have hg:xs.getD m j=xs.getD m 0:=by simp [Array.getD,hm]
    rw [hg]
    by_cases hc:xs.getD m 0 < j
    .rw [RV hc]
     refine ih _ hi (by omega) a.2 h3 (λk hk=>?_) h5
     rcases Nat.lt_or_eq_of_le (Nat.le_of_lt_succ hk) with q | q
     .exact Nat.lt_trans (iX hs q hm 0 0) hc
     .rw [q]; exact hc
    .rw [R4 hc]
     have hc:=UH hc
     refine ih lo _ (by omega) a.1 (T4 hm) h4 (λk hk Fg=>?_)
     rcases Nat.lt_or_eq_of_le hk with q | q
     .exact Sj hc (T4 (iX hs q Fg 0 0))
     .rw [<- q]; exact hc
   .rw [R4 hl]
    have e:lo=hi:=VB h2 (UH hl)
    subst e
    exact ⟨h3,h4,h5⟩
theorem below_at {xs:Array Nat} (hs:oK xs.toList) (j:Nat):SetTable.below xs j<=xs.size /\ (∀ k,k < SetTable.below xs j->xs.getD k 0 < j) /\ ∀ k,SetTable.below xs j<=k->k < xs.size->j<=xs.getD k 0:=
 yG hs j xs.size 0 xs.size (by omega) (TF _) (RO _) (λk hk=>by omega) λk h1 h2=>by omega
theorem mo {xs:Array Nat} (hs:oK xs.toList) {i j:Nat} (hi:i<=xs.size) (h1:∀ k,k < i->xs.getD k 0 < j) (h2:∀ k,i<=k->k < xs.size->j<=xs.getD k 0):SetTable.below xs j=i:=by
 obtain ⟨a,b,c⟩:=below_at hs j
 rcases Nat.lt_trichotomy (SetTable.below xs j) i with h | h | h
 .have:=h1 _ h
  have:=c _ (RO _) (by omega)
  omega
 .exact h
 .have:=b i h
  have:=h2 i (RO _) (by omega)
  omega
theorem yH {xs:Array Nat} (hs:oK xs.toList) {j:Nat} (h:xs[SetTable.below xs j]?≠some j):j∉xs.toList:=by
 intro hm
 obtain ⟨k,hk,e⟩:=TQ hm
 have Fg:k < xs.size:=by simpa using hk
 have ek:xs.getD k 0=j:=by simpa [Array.getD,Fg] using e
 have:SetTable.below xs j=k:=mo hs (T4 Fg) (λi hi=>by rw [<- ek]; exact iX hs hi Fg 0 0) (λi h1 h2=>by
  by_cases Ck:k=i
  .subst Ck; omega
  .have:=iX hs (show k < i by omega) h2 0 0
   omega)
 rw [this] at h
 refine h ?_
 rw [SH Fg]
 simpa using e
theorem Ba {t:SetTable} (hs:oK t.place.toList) {j:Nat} (h:t.place[SetTable.below t.place j]?≠some j):oK (t.put j).1.place.toList:=by
 have hn:=yH hs h
 obtain ⟨a,b,c⟩:=below_at hs j
 show oK (SetTable.insertAt t.place (SetTable.below t.place j) j).toList
 rw [SetTable.toList_insertAt]
 have k7:(t.place.toList.take (SetTable.below t.place j) ++ t.place.toList.drop (SetTable.below t.place j)).Pairwise (· < ·):=by rw [UE]; exact hs
 rw [TH] at k7
 refine TH.mpr ⟨k7.1,Sy.mpr ⟨λx hx=>?_,k7.2.1⟩,λx hx y hy=>?_⟩
 .obtain ⟨k,hk,e⟩:=TQ hx
  rw [List.getElem_drop] at e
  have jZ:SetTable.below t.place j + k < t.place.size:=by
   have:=Ue (i:=SetTable.below t.place j) (l:=t.place.toList)
   have HP:=hk
   rw [this] at HP
   simp at HP
   omega
  have:=c (SetTable.below t.place j + k) (by omega) jZ
  have e2:t.place.getD (SetTable.below t.place j + k) 0=x:=by simpa [Array.getD,jZ] using e
  have fV:x≠j:=λz=>hn (by rw [<- z]; exact TJ hx)
  omega
 .obtain ⟨k,hk,e⟩:=TQ hx
  have jZ:k < SetTable.below t.place j:=by
   have:=SJ (i:=SetTable.below t.place j) (l:=t.place.toList)
   omega
  have HP:k < t.place.size:=by omega
  rw [List.getElem_take] at e
  have e2:t.place.getD k 0=x:=by simpa [Array.getD,HP] using e
  have MI:=b k jZ
  rw [e2] at MI
  rcases RN.mp hy with z | z
  .rw [z]; exact MI
  .exact k7.2.2 x hx y z
set_option tactic.hygienic true in
theorem jC {t:SetTable} {f:Nat->Int} {h:Int}:∀ {fuel:Nat} {p:SetTable.Probe} {j:Nat} {dm:Option Nat},(∀ d,p.dummy=some d->t.place[SetTable.below t.place d]?≠some d)->
  SetTable.probe.go t f h fuel p=some (.empty j dm)->t.place[SetTable.below t.place (dm.getD j)]?≠some (dm.getD j)
 | 0,p,j,dm,_,e=>by cases e
 | fuel + 1,p,j,dm,hd,e=>by
   have MJ:∀ q:SetTable.Probe,(t.advance q).dummy=q.dummy:=λq=>by unfold SetTable.advance; split <;> rfl
   rw [SetTable.probe.go] at e
   have nl:∀ i,t.slot i=.empty \/ t.slot i=.dummy->t.place[SetTable.below t.place i]?≠some i:=by
    intro i hi z
    unfold SetTable.slot at hi
    dsimp only at hi
    rw [z] at hi
    simp at hi
   split at e
   .rename_i hs
    cases e
    cases hp:p.dummy with
    | none=>exact nl _ (.inl hs)
    | some d=>exact hd d hp
   .rename_i hs
    refine jC (λd pd=>?_) e
    rw [MJ] at pd
    cases pd
    exact nl _ (.inr hs)
   .split at e
    .cases e
    .exact jC (λd pd=>hd d (by rw [MJ] at pd; exact pd)) e
theorem iY (n:Nat):oK (Array.range n).toList:=by rw [Array.toList_range]; exact List.pairwise_lt_range
theorem nK {t:SetTable} {n:Nat} (h:oK t.place.toList):oK (t.orStandIn n).place.toList /\ (t.orStandIn n).led=t.led:=by
 unfold SetTable.orStandIn
 split
 .exact ⟨h,rfl⟩
 .exact ⟨iY n,rfl⟩
set_option tactic.hygienic true in
theorem tQ {t:SetTable} {es:Array (Int×Value)} {h:Int} {x:Value} (hs:oK t.place.toList):oK (layNew t es h x).2.1.place.toList /\ (layNew t es h x).2.1.led=t.led:=by
 unfold layNew
 split
 .rename_i slot wd e
  unfold SetTable.freeSlot at e
  split at e
  .rename_i j dm ep
   cases e
   have:=jC (t:=t) (λd z=>by cases z) ep
   obtain ⟨a,b⟩:=nK (n:=(SetTable.insertAt es (t.put (dm.getD j)).2 (h,x)).size) (Ba hs this)
   exact ⟨a,b⟩
  .cases e
 .exact ⟨iY _,rfl⟩
set_option tactic.hygienic true in
theorem pN {t:SetTable} {es:Array (Int×Value)} {n:Nat}:oK (relayAll t es n).2.1.place.toList /\ (relayAll t es n).2.1.led=t.led:=by
 unfold relayAll
 split
 .rename_i t' order e
  dsimp only
  split
  .unfold SetTable.relaid SetTable.laid at e
   obtain ⟨owner,_,e2⟩:=Option.bind_eq_some_iff.mp e
   cases e2
   refine ⟨?_,rfl⟩
   show oK (List.map _ _)
   refine List.pairwise_map.mpr (List.pairwise_filterMap.mpr ?_)
   refine List.pairwise_lt_range.imp λ{a b} Ff x hx y hy=>?_
   cases ea:owner.getD a none with
   | none=>rw [ea] at hx; cases hx
   | some u=>
     cases eb:owner.getD b none with
     | none=>rw [eb] at hy; cases hy
     | some v=>
       rw [ea] at hx; rw [eb] at hy
       cases hx; cases hy
       exact Ff
  .exact ⟨iY _,rfl⟩
 .exact ⟨iY _,rfl⟩
end LS
namespace LS
open PySem PyProof.Rows
def iv:Value->Int
 | .int n _=>n
 | _=>0
theorem cN:∀ {vs:List Value} {ns:List Int},IntsAre vs ns↔(∀ v∈vs,∃ n t,v=.int n t) /\ ns=vs.map iv
 | [],ns=>⟨λh=>by cases h; exact ⟨λv hv=>by simp at hv,rfl⟩,λ⟨_,h⟩=>by subst h; exact .nil⟩
 | v :: vs,ns=>⟨λh=>by
     cases h with
     | cons n t h=>
       obtain ⟨h1,h2⟩:=cN.mp h
       refine ⟨λu hu=>?_,by rw [h2]; rfl⟩
       rcases RN.mp hu with z | z
       .exact ⟨n,t,z⟩
       .exact h1 u z,λ⟨h1,h2⟩=>by
     obtain ⟨n,t,rfl⟩:=h1 v RK
     subst h2
     exact .cons n t (cN.mpr ⟨λu hu=>h1 u (RM _ hu),rfl⟩)⟩
theorem kK {vs Jq:List Value} {ns:List Int} (h:IntsAre vs ns) (p:Jq.Perm vs):∃ j3,IntsAre Jq j3 /\ j3.Perm ns:=by
 obtain ⟨h1,h2⟩:=cN.mp h
 exact ⟨Jq.map iv,cN.mpr ⟨λv hv=>h1 v (p.mem_iff.mp hv),rfl⟩,by rw [h2]; exact p.map iv⟩
def gG (prog:Program) (w:World) (h:Heap) (a:Addr) (led:Bool) (ns:List Int):Prop:=∃ o es ep t,h.get? a=some o /\ o.ExactSet /\ o.data=.set es ep t /\ ElemsOf (intKind prog w) es.toList /\
 IntsAre (es.toList.map (·.2)) ns /\ ns.Nodup /\ es.size < scanBound /\ t.fits es.size=true /\ t.led=led /\ oK t.place.toList
section
variable {prog:Program} {w:World} {A:Around} {E:Value->Shared->Prop} {s:Shared} {a:Addr} {led:Bool} {ns:List Int}
theorem gG.keeps {h h':Heap} (x:gG prog w h a led ns) (k:∀ o,h.get? a=some o->h'.get? a=some o):gG prog w h' a led ns:=by
 obtain ⟨o,es,ep,t,ho,r⟩:=x
 exact ⟨o,es,ep,t,k o ho,r⟩
theorem rC {h:Heap} {o:Obj} {es:Array (Int×Value)} {ep:Nat} {t:SetTable} (ho:h.get? a=some o) (hex:o.ExactSet) (hd:o.data=.set es ep t) {qH:Array (Int×Value)} {t':SetTable} {j3:List Int}
  (h1:ElemsOf (intKind prog w) qH.toList) (h2:IntsAre (qH.toList.map (·.2)) j3) (h3:j3.Nodup) (h4:qH.size < scanBound) (h5:t'.fits qH.size=true) (h6:t'.led=led) (h7:oK t'.place.toList):
  (h.update a (Obj.putSet qH t')).get? a=some { o with data:=.set qH (ep + 1) t' } /\ gG prog w (h.update a (Obj.putSet qH t')) a led j3:=by
 have hg:(h.update a (Obj.putSet qH t')).get? a=some { o with data:=.set qH (ep + 1) t' }:=by
  have q:=Sq (Obj.putSet qH t') ho (by rw [putSet_of qH t' hd]; rfl)
  rwa [putSet_of qH t' hd] at q
 exact ⟨hg,_,qH,ep + 1,t',hg,hex,rfl,h1,h2,h3,h4,h5,h6,h7⟩
theorem oM {g:Bool->Sem Unit} (hg:∀ (b:Bool) (a9:Shared) (Q':Unit->Shared->Prop),Q' () a9->wpAny (model prog w) A (g b) Q' E a9) {o:Obj} {es:Array (Int×Value)} {ep:Nat} {t:SetTable}
  (ho:s.heap.get? a=some o) (hex:o.ExactSet) (hd:o.data=.set es ep t) {lD:Array (Int×Value)} {t2:SetTable} {D1:List Int} (h1:ElemsOf (intKind prog w) lD.toList) (h2:IntsAre (lD.toList.map (·.2)) D1) (h3:D1.Nodup) (h4:lD.size < scanBound)
  (h5:t2.fits lD.size=true) (h6:t2.led=led) (h7:oK t2.place.toList) {wd:Bool} {R:Option Bool->Shared->Prop}
  (h:∀ h' j3,Heap.SameBut a s.heap h'->gG prog w h' a led j3->j3.Perm D1->R (some true) { s with heap:=h' }):
  wpAny (model prog w) A (do
    storeSet a lD t2
    if (!wd && t2.tooFull)=true then do
        g (relayAll t2 lD (SetTable.grown lD.size)).2.2
        storeSet a (relayAll t2 lD (SetTable.grown lD.size)).1 (relayAll t2 lD (SetTable.grown lD.size)).2.1
        pure (some true)
     else pure (some true)) R E s:=by
 refine RF (wpAny_storeSet_of ho hd ?_ (Vf h4))
 obtain ⟨jj,S1⟩:=rC (led:=led) ho hex hd h1 h2 h3 h4 h5 h6 h7
 have b1:=SK s.heap a (Obj.putSet lD t2)
 split
 .have hp:=relayAll_perm t2 lD (SetTable.grown lD.size)
  have hf:=relayAll_fits t2 lD (SetTable.grown lD.size)
  obtain ⟨hr,hl⟩:=pN (t:=t2) (es:=lD) (n:=SetTable.grown lD.size)
  generalize relayAll t2 lD (SetTable.grown lD.size)=Z at hp hf hr hl ⊢
  obtain ⟨HQ,t3,Jr⟩:=Z
  dsimp only at hp hf hr hl ⊢
  obtain ⟨NU,i2,p2⟩:=kK h2 (hp.map (·.2))
  have hz:HQ.size=lD.size:=by rw [<- Array.length_toList,hp.length_eq,Sd]
  have b2:HQ.size < scanBound:=by rw [hz]; exact h4
  refine RF (hg _ _ _ (RF (wpAny_storeSet_of jj rfl ?_ (Vf b2))))
  obtain ⟨_,S2⟩:=rC (led:=led) jj hex rfl (h1.perm hp) i2 (p2.nodup_iff.mpr h3) b2 hf (hl.trans h6) hr
  exact RQ (h _ NU (b1.trans (SK _ a _)) S2 p2)
 .exact RQ (h _ D1 b1 S1 (.refl _))
theorem rD {es:List (Int×Value)} {i:Int} (h:IntsAre (es.map (·.2)) ns):i∈ns↔∃ e∈es,Value.isInt i e.2=true:=by
 obtain ⟨h1,h2⟩:=cN.mp h
 subst h2
 constructor
 .intro hm
  obtain ⟨v,hv,e⟩:=RX.mp hm
  obtain ⟨x,hx,rfl⟩:=RX.mp hv
  obtain ⟨n,t,q⟩:=h1 _ hv
  rw [q] at e
  cases e
  exact ⟨x,hx,by rw [q]; simp [Value.isInt,iv]⟩
 .rintro ⟨e,he,q⟩
  obtain ⟨t,z⟩:=Value.isInt_shape q
  exact RX.mpr ⟨e.2,RX.mpr ⟨e,he,rfl⟩,by rw [z]; rfl⟩
theorem yI {i:Int} {tk:Tok} {Q:Bool->Shared->Prop} (hS:gG prog w s.heap a led ns) (room:ns.length + 1 < scanBound)
  (h:∀ h' j3 b,Heap.SameBut a s.heap h'->gG prog w h' a led j3->(∀ k,k∈j3↔k∈ns \/ k=i)->j3.length<=ns.length + 1->Q b { s with heap:=h' }):
  wpAny (model prog w) A (setAddHashed a (.int i tk) (hashInt i)) Q E s:=by
 obtain ⟨o,es,ep,t,ho,hex,hd,h1,h2,h3,h4,h5,h6,h7⟩:=hS
 have hlen:ns.length=es.size:=by
  obtain ⟨_,e⟩:=cN.mp h2
  rw [e]; simp
 have hk:(intKind prog w).is i (.int i tk)=true:=intKind_is prog w i tk
 have Js:(Value.int i tk).scannable=true:=rfl
 unfold setAddHashed setAddHashedIn
 refine Ts (RF (TK ho hd h5 ?_))
 dsimp only
 rw [byScan_of Js h4 h1]
 simp only [↓reduceIte]
 unfold setAddByScan
 refine RF (RF (U3 (RF (wpAny_setScan_of (knd:=intKind prog w) (k:=i) hk ho hd h5 h1 ?_))))
 cases hf:List.findIdx? (λe=>(intKind prog w).is i e.2) es.toList with
 | some j=>
   dsimp only
   obtain ⟨hj,NV,_⟩:=List.findIdx?_eq_some_iff_getElem.mp hf
   have hm:i∈ns:=(rD h2).mpr ⟨_,SQ hj,NV⟩
   refine RQ (RQ ?_)
   have q:=h s.heap ns false (Heap.SameBut.refl a s.heap) ⟨o,es,ep,t,ho,hex,hd,h1,h2,h3,h4,h5,h6,h7⟩ (λk=>⟨.inl,λz=>z.elim id λe=>e ▸ hm⟩) (T3 _)
   exact q
 | none=>
   dsimp only
   have hn:i∉ns:=λhm=>by
    obtain ⟨e,he,q⟩:=(rD h2).mp hm
    have z:=List.findIdx?_eq_none_iff.mp hf e he
    rw [show (intKind prog w).is i e.2=true from q] at z
    cases z
   have gw:∀ (b:Bool) {a9:Shared} {Q':Unit->Shared->Prop},Q' () a9->wpAny (model prog w) A (match b with | true=>rule "set.scan.the-table-gave-way" | false=>pure ()) Q' E a9:=
    λb a9 Q' hq=>by cases b <;> first | exact RQ hq | exact U3 hq
   have hp:=layNew_perm t es (hashInt i) (.int i tk)
   have Gy:=layNew_fits t es (hashInt i) (.int i tk)
   obtain ⟨hr,hl⟩:=tQ (t:=t) (es:=es) (h:=hashInt i) (x:=.int i tk) h7
   generalize layNew t es (hashInt i) (.int i tk)=Z at hp Gy hr hl ⊢
   obtain ⟨lD,t1,wd,Jr⟩:=Z
   dsimp only at hp Gy hr hl ⊢
   rw [Vg] at hp
   have e1:ElemsOf (intKind prog w) lD.toList:=(h1.push hk Js).perm hp
   have i0:IntsAre ((es.toList ++ [(hashInt i,Value.int i tk)]).map (·.2)) (ns ++ [i]):=by
    obtain ⟨x1,x2⟩:=cN.mp h2
    refine cN.mpr ⟨λv hv=>?_,by rw [x2]; simp [iv]⟩
    rw [SA] at hv
    rcases R0.mp hv with z | z
    .exact x1 v z
    .simp at z; exact ⟨i,tk,z⟩
   obtain ⟨D1,i1,p1⟩:=kK i0 (hp.map (·.2))
   have nd:D1.Nodup:=p1.nodup_iff.mpr (by
    rw [List.nodup_append]
    exact ⟨h3,by simp,λx hx y hy=>by simp at hy; rw [hy]; exact λz=>hn (z ▸ hx)⟩)
   have hz:lD.size=es.size + 1:=by rw [<- Array.length_toList,hp.length_eq,SO,Sd]; rfl
   have b1:lD.size < scanBound:=by omega
   have fin:∀ h' j3,Heap.SameBut a s.heap h'->gG prog w h' a led j3->j3.Perm D1->Q true { s with heap:=h' }:=λh' j3 sb S p=>by
    refine h h' j3 true sb S (λk=>?_) ?_
    .rw [p.mem_iff,p1.mem_iff]; simp
    .rw [p.length_eq,p1.length_eq]; simp
   refine RF (gw _ ?_)
   split
   .rw [hashByValue_scannable 8 Js]
    refine RF (RQ ?_)
    refine oM (led:=led) ?_ ho hex hd e1 i1 nd b1 ?_ ?_ ?_ λh' j3 sb S p=>?_
    .intro b a9 Q' hq; cases b <;> first | exact RQ hq | exact U3 hq
    .split
     .exact Gy
     .exact SetTable.fits_plain_off Gy
    .split <;> exact hl.trans h6
    .split <;> exact hr
    .dsimp only; exact wpAny_pure (fin h' j3 sb S p)
   .refine RF (RQ ?_)
    simp only [↓reduceIte]
    refine oM (led:=led) ?_ ho hex hd e1 i1 nd b1 Gy (hl.trans h6) hr λh' j3 sb S p=>?_
    .intro b a9 Q' hq; cases b <;> first | exact RQ hq | exact U3 hq
    .dsimp only; exact wpAny_pure (fin h' j3 sb S p)
end
end LS
namespace LS
open PySem PySem.Spec PyProof.Rows
section
variable {prog:Program} {w:World} {A:Around} {E:Value->Shared->Prop} {s:Shared}
abbrev iA (w:World):Bool:= !w.params.followText "set-order"
abbrev eQ (w:World):Obj:={ cls:=.type "set",dict:=none,data:=.set #[] 0 (.fresh 0 0 (iA w)) }
theorem wI {h:Heap} {a:Addr} (e:h.get? a=some (eQ w)):gG prog w h a (iA w) []:=
 ⟨_,#[],0,_,e,⟨rfl,rfl,rfl⟩,rfl,λx hx=>by simp at hx,.nil,.nil,by decide,rfl,rfl,List.Pairwise.nil⟩
theorem Bb (a:Value) {Q₁:Value->Shared->Prop} (h:Q₁ (.ref s.heap.objs.size) { s with heap:=s.heap.push (eQ w) }):
  codeAny (model prog w) A (.call (.builtin "set.__new__") ⟨[.type "set",a],[]⟩) (wants Q₁ E) s:=by
 refine codeAny_of_tree ?_
 show wpAny _ A.in1 (checkBuiltinCall "set.__new__" ⟨[.type "set",a],[]⟩ >>= λ_=>again (.builtin "set.__new__" ⟨[.type "set",a],[]⟩)) _ _ s
 refine RF (wpAny_of_eq (PySem.F.newCall_set_1 a) (RQ ⟨UK PySem.F.plain_set_new _,Tj PySem.F.entry_set_new ?_⟩))
 rw [TL PySem.F.plain_set_new _]
 unfold Builtin.«set.__new__» Builtin.Frozenset.newClass
 have iz:=sub_set_self
 obtain ⟨hp,g,d,tk,os⟩:=s
 dsimp only
 wp_walk
 refine TZ (RQ ?_)
 dsimp only
 simp only [newObj]
 exact RF (wpAny_alloc (RQ (RQ h)))
end
section
variable {prog:Program} {w:World} {A:Around} {R:Result->Shared->Prop} {I:Addr} {fp wr:List Addr} {G:Array GenState->Array GenState->Prop} {n:Nat} {P:Nat->Value->Prop} {St:Nat->Shared->Prop} {led:Bool}
theorem yJ (W:WalksS prog w A.in1 I fp wr G n P St) (S:Addr) (D2:S∉fp) (val:Nat->Int) (D3:∀ i v,P i v->∃ t,v=.int (val i) t) (hb:n + 1 < scanBound):
  ∀ (k i:Nat) (s:Shared) (ns:List Int),n - i=k->i<=n->St i s->gG prog w s.heap S led ns->ns.length<=i->(∀ x,x∈ns↔∃ j,j < i /\ val j=x)->
    (∀ s' j3,Moved (S :: wr) G s s'->gG prog w s'.heap S led j3->j3.length<=n->(∀ x,x∈j3↔∃ j,j < n /\ val j=x)->R (.ok (.ret .none)) s')->
    codeAny (model prog w) A (.builtin "set.update.loop" ⟨[.ref S,.ref I],[]⟩) R s:=by
 have MK:S∉wr:=λh=>D2 (W.sub _ h)
 have iz:∀ b∈wr,b∈S :: wr:=λb hb=>RM _ hb
 intro k
 induction k with
 | zero=>
   intro i s ns hk hi st hS hl hm hR
   have Jt:i=n:=by omega
   subst Jt
   refine Tj Ug ?_
   rw [TL Tn _]
   show wpAny _ A.in1 (pyNext (.ref I) >>= _) _ _ s
   refine RF (W.done s _ _ st λs' mv=>?_)
   show wpAny _ A.in1 (ret Value.none) _ _ s'
   exact RQ (hR s' ns (mv.mono iz) (hS.keeps λo e=>mv.heap S o MK e) hl hm)
 | succ k ih=>
   intro i s ns hk hi st hS hl hm hR
   have jf:i < n:=by omega
   refine Tj Ug ?_
   rw [TL Tn _]
   show wpAny _ A.in1 (pyNext (.ref I) >>= _) _ _ s
   refine RF (W.item i s _ _ jf st λv s' hP lN mv=>?_)
   obtain ⟨t,rfl⟩:=D3 i v hP
   have Fh:gG prog w s'.heap S led ns:=hS.keeps λo e=>mv.heap S o MK e
   show wpAny _ A.in1 (holding [Value.int (val i) t] (setAdd S (.int (val i) t)) >>= _) _ _ s'
   refine RF (Ts ?_)
   unfold setAdd
   refine Ts (RF ((intKind prog w).pyHash (k:=val i) (intKind_is _ _ _ _) ?_))
   refine yI (s:={ s' with toks:=s'.toks + 1 }) Fh (by omega) λh' j3 b sb S2 Fi Ae=>?_
   refine RQ ⟨UK Tn _,ih (i + 1) _ j3 (by omega) jf (W.frame _ s' _ _ lN (T3 _) λb hb o e=>?_) S2 (by omega) (λx=>?_) λF6 Ju Jv S3 l3 m3=>?_⟩
   .rw [sb.2 b (λz:b=S=>D2 (by rw [<- z]; exact hb))]; exact e
   .rw [Fi,hm]
    constructor
    .rintro (⟨j,hj,e⟩ | e)
     .exact ⟨j,by omega,e⟩
     .exact ⟨i,by omega,e.symm⟩
    .rintro ⟨j,hj,e⟩
     by_cases NW:j=i
     .subst NW; exact .inr e.symm
     .exact .inl ⟨j,by omega,e⟩
   .refine hR F6 Ju (Moved.trans W.gtrans ((mv.mono iz).then_heap (T3 _) λb o hb e=>?_) Jv) S3 l3 m3
    rw [sb.2 b (λz:b=S=>hb (by rw [z]; exact RK))]; exact e
end
section
variable {prog:Program} {w:World} {A:Around} {E:Value->Shared->Prop} {s:Shared}
structure tU (prog:Program) (w:World) (h:Heap) (r:Addr) (items:Array Value) (T:String) (oI:Obj) (St:Addr->Nat->Heap->Prop):Prop where
 ty:∃ o,h.get? r=some o /\ o.cls=.type T
 D4:isSubtype (.type T) (.type "set")=pure false
 D5:isSubtype (.type T) (.type "frozenset")=pure false
 nd:(Value.type T == Value.type "dict")=false
 iter:∀ (A':Around) (s':Shared) (Q:Value->Shared->Prop) (E:Value->Shared->Prop),(∀ o,h.get? r=some o->s'.heap.get? r=some o)->Q (.ref s'.heap.objs.size) { s' with heap:=s'.heap.push oI }->wpAny (model prog w) A' (pyIter (.ref r)) Q E s'
 walk:∀ (A':Around) (I:Addr),A'.handled=none->r≠I->Walks prog w A' I [I,r] [I] items.size (λi v=>items[i]?=some v) (St I)
 st:∀ h':Heap,(∀ o,h.get? r=some o->h'.get? r=some o)->St h'.objs.size 0 (h'.push oI)
theorem src_list {h:Heap} {l:Addr} {items:Array Value} (hl:h.IsList l items):tU prog w h l items "list" { cls:=.type "list_iterator",data:=.fields #[.ref l,.int 0 0] } (λI i h=>h.IsListIter I l i /\ h.IsList l items) where
 ty:=let ⟨o,e,c,_⟩:=hl; ⟨o,e,c⟩
 D4:=PySem.F.sub_list_set
 D5:=PySem.F.sub_list_frozenset
 nd:=by decide
 iter:=λA' s' Q E k q=>Vd (hl.at k) q
 walk:=λA' I hh fV=>Walks.list hh I l fV items
 st:=λh' k=>⟨⟨_,RU _ rfl,rfl,rfl⟩,(hl.at k).push _⟩
theorem src_tuple {h:Heap} {l:Addr} {items:Array Value} (hl:h.IsTuple l items):tU prog w h l items "tuple" { cls:=.type "tuple_iterator",data:=.fields #[.ref l,.int 0 0] } (λI i h=>h.IsTupleIter I l i /\ h.IsTuple l items) where
 ty:=let ⟨o,e,c,_⟩:=hl; ⟨o,e,c⟩
 D4:=by rw [Uz]; kernel_rfl
 D5:=by rw [Uz]; kernel_rfl
 nd:=by decide
 iter:=λA' s' Q E k q=>wpAny_pyIter_tuple (hl.at k) q
 walk:=λA' I hh fV=>Walks.tuple hh I l fV items
 st:=λh' k=>⟨⟨_,RU _ rfl,rfl,rfl⟩,(hl.at k).push _⟩
set_option maxHeartbeats 3200000 in
theorem rE {r:Addr} {items:Array Value} {ms:List Int} {T:String} {oI:Obj} {St:Addr->Nat->Heap->Prop} {Q:Value->Shared->Prop} (hh:A.handled=none) (src:tU prog w s.heap r items T oI St) (hi:IntsAre items.toList ms) (hb:items.size + 1 < scanBound)
  (h:∀ (h':Heap) (tk:Nat) (ns:List Int),gG prog w h' s.heap.objs.size (iA w) ns->(∀ x,x∈ns↔x∈ms)->ns.length<=ms.length->(∀ b o,s.heap.get? b=some o->h'.get? b=some o)->Q (.ref s.heap.objs.size) { s with heap:=h',toks:=tk }):
  wpAny (model prog w) A (call (.type "set") [.ref r]) Q E s:=by
 obtain ⟨c,tl,NX⟩:=SV.mro
 have ML:=SV.made
 have iz:=SV.sub
 refine wpAny_call (codeAny_of_tree ?_)
 show wpAny _ _ (callAny (.type "set") _) _ _ _
 refine RQ ⟨Code.quiet_builtin _ (by decide +kernel),Tj PySem.F.entry_type_call ?_⟩
 rw [Around.under_plain (weight_type_call_type "set" [.ref r] []) rfl]
 have h1:=SV.notType
 have h2:=SV.canCreate
 have Rq:=PySem.F.typeCall_set_1 (.ref r)
 repeat (any_goals (first | assumption | wp_step))
 refine Ud (Bb (.ref r) (E:=E) (Q₁:=λobj a9=>obj=.ref s.heap.objs.size /\ a9={ s with heap:=s.heap.push (eQ w) }) ⟨rfl,rfl⟩) λq a9 hq=>?_
 cases q with
 | error e=>exact hq
 | ok fl=>
   cases fl with
   | ret obj=>
     obtain ⟨rfl,rfl⟩:=hq
     have hS:(s.heap.push (eQ w)).get? s.heap.objs.size=some (eQ w):=RU _ rfl
     have hT:Shared.TypeIs { s with heap:=s.heap.push (eQ w) } (.ref s.heap.objs.size) "set":=⟨_,hS,rfl⟩
     have Rr:=SV.init.lookup
     have Rt:=SV.init.bind (.ref s.heap.objs.size)
     repeat (any_goals (first | assumption | wp_step))
     refine Ud (UO (R:=wants (λv l6=>v=.none /\ ∃ h' tk ns,l6={ s with heap:=h',toks:=tk } /\ gG prog w h' s.heap.objs.size (iA w) ns /\ (∀ x,x∈ns↔x∈ms) /\ ns.length<=ms.length /\ ∀ b o,s.heap.get? b=some o->h'.get? b=some o) E)
      SV.init.plain PySem.F.entry_set_init (check_set_init_1 hT ?_)) λJw l6 yK=>?_
     .obtain ⟨Jx,Ct,tV⟩:=src.ty
      obtain ⟨NY,Gz,GA,D6⟩:=Jx
      simp only at tV
      subst tV
      have NZ:(s.heap.push (eQ w)).get? r=some { cls:=.type T,dict:=Gz,data:=GA,slots:=D6 }:=RG _ Ct
      have Bc:=src.D4
      have xA:=src.D5
      have fV:=src.nd
      unfold Builtin.«set.__init__» noKeywords Builtin.Frozenset.updateFrom
      generalize N0:pyIter=PI
      wp_walk
      subst N0
      refine src.iter _ _ _ _ (λo e=>RG _ e) ?_
      refine RF (wpAny_runValue ?_)
      have MM:r < s.heap.objs.size:=RR Ct
      have N1:A.in1.in1.in1.handled=none:=by simp [hh]
      have hz:(s.heap.push (eQ w)).objs.size=s.heap.objs.size + 1:=UA _ _
      have Jy:r≠(s.heap.push (eQ w)).objs.size:=by rw [hz]; exact RW (TM MM)
      have D2:s.heap.objs.size∉[(s.heap.push (eQ w)).objs.size,r]:=by
       rw [hz]; simp only [RN,S0,Vq,Wa]
       exact ⟨RW (Tb _),T5 MM⟩
      have D3:∀ (i:Nat) (v:Value),items[i]?=some v->∃ t,v=.int ((λi=>ms.getD i 0) i) t:=λi v hv=>IntsAre.int_at hi i v (by rw [Array.getElem?_toList]; exact hv)
      have hlen:ms.length=items.size:=by have:=(cN.mp hi).2; rw [this]; simp
      refine yJ ((src.walk _ _ N1 Jy).toS) s.heap.objs.size D2 (λi=>ms.getD i 0) D3 hb (items.size - 0) 0 _ [] (by omega) (TF _) (src.st _ λo e=>RG _ e) (wI (RG _ hS)) (RO _) (λx=>by simp) ?_
      intro s' j3 mv S' l' m'
      obtain ⟨h',g',d',N2,IS⟩:=s'
      have eg:g'=s.gens:=mv.gens
      have ed:d'=s.drawn:=mv.drawn
      have eo:IS=s.os:=mv.os
      subst eg ed eo
      show wpAny _ _ _ _ _ _
      refine RQ ?_
      show wpAny _ _ (ret Value.none) _ _ _
      refine RQ ⟨rfl,h',N2,j3,rfl,S',λx=>?_,by omega,λb o e=>?_⟩
      .rw [m',<- hlen]
       constructor
       .rintro ⟨j,hj,e⟩
        rw [R6,RP hj] at e
        rw [<- e]; exact SQ hj
       .intro hx
        obtain ⟨j,hj,e⟩:=TQ hx
        exact ⟨j,hj,by rw [R6,RP hj]; exact e⟩
      .have MN:=RR e
       refine mv.heap b o ?_ (RG _ (RG _ e))
       rw [hz]
       simp only [RN,S0,Vq,Wa]
       exact ⟨RW MN,RW (TM MN)⟩
     .cases Jw with
      | error e=>exact yK
      | ok GB=>
        cases GB with
        | ret v=>
          obtain ⟨rfl,h',tk,ns,rfl,S',m',l',k'⟩:=yK
          repeat (any_goals (first | assumption | wp_step))
          exact h _ _ ns S' m' l' k'
        | _=>exact yK.elim
   | _=>exact hq.elim
end
end LS
namespace LS
open PySem PyProof.Rows
set_option maxRecDepth 100000
theorem bh:Slot "set_iterator" "__next__" "set_iterator.__next__":=
 .of (owner:="set_iterator") (n:="__next__") (by rw [typeLookup_type,builtinLookup_eq_fast]; kernel_rfl) (by decide +kernel) (by decide +kernel) (by decide +kernel) (by first | exact .inl (by decide +kernel) | exact .inr (by decide +kernel)) (by rw [Uz]; kernel_rfl)
theorem kf:Slot "set_iterator" "__iter__" "set_iterator.__iter__":=
 .of (owner:="set_iterator") (n:="__iter__") (by rw [typeLookup_type,builtinLookup_eq_fast]; kernel_rfl) (by decide +kernel) (by decide +kernel) (by decide +kernel) (by first | exact .inl (by decide +kernel) | exact .inr (by decide +kernel)) (by rw [Uz]; kernel_rfl)
theorem eR:entryFor table "set_iterator.__next__"=some Builtin.«set_iterator.__next__»:=entryFor_of_tree (by kernel_rfl)
theorem nM:entryFor table "set_iterator.__iter__"=some Builtin.«dict_keyiterator.__iter__»:=
 entryFor_alias (id':="dict_keyiterator.__iter__") (by kernel_rfl) (by first | rfl | decide +kernel | (unfold String.splitOn; simp +decide [String.splitOnAux])) (by decide +kernel) (by kernel_rfl)
theorem mq:entryFor table "set.__iter__"=some Builtin.«frozenset.__iter__»:=
 entryFor_alias (id':="frozenset.__iter__") (by kernel_rfl) (by first | rfl | decide +kernel | (unfold String.splitOn; simp +decide [String.splitOnAux])) (by decide +kernel) (by kernel_rfl)
theorem rF:Manifest.owners.lookup (String.ofList ['r','o','t','a','r','e','t','i','_','t','e','s'].reverse)=some Manifest.sig_set_iterator:=by kernel_rfl
theorem fv (a:Value):argsOk "set_iterator.__next__" ⟨[a],[]⟩:=by
 unfold argsOk; rw [signature?_of (id:="set_iterator.__next__") (n:=['_','_','t','x','e','n','_','_']) (o:=['r','o','t','a','r','e','t','i','_','t','e','s']) (by kernel_rfl) rF]; kernel_rfl
theorem pO (a:Value):argsOk "set_iterator.__iter__" ⟨[a],[]⟩:=by
 unfold argsOk; rw [signature?_of (id:="set_iterator.__iter__") (n:=['_','_','r','e','t','i','_','_']) (o:=['r','o','t','a','r','e','t','i','_','t','e','s']) (by kernel_rfl) rF]; kernel_rfl
def gT (h:Heap) (it a:Addr) (first:Value) (i n ep:Nat):Prop:=∃ o,h.get? it=some o /\ o.cls=.type "set_iterator" /\ o.data=.fields #[first,.int i 0,.ref a,.int n 0,.int ep 0]
section
variable {prog:Program} {w:World} {A:Around} {E:Value->Shared->Prop} {s:Shared} {it a:Addr} {first:Value} {i n ep:Nat}
theorem gT.at {h h':Heap} (x:gT h it a first i n ep) (k:∀ o,h.get? it=some o->h'.get? it=some o):gT h' it a first i n ep:=let ⟨o,e,r⟩:=x; ⟨o,k o e,r⟩
theorem gT.typeIs (x:gT s.heap it a first i n ep):s.TypeIs (.ref it) "set_iterator":=let ⟨o,e,c,_⟩:=x; ⟨o,e,c⟩
def eF (h:Heap) (a:Addr) (es:Array (Int×Value)) (ep:Nat) (t:SetTable):Prop:=∃ o,h.get? a=some o /\ o.ExactSet /\ o.data=.set es ep t
theorem eF.at {h h':Heap} {es:Array (Int×Value)} {t:SetTable} (x:eF h a es ep t) (k:∀ o,h.get? a=some o->h'.get? a=some o):eF h' a es ep t:=let ⟨o,e,r⟩:=x; ⟨o,k o e,r⟩
theorem pP (hit:gT s.heap it a first i n ep) {Q:Value->Shared->Prop} (h:Q (.ref it) s):wpAny (model prog w) A (pyIter (.ref it)) Q E s:=by
 refine wpAny_pyIter_slot hit.typeIs kf (Tc kf hit.typeIs nM ?_ (pO _))
 show wpAny _ _ (ret (.ref it)) _ _ s
 exact RQ ⟨_,rfl,"set_iterator",_,hit.typeIs,bh.lookup,h⟩
variable {es:Array (Int×Value)} {t:SetTable} {slot:Nat}
theorem vh {x:Value} {next:Nat} {Q:Option Value->Shared->Prop} (hit:gT s.heap it a (.int slot 0) i n ep) (hS:eF s.heap a es ep t) (hf:t.fits es.size=true) (hn:es.size=n)
  (hx:∀ (A':Around) (Q':Option (Value×Nat)->Shared->Prop) (E':Value->Shared->Prop),Q' (some (x,next)) s->wpAny (model prog w) A' (setNext a slot i ep) Q' E' s)
  (hQ:∀ h',gT h' it a (.int next 0) (i + 1) n ep->Heap.SameBut it s.heap h'->Q (some x) { s with heap:=h' }):wpAny (model prog w) A (pyNext (.ref it)) Q E s:=by
 obtain ⟨o,ho,hc,hd⟩:=id hit
 obtain ⟨os,Cu,hex,Cv⟩:=id hS
 unfold pyNext
 refine RF (UL (Tg (name:=Str.ofString "__next__") hit.typeIs bh (Tc bh hit.typeIs eR ?_ (fv _))))
 unfold Builtin.«set_iterator.__next__»
 refine RF (RQ ?_)
 dsimp only
 refine RF (U4 ho hd ?_)
 dsimp only
 refine RF (TU Cu Cv hf ?_)
 rw [R4 (by rw [hn]; simp)]
 refine RF ?_
 simp only [SR]
 refine hx _ _ _ ?_
 dsimp only
 refine RF (SU ho hd (by simp) ?_)
 have e1:=Sq (Obj.mapFields (·.setIfInBounds 0 (rawInt next))) ho (SM (Sm hd _))
 have d1:=Sm hd (·.setIfInBounds 0 (rawInt next))
 refine RF (SU e1 d1 (by simp) ?_)
 refine RQ ⟨x,rfl,RQ (hQ _ ?_ ((SK ..).trans (SK ..)))⟩
 refine ⟨_,Sq _ e1 (SM (Sm d1 _)),?_,?_⟩
 .rw [UB,UB]; exact hc
 .rw [Sm d1]; simp [rawInt]
theorem yL {Q:Option Value->Shared->Prop} (hh:A.handled=none) (hit:gT s.heap it a (.int slot 0) i n ep) (hS:eF s.heap a es ep t) (hf:t.fits es.size=true) (hn:es.size=n)
  (hx:∀ (A':Around) (Q':Option (Value×Nat)->Shared->Prop) (E':Value->Shared->Prop),Q' none s->wpAny (model prog w) A' (setNext a slot i ep) Q' E' s)
  (hQ:∀ h',Heap.ExtBut it s.heap h'->Q none { s with heap:=h' }):wpAny (model prog w) A (pyNext (.ref it)) Q E s:=by
 obtain ⟨o,ho,hc,hd⟩:=id hit
 obtain ⟨os,Cu,hex,Cv⟩:=id hS
 unfold pyNext
 refine RF (UL (Tg (name:=Str.ofString "__next__") hit.typeIs bh (Tc bh hit.typeIs eR ?_ (fv _))))
 unfold Builtin.«set_iterator.__next__»
 refine RF (RQ ?_)
 dsimp only
 refine RF (U4 ho hd ?_)
 dsimp only
 refine RF (TU Cu Cv hf ?_)
 rw [R4 (by rw [hn]; simp)]
 refine RF ?_
 simp only [SR]
 refine hx _ _ _ ?_
 dsimp only
 refine RF (SU ho hd (by simp) ?_)
 refine RF ?_
 simp only [newExc,newTuple]
 refine RF (SD ?_ (by size_fits))
 refine RF (m:=firstArgMember _ _) (wpAny_of_eq (a:=Value.none) (by first | rfl | (simp only [firstArgMember]; rfl)) ?_)
 refine SD ?_ (by size_fits)
 simp only [raiseNew]
 refine RF (wpAny_handled ?_)
 first | rw [show A.in1.handled=none from hh] | rw [hh]
 refine RF (RQ (wpAny_throw ?_))
 refine RF (UI (T:="StopIteration") (b:=true) ⟨_,RU _ rfl,rfl⟩ isSubtype_stop ?_)
 exact RQ (hQ _ (((SK ..).extBut.push _).push _))
theorem yM {x:Value} {pl:Nat} {tp:Addr} {ps:Array Value} {hsh:Int} {Q:Option Value->Shared->Prop} (hit:gT s.heap it a (.ref tp) i n ep) (ht:s.heap.IsTuple tp ps) (hS:eF s.heap a es ep t) (hf:t.fits es.size=true) (hn:es.size=n)
  (hp:ps[i]?=some (.int pl 0)) (hx:es[pl]?=some (hsh,x))
  (hQ:∀ h',gT h' it a (.ref tp) (i + 1) n ep->Heap.SameBut it s.heap h'->Q (some x) { s with heap:=h' }):wpAny (model prog w) A (pyNext (.ref it)) Q E s:=by
 obtain ⟨o,ho,hc,hd⟩:=id hit
 obtain ⟨os,Cu,hex,Cv⟩:=id hS
 obtain ⟨ot,Jz,_,nt,JA⟩:=ht
 unfold pyNext
 refine RF (UL (Tg (name:=Str.ofString "__next__") hit.typeIs bh (Tc bh hit.typeIs eR ?_ (fv _))))
 unfold Builtin.«set_iterator.__next__»
 refine RF (RQ ?_)
 dsimp only
 refine RF (U4 ho hd ?_)
 dsimp only
 refine RF (TU Cu Cv hf ?_)
 rw [R4 (by rw [hn]; simp)]
 refine RF (wpAny_seqItems Jz JA ?_)
 dsimp only
 simp only [SR,hp]
 refine RF ?_
 unfold setNextDrawn
 refine RF (TK Cu Cv hf ?_)
 dsimp only
 rw [R4 (by simp)]
 simp only [hx]
 refine RQ ?_
 refine RF (SU ho hd (by simp) ?_)
 refine RQ ⟨x,rfl,RQ (hQ _ ?_ (SK ..))⟩
 refine ⟨_,Sq _ ho (SM (Sm hd _)),?_,?_⟩
 .rw [UB]; exact hc
 .rw [Sm hd]; simp [rawInt]
theorem Bd {tp:Addr} {ps:Array Value} {Q:Option Value->Shared->Prop} (hh:A.handled=none) (hit:gT s.heap it a (.ref tp) i n ep) (ht:s.heap.IsTuple tp ps) (hS:eF s.heap a es ep t) (hf:t.fits es.size=true) (hn:es.size=n)
  (hp:ps[i]?=none) (hQ:∀ h',Heap.ExtBut it s.heap h'->Q none { s with heap:=h' }):wpAny (model prog w) A (pyNext (.ref it)) Q E s:=by
 obtain ⟨o,ho,hc,hd⟩:=id hit
 obtain ⟨os,Cu,hex,Cv⟩:=id hS
 obtain ⟨ot,Jz,_,nt,JA⟩:=ht
 unfold pyNext
 refine RF (UL (Tg (name:=Str.ofString "__next__") hit.typeIs bh (Tc bh hit.typeIs eR ?_ (fv _))))
 unfold Builtin.«set_iterator.__next__»
 refine RF (RQ ?_)
 dsimp only
 refine RF (U4 ho hd ?_)
 dsimp only
 refine RF (TU Cu Cv hf ?_)
 rw [R4 (by rw [hn]; simp)]
 refine RF (wpAny_seqItems Jz JA ?_)
 dsimp only
 simp only [SR,hp]
 refine RF (SU ho hd (by simp) ?_)
 have e1:=Sq (Obj.mapFields (·.setIfInBounds 0 (rawInt 0))) ho (SM (Sm hd _))
 have d1:=Sm hd (·.setIfInBounds 0 (rawInt 0))
 refine RF (SU e1 d1 (by simp) ?_)
 refine RF ?_
 simp only [newExc,newTuple]
 refine RF (SD ?_ (by size_fits))
 refine RF (m:=firstArgMember _ _) (wpAny_of_eq (a:=Value.none) (by first | rfl | (simp only [firstArgMember]; rfl)) ?_)
 refine SD ?_ (by size_fits)
 simp only [raiseNew]
 refine RF (wpAny_handled ?_)
 first | rw [show A.in1.handled=none from hh] | rw [hh]
 refine RF (RQ (wpAny_throw ?_))
 refine RF (UI (T:="StopIteration") (b:=true) ⟨_,RU _ rfl,rfl⟩ isSubtype_stop ?_)
 exact RQ (hQ _ ((((SK ..).trans (SK ..)).extBut.push _).push _))
theorem mr (hS:eF s.heap a es ep t) (hf:t.fits es.size=true) (hw:w.params.followText "set-order"=false) (hl:t.led=true) (hp:(!t.plain && decide (es.size > 1))=false) {Q:Option (Value×Nat)->Shared->Prop}
  (h:Q (match es[SetTable.below t.place slot]?,t.place[SetTable.below t.place slot]? with | some (_,x),some j=>some (x,j + 1) | _,_=>none) s):wpAny (model prog w) A (setNext a slot i ep) Q E s:=by
 obtain ⟨o,ho,_,hd⟩:=hS
 unfold setNext
 refine RF (TK ho hd hf ?_)
 dsimp only
 refine RF ?_
 unfold setsByText
 refine RF (TZ (RQ ?_))
 show wpAny _ _ (if w.params.followText "set-order"=true then _ else _) _ _ _
 rw [hw,R4 RS]
 show wpAny _ _ (if (!t.plain && decide (es.size > 1))=true then _ else _) _ _ _
 rw [hp,R4 RS]
 refine RF ?_
 show wpAny _ _ (if (!t.led && !es.isEmpty)=true then _ else _) _ _ _
 rw [hl,R4 (by simp)]
 exact RQ (RQ h)
theorem oN (hS:eF s.heap a es ep t) (hf:t.fits es.size=true) (hw:w.params.followText "set-order"=true) {Q:Option (Value×Nat)->Shared->Prop}
  (h:Q (((pickOrder (w.params.setOrder a ep) es)[i]?).map λe=>(e.2,slot)) s):wpAny (model prog w) A (setNext a slot i ep) Q E s:=by
 obtain ⟨o,ho,_,hd⟩:=hS
 unfold setNext
 refine RF (TK ho hd hf ?_)
 dsimp only
 refine RF ?_
 unfold setsByText
 refine RF (TZ (RQ ?_))
 show wpAny _ _ (if w.params.followText "set-order"=true then _ else _) _ _ _
 rw [hw,RV rfl]
 rw [R4 (by simp)]
 refine RF ?_
 unfold setWalk
 refine RF (TK ho hd hf ?_)
 dsimp only
 refine RF ?_
 unfold setsByText
 refine RF (TZ (RQ ?_))
 show wpAny _ _ (if w.params.followText "set-order"=true then _ else _) _ _ _
 rw [hw,RV rfl]
 exact RF (TZ (RQ (RQ h)))
end
end LS
namespace LS
open PySem PySem.Spec PyProof.Rows
theorem jD {α:Type}:∀ {l:List α} {i:Nat} (h:i < l.length),(l[i] :: l.eraseIdx i).Perm l
 | x :: l,0,_=>by simp
 | x :: l,i + 1,h=>by
   have h':i < l.length:=by simpa using h
   have:=jD h'
   simp only [List.getElem_cons_succ,List.eraseIdx_cons_succ]
   exact (List.Perm.swap _ _ _).trans (List.Perm.cons _ this)
theorem vi {α:Type} (next:Nat->Nat):∀ (fuel k:Nat) (left:List α) (out:Array α),left.length=fuel->(pickOrder.go next fuel k left out).toList.Perm (out.toList ++ left)
 | 0,k,left,out,h=>by
   have:left=[]:=Th.mp h
   subst this
   rw [pickOrder.go,SI]
 | fuel + 1,k,left,out,h=>by
   rw [pickOrder.go]
   have hl:next k % left.length < left.length:=Nat.mod_lt _ (by omega)
   rw [RP hl]
   dsimp only
   refine (vi next fuel (k + 1) _ _ (by rw [U5 hl]; omega)).trans ?_
   rw [Vg,SN]
   exact List.Perm.append_left _ (jD hl)
theorem wJ {α:Type} (next:Nat->Nat) (xs:Array α):(pickOrder next xs).toList.Perm xs.toList:=by
 have:=vi next xs.size 0 xs.toList #[] (by simp)
 simpa [pickOrder] using this
section
variable {prog:Program} {w:World} {A:Around} {E:Value->Shared->Prop} {s:Shared} {it a:Addr} {first:Value} {i n ep:Nat} {es:Array (Int×Value)} {t:SetTable}
theorem tW {M:Model} {src:Source} {Q:Nat->Shared->Prop} (hn:n≠0) (h:∀ i d',i < n->Q i { s with drawn:=d' }):wpAny M A (choose src n) Q E s:=
 λ_ _ _=>⟨hn,h _ _ (Nat.mod_lt _ (Nat.pos_of_ne_zero hn))⟩
theorem mw {α:Type} {M:Model}:∀ (n:Nat) (xs:List α) (s:Shared) (Q:List α->Shared->Prop),xs.length=n->(∀ ys d',ys.Perm xs->Q ys { s with drawn:=d' })->wpAny M A (drawOrder n xs) Q E s
 | 0,xs,s,Q,hl,h=>by
   have e:xs=[]:=Th.mp hl
   subst e
   rw [drawOrder]
   exact RQ (h [] s.drawn (.refl _))
 | n + 1,[],s,Q,hl,h=>by cases hl
 | n + 1,x :: xs,s,Q,hl,h=>by
   rw [drawOrder]
   rotate_left
   .intro z; cases z
   refine RF (tW (by simp) λi d' hi=>?_)
   rw [RP hi]
   dsimp only
   refine RF (mw n _ _ _ (by rw [U5 hi]; simp at hl ⊢; omega) λys d2 hp=>RQ ?_)
   refine h _ d2 ?_
   exact (List.Perm.cons _ hp).trans (jD hi)
theorem wK {I:Addr} (hf:t.fits es.size=true) (hw:w.params.followText "set-order"=true) (fV:a≠I) (hh:A.handled=none):
  Walks prog w A I [I,a] [I] (pickOrder (w.params.setOrder a ep) es).size (λi v=>((pickOrder (w.params.setOrder a ep) es).toList.map (·.2))[i]?=some v) (λi h=>gT h I a (.int (0:Nat) 0) i es.size ep /\ eF h a es ep t) where
 sub:=λb hb=>by simp at hb; simp [hb]
 frame:=λ_ _ _ st hk=>⟨st.1.at λo e=>hk I (by simp) o e,st.2.at λo e=>hk a (by simp) o e⟩
 item:=λi s Q E hi st hQ=>by
  refine vh (x:=((pickOrder (w.params.setOrder a ep) es)[i]).2) (next:=0) st.1 st.2 hf rfl (λA' Q' E' q=>oN st.2 hf hw (by rw [SH hi]; exact q)) λh' tX k7=>?_
  exact hQ _ h' s.toks (by simp [hi]) ⟨tX,st.2.at λo e=>k7.extBut a o fV e⟩ λb o hb e=>k7.extBut b o (λh=>hb (by simp [h])) e
 done:=λs Q E st hQ=>yL hh st.1 st.2 hf rfl (λA' Q' E' q=>oN st.2 hf hw (by rw [UC (by simp)]; exact q)) λh' GC=>hQ h' s.toks λb o hb e=>GC b o (λh=>hb (by simp [h])) e
 self:=λ_ _ _ _ st hQ=>pP st.1 hQ
theorem tY {I:Addr} (hf:t.fits es.size=true) (hw:w.params.followText "set-order"=false) (hl:t.led=true) (hp:(!t.plain && decide (es.size > 1))=false) (hr:oK t.place.toList) (fV:a≠I) (hh:A.handled=none):
  Walks prog w A I [I,a] [I] es.size (λi v=>(es.toList.map (·.2))[i]?=some v)
   (λi h=>∃ slot:Nat,gT h I a (.int slot 0) i es.size ep /\ eF h a es ep t /\ (∀ k,k < i->t.place.getD k 0 < slot) /\ ∀ k,i<=k->k < t.place.size->slot<=t.place.getD k 0) where
 sub:=λb hb=>by simp at hb; simp [hb]
 frame:=λ_ _ _ ⟨slot,D7,kC,Ac⟩ hk=>⟨slot,D7.at λo e=>hk I (by simp) o e,kC.at λo e=>hk a (by simp) o e,Ac⟩
 item:=λi s Q E hi ⟨slot,D7,kC,Ac,JB⟩ hQ=>by
  have hz:t.place.size=es.size:=by simp only [SetTable.fits,RT,Ta] at hf; exact hf.1
  have hb:SetTable.below t.place slot=i:=mo hr (by omega) Ac JB
  have gA:t.place[i]?=some (t.place.getD i 0):=by rw [SH (by omega)]; simp [Array.getD,hz,hi]
  refine vh (x:=es[i].2) (next:=t.place.getD i 0 + 1) D7 kC hf rfl (λA' Q' E' q=>mr kC hf hw hl hp (by rw [hb,SH hi,gA]; exact q)) λh' tX k7=>?_
  refine hQ _ h' s.toks (by simp [hi]) ⟨_,tX,kC.at λo e=>k7.extBut a o fV e,λk hk=>?_,λk h1 h2=>?_⟩ λb o hb e=>k7.extBut b o (λh=>hb (by simp [h])) e
  .by_cases N3:k=i
   .rw [N3]; omega
   .have:=iX hr (show k < i by omega) (by omega) 0 0
    omega
  .have:=iX hr (show i < k by omega) h2 0 0
   omega
 done:=λs Q E ⟨slot,D7,kC,Ac,JB⟩ hQ=>by
  have hz:t.place.size=es.size:=by simp only [SetTable.fits,RT,Ta] at hf; exact hf.1
  have hb:SetTable.below t.place slot=es.size:=mo hr (by omega) Ac JB
  exact yL hh D7 kC hf rfl (λA' Q' E' q=>mr kC hf hw hl hp (by rw [hb,UC (RO _)]; exact q)) λh' GC=>hQ h' s.toks λb o hb e=>GC b o (λh=>hb (by simp [h])) e
 self:=λ_ _ _ _ ⟨slot,D7,_⟩ hQ=>pP D7 hQ
theorem tZ {I tp:Addr} {ys:List Nat} (hf:t.fits es.size=true) (hy:ys.Perm (List.range es.size)) (fV:a≠I) (N4:tp≠I) (hh:A.handled=none):
  Walks prog w A I [I,a,tp] [I] es.size (λi v=>(ys.map λp=>(es.getD p (0,Value.none)).2)[i]?=some v) (λi h=>gT h I a (.ref tp) i es.size ep /\ h.IsTuple tp (ys.map λp:Nat=>rawInt p).toArray /\ eF h a es ep t) where
 sub:=λb hb=>by simp at hb; simp [hb]
 frame:=λ_ _ _ st hk=>⟨st.1.at λo e=>hk I (by simp) o e,st.2.1.at λo e=>hk tp (by simp) o e,st.2.2.at λo e=>hk a (by simp) o e⟩
 item:=λi s Q E hi st hQ=>by
  have Cw:ys.length=es.size:=by rw [hy.length_eq]; simp
  have hp:ys[i] < es.size:=TX.mp (hy.mem_iff.mp (SQ (by omega)))
  refine yM (x:=es[ys[i]].2) (pl:=ys[i]) (hsh:=es[ys[i]].1) st.1 st.2.1 st.2.2 hf rfl (by simp [Cw,hi,rawInt]) (by rw [SH hp]) λh' tX k7=>?_
  refine hQ _ h' s.toks ?_ ⟨tX,st.2.1.at λo e=>k7.extBut tp o N4 e,st.2.2.at λo e=>k7.extBut a o fV e⟩ λb o hb e=>k7.extBut b o (λh=>hb (by simp [h])) e
  rw [Sa,RP (by omega)]
  simp [Array.getD,hp]
 done:=λs Q E st hQ=>by
  have Cw:ys.length=es.size:=by rw [hy.length_eq]; simp
  exact Bd hh st.1 st.2.1 st.2.2 hf rfl (by simp [Cw]) λh' GC=>hQ h' s.toks λb o hb e=>GC b o (λh=>hb (by simp [h])) e
 self:=λ_ _ _ _ st hQ=>pP st.1 hQ
theorem yN {Q:Value->Shared->Prop} (hS:eF s.heap a es ep t) (hf:t.fits es.size=true) (hr:oK t.place.toList) (hl:t.led=iA w) (hz:es.size<=sizeLine)
  (h:∀ (I:Addr) (fp:List Addr) (ord:List Value) (St:Nat->Heap->Prop) (h1:Heap) (d1:Drawn),ord.Perm (es.toList.map (·.2))->(∀ A':Around,A'.handled=none->Walks prog w A' I fp [I] ord.length (λi v=>ord[i]?=some v) St)->St 0 h1->
   (∀ b o,s.heap.get? b=some o->h1.get? b=some o)->s.heap.objs.size<=I->(∀ b∈fp,b=a \/ s.heap.objs.size<=b)->Q (.ref I) { s with heap:=h1,drawn:=d1 }):wpAny (model prog w) A (pyIter (.ref a)) Q E s:=by
 obtain ⟨o,ho,hex,hd⟩:=id hS
 have hT:s.TypeIs (.ref a) "set":=⟨o,ho,hex.1⟩
 have jf:=RR ho
 refine wpAny_pyIter_slot hT PySem.F.slot_set_iter (Tc PySem.F.slot_set_iter hT mq ?_ (PySem.F.args_set_iter_1 _))
 unfold Builtin.«frozenset.__iter__»
 refine RF (RQ ?_)
 refine RF ?_
 unfold Builtin.Frozenset.sizeOf
 refine RF (TU ho hd hf (RQ ?_))
 refine RF ?_
 unfold setDrawn
 refine RF (TK ho hd hf ?_)
 dsimp only
 refine RF ?_
 unfold setsByText
 refine RF (TZ (RQ (RQ ?_)))
 show wpAny _ _ (if (!w.params.followText "set-order" && (!t.plain && decide (es.size > 1)))=true then _ else _) _ _ _
 have slots:∀ {ord:List Value} (St:Addr->Nat->Heap->Prop),ord.Perm (es.toList.map (·.2))->(∀ (A':Around) (I:Addr),a≠I->A'.handled=none->Walks prog w A' I [I,a] [I] ord.length (λi v=>ord[i]?=some v) (St I))->
   (∀ h' I,gT h' I a (.int (0:Nat) 0) 0 es.size ep->eF h' a es ep t->St I 0 h')->Q (.ref s.heap.objs.size) { s with heap:=s.heap.push { cls:=.type "set_iterator",data:=.fields #[.int (0:Nat) 0,.int (0:Nat) 0,.ref a,.int (es.size:Nat) 0,.int (ep:Nat) 0] } }:=by
  intro ord St hp hW B6
  have fV:a≠s.heap.objs.size:=RW jf
  exact h s.heap.objs.size [s.heap.objs.size,a] ord (St s.heap.objs.size) _ s.drawn hp (λA' hh=>hW A' _ fV hh) (B6 _ _ ⟨_,RU _ rfl,rfl,rfl⟩ (hS.at λo e=>RG _ e)) (λb o e=>RG _ e) (RO _)
   λb hb=>by
    rcases RN.mp hb with z | z
    .exact .inr (by rw [z]; exact RO _)
    .exact .inl (by simpa using z)
 by_cases HR:(!w.params.followText "set-order" && (!t.plain && decide (es.size > 1)))=true
 .rw [RV HR]
  refine RF (mw _ _ _ _ (by simp) λys d' hy=>?_)
  refine wpAny_bind (wpAny_newTuple ?_ (by rw [List.length_map,hy.length_eq]; simpa using hz))
  have N5:(s.heap.push { cls:=.type "tuple",data:=.seq (ys.map λp:Nat=>rawInt p).toArray }).IsTuple s.heap.objs.size (ys.map λp:Nat=>rawInt p).toArray:=⟨_,RU _ rfl,rfl,_,rfl⟩
  have Fj:=hS.at (h':=s.heap.push { cls:=.type "tuple",data:=.seq (ys.map λp:Nat=>rawInt p).toArray }) λo e=>RG _ e
  obtain ⟨o1,jj,_,MO⟩:=id Fj
  refine RF (wpAny_setEpoch_of jj MO hf ?_)
  have Bc:(s.heap.push { cls:=.type "tuple",data:=.seq (ys.map λp:Nat=>rawInt p).toArray }).objs.size=s.heap.objs.size + 1:=UA _ _
  refine RF (SD (RQ ⟨_,rfl,"set_iterator",_,⟨_,RU _ rfl,rfl⟩,bh.lookup,?_⟩))
  have N6:(ys.map λp=>(es.getD p (0,Value.none)).2).Perm (es.toList.map (·.2)):=by
   refine (hy.map _).trans ?_
   have e:(List.range es.size).map (λp=>(es.getD p (0,Value.none)).2)=es.toList.map (·.2):=by
    refine List.ext_getElem (by simp) λi h1 h2=>?_
    simp at h1
    simp [Array.getD,h1]
   rw [e]
  have JC:(ys.map λp=>(es.getD p (0,Value.none)).2).length=es.size:=by rw [RJ,hy.length_eq]; simp
  refine h (s.heap.push { cls:=.type "tuple",data:=.seq (ys.map λp:Nat=>rawInt p).toArray }).objs.size [_,a,s.heap.objs.size] _ (λi h=>gT h (s.heap.push { cls:=.type "tuple",data:=.seq (ys.map λp:Nat=>rawInt p).toArray }).objs.size a (.ref s.heap.objs.size) i es.size ep /\ h.IsTuple s.heap.objs.size (ys.map λp:Nat=>rawInt p).toArray /\ eF h a es ep t) _ d' N6 (λA' hh=>by rw [JC]; exact tZ (t:=t) (ep:=ep) hf hy (by rw [Bc]; exact RW (TM jf)) (by rw [Bc]; exact RW (Tb _)) hh)
   ⟨⟨_,RU _ rfl,rfl,by simp [rawInt]⟩,N5.push _,Fj.at λo e=>RG _ e⟩ (λb o e=>RG _ (RG _ e)) (by rw [Bc]; exact T3 _) λb hb=>?_
  simp only [RN,S0,Vq] at hb
  rcases hb with z | z | z
  .exact .inr (by rw [z,Bc]; exact T3 _)
  .exact .inl z
  .exact .inr (by rw [z]; exact RO _)
 .rw [R4 HR]
  refine RF (RQ ?_)
  refine RF (wpAny_setEpoch_of ho hd hf ?_)
  refine RF (SD (RQ ⟨_,rfl,"set_iterator",_,⟨_,RU _ rfl,rfl⟩,bh.lookup,?_⟩))
  cases hw:w.params.followText "set-order" with
  | true=>
    have JD:((pickOrder (w.params.setOrder a ep) es).toList.map (·.2)).length=(pickOrder (w.params.setOrder a ep) es).size:=by simp
    exact slots (ord:=(pickOrder (w.params.setOrder a ep) es).toList.map (·.2)) (λI i h=>gT h I a (.int (0:Nat) 0) i es.size ep /\ eF h a es ep t) ((wJ _ _).map _) (λA' I fV hh=>by rw [JD]; exact wK hf hw fV hh) λh' I x y=>⟨x,y⟩
  | false=>
    rw [hw] at HR
    have gA:(!t.plain && decide (es.size > 1))=false:=by simpa using HR
    have hle:t.led=true:=by rw [hl]; simp [iA,hw]
    have JD:(es.toList.map (·.2)).length=es.size:=by simp
    refine slots (ord:=es.toList.map (·.2)) (λI i h=>∃ slot:Nat,gT h I a (.int slot 0) i es.size ep /\ eF h a es ep t /\ (∀ k,k < i->t.place.getD k 0 < slot) /\ ∀ k,i<=k->k < t.place.size->slot<=t.place.getD k 0) (.refl _)
     (λA' I fV hh=>by rw [JD]; exact tY hf hw hle gA hr fV hh) λh' I x y=>⟨0,x,y,λk hk=>by omega,λk _ _=>TF _⟩
end
end LS
namespace LS
open PySem PySem.Spec PySem.Calls PyProof.Rows
section
variable {prog:Program} {w:World} {A:Around} {E:Value->Shared->Prop} {s:Shared} {a:Addr} {ns:List Int}
theorem yO {Q:Bool->Shared->Prop} (hT:s.TypeIs (.ref a) "set") (h:Q false s):wpAny (model prog w) A (Builtin.List.listLengthHint (.ref a)) Q E s:=by
 unfold Builtin.List.listLengthHint
 refine RF (wpAny_specialOf hT PySem.F.slot_set_len.lookup ?_)
 generalize Cy:("set.__len__":String)=id0
 wp_delta
 rw [show splitId id0=some ("set","__len__") from by subst Cy; decide +kernel]
 subst Cy
 refine RF (UI (T:="set") (b:=true) hT (by rw [Uz]; kernel_rfl) ?_)
 refine wpAny_ite_split (λz=>absurd z (by decide)) λ_=>?_
 refine wpAny_ite_split (λ_=>?_) λz=>absurd (by decide +kernel) z
 exact RF (wpAny_typeOf hT (RQ h))
theorem rG {R:List Value->Shared->Prop} (hh:A.handled=none) (hS:gG prog w s.heap a (iA w) ns)
  (h:∀ (h':Heap) (tk:Nat) (d':Drawn) (vs:List Value) (ms:List Int),(∀ b o,s.heap.get? b=some o->h'.get? b=some o)->s.heap.objs.size < h'.objs.size->IntsAre vs ms->ms.Perm ns->R vs { s with heap:=h',toks:=tk,drawn:=d' }):
  wpAny (model prog w) A (collect (.ref a)) R E s:=by
 obtain ⟨o,es,ep,t,ho,hex,hd,h1,h2,h3,h4,h5,h6,h7⟩:=hS
 have hz:=Vf h4
 have jf:=RR ho
 have N7:eF s.heap a es ep t:=⟨o,ho,hex,hd⟩
 unfold collect
 refine RF (wpAny_runValue (Tj entry_proto_collect' ?_))
 rw [TL PySem.F.plain_proto_collect _]
 show wpAny _ A.in1 (newList [] >>= λl=>again (.builtin "list.__iadd__" ⟨[l,.ref a],[]⟩)) _ _ s
 refine RF (SD ?_)
 refine RQ ⟨UK PySem.F.plain_list_iadd _,Tj entry_list_iadd' ?_⟩
 rw [TL PySem.F.plain_list_iadd _]
 generalize hP:s.heap.push { cls:=.type "list",data:=.seq ([]:List Value).toArray }=P1
 have Cz:∀ b o,s.heap.get? b=some o->P1.get? b=some o:=λb o e=>by rw [<- hP]; exact RG _ e
 have hL:P1.get? s.heap.objs.size=some { cls:=.type "list",data:=.seq #[] }:=by rw [<- hP]; exact RU _ rfl
 have HN:P1.objs.size=s.heap.objs.size + 1:=by rw [<- hP]; exact UA _ _
 show wpAny _ A.in1 (Builtin.List.listExtendWith (.ref s.heap.objs.size) (.ref a) (.ref s.heap.objs.size)) _ _ { s with heap:=P1 }
 have key:wpAny (model prog w) A.in1 (Builtin.List.listExtendWith (.ref s.heap.objs.size) (.ref a) (.ref s.heap.objs.size))
   (λfin s'=>match fin with
    | .done f=>False
    | .again c'=>c'.quiet=true /\ codeAny (model prog w) A c' (λq s'=>∃ (h':Heap) (tk:Nat) (d':Drawn) (acc:Array Value) (c':Nat) (ms:List Int),q=.ok (.ret (.ref s.heap.objs.size)) /\ s'={ s with heap:=h',toks:=tk,drawn:=d' } /\
      (∀ b o,s.heap.get? b=some o->h'.get? b=some o) /\ h'.get? s.heap.objs.size=some { cls:=.type "list",dict:=none,data:=.seq acc c',slots:=#[] } /\ IntsAre acc.toList ms /\ ms.Perm ns) s') (λ_ _=>False) { s with heap:=P1 }:=by
  unfold Builtin.List.listExtendWith
  have Fj:=N7.at (h':=P1) λo e=>Cz a o e
  obtain ⟨o1,jj,JE,MO⟩:=id Fj
  refine RF (wpAny_typeOf (T:="set") ⟨o1,jj,JE.1⟩ ?_)
  have q1:Builtin.List.listSameRef (.ref s.heap.objs.size) (.ref a)=false:=by simp [Builtin.List.listSameRef,T5 jf]
  have q2:(Value.type "set" == Value.type "list")=false:=by decide
  have q3:(Value.type "set" == Value.type "tuple")=false:=by decide
  simp only [q1,q2,q3,Bool.or_false,Bool.false_eq_true,if_false]
  refine RF (yN (s:={ s with heap:=P1 }) Fj h5 h7 h6 hz λI fp ord St GD d1 hp hW MP kp hI JF=>?_)
  replace kp:∀ b o,P1.get? b=some o->GD.get? b=some o:=kp
  replace hI:P1.objs.size<=I:=hI
  replace JF:∀ b∈fp,b=a \/ P1.objs.size<=b:=JF
  have D2:s.heap.objs.size∉fp:=λz=>by
   rcases JF _ z with e | e
   .exact Sg _ (e ▸ jf)
   .rw [HN] at e; exact Nat.not_succ_le_self _ e
  have Ru:s.heap.objs.size≠I:=λz=>by rw [<- z,HN] at hI; exact Nat.not_succ_le_self _ hI
  obtain ⟨o2,lK,hex2,_⟩:=Fj.at (h':=GD) λo e=>kp a o e
  obtain ⟨i0,Fk⟩:=kK h2 hp
  have JC:ord.length<=sizeLine:=by rw [hp.length_eq]; simpa using hz
  have run:∀ (g:Heap) (c0:Nat),St 0 g->(∀ b o,b≠s.heap.objs.size->GD.get? b=some o->g.get? b=some o)->g.get? s.heap.objs.size=some { cls:=.type "list",data:=.seq #[] c0 }->
    codeAny (model prog w) A (.builtin "list.extend.loop" ⟨[.ref s.heap.objs.size,.ref I,.ref s.heap.objs.size],[]⟩) (λq s'=>∃ (h':Heap) (tk:Nat) (d':Drawn) (acc:Array Value) (c':Nat) (ms:List Int),q=.ok (.ret (.ref s.heap.objs.size)) /\ s'={ s with heap:=h',toks:=tk,drawn:=d' } /\
     (∀ b o,s.heap.get? b=some o->h'.get? b=some o) /\ h'.get? s.heap.objs.size=some { cls:=.type "list",dict:=none,data:=.seq acc c',slots:=#[] } /\ IntsAre acc.toList ms /\ ms.Perm ns) { s with heap:=g,drawn:=d1 }:=by
   intro g c0 st k hg
   refine codeAny_extend_loopS (hW A.in1 hh).toS JC _ D2 _ ord.length 0 _ #[] c0 rfl (TF _) st hg (ItemsOf.nil _) λs' D8 c' mv Fh wL=>?_
   obtain ⟨hx,gx,dx,tx,ox⟩:=s'
   have eg:gx=s.gens:=mv.gens
   have ed:dx=d1:=mv.drawn
   have eo:ox=s.os:=mv.os
   subst eg ed eo
   have JG:D8.toList=ord:=by
    refine List.ext_getElem? λj=>?_
    by_cases hj:j < D8.size
    .have q:=wL.2 j _ (SH hj)
     rw [q]; simp [hj]
    .rw [T9 (by simp; omega),T9 (by rw [<- wL.1]; omega)]
   refine ⟨hx,tx,dx,D8,c',i0,rfl,rfl,λb o e=>?_,Fh,by rw [JG]; exact Fk.1,Fk.2⟩
   have hb:=RR e
   refine mv.heap b o ?_ (k b o (RW hb) (kp b o (Cz b o e)))
   simp only [RN,S0,Vq,Wa]
   exact ⟨RW hb,RW (RL hb (Sj (by rw [HN]; exact T3 _) hI))⟩
  have JH:GD.get? s.heap.objs.size=some { cls:=.type "list",data:=.seq #[] }:=kp _ _ hL
  refine RF (Ts (yO ⟨o2,lK,hex2.1⟩ ?_))
  refine wpAny_ite_split (λ_=>?_) (λ_=>RQ ⟨UK PySem.F.plain_extend_loop _,run GD 0 MP (λb o _ e=>e) JH⟩)
  refine RF (U3 (RF ?_))
  show wpAny _ _ (updateSeq s.heap.objs.size (·.push .none) >>= λ_=>updateSeq s.heap.objs.size (·.pop)) _ _ _
  refine RF (wpAny_updateSeq JH rfl ?_)
  have MQ:=Sq (Obj.mapSeq (·.push Value.none)) JH rfl
  refine wpAny_updateSeq (hz:=by seq_fits) MQ rfl ?_
  have N8:=Sq (Obj.mapSeq (·.pop)) MQ rfl
  refine RQ ⟨UK PySem.F.plain_extend_loop _,run _ _ ((hW A.in1 hh).frame 0 _ _ MP λb hb o e=>?_) (λb o hb e=>?_) N8⟩
  .have MR:b≠s.heap.objs.size:=λz=>D2 (z ▸ hb)
   exact (Se _ _ (Tf MR)).trans ((Se _ _ (Tf MR)).trans e)
  .exact (Se _ _ (Tf hb)).trans ((Se _ _ (Tf hb)).trans e)
 refine R7 key (λfin s' x=>?_) λ_ _ z=>z.elim
 cases fin with
 | done f=>exact x.elim
 | again c₁=>
   refine ⟨x.1,Ud x.2 λq l6 y=>?_⟩
   obtain ⟨h',tk,d',acc,c',ms,rfl,rfl,hk,Fh,i1,p1⟩:=y
   show wpAny _ A (load s.heap.objs.size >>= _) _ _ _
   exact RF (wpAny_load Fh (RQ (h h' tk d' acc.toList ms hk (RR Fh) i1 p1)))
theorem lE {Q:Value->Shared->Prop} (hh:A.handled=none) (hS:gG prog w s.heap a (iA w) ns) (JI:ns.length < 64)
  (h:∀ (D:Addr) (h':Heap) (tk:Nat) (d':Drawn) (out:Array Value) (n:Nat) (ms:List Int),s.heap.objs.size<=D->(∀ b o,s.heap.get? b=some o->h'.get? b=some o)->h'.get? D=some (seqObj "list" out n)->IntsAre out.toList ms->ms.Perm ns->ms.Pairwise (·<=·)->Q (.ref D) { s with heap:=h',toks:=tk,drawn:=d' }):
  wpAny (model prog w) A (call (.builtin "sorted") [.ref a]) Q E s:=by
 refine call_function_entry kind_sorted plain_sorted entry_sorted (args_sorted1 _) ?_
 unfold Builtin.«sorted»
 refine RF (m:=checkCount "sorted" 1 1 _) (RQ ?_)
 refine RF (rG (A:=A.in1) hh hS λh' tk d' vs ms hk N9 hi hp=>?_)
 have hl:vs.length=ns.length:=by rw [<- hp.length_eq,(cN.mp hi).2,RJ]
 have Oa:vs.length<=sizeLine:=by rw [sizeLine_eq]; omega
 refine RF (wpAny_newList ?_ Oa)
 have FI:(h'.push (seqObj "list" vs.toArray 0)).get? h'.objs.size=some (seqObj "list" vs.toArray 0):=RU _ rfl
 refine RF (Ts (Tc slot_list_sort ⟨_,FI,rfl⟩ entry_list_sort (list_sort_tree FI hi (by omega) λout Ob a1 a2 a3=>⟨_,rfl,?_⟩) (args_list_sort _)))
 obtain ⟨en,Oc⟩:=sortedHeap_at (out:=out) FI
 refine RQ ⟨_,rfl,h h'.objs.size _ tk d' out en Ob (T4 N9) (λb o e=>?_) Oc a1 (a2.trans hp) a3⟩
 have hb:=RR (hk b o e)
 rw [sortedHeap_old (RW hb) (by rw [size_push']; exact TM hb)]
 exact RG _ (hk b o e)
end
end LS
namespace L2
open PySem PySem.Spec PyProof.Rows LS
def ins (x:Int):List Int->List Int
 | []=>[x]
 | y :: l=>if x < y then x :: y :: l else if x=y then y :: l else y :: ins x l
def ss:List Int->List Int
 | []=>[]
 | x :: l=>ins x (ss l)
set_option tactic.hygienic true in
theorem pQ {x z:Int}:∀ {l:List Int},z∈ins x l↔z=x \/ z∈l
 | []=>by simp [ins]
 | y :: l=>by
   rw [ins]
   split
   .simp
   .split
    .rename_i h; subst h; simp
    .simp only [RN,pQ]
     constructor
     .rintro (h | h | h)
      .exact .inr (.inl h)
      .exact .inl h
      .exact .inr (.inr h)
     .rintro (h | h | h)
      .exact .inr (.inl h)
      .exact .inl h
      .exact .inr (.inr h)
set_option tactic.hygienic true in
theorem mx {x:Int}:∀ {l:List Int},l.Pairwise (· < ·)->(ins x l).Pairwise (· < ·)
 | [],_=>by simp [ins]
 | y :: l,h=>by
   rw [Sy] at h
   rw [ins]
   split
   .rename_i MS
    refine Sy.mpr ⟨λz hz=>?_,Sy.mpr h⟩
    rcases RN.mp hz with e | e
    .rw [e]; exact MS
    .exact Int.lt_trans MS (h.1 z e)
   .split
    .exact Sy.mpr h
    .refine Sy.mpr ⟨λz hz=>?_,mx h.2⟩
     rcases pQ.mp hz with e | e
     .rw [e]; omega
     .exact h.1 z e
theorem t4 {z:Int}:∀ {l:List Int},z∈ss l↔z∈l
 | []=>by simp [ss]
 | x :: l=>by rw [ss,pQ,t4,RN]
theorem iZ:∀ {l:List Int},(ss l).Pairwise (· < ·)
 | []=>.nil
 | _ :: _=>mx iZ
theorem my:∀ {l m:List Int},l.Pairwise (· < ·)->m.Pairwise (· < ·)->(∀ z,z∈l↔z∈m)->l=m
 | [],[],_,_,_=>rfl
 | [],y :: m,_,_,h=>absurd ((h y).mpr RK) (by simp)
 | x :: l,[],_,_,h=>absurd ((h x).mp RK) (by simp)
 | x :: l,y :: m,hl,hm,h=>by
   rw [Sy] at hl hm
   have e:x=y:=by
    rcases RN.mp ((h x).mp RK) with a | a
    .exact a
    .rcases RN.mp ((h y).mpr RK) with b | b
     .exact b.symm
     .have:=hl.1 y b
      have:=hm.1 x a
      omega
   subst e
   rw [my hl.2 hm.2 λz=>⟨λhz=>?_,λhz=>?_⟩]
   .rcases RN.mp ((h z).mp (RM _ hz)) with a | a
    .have:=hl.1 z hz; omega
    .exact a
   .rcases RN.mp ((h z).mpr (RM _ hz)) with a | a
    .have:=hm.1 z hz; omega
    .exact a
theorem yP {l m:List Int} (hm:m.Pairwise (· < ·)) (h:∀ z,z∈m↔z∈l):ss l=m:=my iZ hm λz=>by rw [t4,h]
theorem Be {l:List Int} (h:l.Pairwise (· < ·)):ss l=l:=yP h λ_=>.rfl
section
variable {X:Cx} {pins:List (Addr×Obj)} {σ:St} {H:Hp} {s:Shared}
theorem Inv.drew (I:Inv X pins σ H s) (d':Drawn):Inv X pins σ H { s with drawn:=d' }:=
 I.step (d':=d') (g':=s.gens) (t':=s.toks) (ch:=[]) (λb hb=>by simp at hb) (λ_ _ _ _ _ e _=>e) (λb o _ _ _ e _=>⟨o.slots,e⟩) (λ_ _ _ _ n=>n) (λb o _ e=>⟨o,e⟩) (λ_ _ e=>e) (λ_ _ _ e=>e)
  (λb ps e=>⟨#[],by rw [e]; simp⟩) (λ_ h=>h) I.bo I.bare
def Bf (P:Program) (w:World) (a:Addr) (ns:List Int):HO:=.ext λh=>gG P w h a (iA w) ns
def JJ (P:Program) (w:World) (K:PySem.W.Frag):List V->Hp->VK->Prop:=λxs H Q=>∃ (p:Addr) (ms:List Int),xs=[.ref p] /\ (ie K H p (ms.map V.int) \/ jl K H p (ms.map V.int)) /\ ms.length + 1 < scanBound /\
 ∀ (l:Addr) (ns:List Int),H l=none->(∀ x,x∈ns↔x∈ms)->ns.length<=ms.length->Q (.ref l) (upd H l (Bf P w l ns))
theorem wM (hc:X.calm=true):cU X (.type "set") (JJ X.prog X.w X.K):=by
 intro pins s σ H xs us Q I r h
 obtain ⟨p,ms,rfl,hq,hb,q⟩:=h
 obtain ⟨u,rfl,rx⟩:=vals1 r
 cases rx
 have hh:=I.ok.hd hc
 have fin:∀ (h':Heap) (tk:Nat) (ns:List Int),gG X.prog X.w h' s.heap.objs.size (iA X.w) ns->(∀ x,x∈ns↔x∈ms)->ns.length<=ms.length->(∀ b o,s.heap.get? b=some o->h'.get? b=some o)->EP X pins σ Q (.ref s.heap.objs.size) { s with heap:=h',toks:=tk }:=λh' tk ns S m l k=>
  ⟨.ref s.heap.objs.size,_,I.laid (o:=Bf X.prog X.w s.heap.objs.size ns) k (RO _) ⟨S,(let ⟨o,_,_,_,e,_⟩:=S; ⟨o,e⟩),λh1 h2 S1 kk=>S1.keeps kk⟩,rfl,q _ ns (I.bo.fresh (RO _)) m l⟩
 rcases hq with hq | hq
 .obtain ⟨its,rv,pl,_⟩:=I.list hq
  have hi:IntsAre its ms:=intsAre_of rv
  have hl:its.length=ms.length:=by rw [(cN.mp hi).2,RJ]
  exact rE hh (src_list pl.isList) hi (by rw [RZ,hl]; exact hb) fin
 .obtain ⟨its,rv,pl,_⟩:=I.tuple hq
  have hi:IntsAre its ms:=intsAre_of rv
  have hl:its.length=ms.length:=by rw [(cN.mp hi).2,RJ]
  exact rE hh (src_tuple (show s.heap.IsTuple p its.toArray from pl)) hi (by rw [RZ,hl]; exact hb) fin
def yQ (P:Program) (w:World):List V->Hp->VK->Prop:=λxs H Q=>∃ (p:Addr) (ns:List Int),xs=[.ref p] /\ H p=some (Bf P w p ns) /\ ns.length < 64 /\ ∀ (l:Addr) (out:List Int),H l=none->out.Pairwise (· < ·)->(∀ x,x∈out↔x∈ns)->Q (.ref l) (upd H l (.lst (out.map V.int)))
theorem rH:∀ {vs:List Value} {ns:List Int},IntsAre vs ns->aO (ns.map V.int) vs
 | _,_,.nil=>.nil
 | _,_,.cons n t h=>.cons ⟨t,rfl⟩ (rH h)
theorem Bg {prog:Program} {w:World} {h:Heap} {a:Addr} {led:Bool} {ns:List Int} (h:gG prog w h a led ns):ns.Nodup:=by
 obtain ⟨_,_,_,_,_,_,_,_,_,z,_⟩:=h
 exact z
theorem pR (hc:X.calm=true):cU X (.builtin "sorted") (yQ X.prog X.w):=by
 intro pins s σ H xs us Q I r h
 obtain ⟨p,ns,rfl,hp,JI,q⟩:=h
 obtain ⟨u,rfl,rx⟩:=vals1 r
 cases rx
 have hS:gG X.prog X.w s.heap p (iA X.w) ns:=(show cA X.prog X.w H s.heap p (Bf X.prog X.w p ns) from I.bo p _ hp).1
 have nd:ns.Nodup:=Bg hS
 refine lE (I.ok.hd hc) hS JI λD h' tk d' out n ms hD k e hi yR GF=>?_
 have hl:ms.length=ns.length:=yR.length_eq
 have J:=(I.drew d').laid (t':=tk) (o:=.lst (ms.map V.int)) (h':=h') k hD ⟨by rw [List.length_map,sizeLine_eq]; omega,out.toList,n,rH hi,by simpa using e⟩
 refine ⟨.ref D,_,J,rfl,q D ms (I.bo.fresh hD) ?_ λx=>yR.mem_iff⟩
 have Od:ms.Nodup:=yR.nodup_iff.mpr nd
 refine (List.Pairwise.and GF Od).imp λ{a b} Ff=>?_
 have:=Ff.1
 have:=Ff.2
 omega
end
theorem D9:bootBuiltins "set"=some (.type "set"):=by decide +kernel
theorem wN:bootBuiltins "sorted"=some (.builtin "sorted"):=by decide +kernel
def fm:List D->Option (List Int)
 | []=>some []
 | .int i :: l=>(fm l).map (i :: ·)
 | _ :: _=>none
theorem d4:∀ (ns:List Int),fm (ns.map .int)=some ns
 | []=>rfl
 | n :: ns=>by rw [RY,fm,d4 ns]; rfl
theorem fL:∀ {l:List D} {ns:List Int},fm l=some ns->l=ns.map .int
 | [],_,h=>by cases h; rfl
 | d :: l,ns,h=>by
   cases d with
   | int i=>
     rw [fm] at h
     cases e:fm l with
     | none=>rw [e] at h; cases h
     | some m=>rw [e] at h; cases h; rw [fL e]; rfl
   | _=>cases h
def Ea:D->Option (List D)
 | .list l=>some l
 | .tuple l=>some l
 | _=>none
def Eb (g:DS->Option D):DS->Option (List D):=λδ=>(g δ).bind λd=>(Ea d).bind λl=>(fm l).bind λns=>if ns.length < 64 then some ((ss ns).map .int) else none
theorem b7.toInts {K:PySem.W.Frag} {H:Hp}:∀ {ns:List Int} {xs:List V},b7 K H xs (ns.map PyData.int)->xs=ns.map V.int
 | [],_,h=>by cases h; rfl
 | n :: ns,_,h=>by
   rw [RY] at h
   cases h with
   | cons a t=>cases a; rw [b7.toInts t]; rfl
set_option tactic.hygienic true in
theorem jE {X:Cx} {O:List Nat} {e:Expr} {ge:DS->Option D} {p1 p2 q1 q2:Pos} (h1:X.mg "sorted"=none) (h2:X.mg "set"=none) (he:PE X e (gK X.K O ge)) (hc:X.calm=true:=by rfl) (g1:Gl X "sorted":=by rfl) (g2:Gl X "set":=by rfl)
  (s1:starEach [Expr.Call (.Name "set" p2) [e] [] q2] X.env=(false,eval (Expr.Call (.Name "set" p2) [e] [] q2) X.env) :: starEach [] X.env:=by rfl) (s2:starEach [e] X.env=(false,eval e X.env) :: starEach [] X.env:=by rfl)
  (b1:(backTo q1 (starEach [] X.env)).any (·.1)=false:=by rfl) (b2:(backTo q2 (starEach [] X.env)).any (·.1)=false:=by rfl):
  PE X (.Call (.Name "sorted" p1) [.Call (.Name "set" p2) [e] [] q2] [] q1) (tN X.K O (Eb ge)):=
 (kb (pR hc) g1 h1 wN (cq (iT (wM hc) g2 h2 D9 (cq he el s2) (by decide) (by decide) s2 b2) el s1) (by decide) (by decide) s1 b1).mono λσ H Q hh=>hh.e λU A0 δ ds R ed q=>by
  obtain ⟨d,e1,ed⟩:=bind1 ed
  obtain ⟨l,e2,ed⟩:=bind1 ed
  obtain ⟨ns,e3,ed⟩:=bind1 ed
  split at ed
  .rename_i JI
   cases ed
   refine ⟨U,A0,δ,d,R,e1,λv H1 s1 hv=>?_⟩
   have row:∃ p,v=.ref p /\ (ie X.K H1 p (ns.map V.int) \/ jl X.K H1 p (ns.map V.int)):=by
    unfold Ea at e2
    split at e2
    .cases e2
     obtain ⟨p,xs,rfl,r1,r2⟩:=hv.list
     rw [fL e3] at r2
     rw [<- r2.toInts]
     exact ⟨p,rfl,.inl r1.sq⟩
    .cases e2
     obtain ⟨p,xs,rfl,r1,r2⟩:=hv.tuple
     rw [fL e3] at r2
     rw [<- r2.toInts]
     exact ⟨p,rfl,.inr r1⟩
    .cases e2
   obtain ⟨p,rfl,yS⟩:=row
   refine ⟨p,ns,rfl,yS,by unfold scanBound; omega,λl1 ms Fl hm hle=>?_⟩
   refine ⟨l1,ms,rfl,bM,by omega,λl2 out Ae hr Fi=>?_⟩
   have eo:out=ss ns:=(yP hr λz=>by rw [Fi,hm]).symm
   subst eo
   refine q l2 _ _ (s1.trans ((b9 Fl _).trans (b9 Ae _))) (s1.free ((b9 Fl _).free Ae)) bM (b7.ints _)
  .cases ed
end L2
namespace L2
open PySem PySem.Spec PyProof.Rows
section
variable {prog:Program} {w:World} {A:Around} {R:Result->Shared->Prop} {s:Shared}
theorem pT {elt target iter:Expr} {ifs:List Expr} {scope:Scope} {pos:Pos} {it acc:Value} {env:Env} (I:Nat->Shared->Prop)
  (turn:∀ n s,I n s->wpAny (model prog w) A (pyNext it) (λr a9=>match r with
   | none=>R (.ok .next) a9
   | some v=>wpAny (model prog w) A (letOwnedTupleGo target it v) (λ_ l6=>wpAny (model prog w) A (assign target env v) (λ_ jg=>
     wpAny (model prog w) A (forIn ifs true λc r=>if r=true then do let ok <- isTrue c env (eval c env); pure (ForInStep.yield ok) else pure (ForInStep.yield r)) (λok pU=>
      if ok=true then wpAny (model prog w) A (eval elt env) (λx GH=>
       wpAny (model prog w) A (call (.builtin "list.append") [acc,x]) (λ_ GI=>∃ m,m < n /\ I m GI) (notedBy (model prog w) A env λe s'=>R (.error e) s') GH) (notedBy (model prog w) A env λe s'=>R (.error e) s') pU
      else ∃ m,m < n /\ I m pU) (notedBy (model prog w) A env λe s'=>R (.error e) s') jg) (notedBy (model prog w) A env λe s'=>R (.error e) s') l6) (notedBy (model prog w) A env λe s'=>R (.error e) s') a9) (notedBy (model prog w) A env λe s'=>R (.error e) s') s)
  (n:Nat) (h:I n s):codeAny (model prog w) A (.compLoop (.ListComp elt [⟨target,iter,ifs,0⟩] scope pos) 0 it acc env) R s:=by
 refine codeAny_loop rfl I (λn s hI=>?_) n h
 show wpAny _ A ((compTurn (.ListComp elt [⟨target,iter,ifs,0⟩] scope pos) 0 it acc env).onRaise (λx=>do noteFrame x env; theTreesLotGoes x)) _ _ s
 refine wpAny_noted ?_
 rw [compTurn_list]
 refine RF (wpAny_standAt (RF (R7 (turn n s hI) (λr a9 il=>?_) λ_ _ z=>z)))
 cases r with
 | none=>exact RQ il
 | some v=>
   refine RF (R7 il (λ_ l6 t5=>RF (R7 t5 (λ_ jg JK=>RF (R7 JK (λok pU GJ=>?_) λ_ _ z=>z)) λ_ _ z=>z)) λ_ _ z=>z)
   cases ok with
   | false=>exact RQ ⟨rfl,GJ⟩
   | true=>exact RF (RF (R7 GJ (λx GH JL=>RF (R7 JL (λ_ GI JM=>RQ (RQ ⟨rfl,JM⟩)) λ_ _ z=>z)) λ_ _ z=>z))
end
def PF (X:Cx) (ifs:List Expr) (t:TT):Prop:=
 ∀ (pins:List (Addr×Obj)) (s:Shared) (σ:St) (H:Hp) (Q:Bool->Hp->Prop),Inv X pins σ H s->t σ H Q->
   wpAny (model X.prog X.w) X.A (forIn ifs true λc r=>if r=true then do let ok <- isTrue c X.env (eval c X.env); pure (ForInStep.yield ok) else pure (ForInStep.yield r)) (TP X pins σ Q) X.xe s
def JN:TT:=λ_ H Q=>Q true H
theorem Ec {X:Cx}:PF X [] JN:=λ_ _ _ H _ I q=>RQ ⟨H,I,q⟩
theorem t6 {X:Cx} {c:Expr} {t:TT} (h:PT X c t):PF X [c] t:=λpins s σ H Q I q=>wpAny_tests_one (h pins s σ H Q I q)
section
variable {X:Cx}
structure i3 (X:Cx) (scope:Scope) (xs:List Str) (ix:List Nat) (N':List Str):Prop where
 kind:scope.kind=.function
 tH:∀ y∈scope.names,y.2≠.cell
 names:∀ y∈scope.names,y.2=.local->scope.names.lookup y.1=some .local
 free:∀ y∈scope.names,y.2=.free->X.env.kindOf y.1=some .cell \/ X.env.kindOf y.1=some .free
 only:∀ n,(X.env.scope.kind=.function)->((relabel scope X.env).names.lookup n=some .cell \/ (relabel scope X.env).names.lookup n=some .free)->(n,NameKind.free)∈scope.names
 nm:N'=xs ++ ix.map λj=>X.N.getD j ""
 Jc:∀ j∈ix,j < X.N.length /\ (X.N.getD j "",NameKind.free)∈scope.names /\ ((relabel scope X.env).names.lookup (X.N.getD j "")=some .cell \/ (relabel scope X.env).names.lookup (X.N.getD j "")=some .free)
section
variable {scope:Scope} {xs:List Str} {ix:List Nat} {N':List Str} {cl:List (Str×Addr)} {C:Addr} {s2 s3:Shared} {H2:Hp} {fp:List Addr} {pins:List (Addr×Obj)} {σ:St}
theorem yT (S:i3 X scope xs ix N') (I:Inv X pins σ H2 s2) (hC:s2.heap.objs.size<=C) (h1:∀ n c,cl.lookup n=some c->X.env.cells.lookup n=some c) (h2:∀ n,(n,NameKind.free)∈scope.names->∃ c,cl.lookup n=some c)
  (hf:∀ b∈fp,jd X pins H2 b) (oz:∀ b∈fp,b < s2.heap.objs.size):(aH X scope N' cl C s2 H2 fp pins).Ok where
 mod:=I.ok.mod
 kind:=by show (relabel scope X.env).kind=_; exact S.kind
 glob:=I.ok.glob
 blt:=I.ok.blt
 above:=hC
 inj:=λa b c e1 e2=>I.ok.inj a b c (h1 _ _ e1) (h1 _ _ e2)
 has:=λa h=>h2 a (S.only a I.ok.kind h)
 vZ:=λa c h=>by cases h
 hd:=I.ok.hd
 frames:=I.ok.frames
 xw:=.inl rfl
 z9:=λb hb=>⟨RW (RL (oz b hb) hC),λa c e=>(hf b hb).2.2.2.2.1 a c (h1 _ _ e)⟩
 bs:=I.bs
 qK:=Sj I.ok.qK I.sz
 j4:=λb o e hb=>by
  rcases (hf b hb).2.2.2.1 with z | z
  .exact I.ok.j4 b o e z
  .have:=(I.ok.bs b o e).1
   exact absurd (RL (RR this) z) (Sg _)
 lu:=λb hb z=>by
  rcases RN.mp (I.ff b z) with e | e
  .exact (hf b hb).2.1 e
  .exact (hf b hb).2.2.1 e
 fq:=I.stack
 qL:=I.lL
theorem wO (S:i3 X scope xs ix N') (I:Inv X pins σ H2 s2) (hC:s2.heap.objs.size<=C) (h1:∀ n c,cl.lookup n=some c->X.env.cells.lookup n=some c) (h2:∀ n,(n,NameKind.free)∈scope.names->∃ c,cl.lookup n=some c)
  (hf:∀ b∈fp,jd X pins H2 b) (oz:∀ b∈fp,b < s2.heap.objs.size) (Gh:s3.os=s2.os) (hg:s3.gens=s2.gens) (k:∀ b o,s2.heap.get? b=some o->s3.heap.get? b=some o) {m:Str->Option Value} (hn:s3.heap.Ns C m):
  Inv (aH X scope N' cl C s2 H2 fp pins) [] (List.replicate xs.length none ++ fu ix σ) H2 s3 where
 ok:=yT S I hC h1 h2 hf oz
 os:=Gh
 bare:=by rw [hg]; exact I.bare
 base:=⟨λb o e _ _ _=>k b o e,λb o e _ _ _=>⟨o.slots,k b o e⟩,λb o e n _=>n,λb o e _=>⟨o,k b o e⟩,λ_ _ e=>e,λ_ _ _ e=>e,λb ps e=>⟨#[],by rw [Ur]; exact e⟩⟩
 loc:=by
  refine ⟨m,hn,λi y v e1 e2 e3=>?_⟩
  by_cases hi:i < xs.length
  .rw [List.getElem?_append_left (by simpa using hi),List.getElem?_replicate,if_pos hi] at e2
   cases e2
  .have E9:(fu ix σ)[i - xs.length]?=some (some v):=by rw [List.getElem?_append_right (by simp; omega)] at e2; simpa using e2
   obtain ⟨j,ej,es⟩:=rb E9
   have AQ:N'[i]?=some y:=e1
   rw [S.nm,U6 (by omega),Sa,ej] at AQ
   have ey:X.N.getD j ""=y:=Su AQ
   obtain ⟨hj,lA,hk⟩:=S.Jc j (SW ej)
   obtain ⟨m0,NK,Jd⟩:=I.loc
   have eN:X.N[j]?=some y:=by rw [<- ey,R6,RP hj]; rfl
   have kd:=S.free _ lA rfl
   have hv:E6 X.env.scope y:=by
    rw [<- ey]
    rcases kd with z | z
    .exact .inr (.inl z)
    .exact .inr (.inr z)
   obtain ⟨u,r,l⟩:=Jd j y v eN es hv
   refine ⟨u,r,.inr ?_⟩
   rcases l with ⟨q,_⟩ | ⟨_,c,ec,z⟩
   .have Je:X.env.kindOf y=some .cell \/ X.env.kindOf y=some .free:=by rw [<- ey]; exact kd
    rcases Je with w | w <;> rw [q] at w <;> cases w
   .obtain ⟨c',e'⟩:=h2 _ lA
    rw [ey] at e'
    have:=h1 _ _ e'
    rw [ec] at this; cases this
    obtain ⟨o,ho,hd⟩:=z
    exact ⟨by rw [<- ey]; exact hk,c,e',o,k c o ho,hd⟩
 cell:=λa c e=>by
  obtain ⟨v,o,ho,hd⟩:=I.cell a c (h1 _ _ e)
  exact ⟨v,o,k c o ho,hd⟩
 free:=I.bo.fresh hC
 dD:=λa c e=>I.dD a c (h1 _ _ e)
 pin:=λp hp=>by
  have Fb:p∈X.pn ++ pins:=by
   rcases R0.mp hp with z | z
   .exact z
   .simp at z
  obtain ⟨e,n,ne,nf,d⟩:=I.pin p Fb
  refine ⟨k _ _ e,n,RW (RL (RR e) hC),λz=>?_,d⟩
  rcases RN.mp (I.ff _ z) with q | q
  .exact ne q
  .exact nf q
 bo:=I.bo.kept k
 len:=by
  show (List.replicate xs.length none ++ fu ix σ).length=N'.length
  rw [S.nm]
  unfold fu
  simp
end
def pV (J:It) (k:Nat) (ix:List Nat) (g:TG) (tc:TT) (te:TE) (σ:St) (H:Hp) (Q:VK):Prop:=∃ W:Nat->Nat->List V->St->Hp->Prop,(∃ m,W 0 m [] (List.replicate k none ++ fu ix σ) H) /\ ∀ i m ys τ H,W i m ys τ H->ys.length<=sizeLine /\
 ((J.stop i H /\ ∀ p,H p=none->Q (.ref p) (upd H p (.lst ys))) \/ (J.go i H /\ ys.length < sizeLine /\ ∀ v H',J.Dd i H v H'->g v τ H' λwQ H2=>tc wQ H2 λb H3=>
   if b=true then te wQ H3 λy H4=>∃ m',m' < m /\ W (i + 1) m' (ys ++ [y]) wQ H4 else ∃ m',m' < m /\ W (i + 1) m' ys wQ H3))
def t7 (wi:TI) (k:Nat) (ix:List Nat) (g:TG) (tc:TT) (te:TE):TE:=λσ H Q=>wi σ H λJ H1=>pV J k ix g tc te σ H1 Q
section
variable {scope:Scope} {xs:List Str} {ix:List Nat} {N':List Str} {elt iter tg:Expr} {ifs:List Expr} {pos:Pos} {wi:TI} {te:TE} {tc:TT} {g:TG}
structure MT (X':Cx) (D:Addr) (fp:List Addr) (tn:Nat->Heap->Prop) (W:Nat->Nat->List V->St->Hp->Prop) (n:Nat) (s':Shared) (i:Nat) (ys:List V) (its:List Value) (k:Nat) (bO:St) (H':Hp):Prop where
 I:Inv X' [(D,lB its k)] bO H' s'
 st:tn i s'.heap
 fr:∀ b∈fp,H' b=none
 w:W i n ys bO H'
 rv:aO ys its
def GK (X':Cx) (D:Addr) (fp:List Addr) (tn:Nat->Heap->Prop) (W:Nat->Nat->List V->St->Hp->Prop) (n:Nat) (s':Shared):Prop:=∃ i ys its k bO H',MT X' D fp tn W n s' i ys its k bO H'
theorem Ed {X':Cx} {D:Addr} {fp:List Addr} {tn:Nat->Heap->Prop} {W:Nat->Nat->List V->St->Hp->Prop} {n:Nat} {s':Shared} {P:Prop} (h:GK X' D fp tn W n s') (k:∀ i ys its k bO H',MT X' D fp tn W n s' i ys its k bO H'->P):P:=by
 obtain ⟨_,_,_,_,_,_,t⟩:=h
 exact k _ _ _ _ _ _ t
theorem GL {gd:Cx->Prop} {X:Cx} {pins:List (Addr×Obj)} {σ:St} {tg:Expr} {R:It->Hp->Prop} {v7:Value} {s2:Shared} {P:Value->Prop} (h:xP gd X pins σ tg R v7 s2) (k:∀ it fp tn J H',Inv X pins σ H' s2->uX gd X.prog X.w X.K tg J fp it tn->tn 0 s2.heap->(∀ b∈fp,jd X pins H' b)->R J H'->P (.ref it)):P v7:=by
 obtain ⟨it,fp,tn,J,H',rfl,a,b,c,d,e⟩:=h
 exact k it fp tn J H' a b c d e
theorem oO (S:i3 X scope xs ix N') {gd:Cx->Prop} (hc:∀ cl C s2 H2 fp pins,gd (aH X scope N' cl C s2 H2 fp pins)) (hg:∀ cl C s2 H2 fp pins,PG (aH X scope N' cl C s2 H2 fp pins) tg g) (hf:∀ cl C s2 H2 fp pins,PF (aH X scope N' cl C s2 H2 fp pins) ifs tc) (iB:∀ cl C s2 H2 fp pins,PE (aH X scope N' cl C s2 H2 fp pins) elt te)
  {pins:List (Addr×Obj)} {σ:St} {s2:Shared} {Q:VK} {v7:Value} (h:xP gd X pins σ tg (λJ H1=>pV J xs.length ix g tc te σ H1 Q) v7 s2) {cl:List (Str×Addr)} (h1:∀ n c,cl.lookup n=some c->X.env.cells.lookup n=some c) (h2:∀ n,(n,NameKind.free)∈scope.names->∃ c,cl.lookup n=some c)
  {use:Option (Value->Sem Unit)} {QQ:Value->Shared->Prop}
  (fin:∀ (D C:Addr) (H':Hp) (s1:Shared) (m:Str->Option Value),s1.heap.Ns C m->H' C=none->X.ee.heap.objs.size<=C->C≠X.env.locals->(∀ a c,X.env.cells.lookup a=some c->c≠C)->(∀ p∈X.pn ++ pins,p.1≠C)->(∀ h',Heap.SameBut C s1.heap h'->Inv X pins σ H' { s1 with heap:=h' })->Q (.ref D) H'->
   compPost (model X.prog X.w) X.A X.xe use QQ (.ref D) C (.ok .next) s1):
  wpAny (model X.prog X.w) X.A (newList []) (λacc jg=>wpAny (model X.prog X.w) X.A (newFunctionEnv scope X.env.globals cl [] X.env.qual none .none (some X.env)) (λlF pU=>
   codeAny (model X.prog X.w) X.A (.compStart (.ListComp elt [⟨tg,iter,ifs,0⟩] scope pos) 0 v7 acc { lF with scope:=relabel scope X.env }) (compPost (model X.prog X.w) X.A X.xe use QQ acc lF.locals) pU) X.xe jg) X.xe s2:=by
 refine GL (P:=λv7=>wpAny (model X.prog X.w) X.A (newList []) (λacc jg=>wpAny (model X.prog X.w) X.A (newFunctionEnv scope X.env.globals cl [] X.env.qual none .none (some X.env)) (λlF pU=>
   codeAny (model X.prog X.w) X.A (.compStart (.ListComp elt [⟨tg,iter,ifs,0⟩] scope pos) 0 v7 acc { lF with scope:=relabel scope X.env }) (compPost (model X.prog X.w) X.A X.xe use QQ acc lF.locals) pU) X.xe jg) X.xe s2) h λit fp tn J H1 I2 T kC f2 hR=>?_
 clear h
 obtain ⟨W,⟨m0,w0⟩,turn⟩:=hR
 have oz:∀ b∈fp,b < s2.heap.objs.size:=λb hb=>by
  obtain ⟨o,e,_⟩:=T.obj _ _ kC b hb
  exact RR e
 refine SD (wpAny_newFunctionEnv S.tH (by intro y hy; simp at hy) (λil jF gU=>?_) S.kind)
 dsimp only at jF gU ⊢
 generalize Ee:s2.heap.push { cls:=.type "list",dict:=none,data:=.seq ([]:List Value).toArray }=P2 at jF gU ⊢
 have hC:P2.objs.size=s2.heap.objs.size + 1:=by rw [<- Ee,UA]
 have tJ:s2.heap.objs.size≠P2.objs.size:=by rw [hC]; exact RW (Tb _)
 have jh:s2.heap.objs.size<=P2.objs.size:=by rw [hC]; exact T3 _
 have below:∀ b,b < s2.heap.objs.size->b≠P2.objs.size:=λb hb=>by rw [hC]; exact RW (TM hb)
 have old:∀ b o,s2.heap.get? b=some o->il.get? b=some o:=λb o e=>gU.extBut b o (below b (RR e)) (RG _ (Ee ▸ RG _ e))
 have wL:il.get? s2.heap.objs.size=some (lB [] 0):=gU.extBut _ _ tJ (RG _ (Ee ▸ RU _ rfl))
 generalize P2.objs.size=C at *
 generalize lT:s2.heap.objs.size=D at *
 have GN:∀ p∈X.pn ++ pins,p.1≠D /\ p.1≠C:=λp hp=>by
  have:=RR (I2.pin p hp).1
  rw [lT] at this
  exact ⟨RW this,RW (RL this jh)⟩
 have Ef:D∉fp:=λhb=>Sg _ (oz D hb)
 have JO:C∉fp:=λhb=>absurd (RL (oz C hb) jh) (Sg _)
 have rJ:∀ a c,X.env.cells.lookup a=some c->c≠D /\ c≠C:=λa c e=>by
  obtain ⟨v,q⟩:=I2.cell a c e
  have:=q.lt
  rw [lT] at this
  exact ⟨RW this,RW (RL this jh)⟩
 have yU:X.env.locals < D:=by have:=I2.lt; rw [lT] at this; exact this
 have JP:X.ee.heap.objs.size<=D:=by rw [<- lT]; exact I2.sz
 have I3:=wO (s3:={ s2 with heap:=il,toks:=s2.toks + ([]:List (Str×Value)).length }) S I2 (by rw [lT]; exact jh) h1 h2 f2 (by rw [lT]; exact oz) rfl rfl old jF
 have l5:∀ {H':Hp} {pp:List (Addr×Obj)},(∀ p∈pp,p.1∉fp)->(∀ b∈fp,H' b=none)->∀ b∈fp,jd (aH X scope N' cl C s2 H1 fp pins) pp H' b:=λ{H' pp} yV hn b hb=>by
  obtain ⟨f0,f1,f3,f4,f5,f6⟩:=f2 b hb
  refine ⟨hn b hb,λz=>JO (by rw [<- show b=C from z]; exact hb),λz=>?_,.inl hb,λa c e=>f5 a c (h1 _ _ e),λp hp=>?_⟩
  .rcases RN.mp (I2.ff b z) with q | q
   .exact f1 q
   .exact f3 q
  .rcases R0.mp hp with q | q
   .exact f6 p q
   .intro z; exact yV p q (by rw [z]; exact hb)
 have GO:∀ b,D<=b->b∉ip X.stack:=λb hb z=>by
  rcases RN.mp (I2.ff b z) with q | q
  .rw [q] at hb; exact absurd (RL yU hb) (Sg _)
  .exact I2.CW (by rw [lT]; exact hb) q
 have loop:∀ jg:Shared,jg={ s2 with heap:=il,toks:=s2.toks + ([]:List (Str×Value)).length }->
   codeAny (model X.prog X.w) X.A (.compLoop (.ListComp elt [⟨tg,iter,ifs,0⟩] scope pos) 0 (.ref it) (.ref D) (compEnvC scope cl C X.env)) (compPost (model X.prog X.w) X.A X.xe use QQ (.ref D) C) jg:=by
  rintro jg rfl
  refine pT (GK (aH X scope N' cl C s2 H1 fp pins) D fp tn W) ?_ m0
   ⟨0,[],[],0,_,H1,?_,T.keep _ _ _ kC (λb hb o e=>old b o e),λb hb=>(f2 b hb).1,w0,.nil⟩
  .refine λn s' z=>Ed z λi ys its k bO H' t=>?_
   have I:=t.I
   have st:=t.st
   have fr:=t.fr
   have rv:=t.rv
   obtain ⟨hz,w⟩:=turn i n ys bO H' t.w
   have pD:=I.pin (D,lB its k) (RI _ RK)
   have yV:∀ p∈[(D,lB its k)],p.1∉fp:=λp hp=>by
    have e:p=(D,lB its k):=by simpa using hp
    rw [e]; exact Ef
   rcases w with ⟨stop,q⟩ | ⟨go,Oe,step⟩
   .refine R7 (T.done (aH X scope N' cl C s2 H1 fp pins) rfl rfl rfl (hc _ _ _ _ _ _) i _ s' _ H' (λ_ _=>False) I (l5 yV fr) st stop) (λr s1 hr=>?_) λ_ _ z=>z.elim
    obtain ⟨rfl,I1⟩:=hr
    obtain ⟨m,hn,_⟩:=I1.loc
    have p1:=I1.pin (D,lB its k) (RI _ RK)
    have fC:H' C=none:=I1.free
    refine fin D C (upd H' D (.lst ys)) s1 m hn (by rw [aG (Tf tJ)]; exact fC) (Sj JP jh) (T5 (RL yU jh)) (λa c e=>(rJ a c e).2) (λp hp=>(GN p hp).2) (λh' hs=>?_) (q D p1.2.1)
    exact oA (N':=N') I2 (by rw [lT]; exact jh) (by rw [lT]; exact RO _) f2 I1 rv hz hs tJ
   .refine R7 (T.item (aH X scope N' cl C s2 H1 fp pins) rfl rfl rfl (hc _ _ _ _ _ _) i _ s' _ H' (λ_ _=>False) I (l5 yV fr) st go) (λr s4 hr=>?_) λ_ _ z=>z.elim
    obtain ⟨u,rfl,h4⟩:=hr
    refine R7 h4 (λ_ s5 h5=>?_) λ_ _ z=>z.elim
    obtain ⟨v,H5,I5,r5,y5,tj,Dh⟩:=h5
    have FW:=I5.pinned (l5 yV Dh) (T.obj _ _ tj)
    refine R7 (hg cl C s2 H1 fp pins _ s5 bO H5 v u _ FW r5 (step v H5 y5)) (λ_ s6 h6=>?_) λ_ _ z=>z.elim
    obtain ⟨wQ,H6,I6,q6⟩:=h6
    have gone:∀ {τ:St} {H9:Hp} {s9:Shared},Inv (aH X scope N' cl C s2 H1 fp pins) ([(D,lB its k)] ++ gg fp s5.heap) τ H9 s9->tn (i + 1) s9.heap /\ ∀ b∈fp,H9 b=none:=λ{τ H9 s9} I9=>
     ⟨T.keep _ _ _ tj λb hb o e=>(I9.pin (b,o) (RI _ (RI _ (cZ hb e)))).1,λb hb=>by
      obtain ⟨o,e,d⟩:=T.obj _ _ tj b hb
      exact (I9.pin (b,o) (RI _ (RI _ (cZ hb e)))).2.1⟩
    refine R7 (hf cl C s2 H1 fp pins _ s6 wQ H6 _ I6 q6) (λok Of Og=>?_) λ_ _ z=>z.elim
    obtain ⟨MU,HS,HU⟩:=Og
    cases ok with
    | false=>
      rw [R4 RS] at HU ⊢
      obtain ⟨m',GP,w7⟩:=HU
      obtain ⟨g1,g2⟩:=gone HS
      exact ⟨m',GP,i + 1,ys,its,k,wQ,MU,HS.ft λp hp=>HS.pin p (RI _ (So _ hp)),g1,g2,w7,rv⟩
    | true=>
    rw [RV rfl] at HU ⊢
    refine R7 (iB cl C s2 H1 fp pins _ Of wQ MU _ HS HU) (λy s7 h7=>?_) λ_ _ z=>z.elim
    obtain ⟨yv,H7,I7,r7,m',GP,w7⟩:=h7
    have p7:=I7.pin (D,lB its k) (RI _ (So _ RK))
    have hl:=rv.length
    refine U1 S9 ⟨_,p7.1,rfl⟩ UT (UN _ _) (Vc D its.toArray k y (by rw [RZ]; omega)) ⟨p7.1,?_⟩
    have q:=Vo p7.1 (·.push y)
    have rK:∀ b o,b≠D->s7.heap.get? b=some o->(s7.heap.update D (Obj.mapSeq (·.push y))).get? b=some o:=λb o hb e=>(Se s7.heap _ (Tf hb)).trans e
    have I8:Inv (aH X scope N' cl C s2 H1 fp pins) (gg fp s5.heap) wQ H7 s7:=I7.ft λp hp=>I7.pin p (RI _ (RI _ hp))
    have I9:Inv (aH X scope N' cl C s2 H1 fp pins) (gg fp s5.heap) wQ H7 { s7 with heap:=s7.heap.update D (Obj.mapSeq (·.push y)) }:=I8.turned (t':=s7.toks) (it:=D) rK p7.2.1 tJ (.inr (by show s2.heap.objs.size<=D; rw [lT]; exact RO _)) (λa c e=>(rJ a c (h1 _ _ e)).1) λp hp z=>by
     rcases R0.mp hp with z' | z'
     .exact (GN p z').1 z
     .exact Ef (by rw [<- z]; exact (kB z').1)
    refine ⟨m',GP,i + 1,ys ++ [yv],its ++ [y],(if (its.toArray.push y).size == its.toArray.size then k else k + 1),wQ,H7,I9.ft (pins':=[(D,lB (its ++ [y]) ((if (its.toArray.push y).size == its.toArray.size then k else k + 1)))]) λp hp=>?_,T.keep _ _ _ tj λb hb o e=>?_,λb hb=>?_,w7,rv.append (.cons r7 .nil)⟩
    .have e:p=(D,lB (its ++ [y]) ((if (its.toArray.push y).size == its.toArray.size then k else k + 1))):=by simpa using hp
     subst e
     refine ⟨by rw [q,List.push_toArray],p7.2.1,tJ,GO D (RO _),λv z=>by cases z⟩
    .have pb:=I7.pin (b,o) (RI _ (RI _ (cZ hb e)))
     exact rK b o (λz=>Ef (by rw [<- z]; exact hb)) pb.1
    .obtain ⟨o,e,d⟩:=T.obj _ _ tj b hb
     exact (I7.pin (b,o) (RI _ (RI _ (cZ hb e)))).2.1
  .exact I3.ft λp hp=>by
    have e:p=(D,lB [] 0):=by simpa using hp
    subst e
    exact ⟨wL,I2.bo.fresh (by rw [lT]; exact RO _),tJ,GO D (RO _),λv z=>by cases z⟩
 exact codeAny_compStart_list (loop _ rfl) (T.self _ 0 _ _ _ (T.keep _ _ _ kC λb hb o e=>old b o e) (loop _ rfl))
theorem oP (S:i3 X scope xs ix N') {gd:Cx->Prop} (hc:∀ cl C s2 H2 fp pins,gd (aH X scope N' cl C s2 H2 fp pins)) (hi:FU gd X tg iter wi) (hg:∀ cl C s2 H2 fp pins,PG (aH X scope N' cl C s2 H2 fp pins) tg g) (hf:∀ cl C s2 H2 fp pins,PF (aH X scope N' cl C s2 H2 fp pins) ifs tc) (iB:∀ cl C s2 H2 fp pins,PE (aH X scope N' cl C s2 H2 fp pins) elt te)
  (hs:∀ x,foldedSetIterable iter X.env x=pure x):PE X (.ListComp elt [⟨tg,iter,ifs,0⟩] scope pos) (t7 wi xs.length ix g tc te):=by
 intro pins s σ H Q I h
 obtain ⟨cl,tV,h1,h2⟩:=jy (scope:=scope) (env:=X.env) (λy hy hk=>I.ok.has y.1 (S.free y hy hk))
 rw [eval_ListComp]
 refine Uj (use:=none) rfl hs tV S.kind S.names (R7 (hi pins s σ H _ I h) (λxv a9 il=>R7 il (λit l6 t5=>?_) λ_ _ e=>e) λ_ _ e=>e)
 exact oO S hc hg hf iB t5 h1 h2 λD C H' s1 m hn fC c1 c2 c3 c4 hI q=>⟨m,hn,λh' k7=>⟨.ref D,H',hI h' k7,rfl,q⟩⟩
theorem wU {i:Nat} {y:Str} {py yW:Pos} (S:i3 X scope xs ix N') {gd:Cx->Prop} (hc:∀ cl C s2 H2 fp pins,gd (aH X scope N' cl C s2 H2 fp pins)) (hi:FU gd X tg iter wi) (hg:∀ cl C s2 H2 fp pins,PG (aH X scope N' cl C s2 H2 fp pins) tg g) (hf:∀ cl C s2 H2 fp pins,PF (aH X scope N' cl C s2 H2 fp pins) ifs tc) (iB:∀ cl C s2 H2 fp pins,PE (aH X scope N' cl C s2 H2 fp pins) elt te)
  (hs:∀ x,foldedSetIterable iter X.env x=pure x) (JQ:X.N.Nodup) (Fk:X.N[i]?=some y) (hy:X.env.scope.names.lookup y=some .local) (JR:swapsWith (.ListComp elt [⟨tg,iter,ifs,0⟩] scope pos) (some (.Name y py)) yW.line X.env=pure true):
  PS X (.Assign [.Name y py] (.ListComp elt [⟨tg,iter,ifs,0⟩] scope pos) yW) (lx (t7 wi xs.length ix g tc te) (ig i)):=by
 intro pins s σ H D I h
 obtain ⟨cl,tV,h1,h2⟩:=jy (scope:=scope) (env:=X.env) (λy hy hk=>I.ok.has y.1 (S.free y hy hk))
 rw [exec_Assign_Name_used _ _ _ _ JR]
 refine RF (wpAny_standAt (RF ?_))
 show wpAny _ X.A (do let _ <- comprehension (.ListComp elt [⟨tg,iter,ifs,0⟩] scope pos) scope X.env _ (newList []) false (eval iter X.env) (some (assign (.Name y py) X.env))) _ _ s
 refine RF (R7 (Uj (use:=some (assign (.Name y py) X.env)) (Q:=λ_ s'=>SP X pins D .next s') rfl hs tV S.kind S.names
  (R7 (hi pins s σ H _ I h) (λxv a9 il=>R7 il (λit l6 t5=>?_) λ_ _ e=>e) λ_ _ e=>e)) (λ_ s' hq=>RQ (RQ hq)) λ_ _ e=>e)
 refine oO S hc hg hf iB t5 h1 h2 λA C H' s1 m hn fC c1 c2 c3 c4 hI q=>?_
 have I1:Inv X pins σ H' s1:=hI s1.heap (.refl ..)
 refine Va (oh I1 JQ Fk (.inl hy) (show RelV (.ref A) (.ref A) from rfl) (λs3 I3 ch=>?_) (.inr hy))
 obtain ⟨a,Gh,ha⟩:=ch
 have Oh:C≠a:=by
  rcases ha with z | z
  .rw [z]; exact c2
  .intro e; exact c3 y a z e.symm
 refine ⟨m,hn.sameBut Gh Oh,λh' k7=>?_⟩
 exact ⟨_,H',I3.turned (t':=s3.toks) (it:=C) (λb o hb e=>(k7.2 b hb).trans e) fC c2 (.inr c1) c3 c4,q⟩
end
def iC (sc scope:Scope) (N:List Str) (xs:List Str) (ix:List Nat) (N':List Str):Bool:=
 (scope.kind == .function) && scope.names.all (λy=> !(y.2 == .cell)) && scope.names.all (λy=> !(y.2 == .local) || (scope.names.lookup y.1 == some .local))
 && scope.names.all (λy=> !(y.2 == .free) || (sc.names.lookup y.1 == some .cell || sc.names.lookup y.1 == some .free))
 && (rf sc scope).all (λy=> !(y.2 == .cell || y.2 == .free) || scope.names.any (λz=>z.1 == y.1 && z.2 == .free))
 && (N' == xs ++ ix.map λj=>N.getD j "") && ix.all (λj=>decide (j < N.length) && scope.names.any (λz=>z.1 == N.getD j "" && z.2 == .free) && ((rf sc scope).lookup (N.getD j "") == some .cell || (rf sc scope).lookup (N.getD j "") == some .free))
theorem jG {sc scope:Scope} {N:List Str} {xs:List Str} {ix:List Nat} {N':List Str} (h:iC sc scope N xs ix N'=true) (e1:X.env.scope=sc) (e2:X.N=N):i3 X scope xs ix N':=by
 subst e1 e2
 unfold iC at h
 simp only [RT,Ss,Ti,SS,TY,Sf,Ta,S5] at h
 obtain ⟨⟨⟨⟨⟨⟨a1,a2⟩,a3⟩,a5⟩,a6⟩,a7⟩,a8⟩:=h
 refine ⟨a1,a2,λy hy hk=>(a3 y hy).elim (λz=>absurd hk z) id,λy hy hk=>(a5 y hy).elim (λz=>absurd hk z) id,λn _ hn=>?_,a7,λj hj=>?_⟩
 .have:∃ k,(n,k)∈rf X.env.scope scope /\ (k=NameKind.cell \/ k=NameKind.free):=by
   rcases hn with z | z
   .exact ⟨_,lookup_mem z,.inl rfl⟩
   .exact ⟨_,lookup_mem z,.inr rfl⟩
  obtain ⟨k,hk,jZ⟩:=this
  rcases a6 (n,k) hk with z | ⟨z,hz,e1,e2⟩
  .exfalso
   simp at z
   rcases jZ with q | q
   .exact z.1 q
   .exact z.2 q
  .obtain ⟨z1,z2⟩:=z
   cases e1; cases e2; exact hz
 .obtain ⟨⟨b1,⟨z,hz,e1,e2⟩⟩,b3⟩:=a8 j hj
  refine ⟨b1,?_,b3⟩
  obtain ⟨z1,z2⟩:=z
  cases e2
  have AQ:z1=X.N.getD j "":=e1
  rw [<- AQ]; exact hz
end
end L2
namespace L2
open PySem PySem.Spec PyProof.Rows LS
def mz (f:D->Option (Option D)):List D->Option (List D)
 | []=>some []
 | d :: ds=>(f d).bind λo=>(mz f ds).bind λxs=>some (match o with | some x=>x :: xs | none=>xs)
def cF (gi:DS->Option (List D)) (k:Nat) (ix:List Nat) (gt:D->DS->Option DS) (gc:DS->Option Bool) (ge:DS->Option D):DS->Option (List D):=λδ=>(gi δ).bind λds=>if ds.length<=100000 then
 mz (λd=>(gt d (List.replicate k none ++ cb ix δ)).bind λfU=>(gc fU).bind λb=>if b=true then (ge fU).map some else some none) ds else none
def Eg (k:Nat) (gt:D->DS->Option DS):Prop:=∀ d c fU,gt d (List.replicate k none ++ c)=some fU->∃ own:DS,own.length=k /\ fU=own ++ c
theorem jH:Eg 1 (bF 0):=λd c fU h=>by cases h; exact ⟨[some d],rfl,rfl⟩
set_option tactic.hygienic true in
theorem JS:Eg 2 (ml 2 (gR (bF 0) (gR (bF 1) oE))):=λd c fU h=>by
 unfold ml at h
 split at h
 .split at h
  .rename_i ds hl
   match ds,hl with
   | [a,b],_=>cases h; exact ⟨[some a,some b],rfl,rfl⟩
  .cases h
 .cases h
section
variable {K:PySem.W.Frag} {O:List Nat} {U A0:List Addr} {σ:St} {δ:DS} {H H1:Hp}
theorem Rel.weak {own c:DS} (R:Rel K [] U A0 σ (own ++ c) H):Rel K [] U A0 σ (List.replicate own.length none ++ c) H where
 len:=by rw [R.len]; simp
 fz:=λi e hi q=>by
  by_cases h:i < own.length
  .rw [List.getElem?_append_left (by simpa using h),List.getElem?_replicate,if_pos h] at q
   cases q
  .refine R.fz i e hi ?_
   rw [List.getElem?_append_right (by simpa using h)] at q
   rw [U6 (by omega)]
   simpa using q
 ow:=λi e hi=>by simp at hi
 inj:=λi j d e l hi=>by simp at hi
 al:=R.al
theorem Rel.GQ (R:Rel K O U A0 σ δ H) {ix:List Nat} (k:Nat) (rA:∀ j∈ix,j∉O):Rel K [] U A0 (List.replicate k none ++ L2.fu ix σ) (List.replicate k none ++ cb ix δ) H where
 len:=by simp [L2.fu,cb]
 fz:=λi e _ q=>by
  by_cases h:i < k
  .rw [List.getElem?_append_left (by simpa using h),List.getElem?_replicate,if_pos h] at q
   cases q
  .rw [List.getElem?_append_right (by simpa using h)] at q ⊢
   simp only [T8] at q ⊢
   unfold cb at q
   unfold L2.fu
   rw [Sa] at q ⊢
   cases ei:ix[i - k]? with
   | none=>rw [ei] at q; cases q
   | some j=>
     rw [ei] at q
     simp only [UQ,Ve] at q
     obtain ⟨u,hu,hd⟩:=R.fz j e (rA j (SW ei)) (join_some q)
     exact ⟨u,by simp [hu],hd⟩
 ow:=λi e hi=>by simp at hi
 inj:=λi j d e l hi=>by simp at hi
 al:=R.al
structure CB (K:PySem.W.Frag) (U A0:List Addr) (H1:Hp) (ds xs:List D) (F:D->Option (Option D)) (base:DS) (i:Nat) (ys:List V) (τ:St) (H2:Hp) (zs rest:List D):Prop where
 le:i<=ds.length
 s:av H1 H2
 R:Rel K [] U A0 τ base H2
 yl:ys.length<=i
 hz:b7 K (wo H2 (U ++ A0)) ys zs
 he:mz F (ds.drop i)=some rest
 hx:zs ++ rest=xs
def Oi (K:PySem.W.Frag) (U A0:List Addr) (H1:Hp) (ds xs:List D) (F:D->Option (Option D)) (base:DS) (i m:Nat) (ys:List V) (τ:St) (H2:Hp):Prop:=m=ds.length - i /\ ∃ zs rest,CB K U A0 H1 ds xs F base i ys τ H2 zs rest
theorem wV {J:It} {ix:List Nat} {k:Nat} {gt:D->DS->Option DS} {gc:DS->Option Bool} {ge:DS->Option D} {ds xs:List D} {Q:VK} (own:Eg k gt) (R:Rel K O U A0 σ δ H) (s:av H H1) (rA:∀ j∈ix,j∉O) (hw:WalksS K (U ++ A0) H1 J ds)
  (hl:ds.length<=100000) (e:mz (λd=>(gt d (List.replicate k none ++ cb ix δ)).bind λfU=>(gc fU).bind λb=>if b=true then (ge fU).map some else some none) ds=some xs)
  (q:∀ r ys H',av H H'->H r=none->H' r=some (.lst ys)->b7 K (wo H' (r :: (U ++ A0))) ys xs->Q (.ref r) H'):pV J k ix (tG K [] gt) (tT K [] gc) (tE K [] ge) σ H1 Q:=by
 have Oj:(100000:Nat) < sizeLine:=by decide
 obtain ⟨F,hF⟩:∃ F:D->Option (Option D),F=λd=>(gt d (List.replicate k none ++ cb ix δ)).bind λfU=>(gc fU).bind λb=>if b=true then (ge fU).map some else some none:=⟨_,rfl⟩
 rw [<- hF] at e
 refine ⟨Oi K U A0 H1 ds xs F (List.replicate k none ++ cb ix δ),⟨ds.length,rfl,[],xs,TF _,av.refl _,(R.same s).GQ k rA,RO _,.nil,e,rfl⟩,?_⟩
 rintro i m ys τ H2 ⟨rfl,zs,rest,w⟩
 have hle:=w.le
 have Cw:=w.yl
 have he:=w.he
 refine ⟨by omega,?_⟩
 obtain ⟨Gu,rq⟩:=hw i H2 w.s
 by_cases jf:i < ds.length
 .obtain ⟨go,HV⟩:=Gu _ (RP jf)
  rw [Tz jf,mz] at he
  generalize ds[i]=d at HV he
  obtain ⟨o,e1,e2⟩:=bind1 he
  obtain ⟨rs,e3,e4⟩:=bind1 e2
  rw [hF] at e1
  obtain ⟨fU,f1,f2⟩:=bind1 e1
  obtain ⟨b,f3,f4⟩:=bind1 f2
  obtain ⟨jH,ol,oe⟩:=own d _ fU f1
  refine .inr ⟨go,by omega,λv H3 y=>?_⟩
  obtain ⟨s3,hv⟩:=HV v H3 y
  refine ⟨U,A0,_,d,fU,w.R.same s3,hv,f1,λwQ R3=>⟨U,A0,fU,b,R3,f3,λH4 s4=>?_⟩⟩
  have wk:∀ {H':Hp},av H3 H'->Rel K [] U A0 wQ (List.replicate k none ++ cb ix δ) H':=λ{H'} s'=>by
   rw [<- ol]
   rw [oe] at R3
   exact (R3.same s').weak
  have lt:ds.length - (i + 1) < ds.length - i:=Nat.sub_lt_sub_left jf (Tb i)
  cases b with
  | true=>
    rw [RV rfl] at f4
    dsimp only
    rw [RV rfl]
    cases eg:ge fU with
    | none=>rw [eg] at f4; cases f4
    | some x=>
      rw [eg] at f4; cases f4
      cases e4
      exact ⟨U,A0,fU,x,R3.same s4,eg,λu H5 s5 hu=>⟨_,lt,rfl,zs ++ [x],rs,jf,((w.s.trans s3).trans s4).trans s5,wk (s4.trans s5),by rw [SO]; exact Nat.succ_le_succ Cw,(w.hz.same (cE ((s3.trans s4).trans s5))).app (.cons hu .nil),e3,by rw [<- w.hx,SN]; rfl⟩⟩
  | false=>
    rw [R4 RS] at f4
    dsimp only
    rw [R4 RS]
    cases f4
    cases e4
    exact ⟨_,lt,rfl,zs,rs,jf,(w.s.trans s3).trans s4,wk s4,Vh Cw,w.hz.same (cE (s3.trans s4)),e3,w.hx⟩
 .have hi:i=ds.length:=VB hle (UH jf)
  subst hi
  rw [Vp,mz] at he
  cases he
  have hx:=w.hx
  rw [SI] at hx
  subst hx
  exact .inl ⟨rq rfl,λp hp=>oB (s.trans w.s) q p ys hp w.hz⟩
end
section
variable {X:Cx} {O:List Nat} {fr:Fr} {scope:Scope} {elt iter tg:Expr} {ifs:List Expr} {pos:Pos} {gi:DS->Option (List D)} {ge:DS->Option D} {gt:D->DS->Option DS} {gc:DS->Option Bool} {k:Nat}
theorem PF.mono {t t':TT} (h:PF X ifs t) (m:∀ σ H Q,t' σ H Q->t σ H Q):PF X ifs t':=λpins s σ H Q I q=>h pins s σ H Q I (m σ H Q q)
theorem dN:PF X [] (tT X.K O λ_=>some true):=Ec.mono λσ H Q hh=>hh.e λU A0 δ b R e q=>by cases e; exact q H (av.refl H)
set_option tactic.hygienic true in
theorem mB {K:PySem.W.Frag} {ix:List Nat} (own:Eg k gt) (rA:∀ j∈ix,j∉O) {σ:St} {H:Hp} {Q:VK}:tN K O (cF gi k ix gt gc ge) σ H Q->t7 (A8 K O gi) k ix (tG K [] gt) (tT K [] gc) (tE K [] ge) σ H Q:=λ⟨U,A0,δ,xs,R,ed,q⟩=>by
 obtain ⟨ds,e1,e2⟩:=bind1 ed
 split at e2
 .rename_i hl
  exact ⟨U,A0,δ,ds,R,e1,λJ H1 s hw=>wV own R s rA hw hl e2 q⟩
 .cases e2
theorem c7 (sc:Scope) (N:List Str) (ix:List Nat) (N' xs:List Str) (own:Eg k gt) (hi:PI X tg iter (A8 X.K O gi)) (hg:∀ cl C s2 H2 fp pins,PG (aH X scope N' cl C s2 H2 fp pins) tg (tG X.K [] gt)) (hf:∀ cl C s2 H2 fp pins,PF (aH X scope N' cl C s2 H2 fp pins) ifs (tT X.K [] gc))
  (iB:∀ cl C s2 H2 fp pins,PE (aH X scope N' cl C s2 H2 fp pins) elt (tE X.K [] ge)) (rA:∀ j∈ix,j∉O:=by decide) (hk:iC sc scope N xs ix N'=true:=by decide +kernel) (hl:xs.length=k:=by rfl)
  (e1:X.env.scope=sc:=by rfl) (e2:X.N=N:=by rfl) (hc:X.calm=true:=by rfl) (hs:∀ x,foldedSetIterable iter X.env x=pure x:=by intro _; rfl):PE X (.ListComp elt [⟨tg,iter,ifs,0⟩] scope pos) (tN X.K O (cF gi k ix gt gc ge)):=by
 subst hl
 exact (oP (gd:=qP) (jG hk e1 e2) (λ_ _ _ _ _ _=>hc) hi hg hf iB hs).mono λ_ _ _=>mB own rA
theorem mC {i:Nat} {y:Str} {py yW:Pos} (sc:Scope) (N:List Str) (ix:List Nat) (N' xs:List Str) (JQ:X.N.Nodup) (Fk:X.N[i]?=some y) (hy:X.env.scope.names.lookup y=some .local) (own:Eg k gt) (hi:PI X tg iter (A8 X.K O gi))
  (hg:∀ cl C s2 H2 fp pins,PG (aH X scope N' cl C s2 H2 fp pins) tg (tG X.K [] gt)) (hf:∀ cl C s2 H2 fp pins,PF (aH X scope N' cl C s2 H2 fp pins) ifs (tT X.K [] gc)) (iB:∀ cl C s2 H2 fp pins,PE (aH X scope N' cl C s2 H2 fp pins) elt (tE X.K [] ge))
  (rA:∀ j∈ix,j∉O:=by decide) (hk:iC sc scope N xs ix N'=true:=by decide +kernel) (hl:xs.length=k:=by rfl)
  (e1:X.env.scope=sc:=by rfl) (e2:X.N=N:=by rfl) (hc:X.calm=true:=by rfl) (hs:∀ x,foldedSetIterable iter X.env x=pure x:=by intro _; rfl) (JR:swapsWith (.ListComp elt [⟨tg,iter,ifs,0⟩] scope pos) (some (.Name y py)) yW.line X.env=pure true:=by rfl):
  PS X (.Assign [.Name y py] (.ListComp elt [⟨tg,iter,ifs,0⟩] scope pos) yW) (lx (tN X.K O (cF gi k ix gt gc ge)) (ig i)):=by
 subst hl
 exact (wU (gd:=qP) (jG hk e1 e2) (λ_ _ _ _ _ _=>hc) hi hg hf iB hs JQ Fk hy JR).mono λ_ _ _ h=>mB own rA h
end
theorem mD:∀ {bs:List Bool} {its:List Value},aO (bs.map V.bl) its->its=bs.map Value.bool
 | [],_,.nil=>rfl
 | b :: l,_,.cons r t=>by
   rw [RY,<- mD t]
   cases (show _=Value.bool b from r)
   rfl
theorem all_range {bs:List Bool}:(List.range bs.length).all (λi=>bs.getD i true)=bs.all id:=by
 rw [TC,Ss,Ss]
 constructor
 .intro h b hb
  obtain ⟨i,hi,e⟩:=TQ hb
  have:=h i (TX.mpr hi)
  rw [R6,RP hi] at this
  rw [<- e]; exact this
 .intro h i hi
  have hi:=TX.mp hi
  rw [R6,RP hi]
  exact h _ (SQ hi)
theorem oQ {X:Cx} (hc:X.calm=true):cU X (.builtin "all") (λxs H Q=>∃ (p:Addr) (bs:List Bool),xs=[.ref p] /\ ie X.K H p (bs.map V.bl) /\ Q (.bl (bs.all id)) H):=by
 intro pins s σ H xs us Q I r h
 obtain ⟨p,bs,rfl,hq,q⟩:=h
 obtain ⟨u,rfl,rx⟩:=vals1 r
 cases rx
 obtain ⟨its,rv,pl,_⟩:=I.list hq
 have e:=mD rv
 subst e
 have jf:p≠s.heap.objs.size:=by
  obtain ⟨o,n,e1,_⟩:=pl
  exact RW (RR e1)
 refine call_all_walk (Vd pl.isList ?_)
 refine ⟨s.heap.objs.size,[s.heap.objs.size,p],[s.heap.objs.size],_,_,_,λi=>bs.getD i true,rfl,Walks.list (A:=X.A.in1) (I.ok.hd hc) _ p jf (bs.map Value.bool).toArray,⟨⟨_,RU _ rfl,rfl,rfl⟩,pl.isList.push _⟩,λi v s' Q' E' hP hQ=>?_,λh' tk k=>?_⟩
 .have GR:(bs.map Value.bool)[i]?=some v:=by simpa using hP
  rw [Sa] at GR
  cases eb:bs[i]? with
  | none=>rw [eb] at GR; cases GR
  | some b=>
    rw [eb] at GR; cases GR
    have MV:Q' (bs.getD i true) s':=hQ
    rw [R6,eb] at MV
    exact S4 MV
 .have e:(List.range (bs.map Value.bool).toArray.size).all (λi=>bs.getD i true)=bs.all id:=by rw [<- all_range]; simp
  rw [e]
  refine ⟨.bl _,H,I.kept (t':=tk) λb o e=>k b o (λz=>?_) (RG _ e),rfl,q⟩
  rw [Sn] at z
  exact absurd (RR e) (by rw [z]; exact Sg _)
theorem yX:bootBuiltins "all"=some (.builtin "all"):=by decide +kernel
def fM:List D->Option (List Bool)
 | []=>some []
 | .bool i :: l=>(fM l).map (i :: ·)
 | _ :: _=>none
theorem gW:∀ (ns:List Bool),fM (ns.map .bool)=some ns
 | []=>rfl
 | n :: ns=>by rw [RY,fM,gW ns]; rfl
theorem k8:∀ {l:List D} {ns:List Bool},fM l=some ns->l=ns.map .bool
 | [],_,h=>by cases h; rfl
 | d :: l,ns,h=>by
   cases d with
   | bool i=>
     rw [fM] at h
     cases e:fM l with
     | none=>rw [e] at h; cases h
     | some m=>rw [e] at h; cases h; rw [k8 e]; rfl
   | _=>cases h
theorem b7.toBools {K:PySem.W.Frag} {H:Hp}:∀ {ns:List Bool} {xs:List V},b7 K H xs (ns.map PyData.bool)->xs=ns.map V.bl
 | [],_,h=>by cases h; rfl
 | n :: ns,_,h=>by
   rw [RY] at h
   cases h with
   | cons a t=>cases a; rw [b7.toBools t]; rfl
def t8:List D->Option D
 | [.list l]=>(fM l).map λbs=>.bool (bs.all id)
 | _=>none
set_option tactic.hygienic true in
theorem vj {K:PySem.W.Frag}:mf K (λxs H Q=>∃ (p:Addr) (bs:List Bool),xs=[.ref p] /\ ie K H p (bs.map V.bl) /\ Q (.bl (bs.all id)) H) t8:=by
 intro A H vs ds d Q al h e q
 unfold t8 at e
 split at e
 .rename_i l
  cases eb:fM l with
  | none=>rw [eb] at e; cases e
  | some bs=>
    rw [eb] at e; cases e
    obtain ⟨v,rfl,h1⟩:=wB h
    obtain ⟨p,xs,rfl,h2,h3⟩:=h1.list
    rw [k8 eb] at h3
    rw [h3.toBools] at h2
    exact ⟨p,bs,rfl,h2.sq,q _ H (av.refl H) (.bl _)⟩
 .cases e
section
variable {X:Cx}
def t9 (K:PySem.W.Frag):R2:=λx y H Q=>∃ a b ys,x=.ref a /\ y=.ref b /\ jl K H a [] /\ jl K H b ys /\ Q (.ref b) H
theorem yY:gz X (binaryOp .Add) (t9 X.K):=by
 intro pins s σ H x y v u Q I rx ry h
 obtain ⟨a,b,ys,rfl,rfl,ha,hb,q⟩:=h
 cases rx
 cases ry
 obtain ⟨its,r1,p1,_⟩:=I.tuple ha
 obtain ⟨ya,r2,p2,_⟩:=I.tuple hb
 have e:=r1.lO.mpr rfl
 subst e
 obtain ⟨⟨c1,d1,Rv,JT⟩,ho,hc,n,hd⟩:=id p1
 obtain ⟨⟨c2,d2,Rx,AB⟩,lK,hc2,n2,hd2⟩:=id p2
 simp only at hc hd hc2 hd2
 subst hc hd hc2 hd2
 exact concat_meets ⟨_,ho,rfl⟩ ⟨_,lK,rfl⟩ noFill_tuple_add seq_tuple_add Ux Ut (Uh _ _) (tuple_addW0 a b #[] ya.toArray n n2 d1 d2 JT AB (by simp)) ⟨ho,lK,⟨.ref b,H,I,rfl,q⟩⟩
end
def aQ (a b:D):Option D:=match a,b with
 | .tuple [],.tuple l=>some (.tuple l)
 | a,b=>DO a b
theorem aM {X:Cx}:gz X (binaryOp .Add) (λx y H Q=>vd X.K x y H Q \/ t9 X.K x y H Q):=AS.or yY
theorem aD {K:PySem.W.Frag}:gN K (λx y H Q=>vd K x y H Q \/ t9 K x y H Q) aQ:=by
 intro A H x y dx dy d Q al hx hy e q
 unfold aQ at e
 split at e
 .cases e
  have hf:=hy.fz
  obtain ⟨a,xs,rfl,h1,h2⟩:=hx.tuple
  obtain ⟨b,zs,rfl,h3,h4⟩:=hy.tuple
  cases h2
  exact .inr ⟨a,b,zs,rfl,rfl,h1,h3,q _ H (av.refl H) hf⟩
 .exact .inl (AU A H x y _ _ d Q al hx hy e q)
section
variable {X:Cx} {O:List Nat} {a:Expr} {ge:DS->Option D} {p pos:Pos} {es:List Expr} {kk} {qS:Pos}
end
end L2
namespace LS
open PySem PySem.Spec PyProof.Rows
section
variable {prog:Program} {w:World} {A:Around} {E:Value->Shared->Prop} {s:Shared}
end
section
variable {prog:Program} {w:World} {A:Around} {E:Value->Shared->Prop} {s:Shared}
end
end LS
namespace L2
open PySem PySem.Spec PyProof.Rows LS
section
variable {X:Cx} {O:List Nat} {a:Expr} {ge:DS->Option D} {p pos:Pos} {es:List Expr} {kk} {qS:Pos}
end
section
variable {X:Cx} {O:List Nat} {a b:Expr} {ga gb:DS->Option D} {p pos:Pos} {es:List Expr} {kk} {qS:Pos}
end
end L2
namespace L2
open PySem PySem.Spec PyProof.Rows
section
variable {X:Cx} {O:List Nat} {e:Expr}
end
def bV (K0:PySem.W.Frag):PySem.W.Frag:=K0.filter λq=>(cg.lookup q.1).isNone
theorem fN (b:Addr):∀ K0:PySem.W.Frag,(bV K0).lookup b=if (cg.lookup b).isNone=true then K0.lookup b else none
 | []=>by simp [bV]
 | (c,o) :: r=>by
   have ih:=fN b r
   unfold bV at ih ⊢
   rw [List.filter_cons]
   by_cases e:b=c
   .subst e
    by_cases q:(cg.lookup b).isNone=true
    .rw [RV q,RV q,SX,SX]; simp
    .rw [R4 q,R4 q]; rw [R4 q] at ih; exact ih
   .have e':(b == c)=false:=by simpa using e
    rw [SX,e']
    by_cases q:(cg.lookup c).isNone=true
    .rw [RV q,SX,e']; exact ih
    .rw [R4 q]; exact ih
structure kg (K0:PySem.W.Frag):Prop where
 one:∀ p xs,(p,xs)∈cg->cg.lookup p=some xs
 tup:∀ p xs,cg.lookup p=some xs->∃ (od:Option Addr) (its:Array Value) (n:Nat) (sl:Array (Option Value)),K0.lookup p=some ⟨.type "tuple",od,.seq its n,sl⟩ /\ xs.length<=sizeLine /\ aO xs its.toList
theorem kg.look {K0:PySem.W.Frag} (C:kg K0) {b:Addr} {o:Obj} (h:K0.lookup b=some o) (n:∀ its n,o.data≠.seq its n):(bV K0).lookup b=some o:=by
 rw [fN]
 cases q:cg.lookup b with
 | none=>exact h
 | some xs=>
   obtain ⟨od,its,k,sl,e,_⟩:=C.tup b xs q
   rw [h] at e; cases e
   exact absurd rfl (n its k)
theorem kg.func {K0:PySem.W.Frag} (C:kg K0) {x qual:Str} {st:Stmt} {f:Addr} {fd:FuncData} (F:jY K0 x qual st f fd):jY (bV K0) x qual st f fd:=by
 obtain ⟨⟨oc,od,kV,doc,pm,an,b6,ct,tz,e1,e2,e3⟩,kp⟩:=F
 have E9:=C.look e2 (λits n z=>by cases z)
 refine ⟨⟨oc,od,kV,doc,pm,an,b6,ct,tz,e1,E9,?_⟩,?_⟩
 .unfold PySem.W.codeIn at e3 ⊢
  cases b6 with
  | ref c=>
    simp only at e3 ⊢
    cases q:K0.lookup c with
    | none=>rw [q] at e3; exact absurd e3 (by simp)
    | some ob=>
      obtain ⟨c1,c2,dt,c4⟩:=ob
      rw [q] at e3
      cases dt with
      | fields vs=>rw [C.look q (λits n z=>by cases z)]; exact e3
      | _=>exact absurd e3 (by simp)
  | _=>exact e3
 .unfold PySem.W.keepIn
  simp only [E9]
def Hc (K0:PySem.W.Frag):Hp:=λb=>match cg.lookup b with
 | some xs=>(K0.lookup b).map λob=>HO.lY ob (.tup xs)
 | none=>none
theorem wW {P:Program} {w:World} {K0:PySem.W.Frag} {mg mb:Str->Option Value} {CX:xx} {k:Nat} {fa a:Addr} {fd:FuncData} {x:Str} {sp:Sp} {a9:Shared} {vs:List Value} {ns:List Int} (C:kg K0)
  (KX:K0.In a9.heap) (Af:a9.heap.Ns mainGlobals mg) (hb:a9.heap.Ns builtinsNs mb) (Ol:∀ x:Str,x≠"__name__"->mb x=bootBuiltins x) (JU:a9.heap.NoLimit) (hg:a9.gens=#[])
  (ha:a9.heap.get? a=some { cls:=.type "list",data:=.seq vs.toArray }) (hi:IntsAre vs ns) (hl:ns.length<=sizeLine) (hr:dQ k callerA)
  (F:∀ base:Heap,(bV K0).In base->base.Ns mainGlobals mg->ly P w (bV K0) mg base CX k fa fd [x] sp) (GS:∀ (s:Shared) (u:Value),BindsTo s fd ⟨[u],[]⟩ [(x,u)])
  (xX:∀ H:Hp,sS (bV K0) H a (ns.map V.int)->(∀ p xs,(p,xs)∈cg->fG H p xs)->sp [.ref a] H (λv _=>v=.bl true) λ_ _ _=>False)
  (JV:∀ H e s',CX [] H a9 (λ_ _ _=>False) e s'->False):
  codeAny (model P w) callerA (.call (.ref fa) ⟨[.ref a],[]⟩) (λr s'=>r=.ok (.ret (.bool true)) /\ OldK a9.heap s'.heap /\ s'.os=a9.os /\ AllBare s'.gens) a9:=by
 have rv:=oy hi
 have JW:=hi.length
 have core:∀ H:Hp,(∀ b,H b=none \/ ∃ o u,H b=some (.lY o u))->sS (bV K0) H a (ns.map V.int)->kx P w H a9.heap->(∀ p xs,(p,xs)∈cg->fG H p xs)->(∀ b o es ep,H b≠none->a9.heap.get? b=some o->o.data≠.dict es ep)->(∀ b,H b≠none->(bV K0).lookup b=none)->
   codeAny (model P w) callerA (.call (.ref fa) ⟨[.ref a],[]⟩) (λr s'=>r=.ok (.ret (.bool true)) /\ OldK a9.heap s'.heap /\ s'.os=a9.os /\ AllBare s'.gens) a9:=by
  intro H hO hS bo hT hD hK
  have vk:∀ {b:Addr} {o:Obj},a9.heap.get? b=some o->H b=none->(o9 a9.heap H).get? b=some o:=λe n=>xF e n
  have F7:∀ {b:Addr} {o:Obj} {es:Array DictEntry} {ep:Nat},a9.heap.get? b=some o->o.data=.dict es ep->H b=none:=λ{b o es ep} e d=>by
   cases q:H b with
   | none=>rfl
   | some u=>exact absurd d (hD b o es ep (by rw [q]; simp) e)
  have HW:∀ {b:Addr} {m:Str->Option Value},a9.heap.Ns b m->(o9 a9.heap H).Ns b m:=λ{b m} ⟨o,es,ep,e,d,r⟩=>⟨o,es,ep,vk e (F7 e d),d,r⟩
  have MW:(bV K0).In (o9 a9.heap H):=λb o e=>by
   have e0:K0.lookup b=some o:=by
    rw [fN] at e
    split at e
    .exact e
    .cases e
   refine vk (KX b o e0) ?_
   cases q:H b with
   | none=>rfl
   | some u=>rw [hK b (by rw [q]; simp)] at e; cases e
  have hM:Mod (bV K0) mg (o9 a9.heap H):=⟨MW,HW Af,⟨mb,HW hb,Ol⟩,let ⟨mc,h1,h2⟩:=JU; ⟨mc,HW h1,h2⟩⟩
  have e0:wj P w (bV K0) mg (o9 a9.heap H) callerA [] a9 H:=⟨rfl,hM,λb o e=>Am e,Nat.le_of_eq (vY _ _),trivial,λb hb=>absurd (show b∈([]:List Addr) from hb) (by simp),bo,.of_eq hg⟩
  refine Ud ((F _ MW (HW Af)).run callerA [] a9 H ⟨[.ref a],[]⟩ [.ref a] [.ref a] _ _ hr e0 (GS a9 (.ref a)) (.cons rfl .nil) (xX H hS hT)) λr s' h=>?_
  cases r with
  | error e=>exact (JV H e s' h).elim
  | ok fl=>
    cases fl with
    | next=>exact False.elim h
    | brk=>exact False.elim h
    | cont=>exact False.elim h
    | ret u=>
      obtain ⟨v,H',os,bare,un,JX,r',q⟩:=h
      have q':v=.bl true:=q
      subst q'
      obtain rfl:u=Value.bool true:=r'
      refine ⟨rfl,OldK.of_keep λb o e=>?_,os,bare⟩
      cases q:H b with
      | none=>exact un.keep b o e q (by intro z; exact absurd (show b∈([]:List Addr) from z) (by simp)) (by simp)
      | some u=>
        rcases hO b with z | ⟨ob,xs,z⟩
        .rw [q] at z; cases z
        .have z2:=un.jc b ob _ z
         obtain ⟨e1,_⟩:=bo b _ z
         obtain ⟨e2,_⟩:=JX b _ z2
         rw [e] at e1; cases e1
         exact e2
 have HX:∀ b,Hc K0 b=none \/ ∃ ob xs od its n sl,Hc K0 b=some (.lY ob (.tup xs)) /\ cg.lookup b=some xs /\ K0.lookup b=some ob /\ ob=⟨.type "tuple",od,.seq its n,sl⟩ /\ xs.length<=sizeLine /\ aO xs its.toList:=by
  intro b
  unfold Hc
  cases q:cg.lookup b with
  | none=>exact .inl rfl
  | some xs=>
    obtain ⟨od,its,n,sl,e,h1,h2⟩:=C.tup b xs q
    refine .inr ⟨_,xs,od,its,n,sl,?_,rfl,e,rfl,h1,h2⟩
    show (K0.lookup b).map _=_
    rw [e]; rfl
 have MX:∀ (H:Hp) b ob u,Hc K0 b=some (.lY ob u)->cA P w H a9.heap b (.lY ob u):=λH b ob u e=>by
  rcases HX b with z | ⟨JY,xs,od,its,n,sl,z,_,z2,rfl,z3,z4⟩
  .rw [z] at e; cases e
  .rw [z] at e; cases e
   have Bh:=KX b _ z2
   exact ⟨Bh,z3,its.toList,z4,_,Bh,rfl,n,by simp⟩
 have MY:∀ p xs,(p,xs)∈cg->∃ ob,Hc K0 p=some (.lY ob (.tup xs)):=λp xs m=>by
  obtain ⟨od,its,n,sl,e,_⟩:=C.tup p xs (C.one p xs m)
  refine ⟨⟨.type "tuple",od,.seq its n,sl⟩,?_⟩
  unfold Hc
  rw [C.one p xs m]
  show (K0.lookup p).map _=_
  rw [e]; rfl
 have MZ:∀ b o es ep,Hc K0 b≠none->a9.heap.get? b=some o->o.data≠.dict es ep:=λb o es ep z e d=>by
  rcases HX b with q | ⟨JY,xs,od,its,n,sl,q,_,z2,rfl,_⟩
  .exact z q
  .have Bh:=KX b _ z2
   rw [Bh] at e; cases e; cases d
 have M0:∀ b,Hc K0 b≠none->(bV K0).lookup b=none:=λb z=>by
  rcases HX b with q | ⟨JY,xs,od,its,n,sl,q,q2,_⟩
  .exact absurd q z
  .rw [fN,q2]; rfl
 have HY:∀ b,Hc K0 b=none \/ ∃ o u,Hc K0 b=some (.lY o u):=λb=>by
  rcases HX b with q | ⟨JY,xs,od,its,n,sl,q,_⟩
  .exact .inl q
  .exact .inr ⟨_,_,q⟩
 cases hk:K0.lookup a with
 | some o=>
   have e:=KX a o hk
   rw [ha] at e
   cases e
   have Fm:cg.lookup a=none:=by
    cases q:cg.lookup a with
    | none=>rfl
    | some xs=>
      obtain ⟨od,its,n,sl,e,_⟩:=C.tup a xs q
      rw [hk] at e
      exact absurd (Tw Obj.cls (Su e)) (by intro z; exact absurd (Value.type.inj z) (by decide))
   refine core (Hc K0) HY (.inr ⟨vs,_,by rw [fN,Fm]; exact hk,by rw [JW]; exact hl,rv⟩) (λb u z=>?_) (λp xs m=>.inr (MY p xs m)) MZ M0
   rcases HY b with q | ⟨ob,u',q⟩
   .rw [q] at z; cases z
   .rw [q] at z; cases z
    exact MX _ b ob u' q
 | none=>
   have Fm:cg.lookup a=none:=by
    cases q:cg.lookup a with
    | none=>rfl
    | some xs=>
      obtain ⟨od,its,n,sl,e,_⟩:=C.tup a xs q
      rw [hk] at e; cases e
   have GU:Hc K0 a=none:=by unfold Hc; rw [Fm]
   refine core (λb=>if b=a then some (.lY { cls:=.type "list",data:=.seq vs.toArray } (.lst (ns.map V.int))) else Hc K0 b) (λb=>?_) (.inl (.inr ⟨{ cls:=.type "list",data:=.seq vs.toArray },RV rfl⟩)) (λb u z=>?_) (λp xs m=>?_) (λb o es ep z e d=>?_) λb z=>?_
   .by_cases hb:b=a
    .exact .inr ⟨_,_,RV hb⟩
    .rcases HY b with q | ⟨ob,u,q⟩
     .exact .inl ((R4 hb).trans q)
     .exact .inr ⟨ob,u,(R4 hb).trans q⟩
   .by_cases hb:b=a
    .have z':=(RV hb).symm.trans z
     cases z'
     subst hb
     exact ⟨ha,by rw [RJ]; exact hl,vs,_,rv,ha⟩
    .have z':=(R4 hb).symm.trans z
     rcases HY b with q | ⟨ob,u',q⟩
     .rw [q] at z'; cases z'
     .rw [q] at z'; cases z'
      exact MX _ b ob u' q
   .obtain ⟨ob,q⟩:=MY p xs m
    refine .inr ⟨ob,?_⟩
    have hb:p≠a:=λe=>by rw [e,GU] at q; cases q
    exact (R4 hb).trans q
   .by_cases hb:b=a
    .subst hb
     rw [ha] at e; cases e; cases d
    .exact MZ b o es ep (λq=>z ((R4 hb).trans q)) e d
   .by_cases hb:b=a
    .subst hb
     rw [fN,Fm]; exact hk
    .exact M0 b λq=>z ((R4 hb).trans q)
theorem yZ {l:PySem.W.OpenLaw} {n k:Nat} {q:Program} {loose:List Str} {XP:(Str->Option Value)->Heap->Prop} {YP:World->Heap->Prop} {d:DefRec} {K:Params->PySem.W.Frag} {CX:World->xx} {sp:World->Sp} {x:Str}
  (hn:l.most=some n) (Om:n<=sizeLine) (Gd:d.params.defaults=[]) (hr:dQ k callerA) (hY:∀ (w:World) (h:Heap),YP w h->(K w.params).In h)
  (F:∀ (w:World) (mg:Str->Option Value) (fa:Addr) (h:Heap),(K w.params).In h->h.Ns mainGlobals mg->mg d.name=some (.ref fa)->kg (K w.params) /\
   ∃ fd:FuncData,(∀ (s:Shared) (u:Value),BindsTo s fd ⟨[u],[]⟩ [(x,u)]) /\ ∀ base:Heap,(bV (K w.params)).In base->base.Ns mainGlobals mg->ly l.prog w (bV (K w.params)) mg base (CX w) k fa fd [x] (sp w))
  (xX:∀ (w:World) (H:Hp) (a:Addr) (ns:List Int),ns.length<=n->sS (bV (K w.params)) H a (ns.map V.int)->(∀ p xs,(p,xs)∈cg->fG H p xs)->sp w [.ref a] H (λv _=>v=.bl true) λ_ _ _=>False)
  (JV:∀ (w:World) (H:Hp) (s:Shared) (e:Value) (s':Shared),CX w [] H s (λ_ _ _=>False) e s'->False):
  PySem.W.WalkO q loose XP YP l.row.toRowW d [] (λf vs=>PySem.call f vs):=by
 refine Mz.qZ hn Gd λw ee a9 mg mb fa o pm cd doc a vs ns G Y ho hd nB Ge DC hints hlen hg=>?_
 have KX:=hY w _ Y
 obtain ⟨C,fd,hb,hF⟩:=F w mg fa _ KX G.T.g Ge
 exact wW C KX G.T.g G.T.b G.T.builtins G.T.nolimit hg DC hints (Sj hlen Om) hr hF hb (λH hS hT=>xX w H a ns hlen hS hT) λH e s'=>JV w H a9 e s'
section
variable {X:Cx}
end
set_option tactic.hygienic true in
theorem vm (gi:DS->Option (List D)) (ix:List Nat) (ge:DS->Option D):b4 gi ix ge=cF gi 1 ix (bF 0) (λ_=>some true) ge:=by
 funext δ
 unfold b4 cF
 cases gi δ with
 | none=>rfl
 | some ds=>
   rw [RH,RH]
   split
   .induction ds with
    | nil=>rfl
    | cons d ds ih=>
      rename_i h
      rw [yE,mz,ih (by rw [Sx] at h; omega)]
      show _=Option.bind (Option.map some (ge (some d :: cb ix δ))) _
      cases ge (some d :: cb ix δ) <;> rfl
   .rfl
section
variable {X:Cx} {O:List Nat} {gi:DS->Option (List D)} {ix:List Nat} {ge:DS->Option D}
theorem PE.wX {e:Expr} (h:PE X e (tN X.K O (cF gi 1 ix (bF 0) (λ_=>some true) ge))):PE X e (tN X.K O (b4 gi ix ge)):=by rw [vm]; exact h
theorem PS.wX {st:Stmt} {i:Nat} (h:PS X st (lx (tN X.K O (cF gi 1 ix (bF 0) (λ_=>some true) ge)) (ig i))):PS X st (lx (tN X.K O (b4 gi ix ge)) (ig i)):=by rw [vm]; exact h
end
end L2
namespace L2
open PySem PySem.Spec PyProof.Rows PySem.Calls
set_option maxRecDepth 100000
section
variable {prog:Program} {w:World} {A:Around} {E:Value->Shared->Prop} {s:Shared}
end
section
variable {X:Cx} {O:List Nat} {a:Expr} {ge:DS->Option D} {p1 p2 q1 q2:Pos} {ta:TA}
end
end L2
namespace L2
open PySem PySem.Spec PyProof.Rows PySem.Calls
set_option maxRecDepth 100000
section
variable {prog:Program} {w:World} {A:Around} {E:Value->Shared->Prop} {s:Shared}
end
section
variable {X:Cx} {O:List Nat} {a:Expr} {gr:DS->Option (List D)} {p1 p2 q1 q2:Pos} {ta:TA}
end
end L2
namespace L2
open PySem PySem.Spec PyProof.Rows
def M1 (x:Str):It:=⟨λi _=>i < x.cps.size,λi H v H'=>H'=H /\ ∃ c,x.cps[i]?=some c /\ v=.str ⟨#[c]⟩,λi _=>x.cps.size<=i⟩
theorem wY {P:Program} {w:World} {K:PySem.W.Frag} {tg:Expr} (x:Str) (t:Tok) (it:Addr):Turn P w K tg (M1 x) [it] it (λi h=>h.IsStrIter it "str_ascii_iterator" x t i) where
 mem:=by simp
 obj:=λi h st b hb=>by
  have e:b=it:=by simpa using hb
  subst e
  obtain ⟨o,e,c,d⟩:=st
  exact ⟨o,e,λv z=>by rw [d] at z; cases z⟩
 keep:=λi h h' st k=>by
  obtain ⟨o,e,r⟩:=st
  exact ⟨o,k it (by simp) o e,r⟩
 item:=by
  intro X hP hw hK hc i pins s σ H E I hf st hg
  subst hP hw hK
  obtain ⟨c,hx⟩:∃ c,x.cps[i]?=some c:=⟨x.cps[i]'hg,SH hg⟩
  obtain ⟨f0,f1,f2,f3,f4,f5⟩:=hf it (by simp)
  refine wpAny_pyNext_ascii_item st hx λh' lN sb=>?_
  have I1:Inv X pins σ H { s with heap:=h',toks:=s.toks + 1 }:=I.turned (t':=s.toks + 1) (λb o hb e=>(sb.2 b hb).trans e) f0 f1 f3 f4 f5
  obtain ⟨o,e,c',d⟩:=id lN
  exact ⟨_,rfl,qQ (s:={ s with heap:=h',toks:=s.toks + 1 }) e c' d (by decide) ⟨.str ⟨#[c]⟩,H,I1,⟨_,rfl⟩,⟨rfl,c,hx,rfl⟩,lN,λb hb=>(hf b hb).1⟩⟩
 done:=by
  intro X hP hw hK hc i pins s σ H E I hf st hg
  subst hP hw hK
  obtain ⟨f0,f1,f2,f3,f4,f5⟩:=hf it (by simp)
  exact wpAny_pyNext_ascii_end (I.ok.hd hc) st (UC hg) λh' eb=>⟨rfl,I.turned (t':=s.toks) (λb o hb e=>eb b o hb e) f0 f1 f3 f4 f5⟩
 self:=λ_ _ _ _ _ st h=>wpAny_pyIter_striter_ascii st h
def JZ (tl:TE):TI:=λσ H R=>tl σ H λv H1=>∃ x,v=.str x /\ x.cps.all (· < 128)=true /\ R (M1 x) H1
def iD (x:Str):List D:=x.cps.toList.map λc=>.str ⟨#[c]⟩
def iE (g:DS->Option D):DS->Option (List D):=λδ=>(g δ).bind λ| .str x=>if x.cps.all (· < 128)=true then some (iD x) else none | _=>none
section
variable {X:Cx} {O:List Nat} {tg e o y:Expr} {ge go:DS->Option D} {apos eE:Pos}
theorem Bi {l:Expr} {tl:TE} (hl:PE X l tl):PI X tg l (JZ tl):=by
 intro pins s σ H R I h
 refine eh (hl pins s σ H _ I h) λv s1 ⟨x,H1,I1,r1,z,e,ha,q⟩=>?_
 subst e
 obtain ⟨t,rfl⟩:=r1
 refine wpAny_pyIter_ascii ha ?_
 refine ⟨s1.heap.objs.size,[s1.heap.objs.size],_,_,H1,rfl,I1.kept (t':=s1.toks) λb o e=>RG _ e,wY z t _,⟨_,RU _ rfl,rfl,rfl⟩,λb hb=>?_,q⟩
 have e:b=s1.heap.objs.size:=by simpa using hb
 subst e
 exact I1.sZ (RO _) (I1.bo.fresh (RO _))
theorem HD.text {K:PySem.W.Frag} {H:Hp} {v:V} {x:Str} (h:HD K H v (.str x)):v=.str x:=by cases h; rfl
theorem y0 (h:PE X e (tE X.K O ge)):PI X tg e (tI X.K O (iE ge)):=(Bi h).mono λσ H Q hh=>hh.e λU A0 δ ds R ed q=>by
 obtain ⟨x,e1,e2⟩:=bind1 ed
 cases x with
 | str x=>
   replace e2:(if x.cps.all (· < 128)=true then some (iD x) else none)=some ds:=e2
   by_cases ha:x.cps.all (· < 128)=true
   .rw [RV ha] at e2
    cases e2
    refine ⟨U,A0,δ,_,R,e1,λv H' s h=>⟨x,h.text,ha,q _ H' s ?_⟩⟩
    intro A' i H2 s2 _
    refine ⟨λd hd=>?_,λhi=>?_⟩
    .rw [iD,Sa,Array.getElem?_toList] at hd
     cases hc:x.cps[i]? with
     | none=>rw [hc] at hd; cases hd
     | some c=>
       rw [hc] at hd
       cases hd
       refine ⟨(Sz.mp hc).1,λv H3 hy=>?_⟩
       obtain ⟨rfl,c',CY,rfl⟩:=hy
       rw [hc] at CY; cases CY
       exact ⟨av.refl _,.str _⟩
    .show x.cps.size<=i
     rw [hi,iD,RJ,Sd]
     exact RO _
   .rw [R4 ha] at e2; cases e2
 | _=>cases e2
def pW:List D->Option D
 | [.int i]=>if i.natAbs < 1000000 then some (.str (toString i:String)) else none
 | _=>none
set_option tactic.hygienic true in
theorem pX {K:PySem.W.Frag}:mf K (λxs H Q=>∃ i:Int,xs=[.int i] /\ i.natAbs.log2 < 1920 /\ Q (.str (toString i:String)) H) pW:=by
 intro A H vs ds d Q al h e q
 unfold pW at e
 split at e
 .rename_i i
  split at e
  .rename_i hz
   cases e
   obtain ⟨v,rfl,h1⟩:=wB h
   refine ⟨i,by rw [h1.int],?_,q _ H (av.refl H) (.str _)⟩
   have:i.natAbs.log2 < 20:=by
    by_cases h0:i.natAbs=0
    .rw [h0]; decide
    .exact (Nat.log2_lt h0).mpr (Nat.lt_trans hz (by decide))
   omega
  .cases e
 .cases e
def vn:List D->Option D
 | [.str x]=>if x.length<=640 then (PySem.intText? x).map .int else none
 | _=>none
theorem oR:cU X (.type "int") (λxs H Q=>∃ x n,xs=[.str x] /\ x.length<=640 /\ PySem.intText? x=some n /\ Q (.int n) H):=by
 intro pins s σ H xs us Q I r h
 obtain ⟨x,n,rfl,hl,hn,q⟩:=h
 obtain ⟨u,rfl,t,rfl⟩:=vals1 r
 exact PySem.W.KIN.call_text hn hl ⟨.int _,H,I.tok _,⟨_,rfl⟩,q⟩
theorem fT.text {K:PySem.W.Frag} {A:List Addr} {H:Hp} {v:V} {x:Str} (h:fT K A H v (.str x)):v=.str x:=by
 rcases h with h | ⟨l,o,rfl,e,q⟩
 .exact h.text
 .cases q
set_option tactic.hygienic true in
theorem rL {K:PySem.W.Frag}:mf K (λxs H Q=>∃ x n,xs=[.str x] /\ x.length<=640 /\ PySem.intText? x=some n /\ Q (.int n) H) vn:=by
 intro A H vs ds d Q al h e q
 unfold vn at e
 split at e
 .rename_i x
  split at e
  .rename_i hz
   obtain ⟨n,hn,rfl⟩:=Tp.mp e
   obtain ⟨v,rfl,h1⟩:=wB h
   exact ⟨x,n,by rw [h1.text],hz,hn,q _ H (av.refl H) (.int _)⟩
  .cases e
 .cases e
def lG (b:Bool):D->D->Option D:=λx y=>match x,y with
 | .str i,.str j=>some (.bool ((!(Builtin.Str.occurrences j i 0 j.length 1).isEmpty) == b))
 | _,_=>none
set_option tactic.hygienic true in
theorem vo {K:PySem.W.Frag}:gN K (λx y H Q=>∃ i j,x=.str i /\ y=.str j /\ Q (.bl (!(Builtin.Str.occurrences j i 0 j.length 1).isEmpty)) H) (lG true):=by
 intro A H x y dx dy d Q al hx hy e q
 unfold lG at e
 split at e
 .rename_i i j
  cases e
  refine ⟨i,j,hx.text,hy.text,?_⟩
  have:=q (.bl (!(Builtin.Str.occurrences j i 0 j.length 1).isEmpty)) H (av.refl H) (by rw [beq_true]; exact .bl _)
  exact this
 .cases e
def jI:List D->Option (List Str)
 | []=>some []
 | .str x :: l=>(jI l).map (x :: ·)
 | _ :: _=>none
theorem mE:∀ (xs:List Str),jI (xs.map .str)=some xs
 | []=>rfl
 | n :: ns=>by rw [RY,jI,mE ns]; rfl
theorem k9:∀ {l:List D} {ns:List Str},jI l=some ns->l=ns.map .str
 | [],_,h=>by cases h; rfl
 | d :: l,ns,h=>by
   cases d with
   | str x=>
     rw [jI] at h
     obtain ⟨r,hr,rfl⟩:=Tp.mp h
     rw [RY,k9 hr]
   | _=>cases h
theorem b7.toTexts {K:PySem.W.Frag} {H:Hp}:∀ {ns:List Str} {xs:List V},b7 K H xs (ns.map .str)->xs=ns.map .str
 | [],_,h=>by rw [UW] at h; cases h; rfl
 | n :: ns,_,h=>by
   rw [RY] at h
   cases h with
   | cons a t=>rw [a.text,b7.toTexts t]; rfl
theorem mF:∀ {ns:List Str} {us:List Value},aO (ns.map V.str) us->∃ l:List (Str×Tok),us=strValues l /\ l.map (·.1)=ns
 | [],_,r=>by rw [UW] at r; cases r; exact ⟨[],rfl,rfl⟩
 | n :: ns,_,r=>by
   rw [RY] at r
   cases r with
   | cons h t=>
     obtain ⟨k,rfl⟩:=h
     obtain ⟨l,rfl,e⟩:=mF t
     exact ⟨(n,k) :: l,rfl,by rw [RY,e]⟩
def rJoin (K:PySem.W.Frag):V->List V->Hp->VK->Prop:=λx vs H Q=>∃ sep p ns,x=.str sep /\ vs=[.ref p] /\ ie K H p (ns.map V.str) /\ JoinOk sep ns=true /\ Q (.str (Txt.join sep ns)) H
theorem Bj:HK X "str.join" (rJoin X.K):=by
 intro pins s σ H x vs v us Q I rx rv h
 obtain ⟨sep,p,ns,rfl,rfl,hq,hj,q⟩:=h
 obtain ⟨t,rfl⟩:=rx
 obtain ⟨u,rfl,ru⟩:=vals1 rv
 cases ru
 obtain ⟨its,r',pl,hz⟩:=I.list hq
 obtain ⟨l,rfl,hl⟩:=mF r'
 exact SC.join pl.isList hl hj λt' k=>⟨.str _,H,I.tok _,⟨_,rfl⟩,q⟩
def fX (go ge:DS->Option D):DS->Option D:=λδ=>(go δ).bind λs=>(ge δ).bind λx=>match s,x with
 | .str sep,.list l=>(jI l).bind λns=>if JoinOk sep ns=true then some (.str (Txt.join sep ns)) else none
 | _,_=>none
set_option tactic.hygienic true in
theorem i4 (ho:PE X o (gK X.K O go)) (he:PE X e (tE X.K O ge)) (qX:attributeBase o "join" X.env (eval o X.env)=eval o X.env:=by rfl)
  (yd:((backTo eE (starEach [e] X.env)).all (λx=> !x.1) && (backToKw eE (keywordEach [] X.env)).all (λx=>x.1.isSome) && decide ([e].length + ([]:List Keyword).length + (if ([]:List Keyword).isEmpty then 0 else 1) < 30))=true:=by rfl)
  (qY:(apos.endLine == eE.line)=true:=by rfl) (hs:starEach [e] X.env=[(false,eval e X.env)]:=by rfl) (A7:starEach ([]:List Expr) X.env=[]:=by rfl):
  PE X (.Call (.Attribute o "join" apos) [e] [] eE) (tE X.K O (fX go ge)):=
 (qW PySem.F.plainAttrs_str PySem.F.slot_str_join PySem.F.type_str_join Bj ho (cq he el (by rw [hs,A7])) qX yd qY (by rw [hs,A7]) (by rw [A7]; rfl)).mono λσ H Q hh=>hh.e λU A0 δ d R ed q=>by
  obtain ⟨s,e1,ed⟩:=bind1 ed
  obtain ⟨x,e2,ed⟩:=bind1 ed
  cases s with
  | str sep=>
    cases x with
    | list l=>
      obtain ⟨ns,e3,ed⟩:=bind1 ed
      split at ed
      .rename_i hj
       cases ed
       refine ⟨U,A0,δ,_,R,e1,λv H1 s1 h1=>?_⟩
       rw [h1.text]
       refine ⟨rfl,U,A0,δ,_,R.same s1,e2,λw H2 s2 h2=>?_⟩
       cases h2 with
       | lst hq h=>
         rw [k9 e3] at h
         rw [h.toTexts] at hq
         exact ⟨sep,_,ns,rfl,rfl,(hq.same dM).sq,hj,q _ H2 (s1.trans s2) (.str _)⟩
      .cases ed
    | _=>cases ed
  | _=>cases ed
theorem wZ {M:Program} {w:World} {A:Around} {E:Value->Shared->Prop} {s:Shared} {x y:Str} {t u:Tok} {Q:Value->Shared->Prop} (hy:(y.length == 0)=false) (AA:x.length<=sizeLine)
  (J0:(Builtin.Str.partsBetween x (Builtin.Str.occurrences x y 0 x.length (x.length + 1)) y.length).length<=sizeLine)
  (hq:∀ (l:List (Str×Tok)) k,l.map (·.1)=Txt.split x y->Q (.ref s.heap.objs.size) { s with heap:=s.heap.push { cls:=.type "list",data:=.seq (strValues l).toArray },toks:=k }):
  wpAny (model M w) A (call (.builtin "str.split") [.str x t,.str y u]) Q E s:=by
 cases h1:(decide (x.length < y.length) || decide (Builtin.Str.strKind x < Builtin.Str.strKind y))
 .cases hf:(Builtin.Str.occurrences x y 0 x.length (x.length + 1)).isEmpty
  .refine U1 T6 (U0 _ _ _) Uu (Uk _ _) (meets_str_split_sep x y t u h1 hy hf AA J0) ?_
   show wants Q E _ { s with toks:=_,heap:=s.heap.push { cls:=.type "list",data:=.seq (strsFrom s.toks (Builtin.Str.partsBetween x (Builtin.Str.occurrences x y 0 x.length (x.length + 1)) y.length)).toArray } }
   rw [strsFrom_eq]
   exact hq (numbered s.toks _) _ ((numbered_texts _ _).trans ((R4 (UU h1)).trans (R4 (UU hf))).symm)
  .exact U1 T6 (U0 _ _ _) Uu (Uk _ _) (meets_str_split_not_found x y t u h1 hy hf) (hq [(x,t)] s.toks ((R4 (UU h1)).trans (RV hf)).symm)
 .exact U1 T6 (U0 _ _ _) Uu (Uk _ _) (meets_str_split_cannot_occur x y t u h1) (hq [(x,t)] s.toks (RV h1).symm)
theorem mG:∀ (l:List (Str×Tok)),aO ((l.map (·.1)).map V.str) (strValues l)
 | []=>.nil
 | p :: l=>.cons ⟨p.2,rfl⟩ (mG l)
def Eh:V->List V->Hp->VK->Prop:=λx vs H Q=>∃ a b,x=.str a /\ vs=[.str b] /\ (b.length == 0)=false /\ a.length<=sizeLine /\
 (Builtin.Str.partsBetween a (Builtin.Str.occurrences a b 0 a.length (a.length + 1)) b.length).length<=sizeLine /\ (Txt.split a b).length<=sizeLine /\ ∀ p,H p=none->Q (.ref p) (upd H p (.lst ((Txt.split a b).map V.str)))
theorem y3:HK X "str.split" Eh:=by
 intro pins s σ H x vs v us Q I rx rv h
 obtain ⟨a,b,rfl,rfl,hy,hz,Oo,Oq,q⟩:=h
 obtain ⟨t,rfl⟩:=rx
 obtain ⟨u,rfl,t',rfl⟩:=vals1 rv
 refine wZ hy hz Oo λl k hl=>?_
 have J:=I.laid (t':=k) (o:=.lst ((Txt.split a b).map V.str)) (h':=s.heap.push { cls:=.type "list",data:=.seq (strValues l).toArray }) (a:=s.heap.objs.size) (λ_ _ z=>RG _ z) (RO _)
  ⟨by rw [RJ]; exact Oq,strValues l,0,by rw [<- hl]; exact mG l,RU _ rfl⟩
 exact ⟨.ref _,_,J,rfl,q _ (I.bo.fresh (RO _))⟩
def gX (a b:Str):Bool:=(b.length == 0) == false && decide (a.length<=100000) && decide ((Builtin.Str.partsBetween a (Builtin.Str.occurrences a b 0 a.length (a.length + 1)) b.length).length<=100000) && decide ((Txt.split a b).length<=100000)
def dE (go ge:DS->Option D):DS->Option (List D):=λδ=>(go δ).bind λs=>(ge δ).bind λx=>match s,x with
 | .str a,.str b=>if gX a b=true then some ((Txt.split a b).map .str) else none
 | _,_=>none
theorem b7.texts {K:PySem.W.Frag} {H:Hp}:∀ (ns:List Str),b7 K H (ns.map V.str) (ns.map .str)
 | []=>.nil
 | n :: ns=>.cons (.str n) (b7.texts ns)
theorem kh (ho:PE X o (gK X.K O go)) (he:PE X e (gK X.K O ge)) (qX:attributeBase o "split" X.env (eval o X.env)=eval o X.env:=by rfl)
  (yd:((backTo eE (starEach [e] X.env)).all (λx=> !x.1) && (backToKw eE (keywordEach [] X.env)).all (λx=>x.1.isSome) && decide ([e].length + ([]:List Keyword).length + (if ([]:List Keyword).isEmpty then 0 else 1) < 30))=true:=by rfl)
  (qY:(apos.endLine == eE.line)=true:=by rfl) (hs:starEach [e] X.env=[(false,eval e X.env)]:=by rfl) (A7:starEach ([]:List Expr) X.env=[]:=by rfl):
  PE X (.Call (.Attribute o "split" apos) [e] [] eE) (tN X.K O (dE go ge)):=
 (qW PySem.F.plainAttrs_str T6 PySem.F.type_str_split y3 ho (cq he el (by rw [hs,A7])) qX yd qY (by rw [hs,A7]) (by rw [A7]; rfl)).mono λσ H Q hh=>hh.e λU A0 δ d R ed q=>by
  obtain ⟨s,e1,ed⟩:=bind1 ed
  obtain ⟨x,e2,ed⟩:=bind1 ed
  cases s with
  | str a=>
    cases x with
    | str b=>
      replace ed:(if gX a b=true then some ((Txt.split a b).map PyData.str) else none)=some d:=ed
      by_cases bo:gX a b=true
      .rw [RV bo] at ed
       cases ed
       unfold gX at bo
       simp only [RT,Sf,Ta] at bo
       obtain ⟨⟨⟨k1,k2⟩,k3⟩,k4⟩:=bo
       refine ⟨U,A0,δ,_,R,e1,λv H1 s1 h1=>?_⟩
       rw [h1.text]
       refine ⟨rfl,U,A0,δ,_,R.same s1,e2,λw H2 s2 h2=>?_⟩
       rw [h2.text]
       refine ⟨a,b,rfl,rfl,by simpa using k1,Nat.le_of_lt (ma k2),Nat.le_of_lt (ma k3),Nat.le_of_lt (ma k4),λp hp=>?_⟩
       exact q p _ _ ((s1.trans s2).trans (b9 hp _)) ((s1.trans s2).free hp) bM (b7.texts _)
      .rw [R4 bo] at ed; cases ed
    | _=>cases ed
  | _=>cases ed
end
section
variable {X:Cx} {O:List Nat} {o e:Expr} {ga go ge:DS->Option D} {lo hi:Option Expr} {gl gh:DS->Option (Option Int)} {apos eE pos p2:Pos}
theorem part_of {v:Value} {i:Option Int} (h:IsPart v i):∃ l:Option (Int×Tok),v=partValue l /\ l.map (·.1)=i:=by
 cases h with
 | none=>exact ⟨none,rfl,rfl⟩
 | int i t=>exact ⟨some (i,t),rfl,rfl⟩
def J1:V->Option Int->Option Int->Hp->VK->Prop:=λx lo hi H Q=>∃ a,x=.str a /\ a.length<=sizeLine /\ Q (.str (Txt.slice a lo hi)) H
theorem Ei:IT X J1:=by
 intro pins s σ H x v vl vu lo hi sl Q I rx hs pl pu h
 obtain ⟨a,rfl,hz,q⟩:=h
 obtain ⟨t,rfl⟩:=rx
 obtain ⟨l,rfl,rfl⟩:=part_of pl
 obtain ⟨u,rfl,rfl⟩:=part_of pu
 obtain ⟨ob,h1,h2,h3⟩:=hs
 exact ⟨"str",_,PySem.F.slot_str_getitem.lookup,U0 _ _ _,wpAny_getItem_str_slice (l:=l) (u:=u) (st:=none) ⟨ob,h1,h2,h3⟩ rfl (post_val_or_str ⟨Sj (Txt.slice_le a _ _) hz,λt' k=>⟨.str _,H,I.tok k,⟨t',rfl⟩,q⟩⟩)⟩
def mH (a:DS->Option D) (lo hi:DS->Option (Option Int)):DS->Option D:=λδ=>(a δ).bind λx=>(lo δ).bind λl=>(hi δ).bind λh=>match x with
 | .str z=>if z.length<=100000 then some (.str (Txt.slice z l h)) else none
 | _=>none
set_option tactic.hygienic true in
theorem kL (ha:PE X e (gK X.K O ga)) (hl:PO X lo (Cr X.K O gl)) (hh:PO X hi (Cr X.K O gh)):PE X (.Subscript e (.Slice lo hi none p2) pos) (tE X.K O (mH ga gl gh)):=(qU Ei ha hl hh).mono λσ H Q hh=>hh.e λU A0 δ d R ed q=>by
 obtain ⟨x,e1,e2⟩:=bind1 ed
 obtain ⟨l,e3,e4⟩:=bind1 e2
 obtain ⟨h,e5,e6⟩:=bind1 e4
 cases x with
 | str z=>
   simp only at e6
   split at e6
   .rename_i hz
    cases e6
    refine ⟨U,A0,δ,_,R,e1,λv H1 s1 h1=>⟨U,A0,δ,l,R.same s1,e3,λH2 s2=>⟨U,A0,δ,h,R.same (s1.trans s2),e5,λH3 s3=>?_⟩⟩⟩
    exact ⟨z,h1.str,T4 (ma hz),q _ H3 ((s1.trans s2).trans s3) (.str _)⟩
   .cases e6
 | _=>cases e6
end
end L2
namespace L2
open PySem PySem.Spec PySem.W PyProof.Rows
theorem nN:entryFor table "proto.unchain"=some Builtin.«proto.unchain»:=entryFor_of_fast (by kernel_rfl)
section
variable {prog:Program} {w:World} {A:Around} {E:Value->Shared->Prop} {s:Shared}
theorem pY {x:Addr} {ox:Obj} {fs:Array Value} {e:Value} {Q:Value->Shared->Prop} (ho:s.heap.get? x=some ox) (hd:ox.data=.fields fs) (h2:fs[2]?=some Value.none) (hQ:Q .none s):
  wpAny (model prog w) A (runValue (.builtin "proto.unchain" ⟨[e,.ref x,.ref x,.bool false],[]⟩)) Q E s:=by
 refine wpAny_runValue (Tj nN ?_)
 unfold Builtin.«proto.unchain»
 show wpAny _ _ (field (.ref x) 2 >>= _) _ _ s
 refine RF (Te ho hd h2 ?_)
 exact RQ hQ
theorem rM {α:Type} {a x:Addr} {ox oa:Obj} {fs va:Array Value} {Q:α->Shared->Prop} (hh:A.handled=some (.ref x)) (fV:x≠a) (ho:s.heap.get? x=some ox) (hd:ox.data=.fields fs) (h2:fs[2]?=some Value.none)
  (M2:s.heap.get? a=some oa) (Ot:oa.data=.fields va) (AA:2 < va.size) (hE:E (.ref a) { s with heap:=s.heap.update a (Obj.mapFields (·.setIfInBounds 2 (.ref x))) }):
  wpAny (model prog w) A (raiseNew (α:=α) (.ref a)) Q E s:=by
 unfold raiseNew
 refine RF (wpAny_handled ?_)
 rw [hh]
 have hb:(Value.ref x != Value.ref a)=true:=bne_iff_ne.mpr λe=>fV (Value.ref.inj e)
 show wpAny _ _ (if (Value.ref x != Value.ref a)=true then _ else _) _ _ s
 rw [RV hb]
 refine RF (Ts (pY ho hd h2 ?_))
 refine RF ?_
 unfold updateField
 refine RF (wpAny_load M2 ?_)
 rw [Ot]
 dsimp only
 rw [RV AA]
 refine wpAny_update M2 ?_
 exact wpAny_throw hE
theorem nO {it x:Addr} {ox:Obj} {fs:Array Value} {y left step:Int} {Q:Option Value->Shared->Prop} (hh:A.handled=some (.ref x)) (ho:s.heap.get? x=some ox) (hd:ox.data=.fields fs) (h2:fs[2]?=some Value.none)
  (hit:IsRangeIter s.heap it y left step) (GV:left<=0) (hQ:∀ h',Heap.ExtBut it s.heap h'->Q none { s with heap:=h' }):wpAny (model prog w) A (pyNext (.ref it)) Q E s:=by
 have hT:s.TypeIs (.ref it) "range_iterator":=⟨_,hit,rfl⟩
 unfold pyNext
 refine RF (UL (Tg (name:=Str.ofString "__next__") hT F.slot_range_iterator_next
  (Tc F.slot_range_iterator_next hT F.entry_range_iterator_next ?_ (F.args_range_iterator_next_1 _))))
 show wpAny _ _ (field (.ref it) 0 >>= _) _ _ s
 refine RF (Te hit rfl (x:=rawInt y) rfl ?_)
 show wpAny _ _ (field (.ref it) 1 >>= _) _ _ s
 refine RF (Te hit rfl (x:=rawInt left) rfl ?_)
 show wpAny _ _ (field (.ref it) 2 >>= _) _ _ s
 refine RF (Te hit rfl (x:=rawInt step) rfl ?_)
 show wpAny _ _ (if left<=0 then _ else _) _ _ s
 rw [RV GV]
 refine RF (U3 ?_)
 refine RF ?_
 show wpAny _ _ (newExc (.type "StopIteration") [] >>= _) _ _ _
 refine RF ?_
 simp only [newExc,newTuple]
 refine RF (SD ?_ (by size_fits))
 refine RF (m:=firstArgMember _ _) (wpAny_of_eq (a:=Value.none) (by first | rfl | (simp only [firstArgMember]; rfl)) ?_)
 refine SD ?_ (by size_fits)
 have hx:x < s.heap.objs.size:=RR ho
 refine rM (x:=x) hh ?_ (RG _ (RG _ ho)) hd h2 (RU _ rfl) rfl (by rw [Array.size_append]; exact RL (show 2 < 6 by decide) (Nat.le_add_right _ _)) ?_
 .intro e
  rw [e] at hx
  have:s.heap.objs.size<=(s.heap.push { cls:=.type "tuple",data:=.seq [].toArray }).objs.size:=by simp [Heap.push]
  exact absurd (RL hx this) (Sg _)
 .refine RF (UI (T:="StopIteration") (b:=true) ⟨_,Sq _ (RU _ rfl) ?_,?_⟩ isSubtype_stop ?_)
  .exact SM (Sm rfl _)
  .exact (UB ..).trans rfl
  .refine RQ (hQ _ λb o hb e=>?_)
   have e2:=RG { cls:=.type "tuple",data:=.seq [].toArray } e
   refine (((SK ..).2 b ?_).trans (RG _ e2))
   intro z
   have:=RR e2
   rw [z] at this
   exact absurd this (Sg _)
end
end L2
namespace L2
open PySem
def Ou (M:Model) (Γ:Ctx) (p:Pos) (t:Sem Fin) (s:Shared) (e:End) (s':Shared):Prop:=match t with
 | .pure (.done f)=>e=.ret (.ok f) /\ s'=s
 | .pure (.again c)=>Runs M (Γ.goto c) p (M.den c) [] s e s'
 | .raise x=>e=.ret (.error x) /\ s'=s
 | .rule _ k=>Runs M Γ p (k ()) [] s e s'
 | .at p' k=>Runs M Γ p' (k ()) [] s e s'
 | .load a _ k=>∃ o,s.heap.get? a=some o /\ Runs M Γ p (k o) [] s e s'
 | .update a _ f k=>Runs M Γ p (k ()) [] { s with heap:=s.heap.update a f } e s'
 | .loadIfAlive a k=>Runs M Γ p (k (s.heap.get? a)) [] s e s'
 | .point _ k=>Runs M Γ p (k ()) [] s e s'
 | .alloc o k=>Runs M Γ p (k s.heap.objs.size) [] { s with heap:=s.heap.push o } e s'
 | .fresh k=>Runs M Γ p (k s.toks) [] { s with toks:=s.toks + 1 } e s'
 | .ask k=>Runs M Γ p (k ⟨M.prog,M.w.params⟩) [] s e s'
 | .choose src n k=>Runs M Γ p (k (M.w.draws src (s.drawn.get src) % n)) [] { s with drawn:=s.drawn.bump src } e s'
 | .os q _ k=>Runs M Γ p (k (Os.step s.os q).2) [] { s with os:=(Os.step s.os q).1 } e s'
 | .handled own k=>Runs M Γ p (k (if own then Γ.own else Γ.handled)) [] s e s'
 | .genState g k=>∃ st,s.gens[g]?=some st /\ Runs M Γ p (k st.seen) [] s e s'
 | .stack k=>Runs M Γ p (k ((Γ.code,p) :: Γ.below)) [] s e s'
 | .thread k=>Runs M Γ p (k 0) [] s e s'
 | .newGen c k=>Runs M Γ p (k s.gens.size) [] { s with gens:=s.gens.push (.fresh c) } e s'
 | .call c h g l k=>∃ e1 s1,Runs M (Γ.enter c h p) p (M.den c) [] s e1 s1 /\ ((∃ r,e1=.ret r /\ Runs M Γ p (k r) [] s1 e s') \/ ∃ v w4 rN pZ c₀ p3 fs,e1=.susp v w4 rN pZ c₀ p3 fs /\ s'=s1 /\ e=.susp v w4 rN pZ c₀ p3 (fs ++ [.ret k h g l Γ.code p []]))
 | .yield v g l k=>e=.susp v g l k Γ.code p [] /\ s'=s
 | .resume g r _ k=>∃ st,s.gens[g]?=some st /\ ((∃ c,st=.fresh c /\ ((r=.send .none /\ ∃ e1 s1,Runs M (Γ.wake c p) p (M.den c) [] (s.setGen g .running) e1 s1 /\ Runs M Γ p (k e1.result) [] (s1.setGen g e1.genState) e s') \/ (∃ v,r=.send v /\ v≠.none /\ Runs M Γ p (k .justStarted) [] s e s') \/ ∃ x,r=.throw x /\ Runs M Γ p (k (.raised x)) [] (s.setGen g .finished) e s')) \/
   (∃ pZ rN c₀ p3 fs cl,st=.suspended pZ rN c₀ p3 fs cl /\ ∃ e1 s1,Runs M (Γ.wake c₀ p) p3 (pZ r) fs (s.setGen g .running) e1 s1 /\ Runs M Γ p (k e1.result) [] (s1.setGen g e1.genState) e s') \/
   (st=.running /\ Runs M Γ p (k .running) [] s e s') \/ (st=.finished /\ Runs M Γ p (k .finished) [] s e s'))
 | _=>False
def Ov (M:Model) (Γ:Ctx) (p:Pos) (t:Sem Fin) (F:Frame) (fs:List Frame) (s:Shared) (e:End) (s':Shared):Prop:=∃ e1 s1,Runs M (Γ.over (F :: fs)) p t [] s e1 s1 /\
 ((∃ k h g l c₁ rO kp r,F=.ret k h g l c₁ rO kp /\ e1=.ret r /\ Runs M (Γ.goto c₁) rO (k r) fs s1 e s') \/ (∃ g k l c₁ rO r,F=.gen g k l c₁ rO /\ e1=.ret r /\ Runs M (Γ.goto c₁) rO (k (End.ret r).result) fs (s1.setGen g .finished) e s') \/
  ∃ v w4 rN pZ c₀ p3 y4,e1=.susp v w4 rN pZ c₀ p3 y4 /\ ((splitAtGen (F :: fs)=none /\ s'=s1 /\ e=.susp v w4 rN pZ c₀ p3 (y4 ++ F :: fs)) \/
    ∃ pre g k c₁ rO rest,splitAtGen (F :: fs)=some (pre,(g,k,c₁,rO),rest) /\ Runs M (Γ.goto c₁) rO (k (.yielded v)) rest (s1.setGen g (End.susp v w4 rN pZ c₀ p3 (y4 ++ pre)).genState) e s'))
def Ow (M:Model) (Γ:Ctx) (p:Pos) (t:Sem Fin) (fs:List Frame) (s:Shared) (e:End) (s':Shared):Prop:=match fs with
 | []=>Ou M Γ p t s e s'
 | F :: fs=>Ov M Γ p t F fs s e s'
theorem aE {M:Model} {Γ:Ctx} {p:Pos} {t:Sem Fin} {fs:List Frame} {s:Shared} {e:End} {s':Shared} (h:Runs M Γ p t fs s e s'):Ow M Γ p t fs s e s':=by
 cases h with
 | done=>exact ⟨rfl,rfl⟩
 | raise=>exact ⟨rfl,rfl⟩
 | again _ r=>exact r
 | rule r=>exact r
 | «at» r=>exact r
 | load g r=>exact ⟨_,g,r⟩
 | update _ r=>exact r
 | loadIfAlive r=>exact r
 | point r=>exact r
 | alloc r=>exact r
 | fresh r=>exact r
 | ask r=>exact r
 | choose _ r=>exact r
 | os r=>exact r
 | handled r=>exact r
 | genState g r=>exact ⟨_,g,r⟩
 | stack r=>exact r
 | thread r=>exact r
 | newGen r=>exact r
 | call a b=>exact ⟨_,_,a,.inl ⟨_,rfl,b⟩⟩
 | callSusp a=>exact ⟨_,_,a,.inr ⟨_,_,_,_,_,_,_,rfl,rfl,rfl⟩⟩
 | yield=>exact ⟨rfl,rfl⟩
 | resumeFresh g a _ b=>exact ⟨_,g,.inl ⟨_,rfl,.inl ⟨rfl,_,_,a,b⟩⟩⟩
 | resumeSuspended g a _ b=>exact ⟨_,g,.inr (.inl ⟨_,_,_,_,_,_,rfl,_,_,a,b⟩)⟩
 | resumeJustStarted g n b=>exact ⟨_,g,.inl ⟨_,rfl,.inr (.inl ⟨_,rfl,n,b⟩)⟩⟩
 | resumeThrowFresh g b=>exact ⟨_,g,.inl ⟨_,rfl,.inr (.inr ⟨_,rfl,b⟩)⟩⟩
 | resumeRunning g b=>exact ⟨_,g,.inr (.inr (.inl ⟨rfl,b⟩))⟩
 | resumeFinished g b=>exact ⟨_,g,.inr (.inr (.inr ⟨rfl,b⟩))⟩
 | segRet a b=>exact ⟨_,_,a,.inl ⟨_,_,_,_,_,_,_,_,rfl,rfl,b⟩⟩
 | segGen a b=>exact ⟨_,_,a,.inr (.inl ⟨_,_,_,_,_,_,rfl,rfl,b⟩)⟩
 | segSuspOut g a=>exact ⟨_,_,a,.inr (.inr ⟨_,_,_,_,_,_,_,rfl,.inl ⟨g,rfl,rfl⟩⟩)⟩
 | segSuspGen g a _ b=>exact ⟨_,_,a,.inr (.inr ⟨_,_,_,_,_,_,_,rfl,.inr ⟨_,_,_,_,_,_,g,b⟩⟩)⟩
theorem mI {M:Model} {Γ:Ctx} {p:Pos} {t:Sem Fin} {fs:List Frame} {s:Shared} {e:End} {s':Shared} (h:Runs M Γ p t fs s e s'):∀ {e2:End} {s2:Shared},Runs M Γ p t fs s e2 s2->e=e2 /\ s'=s2:=by
 induction h with
 | done=>intro e2 s2 h2; obtain ⟨rfl,rfl⟩:=aE h2; exact ⟨rfl,rfl⟩
 | raise=>intro e2 s2 h2; obtain ⟨rfl,rfl⟩:=aE h2; exact ⟨rfl,rfl⟩
 | again _ _ ih=>intro e2 s2 h2; exact ih (aE h2)
 | rule _ ih=>intro e2 s2 h2; exact ih (aE h2)
 | «at» _ ih=>intro e2 s2 h2; exact ih (aE h2)
 | load g _ ih=>intro e2 s2 h2; obtain ⟨o,g2,r⟩:=aE h2; cases g.symm.trans g2; exact ih r
 | update _ _ ih=>intro e2 s2 h2; exact ih (aE h2)
 | loadIfAlive _ ih=>intro e2 s2 h2; exact ih (aE h2)
 | point _ ih=>intro e2 s2 h2; exact ih (aE h2)
 | alloc _ ih=>intro e2 s2 h2; exact ih (aE h2)
 | fresh _ ih=>intro e2 s2 h2; exact ih (aE h2)
 | ask _ ih=>intro e2 s2 h2; exact ih (aE h2)
 | choose _ _ ih=>intro e2 s2 h2; exact ih (aE h2)
 | os _ ih=>intro e2 s2 h2; exact ih (aE h2)
 | handled _ ih=>intro e2 s2 h2; exact ih (aE h2)
 | genState g _ ih=>intro e2 s2 h2; obtain ⟨o,g2,r⟩:=aE h2; cases g.symm.trans g2; exact ih r
 | stack _ ih=>intro e2 s2 h2; exact ih (aE h2)
 | thread _ ih=>intro e2 s2 h2; exact ih (aE h2)
 | newGen _ ih=>intro e2 s2 h2; exact ih (aE h2)
 | call _ _ rP y6=>
   intro e2 s2 h2
   obtain ⟨e1,s1,a,⟨r,rfl,b⟩ | ⟨_,_,_,_,_,_,_,rfl,_,_⟩⟩:=aE h2
   .obtain ⟨x,rfl⟩:=rP a; cases x; exact y6 b
   .obtain ⟨x,_⟩:=rP a; cases x
 | callSusp _ rP=>
   intro e2 s2 h2
   obtain ⟨e1,s1,a,⟨r,rfl,b⟩ | ⟨_,_,_,_,_,_,_,rfl,rfl,rfl⟩⟩:=aE h2
   .obtain ⟨x,_⟩:=rP a; cases x
   .obtain ⟨x,rfl⟩:=rP a; cases x; exact ⟨rfl,rfl⟩
 | yield=>intro e2 s2 h2; obtain ⟨rfl,rfl⟩:=aE h2; exact ⟨rfl,rfl⟩
 | resumeFresh g _ _ _ rP y6=>
   intro e2 s2 h2
   obtain ⟨st,g2,o⟩:=aE h2
   cases g.symm.trans g2
   rcases o with ⟨c,z,⟨_,e1,s1,a,b⟩ | ⟨v,z2,n,_⟩ | ⟨x,z2,_⟩⟩ | ⟨_,_,_,_,_,_,z,_⟩ | ⟨z,_⟩ | ⟨z,_⟩
   .cases z; obtain ⟨rfl,rfl⟩:=rP a; exact y6 b
   .cases z2; exact (n rfl).elim
   .cases z2
   .cases z
   .cases z
   .cases z
 | resumeSuspended g _ _ _ rP y6=>
   intro e2 s2 h2
   obtain ⟨st,g2,o⟩:=aE h2
   cases g.symm.trans g2
   rcases o with ⟨c,z,_⟩ | ⟨_,_,_,_,_,_,z,e1,s1,a,b⟩ | ⟨z,_⟩ | ⟨z,_⟩
   .cases z
   .cases z; obtain ⟨rfl,rfl⟩:=rP a; exact y6 b
   .cases z
   .cases z
 | resumeJustStarted g n _ ih=>
   intro e2 s2 h2
   obtain ⟨st,g2,o⟩:=aE h2
   cases g.symm.trans g2
   rcases o with ⟨c,z,⟨z2,_⟩ | ⟨v,z2,_,b⟩ | ⟨x,z2,_⟩⟩ | ⟨_,_,_,_,_,_,z,_⟩ | ⟨z,_⟩ | ⟨z,_⟩
   .cases z2; exact (n rfl).elim
   .exact ih b
   .cases z2
   .cases z
   .cases z
   .cases z
 | resumeThrowFresh g _ ih=>
   intro e2 s2 h2
   obtain ⟨st,g2,o⟩:=aE h2
   cases g.symm.trans g2
   rcases o with ⟨c,z,⟨z2,_⟩ | ⟨v,z2,_,_⟩ | ⟨x,z2,b⟩⟩ | ⟨_,_,_,_,_,_,z,_⟩ | ⟨z,_⟩ | ⟨z,_⟩
   .cases z2
   .cases z2
   .cases z2; exact ih b
   .cases z
   .cases z
   .cases z
 | resumeRunning g _ ih=>
   intro e2 s2 h2
   obtain ⟨st,g2,o⟩:=aE h2
   cases g.symm.trans g2
   rcases o with ⟨c,z,_⟩ | ⟨_,_,_,_,_,_,z,_⟩ | ⟨_,b⟩ | ⟨z,_⟩
   .cases z
   .cases z
   .exact ih b
   .cases z
 | resumeFinished g _ ih=>
   intro e2 s2 h2
   obtain ⟨st,g2,o⟩:=aE h2
   cases g.symm.trans g2
   rcases o with ⟨c,z,_⟩ | ⟨_,_,_,_,_,_,z,_⟩ | ⟨z,_⟩ | ⟨_,b⟩
   .cases z
   .cases z
   .cases z
   .exact ih b
 | segRet _ _ rP y6=>
   intro e2 s2 h2
   obtain ⟨e1,s1,a,o⟩:=aE h2
   obtain ⟨rfl,rfl⟩:=rP a
   rcases o with ⟨_,_,_,_,_,_,_,_,z,z2,b⟩ | ⟨_,_,_,_,_,_,z,_,_⟩ | ⟨_,_,_,_,_,_,_,z,_⟩
   .cases z; cases z2; exact y6 b
   .cases z
   .cases z
 | segGen _ _ rP y6=>
   intro e2 s2 h2
   obtain ⟨e1,s1,a,o⟩:=aE h2
   obtain ⟨rfl,rfl⟩:=rP a
   rcases o with ⟨_,_,_,_,_,_,_,_,z,_,_⟩ | ⟨_,_,_,_,_,_,z,z2,b⟩ | ⟨_,_,_,_,_,_,_,z,_⟩
   .cases z
   .cases z; cases z2; exact y6 b
   .cases z
 | segSuspOut g _ rP=>
   intro e2 s2 h2
   obtain ⟨e1,s1,a,o⟩:=aE h2
   obtain ⟨rfl,rfl⟩:=rP a
   rcases o with ⟨_,_,_,_,_,_,_,_,_,z,_⟩ | ⟨_,_,_,_,_,_,_,z,_⟩ | ⟨_,_,_,_,_,_,_,z,⟨_,z2,z3⟩ | ⟨_,_,_,_,_,_,g2,_⟩⟩
   .cases z
   .cases z
   .cases z; cases z2; cases z3; exact ⟨rfl,rfl⟩
   .cases g.symm.trans g2
 | segSuspGen g _ _ _ rP y6=>
   intro e2 s2 h2
   obtain ⟨e1,s1,a,o⟩:=aE h2
   obtain ⟨rfl,rfl⟩:=rP a
   rcases o with ⟨_,_,_,_,_,_,_,_,_,z,_⟩ | ⟨_,_,_,_,_,_,_,z,_⟩ | ⟨_,_,_,_,_,_,_,z,⟨g2,_,_⟩ | ⟨_,_,_,_,_,_,g2,b⟩⟩
   .cases z
   .cases z
   .cases g.symm.trans g2
   .cases z; cases g.symm.trans g2; exact y6 b
theorem w5 {M:Model} {Γ:Ctx} {p:Pos} {g:Nat} {r:Resume} {s:Shared} {a b:GenResult} {s1 s2:Shared} (h1:Wakes M Γ p g r s a s1) (h2:Wakes M Γ p g r s b s2):a=b /\ s1=s2:=by
 unfold Wakes at h1 h2
 cases hg:s.gens[g]? with
 | none=>rw [hg] at h1; exact h1.elim
 | some gs=>
   rw [hg] at h1 h2
   cases gs with
   | fresh c=>
     cases r with
     | send v=>
       cases v with
       | none=>
         obtain ⟨e1,t1,x1,_,rfl,rfl⟩:=h1
         obtain ⟨e2,t2,x2,_,rfl,rfl⟩:=h2
         obtain ⟨rfl,rfl⟩:=mI x1 x2
         exact ⟨rfl,rfl⟩
       | _=>exact ⟨h1.1.trans h2.1.symm,h1.2.trans h2.2.symm⟩
     | throw x=>exact ⟨h1.1.trans h2.1.symm,h1.2.trans h2.2.symm⟩
   | suspended k0 l0 c0 p0 fs cl=>
     obtain ⟨e1,t1,x1,_,rfl,rfl⟩:=h1
     obtain ⟨e2,t2,x2,_,rfl,rfl⟩:=h2
     obtain ⟨rfl,rfl⟩:=mI x1 x2
     exact ⟨rfl,rfl⟩
   | running=>exact ⟨h1.1.trans h2.1.symm,h1.2.trans h2.2.symm⟩
   | finished=>exact ⟨h1.1.trans h2.1.symm,h1.2.trans h2.2.symm⟩
theorem Ej {α:Type} (M:Model) (Γ:Ctx) (t:Sem α):∀ {Q1 Q2:α->Pos->Shared->Prop} {E1 E2:Value->Pos->Shared->Prop} {p:Pos} {s:Shared},Sem.wp M Γ t Q1 E1 p s->Sem.wp M Γ t Q2 E2 p s->
  Sem.wp M Γ t (λa p s=>Q1 a p s /\ Q2 a p s) (λe p s=>E1 e p s /\ E2 e p s) p s:=by
 induction t with
 | pure a=>intro _ _ _ _ _ _ h1 h2; rw [Sem.wp] at h1 h2 ⊢; exact ⟨h1,h2⟩
 | raise e=>intro _ _ _ _ _ _ h1 h2; rw [Sem.wp] at h1 h2 ⊢; exact ⟨h1,h2⟩
 | load a part k ih=>
   intro _ _ _ _ _ _ h1 h2
   rw [Sem.wp] at h1 h2 ⊢
   obtain ⟨o,g,h1⟩:=h1
   obtain ⟨o2,g2,h2⟩:=h2
   rw [g] at g2; cases g2
   exact ⟨o,g,ih _ h1 h2⟩
 | update a part f k ih=>intro _ _ _ _ _ _ h1 h2; rw [Sem.wp] at h1 h2 ⊢; exact ⟨h1.1,ih _ h1.2 h2.2⟩
 | choose src n k ih=>intro _ _ _ _ _ _ h1 h2; rw [Sem.wp] at h1 h2 ⊢; exact ⟨h1.1,ih _ h1.2 h2.2⟩
 | call c h g l k ih=>
   intro _ _ _ _ _ _ h1 h2
   rw [Sem.wp] at h1 h2 ⊢
   obtain ⟨r,s1,x1,h1⟩:=h1
   obtain ⟨r2,s2,x2,h2⟩:=h2
   obtain ⟨e,rfl⟩:=mI x1 x2
   cases e
   exact ⟨r,s1,x1,ih _ h1 h2⟩
 | genState g k ih=>
   intro _ _ _ _ _ _ h1 h2
   rw [Sem.wp] at h1 h2 ⊢
   obtain ⟨o,g,h1⟩:=h1
   obtain ⟨o2,g2,h2⟩:=h2
   rw [g] at g2; cases g2
   exact ⟨o,g,ih _ h1 h2⟩
 | resume g r l k ih=>
   intro _ _ _ _ _ _ h1 h2
   rw [Sem.wp] at h1 h2 ⊢
   obtain ⟨r,s1,x1,h1⟩:=h1
   obtain ⟨r2,s2,x2,h2⟩:=h2
   obtain ⟨rfl,rfl⟩:=w5 x1 x2
   exact ⟨r,s1,x1,ih _ h1 h2⟩
 | unsupported | finish | yield | fork | await | register=>intro _ _ _ _ _ _ h1 _; rw [Sem.wp] at h1; exact h1.elim
 | rule _ k ih | «at» _ k ih | alloc _ k ih | loadIfAlive _ k ih | point _ k ih | fresh k ih | ask k ih | os _ _ k ih | handled _ k ih | newGen _ k ih | stack k ih | thread k ih=>intro _ _ _ _ _ _ h1 h2; rw [Sem.wp] at h1 h2 ⊢; exact ih _ h1 h2
theorem gH {α:Type} {M:Model} {A:Around} {t:Sem α} {Q1 Q2:α->Shared->Prop} {E1 E2:Value->Shared->Prop} {s:Shared} (h1:wpAny M A t Q1 E1 s) (h2:wpAny M A t Q2 E2 s):
  wpAny M A t (λa s=>Q1 a s /\ Q2 a s) (λe s=>E1 e s /\ E2 e s) s:=λΓ p M3=>Ej M Γ t (h1 Γ p M3) (h2 Γ p M3)
end L2
namespace L2
open PySem PySem.Spec PySem.W PyProof.Rows
section
variable {M:Model} {A:Around} {E:Value->Shared->Prop} {s:Shared} {base:Heap} {env:Env} {outer:List Env} {L e:Addr} {cls a0:Value}
theorem bx.upd {h:Heap} {a e:Addr} {i:Nat} {v:Value} (x:bx h e) (hi:a≠e \/ i≠2):bx (h.update a (Obj.mapFields (·.setIfInBounds i v))) e:=by
 obtain ⟨o,fs,ho,hd,h2⟩:=x
 by_cases z:a=e
 .subst z
  have J2:i≠2:=hi.resolve_left λq=>q rfl
  refine ⟨_,_,Sq _ ho (SM (Sm hd _)),Sm hd _,?_⟩
  rw [Array.getElem?_setIfInBounds_ne J2]; exact h2
 .exact ⟨o,fs,(Se _ _ z).trans ho,hd,h2⟩
theorem bx.push {h:Heap} {e:Addr} (x:bx h e) (o:Obj):bx (h.push o) e:=let ⟨p,fs,ho,r⟩:=x; ⟨p,fs,RG _ ho,r⟩
theorem kM {oe:Obj} {vs:Array Value} {head:Value} {b:Bool} {Q:Unit->Shared->Prop} (lA:A.frames=some (env :: outer)) (hl:s.heap.FunFrames base (env :: outer)) (hf:env.frame=some L)
  (he:s.heap.get? e=some oe) (hd:oe.data=.fields vs) (AA:1 < vs.size) (h2:vs[2]?=some Value.none)
  (h:∀ h' T oT ts,bx h' e->(∃ o ws,h'.get? e=some o /\ o.data=.fields ws /\ ws[1]?=some (.ref T))->h'.get? T=some oT->oT.data=.fields ts->3 < ts.size->T≠e->Q () { s with heap:=h' }):
  wpAny M A (do let a <- frameOf env; let pl <- entryPlaceOf L b; let c <- EntryCells.newEntry head a .none (rawInt L) .none pl; setField (.ref e) 1 c) Q E s:=by
 have ne:e∉(env :: outer).filterMap (·.frame):=λhm=>by
  obtain ⟨_,o,ho,kz⟩:=hl.mem hm
  rw [he] at ho; cases ho; exact kz vs hd
 refine RF (wpAny_frameOf_fun lA hl hf λh1 hs=>?_)
 refine RF (wpAny_entryPlaceOf λpl gA=>?_)
 unfold EntryCells.newEntry newFields
 refine RF (SD ?_ (gA.sizeOk5 _ _ _ _ _))
 have e1:h1.get? e=some oe:=(hs.2.1 e ne).trans he
 have lt:=RR e1
 have hT:=(Se (h1.push { cls:=.type "traceback",dict:=none,data:=.fields ([head,.ref L,.none,rawInt L,.none] ++ (if pl.isEmpty then List.replicate 6 Value.none else pl)).toArray }) (Obj.mapFields (·.setIfInBounds 1 (Value.ref h1.objs.size))) (RW lt)).trans (RU h1 rfl)
 refine SU (RG _ e1) hd AA (h _ h1.objs.size _ _ ?_ ?_ hT rfl ?_ (T5 lt))
 .exact bx.upd (bx.push ⟨oe,vs,e1,hd,h2⟩ _) (.inr (by decide))
 .exact ⟨_,_,Sq _ (RG _ e1) (SM (Sm hd _)),Sm hd _,by simp [AA]⟩
 .simp only [RZ,SO,Sx,List.length_nil]; omega
theorem vp {Q:Unit->Shared->Prop} {oe oT:Obj} {vs ts:Array Value} {T:Addr} {fl:Option Addr} (x:bx s.heap e) (he:s.heap.get? e=some oe) (hd:oe.data=.fields vs) (h1:vs[1]?=some (.ref T)) (hT:s.heap.get? T=some oT) (mJ:oT.data=.fields ts) (hz:3 < ts.size)
  (h:∀ h',bx h' e->Q () { s with heap:=h' }):wpAny M A (setFlight (.ref e) fl) Q E s:=by
 unfold setFlight
 refine RF (Te he hd h1 ?_)
 rw [RV (show (Value.ref T != Value.none)=true from by simp)]
 exact SU hT mJ hz (h _ (x.upd (.inr (by decide))))
theorem y7 {Q:Unit->Shared->Prop} (lA:A.frames=some (env :: outer)) (hf:env.frame=some L) (oz:Heap.FlyingW base (env :: outer) e cls a0 s.heap) (x:bx s.heap e)
  (h:∀ h' T oT ts,bx h' e->(∃ o ws,h'.get? e=some o /\ o.data=.fields ws /\ ws[1]?=some (.ref T))->h'.get? T=some oT->oT.data=.fields ts->3 < ts.size->T≠e->Q () { s with heap:=h' }):wpAny M A (noteFrame (.ref e) env) Q E s:=by
 obtain ⟨f1,f2,hl,oe,vs,T,oT,ts,he,_,hd,h1,Ek,Bk,hT,mJ,h3⟩:=oz
 obtain ⟨o',fs,qM,pd,h2⟩:=id x
 rw [he] at qM; cases qM
 rw [hd] at pd; cases pd
 unfold noteFrame
 simp only [hf]
 refine RF (Te he hd h1 ?_)
 rw [RV (show (Value.ref T != Value.none)=true from by simp)]
 refine RF (Te hT mJ h3 ?_)
 rw [R4 (show ¬ ((Value.none == rawInt L)=true) from by simp [rawInt])]
 refine RF (SU hT mJ (Sz.mp h3).1 ?_)
 have ot:∀ b,b≠T->(s.heap.update T (Obj.mapFields (·.setIfInBounds 3 Value.none))).get? b=s.heap.get? b:=λb hb=>Se _ _ (Tf hb)
 exact kM lA (hl.of_keeps λb o hb kz=>⟨o,(ot b λq=>by rw [q,hT] at hb; cases hb; exact kz ts mJ).trans hb,rfl⟩) hf ((ot e (Tf Bk)).trans he) hd (Sz.mp h1).1 h2 h
theorem y8 {h0:Heap} {args:List Value} {Q:Unit->Shared->Prop} (lA:A.frames=some (env :: outer)) (hf:env.frame=some L) (hl:h0.FunFrames base (env :: outer)) (hx:Heap.MadeExcOf h0 s.heap e cls args) (h:∀ h',bx h' e->Q () { s with heap:=h' }):wpAny M A (leaving env (.ref e)) Q E s:=by
 obtain ⟨t,he,_,_⟩:=hx.there
 unfold leaving noteFrame
 simp only [hf]
 refine RF (RF (Te he rfl (x:=Value.none) rfl ?_))
 rw [R4 (by decide)]
 refine kM lA (hl.of_keeps λb o hb _=>⟨o,hx.keeps b o hb,rfl⟩) hf he rfl (RL (show 1 < 6 by decide) (RO _)) rfl λh' T oT ts x' ⟨o,ws,k1,k2,k3⟩ k4 k5 k6 _=>?_
 exact vp (s:={ s with heap:=h' }) x' k1 k2 k3 k4 k5 k6 λh2 x2=>h h2 x2
theorem oS {Q:Unit->Shared->Prop} (lA:A.frames=some (env :: outer)) (hf:env.frame=some L) (oz:Heap.FlyingW base (env :: outer) e cls a0 s.heap) (x:bx s.heap e)
  (hQ:∀ h',Heap.HeldW base (env :: outer) e cls a0 L h'->bx h' e->s.heap.UpToSlots h'->Q () { s with heap:=h' }):wpAny M A (noteFrame (.ref e) env) Q E s:=
 R7 (gH (wpAny_looks_onW (E:=λ_ _=>False) (Q:=λ_ s2=>∃ h2,s2={ s with heap:=h2 } /\ Heap.HeldW base (env :: outer) e cls a0 L h2 /\ s.heap.UpToSlots h2) lA hf oz λh2 k1 k2=>⟨h2,rfl,k1,k2⟩)
  (y7 (E:=λ_ _=>False) (Q:=λ_ s2=>bx s2.heap e) lA hf oz x λ_ _ _ _ k _ _ _ _ _=>k)) (λ_ s2 ⟨⟨h2,e2,k1,k2⟩,nc⟩=>by subst e2; exact hQ h2 k1 nc k2) λ_ _ z=>z.1.elim
theorem y9 {fl:Value} {l:List Env} {Q:Unit->Shared->Prop} (ht:s.heap.TracedAtW base e cls a0 fl) (x:bx s.heap e) (h:∀ h',bx h' e->Q () { s with heap:=h' }):wpAny M A (setFlight (.ref e) none) Q E s:=by
 obtain ⟨oe,vs,T,oT,ts,he,_,hd,h1,_,_,hT,mJ,h3⟩:=ht
 exact vp x he hd h1 hT mJ (Sz.mp h3).1 h
theorem za {l:List Env} {Q:Unit->Shared->Prop} (hh:Heap.HeldW base l e cls a0 L s.heap) (x:bx s.heap e) (hQ:∀ h',Heap.FlyingW base l e cls a0 h'->bx h' e->s.heap.UpToSlots h'->Q () { s with heap:=h' }):wpAny M A (setFlight (.ref e) none) Q E s:=
 R7 (gH (wpAny_landsW (E:=λ_ _=>False) (Q:=λ_ s2=>∃ h2,s2={ s with heap:=h2 } /\ Heap.FlyingW base l e cls a0 h2 /\ s.heap.UpToSlots h2) hh λh2 k1 k2=>⟨h2,rfl,k1,k2⟩)
  (y9 (E:=λ_ _=>False) (l:=l) (Q:=λ_ s2=>bx s2.heap e) hh.2.2.2 x λ_ k=>k)) (λ_ s2 ⟨⟨h2,e2,k1,k2⟩,nc⟩=>by subst e2; exact hQ h2 k1 nc k2) λ_ _ z=>z.1.elim
theorem p4 {l:List Env} {Q:Unit->Shared->Prop} (hh:Heap.FlyingW base l e cls a0 s.heap) (x:bx s.heap e) (hQ:∀ h',Heap.FlyingW base l e cls a0 h'->bx h' e->s.heap.UpToSlots h'->Q () { s with heap:=h' }):wpAny M A (setFlight (.ref e) none) Q E s:=
 R7 (gH (lands_againW (E:=λ_ _=>False) (Q:=λ_ s2=>∃ h2,s2={ s with heap:=h2 } /\ Heap.FlyingW base l e cls a0 h2 /\ s.heap.UpToSlots h2) hh λh2 k1 k2=>⟨h2,rfl,k1,k2⟩)
  (y9 (E:=λ_ _=>False) (l:=l) (Q:=λ_ s2=>bx s2.heap e) hh.2.2.2.at x λ_ k=>k)) (λ_ s2 ⟨⟨h2,e2,k1,k2⟩,nc⟩=>by subst e2; exact hQ h2 k1 nc k2) λ_ _ z=>z.1.elim
end
theorem cA.there {P:Program} {w:World} {H:Hp} {h:Heap} {a:Addr} {o:HO} (x:cA P w H h a o):∃ ob,h.get? a=some ob:=by
 induction o with
 | lst xs=>obtain ⟨_,_,_,_,e⟩:=x; exact ⟨_,e⟩
 | tup xs=>obtain ⟨_,_,_,o,e,_⟩:=x; exact ⟨_,e⟩
 | dK eY=>obtain ⟨_,_,_,_,o,es,ep,e,_⟩:=x; exact ⟨_,e⟩
 | dT eY=>obtain ⟨_,_,_,_,o,es,ep,e,_⟩:=x; exact ⟨_,e⟩
 | set S n=>obtain ⟨_,_,_,_,e,_⟩:=x; exact ⟨_,e⟩
 | ins C dx fs=>obtain ⟨_,_,_,e,_⟩:=x; exact ⟨_,e⟩
 | own y=>exact x
 | xd fs=>obtain ⟨_,⟨o,es,ep,e,_⟩,_⟩:=x; exact ⟨_,e⟩
 | met f y=>exact ⟨_,x⟩
 | lr lo hi=>obtain ⟨_,_,_,e⟩:=x; exact ⟨_,e⟩
 | lY ob u ih=>exact ⟨_,x.1⟩
 | B1 ps=>exact ⟨_,x⟩
 | ext φ=>exact x.2.1
def El (g:Heap) (l:List Env) (H:Hp) (B:Heap):Prop:=∀ b,b∉ip l->(H b≠none \/ ∃ o0,g.get? b=some o0)->∃ o,B.get? b=some o
theorem El.at {g h B:Heap} {l:List Env} {H:Hp} (c:El g l H B) (st:B.StaysIn h) {b:Addr} {o:Obj} (q:h.get? b=some o) (n:b∉ip l) (i:H b≠none \/ ∃ o0,g.get? b=some o0):B.get? b=some o:=by
 obtain ⟨o',e⟩:=c b n i
 have:=st b o' e
 rw [q] at this
 cases this
 exact e
theorem zb {l:List Env} {H H1:Hp} {g h h' B base:Heap} (u:Un (ip l) [] H H1 g h) (c:El g l H1 B) (st:B.StaysIn h) (lN:B.StaysIn h') (up:h.UpToSlots h') (fr:h.FunFrames base l):Un (ip l) [] H H1 g h' where
 keep:=λb o q n hb hx=>lN b o (c.at st (u.keep b o q n hb hx) hb (.inr ⟨_,q⟩))
 slot:=λb o q n hb hx=>by
  obtain ⟨sl,e⟩:=u.slot b o q n hb hx
  obtain ⟨_,o1,jj,kz⟩:=fr.mem hb
  rw [e] at jj
  cases jj
  obtain ⟨Ao,e'⟩:=up b _ e kz
  exact ⟨Ao,e'⟩
 free:=u.free
 there:=λb o q hx=>by
  by_cases hb:b∈ip l
  .obtain ⟨_,o1,jj,kz⟩:=fr.mem hb
   obtain ⟨Ao,e'⟩:=up b _ jj kz
   exact ⟨_,e'⟩
  .obtain ⟨o',e⟩:=u.there b o q hx
   exact ⟨o',lN b o' (c.at st e hb (.inr ⟨_,q⟩))⟩
 jv:=u.jv
 jc:=u.jc
 jw:=u.jw
theorem p5 {P:Program} {w:World} {l:List Env} {H:Hp} {g h h' B:Heap} (x:kx P w H h) (c:El g l H B) (st:B.StaysIn h) (lN:B.StaysIn h') (nf:∀ b∈ip l,H b=none):kx P w H h':=λa o e=>by
 refine (x a o e).ls (λb u hb q=>?_) (λ_ q=>q) λ_ _ q=>q
 have ht:H b≠none:=by
  rcases hb with rfl | hb
  .rw [e]; exact λz=>nomatch z
  .rw [hb]; exact λz=>nomatch z
 exact lN b u (c.at st q (λz=>ht (nf b z)) (.inl ht))
def ki (P:Program) (w:World):xx:=λouter H s E e s'=>∃ (a t C:Addr) (B:Heap) (H1:Hp),e=.ref a /\ s'.os=s.os /\ AllBare s'.gens /\ Un (ip outer) [] H H1 s.heap s'.heap /\ kx P w H1 s'.heap /\
 s.heap.get? a=none /\ H1 a=none /\ El s.heap outer H1 B /\ Heap.FlyingW B outer a (.ref C) (.ref t) s'.heap /\ bx s'.heap a /\ E (.ref C) none H1
section
variable {P:Program} {w:World} {K:PySem.W.Frag} {mg:Str->Option Value} {base:Heap} {N:List Str} {qual:Str} {scope:Scope} {f:Addr} {cd:Value} {A:Around} {outer:List Env} {s:Shared} {H:Hp} {E:XK}
theorem Inv.tracked {X:Cx} {pins:List (Addr×Obj)} {σ:St} {H1:Hp} {s1:Shared} (I:Inv X pins σ H1 s1) {b:Addr} (n:H1 b≠none):∃ o,s1.heap.get? b=some o:=by
 cases q:H1 b with
 | none=>exact absurd q n
 | some o=>exact (I.bo b o q).there
theorem Bl {pins:List (Addr×Obj)} {σ:St} {H1:Hp} {s1:Shared} {h':Heap} {a C:Addr} {vs:List Value} (I:Inv (du (ki P w) P w K mg base N qual scope f cd A outer s H E) pins σ H1 s1)
  (hx:Heap.MadeExcOf s1.heap h' a (.ref C) vs) (hE:E (.ref C) none H1):(du (ki P w) P w K mg base N qual scope f cd A outer s H E).xe (.ref a) { s1 with heap:=h' }:=by
 have st:(hideAll s1.heap (ip (envOfC qual scope s.heap.objs.size f cd :: outer))).StaysIn s1.heap:=λb o q=>of_hideAll _ q
 have ua:∀ b,b∉ip outer->(H1 b≠none \/ ∃ o0,s.heap.get? b=some o0)->∃ o,(hideAll s1.heap (ip (envOfC qual scope s.heap.objs.size f cd :: outer))).get? b=some o:=λb nb i=>by
  have hb:b∉ip (envOfC qual scope s.heap.objs.size f cd :: outer):=λz=>by
   rcases RN.mp (I.ff b z) with e | z
   .rcases i with i | ⟨o0,i⟩
    .exact i (by rw [e]; exact I.free)
    .exact absurd (RL (RR i) (by rw [e]; exact I.ok.above)) (Sg _)
   .exact nb z
  have ex:∃ o,s1.heap.get? b=some o:=by
   rcases i with i | ⟨o0,i⟩
   .exact I.tracked i
   .exact I.base.there b o0 i (λz=>nomatch z)
  obtain ⟨o,e⟩:=ex
  exact ⟨o,hideAll_get _ e hb⟩
 have fh:=funFrames_hide I.stack λenv he b hb=>Tu.mpr ⟨env,he,hb⟩
 refine R7 (gH (wpAny_leaves_madeW (E:=λ_ _=>False) (Q:=λ_ s2=>∃ h2 t,s2={ s1 with heap:=h2 } /\ Heap.FlyingW (hideAll s1.heap (ip (envOfC qual scope s.heap.objs.size f cd :: outer))) outer a (.ref C) (.ref t) h2 /\ Heap.UpToSlots h' h2)
  (h:=s1.heap) I.ok.frames rfl st fh hx λh2 t ub _ _ up=>⟨h2,t,rfl,ub,up⟩) (y8 (E:=λ_ _=>False) (Q:=λ_ s2=>bx s2.heap a) I.ok.frames rfl fh hx λ_ x=>x)) (λ_ s2 ⟨⟨h2,t,e2,ub,up⟩,nc⟩=>?_) λ_ _ z=>z.1.elim
 subst e2
 have GW:s1.heap.UpToSlots h2:=(Heap.UpToSlots.of_keeps hx.keeps).trans up
 refine ⟨a,t,C,_,H1,rfl,I.os,I.bare,zb I.base ua st ub.1 GW I.fq,p5 I.bo ua st ub.1 (λb hb=>?_),?_,?_,ua,ub,nc,hE⟩
 .obtain ⟨_,o,ho,_⟩:=I.ok.fq.mem hb
  exact I.base.free b o ho (I.ok.qL b hb) λz=>nomatch z
 .cases q:s.heap.get? a with
  | none=>rfl
  | some o=>
    obtain ⟨o',e⟩:=I.base.there a o q (λz=>nomatch z)
    rw [hx.new] at e; cases e
 .cases q:H1 a with
  | none=>rfl
  | some o=>
    obtain ⟨o',e⟩:=I.tracked (b:=a) (by rw [q]; exact λz=>nomatch z)
    rw [hx.new] at e; cases e
structure Fo (K:PySem.W.Frag) (mg:Str->Option Value) (x:Str) (C:Addr) (bm tl:List Value) (newId:String):Prop where
 bound:mg x=some (.ref C)
 obj:∃ (n:Addr) (nm q:Str) (bs:List Value) (hdct:Bool) (sn:List Str) (sub:List Value) (ab:Bool) (col:Option Bool) (dd:Option Addr) (k0 k1 k2 k3 k5:Option Value) (mN:Str->Option Value),
  mN "__init__"=none /\ ∀ h:Heap,K.In h->h.get? C=some (excClassObj nm q C n bs tl hdct sn sub ab col dd k0 k1 k2 k3 k5 newId) /\ h.Ns n mN /\ OwnTail h bm tl
theorem zc {x:Str} {C:Addr} {bm tl J3:List Value} {newId J4 uc J5 B Bn:String} {kj:Expr} {rest:List Expr} {np eE pos:Pos} {t:TA} (hC:Fo K mg x C bm tl newId) (Fn:ExcBaseFacts Bn newId J5 J3) (J6:bm.contains (.type Bn)=true)
  (FB:ExcBaseFacts B J4 uc bm) (ha:PA (du (ki P w) P w K mg base N qual scope f cd A outer s H E) (kj :: rest) t) (hg:Gl (du (ki P w) P w K mg base N qual scope f cd A outer s H E) x:=by rfl)
  (he:starEach (kj :: rest) (envOfC qual scope s.heap.objs.size f cd)=(false,eval kj (envOfC qual scope s.heap.objs.size f cd)) :: starEach rest (envOfC qual scope s.heap.objs.size f cd):=by rfl)
  (tD:(backTo eE (starEach rest (envOfC qual scope s.heap.objs.size f cd))).any (·.1)=false:=by rfl) (hd:(x == ("__debug__":Str))=false:=by decide):
  PS (du (ki P w) P w K mg base N qual scope f cd A outer s H E) (.Raise (some (.Call (.Name x np) (kj :: rest) [] eE)) none pos) (λ_ σ H0=>t σ H0 λvs H1=>vs.length<=sizeLine /\ E (.ref C) none H1):=by
 intro pins s1 σ H1 D I h
 obtain ⟨n,nm,q,bs,hdct,sn,sub,ab,col,dd,k0,k1,k2,k3,k5,mN,CA,all⟩:=hC.obj
 obtain ⟨_,_,T⟩:=all _ I.j5
 refine wpAny_Raise_call_subU (C:=C) (nm:=nm) (q:=q) (N:=n) (bs:=bs) (bm:=tl) (hdct:=hdct) (sn:=sn) (sub:=sub) (ab:=ab) (col:=col) (dd:=dd) (k0:=k0) (k1:=k1) (k2:=k2) (k3:=k3) (k5:=k5)
  Fn J6 FB (mN:=mN) (T.hasType FB.hasBase) (I.ok.hd rfl) ?_ CA (j7 I hg hC.bound ⟨rfl,?_⟩ hd)
 .show (backTo eE (starEach (kj :: rest) (envOfC qual scope s.heap.objs.size f cd))).any (·.1)=false
  rw [he]; show (false || (backTo eE (starEach rest (envOfC qual scope s.heap.objs.size f cd))).any (·.1))=false; rw [tD]; rfl
 .show wpAny _ _ (evalArgs (.ref C) true (backTo eE (starEach (kj :: rest) (envOfC qual scope s.heap.objs.size f cd))) []) _ _ s1
  have hp:=ha eE pins s1 σ H1 _ I h
  have Fb:wpAny (model P w) (A.deeper (envOfC qual scope s.heap.objs.size f cd)) (spliced (backTo eE (starEach (kj :: rest) (envOfC qual scope s.heap.objs.size f cd)))) _ _ s1:=hp
  rw [he] at Fb ⊢
  refine Calls.evalArgs_plain (R7 Fb (λus s2 ⟨vs,H2,I2,r2,hz,hE⟩=>⟨rfl,by show us.length<=_; rw [<- r2.length]; exact hz,(all _ I2.j5).1,(all _ I2.j5).2.1,(all _ I2.j5).2.2,λh' e hm=>Bl I2 hm hE⟩) λ_ _ y=>y)
end
abbrev Cx.Ag (X:Cx) (a:Addr):Cx:={ X with A:=X.A.mark (some (.ref a)),calm:=false,xe:=λ_ _=>False }
theorem Cx.Ok.Ag {X:Cx} (ok:X.Ok) (a:Addr):(X.Ag a).Ok:=
 ⟨ok.mod,ok.kind,ok.glob,ok.blt,ok.above,ok.inj,ok.has,ok.vZ,(λz=>nomatch z),ok.frames,ok.xw,ok.z9,ok.bs,ok.qK,ok.j4,ok.lu,ok.fq,ok.qL⟩
theorem Inv.Ag {X:Cx} {pins:List (Addr×Obj)} {σ:St} {H:Hp} {s:Shared} (I:Inv X pins σ H s) (a:Addr):Inv (X.Ag a) pins σ H s:=⟨I.ok.Ag a,I.os,I.bare,I.base,I.loc,I.cell,I.free,I.dD,I.pin,I.bo,I.len⟩
theorem Inv.J7 {X:Cx} {pins:List (Addr×Obj)} {σ:St} {H:Hp} {s:Shared} {a:Addr} (I:Inv (X.Ag a) pins σ H s) (ok:X.Ok):Inv X pins σ H s:=⟨ok,I.os,I.bare,I.base,I.loc,I.cell,I.free,I.dD,I.pin,I.bo,I.len⟩
theorem Inv.Em {X:Cx} {pins:List (Addr×Obj)} {σ bO:St} {H0 H1:Hp} {s0 s1:Shared} {a:Addr} {o:HO} (I:Inv X pins σ H1 s1) (I0:Inv X pins bO H0 s0) (na:s0.heap.get? a=none) (ta:H1 a=none) (new:cA X.prog X.w (upd H1 a o) s1.heap a o):
  Inv X pins σ (upd H1 a o) s1:=by
 have ne:∀ b ob,s0.heap.get? b=some ob->b≠a:=λb ob q e=>by rw [e,na] at q; cases q
 have nt:∀ b u,H1 b=some u->b≠a:=λb u q e=>by rw [e,ta] at q; cases q
 have nL:X.env.locals≠a:=by
  obtain ⟨m,⟨ol,_,_,e,_⟩,_⟩:=I0.loc
  exact ne _ _ e
 refine ⟨I.ok,I.os,I.bare,⟨I.base.keep,I.base.slot,λb ob q n hx=>?_,I.base.there,λb xs q=>?_,λb ob u q=>?_,λb ps q=>?_⟩,I.loc,I.cell,?_,λx c e=>?_,λp hp=>?_,λb u q=>?_,I.len⟩
 .obtain ⟨o',e⟩:=I0.base.there b ob q hx
  rw [aG (ne b o' e)]; exact I.base.free b ob q n hx
 .have:=I.base.jv b xs q
  rw [aG (nt _ _ this)]; exact this
 .have:=I.base.jc b ob u q
  rw [aG (nt _ _ this)]; exact this
 .obtain ⟨more,this⟩:=I.base.jw b ps q
  exact ⟨more,by rw [aG (nt _ _ this)]; exact this⟩
 .rw [aG nL]; exact I.free
 .obtain ⟨v,oc,e1,_⟩:=I0.cell x c e
  rw [aG (ne _ _ e1)]; exact I.dD x c e
 .obtain ⟨e,n,r1,r2,r3⟩:=I.pin p hp
  exact ⟨e,by rw [aG (ne _ _ (I0.pin p hp).1)]; exact n,r1,r2,r3⟩
 .by_cases hb:b=a
  .subst hb; rw [bM] at q; cases q; exact new
  .rw [aG hb] at q
   refine (I.bo b u q).ls (λ_ _ _ z=>z) (λc z=>by rw [aG (nt _ _ z)]; exact z) λc xs z=>z.ne (by rcases z with z | ⟨_,z⟩ <;> exact nt _ _ z)
theorem Inv.forget {X:Cx} {pins:List (Addr×Obj)} {σ:St} {H:Hp} {s:Shared} {h':Heap} {tk:Nat} {m:Str->Option Value} (I:Inv X pins σ H s) (hn:h'.Ns X.env.locals m) (hs:Heap.SameBut X.env.locals s.heap h'):
  Inv X pins (List.replicate X.N.length none) H { s with heap:=h',toks:=tk }:=by
 have Aa:=I.Aa
 have lt:∀ b o,X.ee.heap.get? b=some o->b≠X.env.locals:=λb o e=>RW (RL (RR e) I.ok.above)
 refine ⟨I.ok,I.os,I.bare,⟨λb o e n hb hx=>(hs.2 b (lt b o e)).trans (I.base.keep b o e n hb hx),λb o e n hb hx=>?_,I.base.free,λb o e hx=>?_,I.base.jv,I.base.jc,I.base.jw⟩,⟨m,hn,λj y v e1 e2 _=>?_⟩,λy c e=>?_,I.free,I.dD,λp hp=>?_,λb u q=>?_,by simp⟩
 .obtain ⟨sl,e1⟩:=I.base.slot b o e n hb hx
  exact ⟨sl,(hs.2 b (lt b o e)).trans e1⟩
 .obtain ⟨o',e1⟩:=I.base.there b o e hx
  exact ⟨o',(hs.2 b (lt b o e)).trans e1⟩
 .rw [List.getElem?_replicate] at e2
  split at e2 <;> cases e2
 .obtain ⟨w',z⟩:=I.cell y c e
  exact ⟨w',z.sameBut hs (Aa y c e)⟩
 .obtain ⟨e,n,ne,nf,d⟩:=I.pin p hp
  exact ⟨(hs.2 p.1 ne).trans e,n,ne,nf,d⟩
 .refine (I.bo b u q).ls (λc w' hc z=>(hs.2 c ?_).trans z) (λ_ z=>z) λ_ _ z=>z
  rintro rfl
  rcases hc with e | hc
  .rw [<- e,I.free] at q; cases q
  .rw [I.free] at hc; cases hc
section
variable {X:Cx} {k:Nat} {f:Addr} {fd:FuncData} {ps:List Str} {sp:Sp} {g T n:Str} {gp eE Ox tp Bm pos:Pos} {e:Expr} {es:List Expr} {ta:TA} {En:Stmt} {zd:List Stmt} {i:Nat} {Tv:Value} {ts:Addr->TS}
end
end L2
namespace L2
open PySem PySem.Spec PySem.W PyProof.Rows PySem.Builtin PySem.Builtin.ObjectAttr PySem.Builtin.Getset_descriptor
section
variable {prog:Program} {w:World} {A:Around} {E:Value->Shared->Prop} {h:Heap} {g:Array GenState} {d:Drawn} {t:Nat} {os:OsState} {a C:Addr} {o:Obj} {K:Frag}
theorem Bo {R:Result->Shared->Prop} (X:K.In h) (hx:h.get? a=some o) (hc:o.cls=.ref C) (hs:subIn K (.ref C) (.type "object")=some true) (hq:R (.ok (.ret (.ref C))) ⟨h,g,d,t,os⟩):
  codeAny (model prog w) A (.call (.builtin "getset_descriptor.__get__") ⟨[.builtin "object.__class__",.ref a,.ref C],[]⟩) R ⟨h,g,d,t,os⟩:=by
 have Oy:(⟨h,g,d,t,os⟩:Shared).TypeIs (.builtin "object.__class__") "getset_descriptor":=UG
 have L1:Looks (model prog w) h (isSubtype (.ref C) (.type "object")) true:=looks_subIn X hs
 refine UO KF.slot_gs.plain KF.entry_gs (KF.slot_gs.check _ _ _ _ _ _ _ _ KF.type_class (KF.args_gs _ _ _) ?_)
 have L0:Looks (model prog w) h (typeOf (.ref a)) (.ref C):=by rw [<- hc]; exact (Looks.ld hx).andThen Looks.now
 unfold Builtin.«getset_descriptor.__get__» descrGet
 rw [dga_obj]
 refine RF (RQ ?_)
 unfold descrGetter descrCheckInstance descrNameAndClass isInstance
 simp only [KF.owner_class]
 repeat lk
 refine ⟨Code.quiet_builtin _ (by decide +kernel),Tj KF.entry_class ?_⟩
 unfold Builtin.«object.__class__» shownTypeOf
 repeat lk
 exact hq
theorem w6 {tk:Tok} {Q:Fin->Shared->Prop} (X:K.In h) (hx:h.get? a=some o) (hc:o.cls=.ref C) (hs:subIn K (.ref C) (.type "object")=some true) (hf:findIn K (.ref C) "__class__"=some (some (.builtin "object.__class__"))) (hq:Q (.done (.ret (.ref C))) ⟨h,g,d,t,os⟩):
  wpAny (model prog w) A (Builtin.«object.__getattribute__» ⟨[.ref a,.str "__class__" tk],[]⟩) Q E ⟨h,g,d,t,os⟩:=by
 have Oy:(⟨h,g,d,t,os⟩:Shared).TypeIs (.builtin "object.__class__") "getset_descriptor":=UG
 have f5:=UG
 have f6:=F.slot_gs_get.lookup
 have f7:=F.slot_gs_set.lookup
 have L1:Looks (model prog w) h (typeLookup (.ref C) "__class__") (some (.builtin "object.__class__")):=looks_findIn X hf
 repeat (any_goals (first | assumption | (with_reducible refine Vi hx ?_; rw [hc]) | with_reducible refine L1.at ?_ | wp_step))
 refine Bo X hx hc hs ?_
 repeat (any_goals (first | assumption | wp_step))
theorem w8 {M:Model} {CC:Value} {Q:Unit->Shared->Prop} (X:K.In h) (hx:h.get? a=some o) (hc:o.cls=.ref C) (hs:subIn K (.ref C) (.type "BaseException")=some true) (hq:Q () ⟨h,g,d,t,os⟩):
  wpAny M A (checkBuiltinCall "BaseException.__getattribute__" ⟨[.ref a,CC],[]⟩) Q E ⟨h,g,d,t,os⟩:=by
 have hk:builtinKind "BaseException.__getattribute__"=some .slot:=by decide +kernel
 have Eo:splitId "BaseException.__getattribute__"=some ("BaseException","__getattribute__"):=by decide +kernel
 have L1:Looks M h (isSubtype (.ref C) (.type "BaseException")) true:=looks_subIn X hs
 have ha:=F.args_bexc_ga (.ref a) CC
 simp only [checkBuiltinCall,hk,Eo]
 refine RF ?_
 unfold isInstance
 repeat (first | (with_reducible refine Vi hx ?_; rw [hc]) | with_reducible refine L1.at ?_ | wp_step)
 exact hq
theorem Ep {tk:Tok} {Q:Value->Shared->Prop} (X:K.In h) (hx:h.get? a=some o) (hc:o.cls=.ref C) (hs:subIn K (.ref C) (.type "object")=some true) (xA:subIn K (.ref C) (.type "BaseException")=some true)
  (hf:findIn K (.ref C) "__class__"=some (some (.builtin "object.__class__"))) (J8:findIn K (.ref C) "__getattribute__"=some (some (.builtin "BaseException.__getattribute__"))) (GU:findIn K (.ref C) "__getattr__"=some none) (hq:Q (.ref C) ⟨h,g,d,t,os⟩):
  wpAny (model prog w) A (getAttrBy (.ref a) (.str "__class__" tk) false) Q E ⟨h,g,d,t,os⟩:=by
 have f3:=UX.ga.bind (.ref a)
 have M4:(Value.builtin "BaseException.__getattribute__" == Value.builtin "object.__getattribute__")=false:=by decide +kernel
 have Oz:(onTheHeap (Value.ref C) && Value.builtin "BaseException.__getattribute__" == Value.builtin "object.__getattribute__")=false:=by rw [M4]; rfl
 have L1:Looks (model prog w) h (typeLookup (.ref C) "__getattribute__") (some (.builtin "BaseException.__getattribute__")):=looks_findIn X J8
 have L2:Looks (model prog w) h (typeLookup (.ref C) "__getattr__") none:=looks_findIn X GU
 repeat (any_goals (first | assumption | (with_reducible refine Vi hx ?_; rw [hc]) | with_reducible refine L1.at ?_ | with_reducible refine L2.at ?_ | wp_step))
 refine UO UX.ga.plain F.entry_bexc_ga (w8 X hx hc xA (w6 X hx hc hs hf ?_))
 repeat (any_goals (first | assumption | wp_step))
theorem ze {Q:Option Value->Shared->Prop} (X:K.In h) (hx:h.get? a=some o) (hc:o.cls=.ref C) (hs:subIn K (.ref C) (.type "object")=some true) (xA:subIn K (.ref C) (.type "BaseException")=some true)
  (hf:findIn K (.ref C) "__class__"=some (some (.builtin "object.__class__"))) (J8:findIn K (.ref C) "__getattribute__"=some (some (.builtin "BaseException.__getattribute__"))) (GU:findIn K (.ref C) "__getattr__"=some none) (hq:Q (some (.ref C)) ⟨h,g,d,t + 1,os⟩):
  wpAny (model prog w) A (getAttr? (.ref a) "__class__") Q E ⟨h,g,d,t,os⟩:=by
 unfold getAttr? getAttrBy?
 repeat (any_goals (first | assumption | with_reducible apply Ep X hx hc hs xA hf J8 GU | wp_step))
end
end L2
namespace L2
open PySem PySem.Spec PySem.W PyProof.Rows
structure zf (K:Frag) (C:Addr):Prop where
 obj:∃ c d cd sl,K.lookup C=some ⟨c,d,.cls cd,sl⟩
 sO:subIn K (.ref C) (.type "object")=some true
 sB:subIn K (.ref C) (.type "BaseException")=some true
 fc:findIn K (.ref C) "__class__"=some (some (.builtin "object.__class__"))
 fg:findIn K (.ref C) "__getattribute__"=some (some (.builtin "BaseException.__getattribute__"))
 fn:findIn K (.ref C) "__getattr__"=some none
theorem rQ {K:Frag} {a C:Addr} (c:zf K C):KitX K (.ref a) (.ref C) (λh=>∃ o,h.get? a=some o /\ o.cls=.ref C) where
 ty:=λ_ _ _ ⟨o,hx,hc⟩=>by rw [<- hc]; exact (Looks.ld hx).andThen Looks.now
 it:=λ_ _ X _=>by
  obtain ⟨c',d',OA,Ao,ho⟩:=c.obj
  intro A' Q' E' s' k q
  unfold isType loadHead
  exact RF (wpAny_loadPart (k _ _ (X _ _ ho)) (RQ q))
 ne:=λh tp dd its n sl X OB=>by
  obtain ⟨c',d',OA,Ao,ho⟩:=c.obj
  refine Bool.eq_false_iff.mpr λq=>?_
  have e:C=tp:=Value.ref.inj (Ta.mp q)
  subst e
  have z:=(X _ _ ho).symm.trans OB
  cases z
 ca:=λ{_ _ _ _ _ s} X ⟨o,hx,hc⟩ k=>by
  obtain ⟨h,g,d,t,os⟩:=s
  exact ze X hx hc c.sO c.sB c.fc c.fg c.fn k
def J9 (K:Frag):List V->Hp->VK->Prop:=λvs H Q=>∃ a C cv b,vs=[.ref a,cv] /\ H a=some (DI a C) /\ zf K C /\ Q (.bl b) H /\
 ((∃ c,(∀ u,RelV cv u->u=c) /\ kitOne K (.ref C) c=some b) \/ ∃ tp HZ,cv=.ref tp /\ H tp=some (.tup HZ) /\ ∀ its,aO HZ its->kitAny K (.ref C) its=some b)
theorem w9 {X:Cx}:cU X (.builtin "isinstance") (J9 X.K):=by
 rintro pins s σ H vs us Q I r ⟨a,C,cv,b,rfl,ha,hc,q,h⟩
 have ⟨u1,u2,e,r1,r2⟩:∃ u1 u2,us=[u1,u2] /\ RelV (.ref a) u1 /\ RelV cv u2:=by
  cases r with
  | cons r1 r'=>cases r' with
    | cons r2 OC=>cases OC with
      | nil=>exact ⟨_,_,rfl,r1,r2⟩
 subst e
 cases (show u1=Value.ref a from r1)
 have hx:∃ o,s.heap.get? a=some o /\ o.cls=.ref C:=(I.bo a _ ha).1.1
 rcases h with ⟨c,Ka,e⟩ | ⟨tp,HZ,rfl,ht,e⟩
 .cases Ka u2 r2
  exact kia_one (rQ hc) I.j5 hx e (λz=>nomatch z) λtk=>⟨.bl b,H,I.tok tk,rfl,q⟩
 .cases (show u2=Value.ref tp from r2)
  obtain ⟨_,its,rv,o,ho,lK,n,nz⟩:=(show cA X.prog X.w H s.heap tp (.tup HZ) from I.bo tp _ ht)
  obtain ⟨oc,od,Ry,tz⟩:=o
  cases lK
  cases nz
  exact kia_tup (rQ hc) I.j5 hx ho (e its rv) (λz=>nomatch z) λtk=>⟨.bl b,H,I.tok tk,rfl,q⟩
structure fY (k:Nat) (A:Around):Prop where
 dp:A.depth + 3 * k + 5 < recursionLimit
 un:A.units + 16 * k + 200 < cLine
theorem dQ.markX {k:Nat} {A:Around} (r:dQ k A) (v:Option Value):fY k (A.mark v):=⟨r.dp,r.un⟩
theorem fY.mono {j k:Nat} {A:Around} (r:fY k A) (h:j<=k):fY j A:=⟨by have:=r.dp; omega,by have:=r.un; omega⟩
theorem fY.deeper {k:Nat} {A:Around} (r:fY (k + 1) A) (env:Env):fY k (A.deeper env):=
 ⟨by have:=r.dp; show A.depth + 1 + 3 * k + 5 < _; omega,by have:=r.un; show A.units + 3 + 16 * k + 200 < _; omega⟩
def Kb (P:Program) (w:World) (K:Frag) (mg:Str->Option Value) (base:Heap) (N:List Str) (qual:Str) (scope:Scope) (f:Addr) (cd:Value) (A:Around) (outer:List Env) (s:Shared) (H:Hp):Cx:=
 { du sT P w K mg base N qual scope f cd A outer s H E0 with calm:=false,xe:=λ_ _=>False }
section
variable {P:Program} {w:World} {K:Frag} {mg:Str->Option Value} {base:Heap}
end
def Bp (P:Program) (w:World) (K:Frag) (mg:Str->Option Value) (base:Heap) (k:Nat) (x:Str) (ps:List Str) (sp:Sp):Prop:=
 ∃ f fd,ly P w K mg base (ki P w) k f fd ps sp /\ mg x=some (.ref f) /\ keepIn K (.ref f)=true /\ Binds K fd ps []
section
variable {P:Program} {w:World} {K:Frag} {mg:Str->Option Value} {base:Heap} {x:Str} {st:Stmt} {N ps:List Str} {k:Nat} {sp:Sp}
theorem Df.OD (F:Df K mg x st ps) (S:aN N ps (ai st)) (len:∀ vs H Q E,sp vs H Q E->vs.length=ps.length)
  (ka:∀ (f:Addr) (b6:Value) (A:Around) (outer:List Env) (s:Shared) (H:Hp) (vs:List V) (Q:VK) (E:XK),dQ k (A.deeper (envOfC x (ai st) s.heap.objs.size f b6))->sp vs H Q E->
   ∃ t,iS (du (ki P w) P w K mg base N x (ai st) f b6 A outer s H E) (cD st) t /\ t { nx:=λ_ H'=>Q .fF H',rt:=Q } (start N vs) H):Bp P w K mg base (k + 1) x ps sp:=by
 obtain ⟨f,fd,F,m,b⟩:=F
 have kp:=F.kp
 obtain ⟨oc,od,kV,doc,pm,an,b6,ct,tz,rfl,lk,nB⟩:=F.ex
 exact ⟨f,_,Cd lk nB S len (ka f b6),m,kp,b⟩
end
set_option tactic.hygienic true in
theorem Er {K:Frag} {mg:Str->Option Value} {x:Str} {C:Addr} {bm:List Value} {newId:String} (hm:mg x=some (.ref C)) (q:excIn K C bm newId=true):∃ tl,Fo K mg x C bm tl newId:=by
 unfold excIn at q
 split at q
 .rename_i dd cd sl ho
  split at q
  .rename_i C' tl k0 k1 k2 k3 n k5 hr hs
   simp only [RT,Ta,SS] at q
   obtain ⟨⟨⟨⟨⟨e1,e2⟩,hdel⟩,ht⟩,bo⟩,CA⟩:=q
   subst e1 e2
   obtain ⟨nm,bs,mro,ns,qn,hd,sn,sub,ab,col,del⟩:=cd
   dsimp only at hr hdel bo CA
   subst hr hdel
   have OE:sl=#[k0,k1,k2,k3,some (.builtin n),k5]:=by
    obtain ⟨l⟩:=sl
    simp only at hs
    rw [hs]
   subst OE
   have Fm:∃ c d es ep AB,K.lookup ns=some ⟨c,d,.dict es ep,AB⟩ /\ (es.all λe=>match e.key with | .str _ _=>true | _=>false)=true:=by
    unfold nsOkIn at bo
    split at bo
    .rename_i lK
     exact ⟨_,_,_,_,_,lK,bo⟩
    .cases bo
   obtain ⟨c2,d2,HQ,Rz,AB,Ae,AM⟩:=Fm
   refine ⟨tl,hm,ns,nm,qn,bs,hd,sn,sub,ab,col,dd,k0,k1,k2,k3,k5,nsFind HQ,?_,λh X=>⟨X _ _ ho,?_,tail_of_in X ht⟩⟩
   .unfold nsIn at CA
    rw [Ae] at CA
    dsimp only at CA
    split at CA
    .cases CA
    .rename_i he
     unfold nsFind findBy
     rw [<- Array.find?_toList,he]
     rfl
   .have Af:h.Ns ns (h.nsMap ns):=.of_isNs (isNs_of_in X bo)
    obtain ⟨o,es,ep,h1,h2,h3,h4⟩:=Af
    rw [X _ _ Ae] at h1
    cases h1
    cases h2
    exact ⟨_,_,_,X _ _ Ae,rfl,h3,λ_=>rfl⟩
  .cases q
 .cases q
def mK:D->Option Str
 | .dict [(.none,.str c)]=>some c
 | _=>none
theorem i5 {d:D} {c:Str} (h:mK d=some c):d=kG c:=by
 unfold mK at h
 split at h
 .cases h; rfl
 .cases h
theorem p6 {d:D} {r:List (D×D)} {eY:List (List Key×V)} {d':D} (k:((d,d') :: r).map (·.1)=eY.map (λp=>PyData.tuple (p.1.map AR))) (h:∀ l,d≠.tuple l):False:=by
 cases eY with
 | nil=>cases k
 | cons p q=>exact h _ (List.cons.inj k).1
theorem vq {K:Frag} {H:Hp} {v:V} {c:Str} (h:HD K H v (kG c)):False:=by
 unfold kG at h
 cases h with
 | tL _ k _=>exact p6 k λ_ z=>nomatch z
def zg (d:D) (r:Res):Res:=match mK d with
 | some _=>.rt d
 | none=>r
theorem oU {d:D} {r:Res} (h:mK d=none):zg d r=r:=by unfold zg; rw [h]
theorem vt {c:Str} {r:Res}:zg (kG c) r=.rt (kG c):=rfl
def nP (mg:Str->Option Value) (E:XK):Str->Hp->Prop:=λc H=>∀ C,mg c=some (.ref C)->E (.ref C) none H
def ud (c:Str):DS->Option Res:=λ_=>some (.rt (kG c))
def vv (K:Frag) (mg:Str->Option Value) (n:Nat) (G:List D->Option D):Sp:=λvs H Q E=>vs.length=n /\ ∃ A ds d,Ls A H /\ b7 K (wo H A) vs ds /\ G ds=some d /\
 (∀ v H',av H H'->HD K (wo H' A) v d->Q v H') /\ ∀ c H',d=kG c->av H H'->nP mg E c H'
section
variable {P:Program} {w:World} {K:Frag} {mg:Str->Option Value} {base:Heap} {N ps:List Str} {x qual:Str} {st:Stmt} {scope:Scope} {f:Addr} {cd:Value} {A:Around} {outer:List Env} {s:Shared} {H:Hp} {E:XK} {O:List Nat} {k:Nat}
theorem rR {c:Str} {C:Addr} {b:Bool} {bm tl J3:List Value} {newId J4 uc J5 B Bn:String} {kj:Expr} {v:V} {np eE pos:Pos} (hC:Fo K mg c C bm tl newId) (Fn:ExcBaseFacts Bn newId J5 J3) (J6:bm.contains (.type Bn)=true) (FB:ExcBaseFacts B J4 uc bm)
  (ha:PE (du (ki P w) P w K mg base N qual scope f cd A outer s H E) kj (tC v)) (hg:Gl (du (ki P w) P w K mg base N qual scope f cd A outer s H E) c:=by rfl)
  (he:starEach [kj] (envOfC qual scope s.heap.objs.size f cd)=[(false,eval kj (envOfC qual scope s.heap.objs.size f cd))]:=by rfl) (Kc:starEach ([]:List Expr) (envOfC qual scope s.heap.objs.size f cd)=[]:=by rfl) (hd:(c == ("__debug__":Str))=false:=by decide):
  PS (du (ki P w) P w K mg base N qual scope f cd A outer s H E) (.Raise (some (.Call (.Name c np) [kj] [] eE)) none pos) (tS K O (b,nP mg E) (ud c)):=
 (zc hC Fn J6 FB (cq ha el (by show starEach [kj] (envOfC qual scope s.heap.objs.size f cd)=(false,eval kj (envOfC qual scope s.heap.objs.size f cd)) :: starEach [] (envOfC qual scope s.heap.objs.size f cd); rw [he,Kc])) hg (by rw [he,Kc]) (by rw [Kc]; rfl) hd).mono λD σ H1 hh=>hh.e λH0 U A0 δ r R F ed Q=>by
  cases ed
  exact ⟨by show 1<=sizeLine; decide,Q.2 c H1 rfl F.same C hC.bound⟩
theorem p8 (O:List Nat) (g:DS->Option Res) (F:Df K mg x st ps) (S:aN N ps (ai st))
  (body:∀ (f:Addr) (b6:Value) (A:Around) (outer:List Env) (s:Shared) (H:Hp) (E:XK),dQ k (A.deeper (envOfC x (ai st) s.heap.objs.size f b6))->iS (du (ki P w) P w K mg base N x (ai st) f b6 A outer s H E) (cD st) (tS K O (false,nP mg E) g))
  (hO:∀ i∈O,ps.length<=i:=by decide) {n m:Nat} (hN:N.length=n:=by rfl) (hP:ps.length=m:=by rfl):Bp P w K mg base (k + 1) x ps (vv K mg m (fK n g)):=by
 subst hN hP
 refine F.OD S (λvs H Q E h=>h.1) (λf b6 A outer s H vs Q E hr h=>⟨_,body f b6 A outer s H E hr,?_⟩)
 obtain ⟨hn,A',ds,d,al,hd,e,q,qx⟩:=h
 obtain ⟨r,e1,e2⟩:=bind1 e
 refine ⟨H,[],A',_,r,Rel.start al hd (λi hi=>by have:=hO i hi; rw [<- hd.len,hn]; exact this),Fx.start al,e1,?_⟩
 cases r with
 | nx δ=>cases e2; exact λU σ H' R F'=>q .fF H' F'.same .fF
 | rt d=>cases e2; exact ⟨λv H' h=>by unfold je at h; rw [if_neg Bool.false_ne_true] at h; exact q v H' h.1 h.2,λc H' e s=>qx c H' e s⟩
 | bk _=>cases e2
 | ct _=>cases e2
end
def rT (i:Nat) (g:DS->Option D):DS->Option Res:=λδ=>(g δ).bind λd=>some (zg d (.nx (δ.set i (some d))))
def p9 (g:DS->Option D):DS->Option Res:=λδ=>(g δ).bind λd=>some (zg d (.nx δ))
section
variable {X:Cx} {O:List Nat} {E:XK} {k kk n i:Nat} {x:Str} {ps:List Str} {p pos:Pos} {e:Expr} {es:List Expr} {gr:DS->Option (List D)} {G:List D->Option D} {st:Stmt} {b:Bool}
theorem mM (F:Bp X.prog X.w X.K X.mg X.base k x ps (vv X.K X.mg n G)) (hr:dQ kk X.A) (hk:k<=kk) (hx:kE (ki X.prog X.w) X E) (ha:PA X (e :: es) (pE X.K O gr)) (hg:Gl X x:=by rfl)
  (nF:(x == ("__debug__":Str))=false:=by decide) (he:starEach (e :: es) X.env=(false,eval e X.env) :: starEach es X.env:=by rfl) (gA:(backTo pos (starEach es X.env)).any (·.1)=false:=by rfl):
  PE X (.Call (.Name x p) (e :: es) [] pos) (l8 (vv X.K X.mg n G) [] E (pE X.K O gr)):=by
 obtain ⟨f,fd,F,m,kp,b⟩:=F
 exact uY F (hr.mono hk) hg m kp b .nil hx ha nF he gA
set_option tactic.hygienic true in
theorem zh {K:Frag} {mg:Str->Option Value} {σ:St} {δ:DS} {H:Hp} {Q:VK} {U A0:List Addr} {d:D} (R:Rel K O U A0 σ δ H) (e:aJ G n gr δ=some d) (qn:∀ v H',av H H'->HD K (wo H' (U ++ A0)) v d->Q v H')
  (qx:∀ c H',d=kG c->av H H'->nP mg E c H'):l8 (vv K mg n G) [] E (pE K O gr) σ H Q:=by
 obtain ⟨ds,e1,e2⟩:=bind1 e
 split at e2
 .rename_i hn
  refine ⟨U,A0,δ,ds,R,e1,λvs H' s h=>?_⟩
  show vv K mg n G (vs ++ []) H' Q E
  rw [SI]
  exact ⟨by rw [h.len]; exact hn,U ++ A0,ds,d,(R.same s).al,h,e2,λv H2 s2 h2=>qn v H2 (s.trans s2) h2,λc H2 ed s2=>qx c H2 ed (s.trans s2)⟩
 .cases e2
theorem zi (h:PS X st (xI (l8 (vv X.K X.mg n G) [] E (pE X.K O gr)))):PS X st (tS X.K O (b,nP X.mg E) (p9 (aJ G n gr))):=h.mono λD σ H hh=>hh.e λH0 U A0 δ r R F ed P=>by
 obtain ⟨d,e1,e2⟩:=bind1 ed
 have e3:=Su e2
 refine zh R e1 (λv H' s hv=>?_) (λc H' hd s=>?_)
 .cases hx:mK d with
  | some c=>rw [i5 hx] at hv; exact (vq hv).elim
  | none=>
    rw [oU hx] at e3
    subst e3
    exact P U _ H' (R.same s) (F.grow s)
 .subst hd
  rw [vt] at e3
  subst e3
  exact P.2 c H' rfl (F.same.trans s)
end
theorem zj {K:Frag} {b:Bool} {H0 H':Hp} {A0:List Addr} {v:V} {c:Str} (h:je K b H0 A0 v (kG c) H'):False:=by
 unfold je at h
 split at h
 .obtain ⟨r,o,_,_,_,_,q⟩:=h
  cases q with
  | tL k _=>exact p6 k λ_ z=>nomatch z
 .exact vq h.2
abbrev Cx.tr (X:Cx) (gI:List (Addr×Obj)) (E:XK):Cx:={ X with pn:=X.pn ++ gI,xe:=λv s1=>∃ σ H0 s0,Inv X gI σ H0 s0 /\ ki X.prog X.w X.stack H0 s0 E v s1 }
section
variable {X:Cx} {pins gI:List (Addr×Obj)} {σ:St} {H:Hp} {s:Shared} {E:XK}
theorem Cx.Ok.tr (ok:X.Ok):(X.tr gI E).Ok:=
 ⟨ok.mod,ok.kind,ok.glob,ok.blt,ok.above,ok.inj,ok.has,ok.vZ,ok.hd,ok.frames,ok.xw,ok.z9,ok.bs,ok.qK,ok.j4,ok.lu,ok.fq,ok.qL⟩
theorem Cx.Ok.ue (ok:(X.tr gI E).Ok):X.Ok:=
 ⟨ok.mod,ok.kind,ok.glob,ok.blt,ok.above,ok.inj,ok.has,ok.vZ,ok.hd,ok.frames,ok.xw,ok.z9,ok.bs,ok.qK,ok.j4,ok.lu,ok.fq,ok.qL⟩
theorem Inv.tr (I:Inv X gI σ H s):Inv (X.tr gI E) [] σ H s:=⟨I.ok.tr,I.os,I.bare,I.base,I.loc,I.cell,I.free,I.dD,λp hp=>I.pin p (by rw [SI] at hp; exact hp),I.bo,I.len⟩
theorem Inv.ue (I:Inv (X.tr gI E) pins σ H s):Inv X gI σ H s:=⟨I.ok.ue,I.os,I.bare,I.base,I.loc,I.cell,I.free,I.dD,λp hp=>I.pin p (So _ hp),I.bo,I.len⟩
theorem Bq:kE (ki X.prog X.w) (X.tr gI E) E:=λ_ σ H s _ _ I h=>⟨σ,H,s,I.ue,h⟩
end
abbrev Ah (a:Addr) (c:Str):D:=.dict [(.list [],.tuple [.int (a:Nat),.str c])]
def Br (gb:DS->Option Res) (hand:Str->Option D):DS->Option Res:=λδ=>(gb δ).bind λr=>match r with
 | .rt d=>(match mK d with
   | some c=>(hand c).bind λd'=>some (.rt d')
   | none=>some (.rt d))
 | r=>some r
theorem Rel.Es {K:Frag} {O:List Nat} {A0:List Addr} {σ:St} {H1:Hp} {n i:Nat} {a C:Addr} {c:Str} (hl:σ.length=n) (hi:i < n) (hO:i∉O) (al:Ls A0 H1) (ta:H1 a=none) (Af:nsIn K mainGlobals c=some (some (.ref C))):
  Rel K O [] A0 (σ.set i (some (.ref a))) ((List.replicate n none).set i (some (Ah a c))) (upd H1 a (DI a C)):=by
 have get:∀ (j:Nat) d,((List.replicate n (none:Option D)).set i (some (Ah a c)))[j]?=some (some d)->j=i /\ d=Ah a c:=λj d q=>by
  by_cases hj:i=j
  .subst hj
   rw [Sk (by rw [T8]; exact hi)] at q
   cases q
   exact ⟨rfl,rfl⟩
  .rw [R8 hj] at q
   have:=SW q
   rw [List.mem_replicate] at this
   exact absurd this.2 (λz=>nomatch z)
 exact {
  len:=by rw [Sr,Sr,T8]; exact hl
  fz:=λj d _ q=>by
   obtain ⟨rfl,rfl⟩:=get j d q
   exact ⟨.ref a,Sk (by rw [hl]; exact hi),.exc Af (by show wo (upd H1 a (DI a C)) A0 a=_; rw [bD (λz=>al.free ta z)]; exact bM)⟩
  ow:=λj d hj q=>absurd hj (by rw [(get j d q).1]; exact hO)
  inj:=λj k d e l hj _ _ q _ _ _=>absurd hj (by rw [(get j d q).1]; exact hO)
  al:=al.same (b9 ta _) }
section
variable {X:Cx} {O:List Nat} {T n:Str} {Tv:Value} {tp Bm pos:Pos} {body zd:List Stmt} {En:Stmt} {gb:DS->Option Res} {gs:Addr->DS->Option Res} {hand:Str->Option D} {xk:Str->Hp->Prop} {i:Nat}
theorem Et {b:Bool} (hb:∀ gI E,iS (X.tr gI E) body (tS X.K O (b,nP X.mg E) gb)) (hs:∀ a,iS (X.Ag a) (En :: zd) (tS X.K O (b,λ_ _=>True) (gs a)))
  (tV:∀ c d,hand c=some d->∃ C,nsIn X.K mainGlobals c=some (some (.ref C)) /\ X.mg c=some (.ref C) /\ exmOne X.K (.ref C) Tv=some true)
  (hh:∀ a c d,hand c=some d->gs a ((List.replicate X.N.length none).set i (some (Ah a c)))=some (.rt d)) (hT:X.mg T=some Tv) (hN:X.N.Nodup) (hi:X.N[i]?=some n:=by rfl) (OF:i∉O:=by decide)
  (hl:X.env.scope.names.lookup n=some .local:=by rfl) (Kd:Gl X T:=by rfl) (B6:X.stack=X.env :: X.outer:=by rfl) (lA:X.env.frame=some X.env.locals:=by rfl) (mJ:(T == ("__debug__":Str))=false:=by decide):
  PS X (.Try body [.ExceptHandler (some (.Name T tp)) (some n) (En :: zd) Bm] [] [] pos) (tS X.K O (b,xk) (Br gb hand)):=by
 rintro pins s σ H D I ⟨Ke,U,A0,δ,r,R,F,ed,P⟩
 obtain ⟨r0,e1,e2⟩:=bind1 ed
 refine wpAny_Try_except ?_
 refine R7 (hb pins (λcv _ H2=>∃ c C,r0=.rt (kG c) /\ cv=.ref C /\ X.mg c=some (.ref C) /\ av Ke H2) [] s σ H D I.tr ⟨Ke,U,A0,δ,r0,R,F,e1,?_⟩) (λfl s1 hq=>?_) ?_
 .cases r0 with
  | nx δ'=>cases e2; exact P
  | bk δ'=>cases e2; exact P
  | ct δ'=>cases e2; exact P
  | rt d=>
    cases hx:mK d with
    | none=>
      simp only [hx] at e2
      cases e2
      exact ⟨P.1,λc H' hd s=>by subst hd; cases hx⟩
    | some c=>
      have hd:=i5 hx
      subst hd
      exact ⟨λv H' h=>(zj h).elim,λc' H' hd s C hC=>⟨c',C,by rw [hd],rfl,hC,s⟩⟩
 .cases fl with
  | next=>obtain ⟨bO,H',I',q⟩:=hq; exact Uo ⟨bO,H',I'.ue,q⟩
  | brk=>obtain ⟨bO,H',I',q⟩:=hq; exact ⟨bO,H',I'.ue,q⟩
  | cont=>obtain ⟨bO,H',I',q⟩:=hq; exact ⟨bO,H',I'.ue,q⟩
  | ret u=>obtain ⟨v,bO,H',I',rv,q⟩:=hq; exact ⟨v,bO,H',I'.ue,rv,q⟩
 rintro v s1 ⟨OG,H0,s0,I0,a,t,C,B,H1,rfl,os,bare,un,bo,na,ta,H8,ub,OH,c,C',er,hC,hm,CD⟩
 cases hC
 subst er
 have e3:((hand c).bind λd'=>some (Res.rt d'))=some r:=e2
 obtain ⟨d,hd,hr⟩:=bind1 e3
 cases hr
 obtain ⟨C2,Af,Fi,hex⟩:=tV c d hd
 rw [hm] at Fi
 cases Fi
 have fr:=ub.2.2.1
 have st:=ub.1
 have Kf:Heap.FlyingW B (X.env :: X.outer) a (.ref C) (.ref t) s1.heap:=by rw [<- B6]; exact ub
 have nf:∀ b∈ip X.stack,H1 b=none:=λb hb=>by
  obtain ⟨_,o,ho,_⟩:=I0.stack.mem hb
  exact un.free b o ho (I0.lL b hb) λz=>nomatch z
 have again:∀ {h2:Heap},Heap.FlyingW B (X.env :: X.outer) a (.ref C) (.ref t) h2->s1.heap.UpToSlots h2->Inv X pins OG H1 { s1 with heap:=h2 }:=λ{h2} GX GW=>
  I0.uW (ch:=[]) os (zb un H8 st GX.1 GW fr) (p5 bo H8 st GX.1 nf) bare (λb z=>nomatch z)
 refine oS (I0.ok.frames.trans (Tw some B6)) lA Kf OH λh4 held Kg Ia=>?_
 refine za held Kg λh5 Eu OI M5=>?_
 have I5:=again Eu (Ia.trans M5)
 have LT:Looks (model X.prog X.w) h5 (typeOf (.ref a)) (.ref C):=by
  obtain ⟨ob,OJ,hc⟩:=Eu.there
  rw [<- hc]
  exact (Looks.ld OJ).andThen Looks.now
 refine wpAny_handleBy_cons (codeAny_handlers_test (j7 (I5.Ag a) Kd hT ?_ mJ)) (by intro q; cases q)
 refine (exm_one (M:=model X.prog X.w) I5.j5 LT hex).here ?_
 refine codeAny_handlers_suite_as (p4 Eu OI λh6 GY OK OL=>?_)
 have I6:=again GY ((Ia.trans M5).trans OL)
 have GZ:∃ o,h6.get? a=some o /\ o.cls=.ref C:=GY.there
 have OM:=I6.Em (o:=DI a C) I0 na ta ⟨⟨GZ,OK⟩,let ⟨o,q,_⟩:=GZ; ⟨o,q⟩,λh1 h2 ⟨⟨o,q,c⟩,⟨o2,fs,q2,c2⟩⟩ kk=>⟨⟨o,kk o q,c⟩,⟨o2,fs,kk o2 q2,c2⟩⟩⟩
 refine j6 (X:=X.Ag a) (v:=.ref a) (OM.Ag a) hN hi (.inl hl) rfl (λs7 I7=>?_) (.inr hl)
 have Jt:i < X.N.length:=(Sh.mp hi).1
 refine R7 (hs a pins s7 _ _ { nx:=λ_ _=>False,rt:=D.rt } I7 ⟨Ke,[],A0,_,.rt d,Rel.Es I0.len Jt OF (F.old.same CD) ta Af,⟨CD.trans (b9 ta _),λ_ z=>(by simp at z),F.old⟩,hh a c d hd,⟨λv H' h=>P.1 v H' h,λ_ _ _ _=>trivial⟩⟩) (λfl s8 hq=>?_) λ_ _ z=>z.elim
 cases fl with
 | ret u=>
   obtain ⟨v,bO,H',J,rv,q⟩:=hq
   obtain ⟨m,hn,_⟩:=id J.loc
   exact wpAny_nameGoes hl hn (by rw [I0.ok.kind]; rfl) λh9 m' Iv k7=>⟨v,_,H',(J.J7 I0.ok).forget Iv k7,rv,q⟩
 | next=>obtain ⟨_,_,_,q⟩:=hq; exact q.elim
 | brk=>obtain ⟨_,_,_,q⟩:=hq; exact q.elim
 | cont=>obtain ⟨_,_,_,q⟩:=hq; exact q.elim
end
def Fp (c T:Str):Bool:=decide (c=T) || decide (T="ValueError") || decide (T="LotError")
def Ib:D->Option (Int×Str)
 | .dict (p :: _)=>(match p.1 with
   | .list _=>(match p.2 with
     | .tuple (.int a :: .str c :: _)=>some (a,c)
     | _=>none)
   | _=>none)
 | _=>none
def bK (cs:List Str) (T:Str) (g:DS->Option D):DS->Option D:=λδ=>(g δ).bind λd=>(Ib d).bind λy=>if y.2∈cs then some (.bool (Fp y.2 T)) else none
def Ic (K:Frag) (cs:List Str) (T:Str) (Tv:Value):Prop:=∀ c∈cs,∀ C,nsIn K mainGlobals c=some (some (.ref C))->zf K C /\ kitOne K (.ref C) Tv=some (Fp c T)
theorem vw {tM:List (D×D)} {eY:List (List Key×V)} {y:Int×Str} (k:tM.map (·.1)=eY.map (λp=>PyData.tuple (p.1.map AR))) (e:Ib (.dict tM)=some y):False:=by
 cases tM with
 | nil=>cases e
 | cons p r=>
   obtain ⟨d,d'⟩:=p
   refine p6 k λl z=>?_
   subst z
   cases e
theorem fT.G0 {K:Frag} {A:List Addr} {H:Hp} {v:V} {d:D} {y:Int×Str} (h:fT K A H v d) (e:Ib d=some y):∃ a C:Addr,y.1=(a:Nat) /\ v=.ref a /\ nsIn K mainGlobals y.2=some (some (.ref C)) /\ H a=some (DI a C):=by
 rcases h with h | ⟨l,o,rfl,e',q⟩
 .cases h with
  | tL _ k _=>exact (vw k e).elim
  | exc k h=>cases e; exact ⟨_,_,rfl,rfl,k,(iV h).2⟩
  | _=>cases e
 .cases q with
  | tL k _=>exact (vw k e).elim
  | lst _=>cases e
section
variable {X:Cx} {O:List Nat} {e:Expr} {ga:DS->Option D} {pos p p2:Pos} {T:Str} {Tv:Value} {cv:V}
set_option tactic.hygienic true in
theorem vx (cs:List Str) (hB:X.mg "isinstance"=none) (ha:PE X e (gK X.K O ga)) (ht:PE X (.Name T p2) (tC cv)) (Ka:∀ u,RelV cv u->u=Tv) (hT:Ic X.K cs T Tv) (hg:Gl X "isinstance":=by rfl)
  (he:starEach [e,.Name T p2] X.env=(false,eval e X.env) :: starEach [.Name T p2] X.env:=by rfl) (DU:starEach [.Name T p2] X.env=(false,eval (.Name T p2) X.env) :: starEach [] X.env:=by rfl) (gA:(backTo pos (starEach [.Name T p2] X.env)).any (·.1)=false:=by rfl):
  PE X (.Call (.Name "isinstance" p) [e,.Name T p2] [] pos) (tE X.K O (bK cs T ga)):=
 (kb w9 hg hB jm (cq ha (cq ht el DU) he) (by decide) (by decide) he gA).mono λσ H Q hh=>hh.e λU A0 δ d R ed q=>by
  obtain ⟨x,e1,e2⟩:=bind1 ed
  obtain ⟨y,e3,e4⟩:=bind1 e2
  split at e4
  .rename_i hz
   cases e4
   refine ⟨U,A0,δ,_,R,e1,λv H' s h=>?_⟩
   obtain ⟨a,C,_,rfl,Af,hH⟩:=h.G0 e3
   obtain ⟨xc,kt⟩:=hT _ hz C Af
   exact ⟨a,C,cv,_,rfl,hH,xc,q _ H' s (.bl _),.inl ⟨Tv,Ka,kt⟩⟩
  .cases e4
end
def Ie (x:Addr) (X:Cx):Prop:=X.A.handled=some (.ref x)
def G1 (x:Addr) (lo:Int) (n:Nat):It:=⟨λi _=>i < n,λi H v H'=>H'=H /\ v=.int (lo + i),λi H=>n<=i /\ ∃ C,H x=some (DI x C)⟩
theorem rV {P:Program} {w:World} {K:Frag} {tg:Expr} (x it:Addr) (lo:Int) (n:Nat):uX (Ie x) P w K tg (G1 x lo n) [it] it (λi h=>IsRangeIter h it (lo + (i:Nat) * 1) ((n:Int) - (i:Nat)) 1) where
 mem:=by simp
 obj:=λi h st b hb=>by
  have e:b=it:=by simpa using hb
  subst e
  exact ⟨_,st,λv z=>by
   have z':Data.fields _=Data.cell v:=z
   cases z'⟩
 keep:=λi h h' st k=>k it (by simp) _ st
 item:=by
  intro X hP hw hK hc i pins s σ H E I hf st hg
  subst hP hw hK
  obtain ⟨f0,f1,f2,f3,f4,f5⟩:=hf it (by simp)
  have RA:i < n:=hg
  refine wpAny_pyNext_range_item st (by omega) λh' tX k7=>?_
  have lN:IsRangeIter h' it (lo + ((i + 1:Nat):Int) * 1) ((n:Int) - ((i + 1:Nat):Int)) 1:=by
   have e1:lo + ((i + 1:Nat):Int) * 1=lo + (i:Int) * 1 + 1:=by push_cast; omega
   have e2:(n:Int) - ((i + 1:Nat):Int)=(n:Int) - (i:Int) - 1:=by push_cast; omega
   rw [e1,e2]; exact tX
  have I1:Inv X pins σ H { s with heap:=h',toks:=s.toks + 1 }:=I.turned (λb o hb e=>k7.extBut b o hb e) f0 f1 f3 f4 f5
  refine ⟨_,rfl,qQ (s:={ s with heap:=h',toks:=s.toks + 1 }) (n:="range_iterator") lN rfl rfl (by decide) ⟨.int (lo + i),H,I1,⟨s.toks,?_⟩,⟨rfl,rfl⟩,lN,λb hb=>(hf b hb).1⟩⟩
  rw [Int.mul_one]
 done:=by
  intro X hP hw hK hc i pins s σ H E I hf st hg
  subst hP hw hK
  obtain ⟨f0,f1,f2,f3,f4,f5⟩:=hf it (by simp)
  obtain ⟨hn,C,hC⟩:=hg
  obtain ⟨ox,fs,ho,hd,h2⟩:=(show bx s.heap x from (I.bo x _ hC).1.2)
  exact nO hc ho hd h2 st (by omega) λh' eb=>⟨rfl,I.turned (t':=s.toks) (λb o hb e=>eb b o hb e) f0 f1 f3 f4 f5⟩
 self:=λ_ _ _ _ _ st h=>wpAny_pyIter_rangeiter st h
section
variable {X:Cx} {tg:Expr}
theorem xa {x:Addr} {pins:List (Addr×Obj)} {σ:St} {H:Hp} {s:Shared} {R:It->Hp->Prop} {E:Value->Shared->Prop} {lo hi:Int} {t u v:Tok} {tk:Nat} (I:Inv X pins σ H s) (h1: -(2 ^ 62)<=lo) (h2:lo < 2 ^ 62) (h3: -(2 ^ 62)<=hi) (h4:hi < 2 ^ 62)
  (q:R (G1 x lo (hi - lo).toNat) H):wpAny (model X.prog X.w) X.A (pyIter (.ref s.heap.objs.size)) (xP (Ie x) X pins σ tg R) E { s with heap:=s.heap.push { cls:=.type "range",data:=.fields #[.int lo t,.int hi u,.int 1 v] },toks:=tk }:=by
 refine wpAny_pyIter_range (IsRange.new ..) (small_one h1 h2 h3 h4) ?_
 have I1:Inv X pins σ H { s with heap:=s.heap.push { cls:=.type "range",data:=.fields #[.int lo t,.int hi u,.int 1 v] },toks:=tk }:=I.kept λb o e=>RG _ e
 refine ⟨(s.heap.push { cls:=.type "range",data:=.fields #[.int lo t,.int hi u,.int 1 v] }).objs.size,[(s.heap.push { cls:=.type "range",data:=.fields #[.int lo t,.int hi u,.int 1 v] }).objs.size],_,_,H,rfl,
  I1.kept (t':=tk) λb o e=>RG _ e,rV x _ lo (hi - lo).toNat,?_,λb hb=>?_,q⟩
 .have e1:lo + ((0:Nat):Int) * 1=lo:=by simp
  have e2:(((hi - lo).toNat:Nat):Int) - ((0:Nat):Int)=Builtin.Range.rangeSize lo hi 1:=by rw [rangeSize_one]; split <;> omega
  show IsRangeIter _ _ (lo + ((0:Nat):Int) * 1) ((((hi - lo).toNat:Nat):Int) - ((0:Nat):Int)) 1
  rw [e1,e2]
  exact RU _ rfl
 .have e:b=(s.heap.push { cls:=.type "range",data:=.fields #[.int lo t,.int hi u,.int 1 v] }).objs.size:=by simpa using hb
  subst e
  exact I1.sZ (RO _) (I1.bo.fresh (RO _))
def kl (x:Addr) (j:Nat) (g:DS->Option (List D)):DS->Option (List D):=λδ=>((δ[j]?).join.bind Ib).bind λy=>if y.1=(x:Nat) then ez g δ else none
set_option tactic.hygienic true in
theorem uf {O:List Nat} {a:Expr} {gr:DS->Option (List D)} {p pos:Pos} (x:Addr) (j:Nat) (hm:X.mg "range"=none) (ha:PA X [a] (pE X.K O gr)) (hg:Gl X "range":=by rfl) (hs:starEach [a] X.env=[(false,eval a X.env)]:=by rfl):
  FU (Ie x) X tg (.Call (.Name "range" p) [a] [] pos) (A8 X.K O (kl x j gr)):=by
 rintro pins s σ H Q I ⟨U,A0,δ,ds,R,ed,q⟩
 obtain ⟨y,ey,Kh⟩:=bind1 ed
 obtain ⟨d0,hj,ej⟩:=bind1 ey
 .split at Kh
  .rename_i ON
   obtain ⟨v0,_,OO⟩:=R.at (join_some hj)
   obtain ⟨a1,C,ea,_,_,hH⟩:=OO.G0 ej
   have OP:a1=x:=Int.ofNat.inj (ea.symm.trans ON)
   subst OP
   obtain ⟨xs,e1,e2⟩:=bind1 Kh
   split at e2
   .split at e2
    .rename_i j0 hz
     cases e2
     refine Call_ (kA I hg hm boot_range (Tq (eh (ha pos pins s σ H (λvs H1=>av H H1 /\ b7 X.K (wo H1 (U ++ A0)) vs [.int j0]) I ⟨U,A0,δ,_,R,e1,λvs H' s h=>⟨s,h⟩⟩) λus s1 ⟨vs,H1,I1,r1,M6,h1⟩=>?_) hs rfl))
     cases h1 with
     | cons h1 h2=>
       cases h2
       cases h1
       cases r1 with
       | cons r rr=>
         cases rr
         obtain ⟨t,rfl⟩:=r
         refine call_range_1 (xa (x:=a1) I1 (by omega) (by omega) hz.1 hz.2 (q _ H1 M6 λi H2 s2=>⟨λd hd=>?_,λhi=>?_⟩))
         .rw [Int.sub_zero]
          obtain ⟨hi,rfl⟩:=mm hd
          refine ⟨hi,λy H3 hy=>?_⟩
          obtain ⟨rfl,rfl⟩:=hy
          exact ⟨av.refl _,.int _⟩
         .rw [mn] at hi
          subst hi
          rw [Int.sub_zero]
          exact ⟨RO _,C,s2 _ _ (M6 _ _ hH)⟩
    .cases e2
   .cases e2
  .cases Kh
end
section
variable {X:Cx} {O:List Nat} {scope:Scope} {elt iter tg:Expr} {ifs:List Expr} {pos:Pos} {gi:DS->Option (List D)} {ge:DS->Option D} {gt:D->DS->Option DS} {gc:DS->Option Bool} {k:Nat}
end
theorem fY.units {k:Nat} {A:Around} (r:fY k A):A.units + 64 < cLine:=by have:=r.un; omega
theorem Ew {X:Cx} {k:Nat} (hr:fY k X.A):gz X (compareOp .Eq) (yn X.K false):=by
 intro pins s σ H x y v u Q I rx ry h
 obtain ⟨d,e,h1,h2,s1,s2,q⟩:=h
 obtain ⟨as,r1⟩:=h1.reads I rx (eI s1)
 obtain ⟨bs,r2⟩:=h2.reads I ry (eI s2)
 exact eq_dataH r1 r2 s1 s2 hr.units ⟨.bl _,H,I,rfl,q⟩
structure M7 (P:Program) (w:World) (K:Frag) (mg:Str->Option Value) (base:Heap) (k:Nat) (f:Addr) (fd:FuncData) (ps:List Str) (sp:Addr->Sp):Prop where
 len:∀ x vs H Q E,sp x vs H Q E->vs.length=ps.length
 run:∀ (x:Addr) (A:Around) (outer:List Env) (s:Shared) (H:Hp) (args:Args) (us:List Value) (vs:List V) (Q:VK) (E:XK),fY k A->A.handled=some (.ref x)->wj P w K mg base A outer s H->BindsTo s fd args (ps.zip us)->aO vs us->sp x vs H Q E->
  codeAny (model P w) A (.call (.ref f) args) (CR sT outer P w H s Q E) s
section
variable {P:Program} {w:World} {K:Frag} {mg:Str->Option Value} {base:Heap}
theorem Ex {k:Nat} {f:Addr} {name qual:Str} {params:Arguments} {body:List Stmt} {scope:Scope} {dV kV doc pm b6 ct oc:Value} {an od:Option Addr} {tz:Array (Option Value)} {N ps:List Str} {sp:Addr->Sp}
  (lk:K.lookup f=some ⟨oc,od,.func (fnOf name qual params body scope dV kV doc pm an b6 ct),tz⟩) (nB:codeIn K b6 qual=true) (S:aN N ps scope) (len:∀ x vs H Q E,sp x vs H Q E->vs.length=ps.length)
  (ka:∀ (x:Addr) (A:Around) (outer:List Env) (s:Shared) (H:Hp) (vs:List V) (Q:VK) (E:XK),fY k (A.deeper (envOfC qual scope s.heap.objs.size f b6))->A.handled=some (.ref x)->sp x vs H Q E->
   ∃ t,iS (Kb P w K mg base N qual scope f b6 A outer s H) body t /\ t { nx:=λ_ H'=>Q .fF H',rt:=Q } (start N vs) H):
  M7 P w K mg base (k + 1) f (fnOf name qual params body scope dV kV doc pm an b6 ct) ps sp:=by
 refine ⟨len,λx A outer s H args us vs Q E hr hx e0 hb r xX=>?_⟩
 have KX:K.In s.heap:=e0.mod.FE.keeps λb o e=>(e0.bs b o e).1
 have lim:s.heap.NoLimit:=e0.mod.nolimit.keeps λb o e=>(e0.bs b o e).1
 obtain ⟨t,ht,hq⟩:=ka x A outer s H vs Q E (hr.deeper _) hx xX
 have xY:∀ y∈ps.zip us,scope.names.lookup y.1=some .local \/ (scope.names.lookup y.1=some .cell /\ ((cellsFrom (s.heap.objs.size + 1) scope.names []).lookup y.1).isSome=true):=λ⟨n,v⟩ hy=>
  (S.par n (UR hy).1).elim .inl λq=>.inr ⟨q,cellsFrom_some _ _ _ (.inl q)⟩
 refine codeAny_call_function (by have:=hr.dp; omega) (KX _ _ lk) rfl S.co S.gen rfl (codeRec_of KX nB) (hb _ _ _ _ (wpAny_newFunctionEnv_cells S.kind xY λenv he s1 x=>?_))
 subst he
 refine ⟨lim.keeps x.toInCall.keep,codeAny_func ?_⟩
 have e1:wj P w K mg base { A with handled:=none } outer s H:=⟨e0.frames,e0.mod,e0.bs,e0.qK,e0.fq,e0.qL,e0.bo,e0.bare⟩
 have J:Inv (du sT P w K mg base N qual scope f b6 { A with handled:=none } outer s H E0) [] (start N vs) H s1:=ou S rfl e1 (len _ _ _ _ _ xX) r x
 have I:Inv (Kb P w K mg base N qual scope f b6 A outer s H) [] (start N vs) H s1:=
  ⟨⟨J.ok.mod,J.ok.kind,J.ok.glob,J.ok.blt,J.ok.above,J.ok.inj,J.ok.has,J.ok.vZ,(λz=>nomatch z),Around.frames_deeper e0.frames,J.ok.xw,J.ok.z9,J.ok.bs,J.ok.qK,J.ok.j4,J.ok.lu,J.ok.fq,J.ok.qL⟩,
    J.os,J.bare,J.base,J.loc,J.cell,J.free,J.dD,J.pin,J.bo,J.len⟩
 refine R7 (ht [] s1 (start N vs) H _ I hq) (λfl s' hs=>?_) λe s' hs=>hs.elim
 cases fl with
 | ret u=>
   obtain ⟨v,bO,H',J',rv,q⟩:=hs
   exact ⟨v,H',J'.os,J'.bare,J'.base,J'.bo,rv,q⟩
 | next=>
   obtain ⟨bO,H',J',q⟩:=hs
   exact ⟨.fF,H',J'.os,J'.bare,J'.base,J'.bo,rfl,q⟩
 | brk=>obtain ⟨_,_,_,q⟩:=hs; exact q.elim
 | cont=>obtain ⟨_,_,_,q⟩:=hs; exact q.elim
def Ig (P:Program) (w:World) (K:Frag) (mg:Str->Option Value) (base:Heap) (k:Nat) (x:Str) (ps:List Str) (sp:Addr->Sp):Prop:=
 ∃ f fd,M7 P w K mg base k f fd ps sp /\ mg x=some (.ref f) /\ keepIn K (.ref f)=true /\ Binds K fd ps []
theorem Bt {x:Str} {st:Stmt} {N ps:List Str} {k:Nat} (O:List Nat) (g:Addr->DS->Option Res) (F:Df K mg x st ps) (S:aN N ps (ai st))
  (body:∀ (y f:Addr) (b6:Value) (A:Around) (outer:List Env) (s:Shared) (H:Hp),fY k (A.deeper (envOfC x (ai st) s.heap.objs.size f b6))->A.handled=some (.ref y)->iS (Kb P w K mg base N x (ai st) f b6 A outer s H) (cD st) (tS K O (false,λ_ _=>True) (g y)))
  (hO:∀ i∈O,ps.length<=i:=by decide) {n m:Nat} (hN:N.length=n:=by rfl) (hP:ps.length=m:=by rfl):Ig P w K mg base (k + 1) x ps (λy=>gj K m (fK n (g y))):=by
 subst hN hP
 obtain ⟨f,fd,F,m,b⟩:=F
 have kp:=F.kp
 obtain ⟨oc,od,kV,doc,pm,an,b6,ct,tz,rfl,lk,nB⟩:=F.ex
 refine ⟨f,_,Ex lk nB S (λy vs H Q E h=>h.1) (λy A outer s H vs Q E hr hy h=>⟨_,body y f b6 A outer s H hr hy,?_⟩),m,kp,b⟩
 obtain ⟨hn,A',ds,d,al,hd,e,q⟩:=h
 obtain ⟨r,e1,e2⟩:=bind1 e
 refine ⟨H,[],A',_,r,Rel.start al hd (λi hi=>by have:=hO i hi; rw [<- hd.len,hn]; exact this),Fx.start al,e1,?_⟩
 cases r with
 | nx δ=>cases e2; exact λU σ H' R F'=>q .fF H' F'.same .fF
 | rt d=>cases e2; exact ⟨λv H' h=>by unfold je at h; rw [if_neg Bool.false_ne_true] at h; exact q v H' h.1 h.2,λ_ _ _ _=>trivial⟩
 | bk _=>cases e2
 | ct _=>cases e2
end
set_option tactic.hygienic true in
theorem zk {X:Cx} {O:List Nat} {y:Addr} {k kk n:Nat} {ps:List Str} {G:Addr->List D->Option D} {x:Str} {p pos:Pos} {e:Expr} {es:List Expr} {gr:DS->Option (List D)} (F:Ig X.prog X.w X.K X.mg X.base k x ps (λy=>gj X.K n (G y))) (hr:fY kk X.A) (hk:k<=kk) (hy:X.A.handled=some (.ref y))
  (ha:PA X (e :: es) (pE X.K O gr)) (hg:Gl X x:=by rfl) (nF:(x == ("__debug__":Str))=false:=by decide) (he:starEach (e :: es) X.env=(false,eval e X.env) :: starEach es X.env:=by rfl) (gA:(backTo pos (starEach es X.env)).any (·.1)=false:=by rfl):
  PE X (.Call (.Name x p) (e :: es) [] pos) (tE X.K O (aJ (G y) n gr)):=by
 obtain ⟨f,fd,F,hm,kp,hb⟩:=F
 rintro pins s σ H Q I ⟨U,A0,δ,d,R,ed,q⟩
 obtain ⟨ds,e1,e2⟩:=bind1 ed
 split at e2
 rotate_left
 .cases e2
 rename_i hn
 refine Uq (j7 I hg hm ?_ nF)
 refine callWith_K (h₀:=X.base) I.ok.mod.FE kp (eh (ha pos pins s σ H (λvs H1=>gj X.K n (G y) vs H1 Q E0) I ⟨U,A0,δ,ds,R,e1,λvs H' s h=>⟨by rw [h.len]; exact hn,U ++ A0,ds,d,(R.same s).al,h,e2,λv H2 s2 h2=>q v H2 (s.trans s2) h2⟩⟩) λus s1 ⟨vs,H1,I1,r,q⟩=>⟨I1.j5,?_⟩) he gA
 have hlen:us.length=ps.length:=by rw [<- r.length]; exact F.len _ _ _ _ _ q
 refine wpAny_call (Ud (F.run y X.A X.stack s1 H1 ⟨us,[]⟩ us vs _ _ (hr.mono hk) hy I1.F5 (by have:=hb s1 us I1.j5 (by rw [SI]; exact hlen); rwa [SI] at this) r q) λrr s' hq=>?_)
 cases rr with
 | error v=>exact False.elim hq
 | ok fl=>
   cases fl with
   | ret u=>exact I1.after hq
   | next=>exact False.elim hq
   | brk=>exact False.elim hq
   | cont=>exact False.elim hq
def jJ (cs:List Str) (f:Str->D):Str->Option D:=λc=>if c∈cs then some (f c) else none
theorem la {cs:List Str} {f:Str->D} {c:Str} {d:D} (h:jJ cs f c=some d):c∈cs /\ d=f c:=by
 unfold jJ at h
 split at h
 .cases h; exact ⟨by assumption,rfl⟩
 .cases h
theorem ug {cs:List Str} {f:Str->D} {c:Str} {d:D} (h:jJ cs f c=some d):c∈cs:=(la h).1
theorem nQ {x:Addr} {j:Nat} {c:Str} {g:DS->Option (List D)} {δ:DS} (e:(δ[j]?).join=some (Ah x c)):kl x j g δ=ez g δ:=by
 unfold kl
 rw [e]
 exact RV rfl
theorem zl {gi M8:DS->Option (List D)} {k:Nat} {ix:List Nat} {gt:D->DS->Option DS} {gc:DS->Option Bool} {ge:DS->Option D} {δ:DS} (h:gi δ=M8 δ):cF gi k ix gt gc ge δ=cF M8 k ix gt gc ge δ:=by unfold cF; rw [h]
def Ey (K:Frag) (mg:Str->Option Value) (cs TS:List Str):Prop:=∀ T∈TS,∃ C,mg T=some (.ref C) /\ Ic K cs T (.ref C)
def G4 (K:Frag) (mg:Str->Option Value) (L:Addr) (cs:List Str):Prop:=∀ c∈cs,∃ C,nsIn K mainGlobals c=some (some (.ref C)) /\ mg c=some (.ref C) /\ exmOne K (.ref C) (.ref L)=some true
theorem cG {X:Cx} {O:List Nat} {e:Expr} {ga:DS->Option D} {pos p p2:Pos} {T:Str} (cs TS:List Str) (CT:Ey X.K X.mg cs TS) (OQ:T∈TS) (hB:X.mg "isinstance"=none) (ha:PE X e (gK X.K O ga)) (Kd:Gl X T:=by rfl) (mJ:(T == ("__debug__":Str))=false:=by decide) (hg:Gl X "isinstance":=by rfl)
  (he:starEach [e,.Name T p2] X.env=(false,eval e X.env) :: starEach [.Name T p2] X.env:=by rfl) (DU:starEach [.Name T p2] X.env=(false,eval (.Name T p2) X.env) :: starEach [] X.env:=by rfl) (gA:(backTo pos (starEach [.Name T p2] X.env)).any (·.1)=false:=by rfl):
  PE X (.Call (.Name "isinstance" p) [e,.Name T p2] [] pos) (tE X.K O (bK cs T ga)):=by
 obtain ⟨C,m,k⟩:=CT T OQ
 exact vx cs hB ha (ra (v:=.ref C) ⟨_,m,rfl⟩ Kd mJ) (λu r=>r) k hg he DU gA
def CF:Option Obj->Bool
 | some ⟨_,_,.cls _,_⟩=>true
 | _=>false
def zm (K:Frag) (C:Addr):Bool:=CF (K.lookup C) && subIn K (.ref C) (.type "object") == some true && subIn K (.ref C) (.type "BaseException") == some true && findIn K (.ref C) "__class__" == some (some (.builtin "object.__class__")) &&
 findIn K (.ref C) "__getattribute__" == some (some (.builtin "BaseException.__getattribute__")) && findIn K (.ref C) "__getattr__" == some none
theorem Bu {K:Frag} {C:Addr} (q:zm K C=true):zf K C:=by
 unfold zm at q
 simp only [RT,Ta] at q
 obtain ⟨⟨⟨⟨⟨a,b⟩,c⟩,d⟩,e⟩,f⟩:=q
 refine ⟨?_,b,c,d,e,f⟩
 unfold CF at a
 split at a
 .exact ⟨_,_,_,_,by assumption⟩
 .cases a
def refOf:Option (Option Value)->Option Addr
 | some (some (.ref C))=>some C
 | _=>none
theorem mO {v:Option (Option Value)} {C:Addr} (h:refOf v=some C):v=some (some (.ref C)):=by
 unfold refOf at h
 split at h
 .cases h; rfl
 .cases h
def uh (K:Frag) (L:Addr) (cs TS:List Str):Bool:=(TS.all λT=>(refOf (nsIn K mainGlobals T)).isSome) && cs.all λc=>match refOf (nsIn K mainGlobals c) with
 | some C=>zm K C && exmOne K (.ref C) (.ref L) == some true && kitOne K (.ref C) (.type "ValueError") == some true && TS.all λT=>match refOf (nsIn K mainGlobals T) with
   | some CT=>kitOne K (.ref C) (.ref CT) == some (Fp c T)
   | none=>false
 | none=>false
section
variable {K:Frag} {L:Addr} {cs TS:List Str} {c:Str} {h:Heap} {mg:Str->Option Value}
set_option tactic.hygienic true in
theorem mP (q:uh K L cs TS=true) (hc:c∈cs):∃ C,nsIn K mainGlobals c=some (some (.ref C)) /\ zf K C /\ exmOne K (.ref C) (.ref L)=some true /\ kitOne K (.ref C) (.type "ValueError")=some true /\
  ∀ T∈TS,∀ CT,nsIn K mainGlobals T=some (some (.ref CT))->kitOne K (.ref C) (.ref CT)=some (Fp c T):=by
 unfold uh at q
 rw [RT] at q
 have q1:=Ss.mp q.2 c hc
 split at q1
 .rename_i C hC
  simp only [RT,Ta] at q1
  obtain ⟨⟨⟨a,b⟩,d⟩,e⟩:=q1
  refine ⟨C,mO hC,Bu a,b,d,λT hT CT Ki=>?_⟩
  have e1:=Ss.mp e T hT
  rw [Ki] at e1
  exact Ta.mp e1
 .cases q1
theorem Bv (X:K.In h) (G:h.Ns mainGlobals mg) (q:uh K L cs TS=true):Ey K mg cs TS:=λT hT=>by
 have q0:=q
 unfold uh at q0
 rw [RT] at q0
 have q1:=Ss.mp q0.1 T hT
 obtain ⟨CT,Ki⟩:=Option.isSome_iff_exists.mp q1
 have hn:=mO Ki
 refine ⟨CT,mg_of X G hn,λc hc C hC=>?_⟩
 obtain ⟨C',h1,h2,_,_,h5⟩:=mP q hc
 rw [hC] at h1
 cases h1
 exact ⟨h2,h5 T hT CT hn⟩
theorem Bw (q:uh K L cs TS=true):Ic K cs "ValueError" (.type "ValueError"):=λc hc C hC=>by
 obtain ⟨C',h1,h2,_,h4,_⟩:=mP q hc
 rw [hC] at h1
 cases h1
 refine ⟨h2,h4.trans ?_⟩
 unfold Fp
 simp
theorem Bx (X:K.In h) (G:h.Ns mainGlobals mg) (q:uh K L cs TS=true):G4 K mg L cs:=λc hc=>by
 obtain ⟨C,h1,_,h3,_⟩:=mP q hc
 exact ⟨C,h1,mg_of X G h1,h3⟩
theorem vy (X:K.In h):(bV K).In h:=λb o e=>by
 rw [fN] at e
 split at e
 .exact X b o e
 .cases e
end
theorem oV {es:List Expr} {p:Pos} {t:Option Expr} {l:Nat} {env:Env}:swapsWith (.List es p) t l env=pure false:=rfl
def oW:List Expr->Option (List Str)
 | []=>some []
 | .Constant (.str n) _ _ :: es=>(oW es).map (n :: ·)
 | _=>none
def mQ (ns:List Str):DS->Option (List D):=λ_=>some (ns.map .str)
set_option tactic.hygienic true in
theorem iF {X:Cx} {O:List Nat}:∀ {es:List Expr} {ns:List Str},oW es=some ns->PA X es (pE X.K O (mQ ns))
 | [],ns,h=>by
   cases h
   exact aq
 | e :: es,ns,h=>by
   unfold oW at h
   split at h
   .cases ‹_ :: _=[]›
   .rename_i n k p qH he
    cases he
    cases q:oW es with
    | none=>rw [q] at h; cases h
    | some ms=>
      rw [q] at h
      cases h
      exact ag (be aZ) (iF q) rfl
   .cases h
theorem G5:bootBuiltins "ValueError"=some (.type "ValueError"):=by decide +kernel
abbrev VE:List Value:=[.type "ValueError",.type "Exception",.type "BaseException",.type "object"]
theorem xb {X:Cx} {O:List Nat} {scope:Scope} {elt iter tg:Expr} {ifs:List Expr} {pos:Pos} {gi:DS->Option (List D)} {ge:DS->Option D} {gt:D->DS->Option DS} {gc:DS->Option Bool} {k:Nat} {gd:Cx->Prop} (sc:Scope) (N:List Str) (ix:List Nat) (N' xs:List Str) (hc:∀ cl C s2 H2 fp pins,gd (aH X scope N' cl C s2 H2 fp pins)) (own:Eg k gt) (hi:FU gd X tg iter (A8 X.K O gi))
  (hg:∀ cl C s2 H2 fp pins,PG (aH X scope N' cl C s2 H2 fp pins) tg (tG X.K [] gt)) (hf:∀ cl C s2 H2 fp pins,PF (aH X scope N' cl C s2 H2 fp pins) ifs (tT X.K [] gc)) (iB:∀ cl C s2 H2 fp pins,PE (aH X scope N' cl C s2 H2 fp pins) elt (tE X.K [] ge))
  (rA:∀ j∈ix,j∉O:=by decide) (hk:iC sc scope N xs ix N'=true:=by decide +kernel) (hl:xs.length=k:=by rfl)
  (e1:X.env.scope=sc:=by rfl) (e2:X.N=N:=by rfl) (hs:∀ x,foldedSetIterable iter X.env x=pure x:=by intro _; rfl):PE X (.ListComp elt [⟨tg,iter,ifs,0⟩] scope pos) (tN X.K O (cF gi k ix gt gc ge)):=by
 subst hl
 exact (oP (jG hk e1 e2) hc hi hg hf iB hs).mono λ_ _ _=>mB own rA
theorem rW {g g':DS->Option (List D)} {s:DS->Option D} {δ:DS} (h:g δ=g' δ):aV (fX s (aw g)) δ=aV (fX s (aw g')) δ:=by unfold aV fX aw; rw [h]
section
variable {M:Model} {A:Around} {E:Value->Shared->Prop} {s:Shared} {base:Heap} {env:Env} {outer:List Env} {L e:Addr} {cls a0 fl:Value}
theorem zo {Q:Unit->Shared->Prop} (lA:A.frames=some (env :: outer)) (hf:env.frame=some L) (f1:base.StaysIn s.heap) (f2:base.get? e=none) (f3:s.heap.FunFrames base (env :: outer)) (f4:s.heap.TracedAtW base e cls a0 fl) (x:bx s.heap e)
  (hQ:∀ h',Heap.HeldW base (env :: outer) e cls a0 L h'->bx h' e->s.heap.UpToSlots h'->Q () { s with heap:=h' }):wpAny M A (noteFrame (.ref e) env) Q E s:=by
 by_cases q:(fl == rawInt L)=true
 .have q':=eq_of_beq q
  subst q'
  exact wpAny_noteFrame_againW hf f4 (hQ s.heap ⟨f1,f2,f3,f4⟩ x (.refl _))
 .obtain ⟨oe,vs,T,oT,ts,he,⟨sW,h0⟩,hd,h1,Ek,Bk,hT,mJ,h3⟩:=f4
  subst sW
  obtain ⟨o',fs,qM,pd,h2⟩:=id x
  rw [he] at qM; cases qM
  rw [hd] at pd; cases pd
  have other:∀ b,b≠T->(s.heap.update T (Obj.mapFields (·.setIfInBounds 3 Value.none))).get? b=s.heap.get? b:=λb hb=>Se _ _ (Tf hb)
  have iG:∀ b o,s.heap.get? b=some o->(∀ vs,o.data≠.fields vs)->b≠T:=λb o hb kz q=>by
   rw [q,hT] at hb; cases hb; exact kz ts mJ
  have fr:(s.heap.update T (Obj.mapFields (·.setIfInBounds 3 Value.none))).FunFrames base (env :: outer):=f3.of_keeps λb o hb kz=>⟨o,(other b (iG b o hb kz)).trans hb,rfl⟩
  unfold noteFrame
  simp only [hf]
  refine RF (Te he hd h1 ?_)
  rw [RV (show (Value.ref T != Value.none)=true from by simp)]
  refine RF (Te hT mJ h3 ?_)
  rw [R4 q]
  refine RF (SU hT mJ (Sz.mp h3).1 ?_)
  refine R7 (gH (wpAny_entryW (E:=λ_ _=>False) (Q:=λ_ s2=>∃ h',s2={ s with heap:=h' } /\ Heap.NotedW base (env :: outer) e oe.cls a0 (rawInt L) (s.heap.update T (Obj.mapFields (·.setIfInBounds 3 Value.none))) h') lA fr hf ((other e (Tf Bk)).trans he)
   (λb o Ez=>(other b λq=>by rw [q,Ek] at Ez; cases Ez).trans (f1 b o Ez)) f2 hd (Sz.mp h1).1 h0 λh' n=>⟨h',rfl,n⟩)
   (kM (E:=λ_ _=>False) (Q:=λ_ s2=>bx s2.heap e) lA fr hf ((other e (Tf Bk)).trans he) hd (Sz.mp h1).1 h2 λ_ _ _ _ k _ _ _ _ _=>k)) (λ_ s2 ⟨⟨h',e2,x1,x2,x3,x4⟩,nc⟩=>?_) λ_ _ z=>z.1.elim
  subst e2
  exact hQ h' ⟨x1,f2,x2,x3⟩ nc λb o hb kz=>x4 b o ((other b (iG b o hb kz)).trans hb) kz
theorem ui {Q:Unit->Shared->Prop} (lA:A.frames=some (env :: outer)) (hf:env.frame=some L) (f1:base.StaysIn s.heap) (f2:base.get? e=none) (f3:s.heap.FunFrames base (env :: outer)) (f4:s.heap.TracedAtW base e cls a0 fl) (x:bx s.heap e)
  (hQ:∀ h',Heap.FlyingW base outer e cls a0 h'->bx h' e->s.heap.UpToSlots h'->Q () { s with heap:=h' }):wpAny M A (leaving env (.ref e)) Q E s:=by
 unfold leaving
 refine RF (zo lA hf f1 f2 f3 f4 x λh1 hh nc up=>?_)
 refine za (s:={ s with heap:=h1 }) hh nc λh2 ub Kj GW=>?_
 obtain ⟨k1,k2,⟨_,_,k3⟩,k4⟩:=ub
 exact hQ h2 ⟨k1,k2,k3,k4⟩ Kj (up.trans GW)
theorem zp {l:List Env} {Kk:String} {lF:Env} {Q:Value->Shared->Prop} (f1:base.StaysIn s.heap) (f3:s.heap.FunFrames base l) (f4:s.heap.TracedAtW base e cls a0 fl) (x:bx s.heap e)
  (hE:∀ h' M9,base.StaysIn h'->h'.FunFrames base l->h'.TracedAtW base e cls a0 M9->bx h' e->s.heap.UpToSlots h'->E (.ref e) { s with heap:=h' }):wpAny M A (PySem.passOn Kk (.ref e) lF:Sem Value) Q E s:=by
 obtain ⟨oe,vs,T,oT,ts,he,sW,hd,h1,Ek,Bk,hT,mJ,h3⟩:=f4
 have G6:3 < ts.size:=(Sz.mp h3).1
 obtain ⟨v,hv⟩:∃ v:Value,v=(lF.frame.elim Value.none λf=>rawInt f):=⟨_,rfl⟩
 have other:∀ b,b≠T->(s.heap.update T (Obj.mapFields (·.setIfInBounds 3 v))).get? b=s.heap.get? b:=λb hb=>Se _ _ (Tf hb)
 have iG:∀ b o,s.heap.get? b=some o->(∀ vs,o.data≠.fields vs)->b≠T:=λb o hb kz q=>by
  rw [q,hT] at hb; cases hb; exact kz ts mJ
 unfold PySem.passOn
 refine RF (Te he hd h1 ?_)
 rw [R4 (show ¬ ((Value.ref T == Value.none)=true) from by simp)]
 refine RF ?_
 unfold setFlight
 refine RF (Te he hd h1 ?_)
 rw [RV (show (Value.ref T != Value.none)=true from by simp),<- hv]
 refine SU hT mJ G6 (wpAny_throw (hE _ v (λb o Ez=>(other b λq=>by rw [q,Ek] at Ez; cases Ez).trans (f1 b o Ez)) (f3.of_keeps λb o hb kz=>⟨o,(other b (iG b o hb kz)).trans hb,rfl⟩) ?_ (x.upd (.inr (by decide))) λb o hb kz=>⟨o.slots,(other b (iG b o hb kz)).trans hb⟩))
 exact ⟨oe,vs,T,_,_,(other e (Tf Bk)).trans he,sW,hd,h1,Ek,Bk,Sq _ hT (SM (Sm mJ _)),Sm mJ _,by simp [G6]⟩
end
theorem By {l:List Env} {H H1:Hp} {g h h' B base:Heap} (u:Un (ip l) [] H H1 g h) (c:El g l H1 B) (st:B.StaysIn h) (lN:B.StaysIn h') (up:∀ b∈ip l,∀ o,h.get? b=some o->(∀ vs,o.data≠.fields vs)->∃ sl,h'.get? b=some { o with slots:=sl }) (fr:h.FunFrames base l):Un (ip l) [] H H1 g h' where
 keep:=λb o q n hb hx=>lN b o (c.at st (u.keep b o q n hb hx) hb (.inr ⟨_,q⟩))
 slot:=λb o q n hb hx=>by
  obtain ⟨sl,e⟩:=u.slot b o q n hb hx
  obtain ⟨_,o1,jj,kz⟩:=fr.mem hb
  rw [e] at jj
  cases jj
  obtain ⟨Ao,e'⟩:=up b hb _ e kz
  exact ⟨Ao,e'⟩
 free:=u.free
 there:=λb o q hx=>by
  by_cases hb:b∈ip l
  .obtain ⟨_,o1,jj,kz⟩:=fr.mem hb
   obtain ⟨Ao,e'⟩:=up b hb _ jj kz
   exact ⟨_,e'⟩
  .obtain ⟨o',e⟩:=u.there b o q hx
   exact ⟨o',lN b o' (c.at st e hb (.inr ⟨_,q⟩))⟩
 jv:=u.jv
 jc:=u.jc
 jw:=u.jw
theorem mR {h h' B B':Heap}:∀ {l:List Env},h.FunFrames B l->(∀ {b},B.get? b=none->B'.get? b=none)->(∀ env∈l,∀ L,env.frame=some L->h'.get? L=h.get? L)->h'.FunFrames B' l
 | [],_,_,_=>trivial
 | env :: _,⟨hk,⟨L,o,hf,hn,ho,hd⟩,hr⟩,hb,hg=>⟨hk,⟨L,o,hf,hb hn,(hg env (.head _) L hf).trans ho,hd⟩,mR hr hb λe he=>hg e (.tail _ he)⟩
theorem qa {env:Env} {l:List Env} {b:Addr} (h:b∈ip l):b∈ip (env :: l):=by
 obtain ⟨e,he,hb⟩:=Tu.mp h
 exact Tu.mpr ⟨e,RM _ he,hb⟩
def i6 (P:Program) (w:World) (Y:Cx) (E:XK):Cx:={ Y with xe:=λv s1=>∃ pins σ H0 s0,Inv Y pins σ H0 s0 /\ ki P w Y.stack H0 s0 E v s1 }
section
variable {P:Program} {w:World} {K:PySem.W.Frag} {mg:Str->Option Value} {base:Heap} {N:List Str} {qual:Str} {scope:Scope} {f:Addr} {cd:Value} {A:Around} {outer:List Env} {s:Shared} {H:Hp} {E:XK}
theorem Inv.Na {Y:Cx} {pins:List (Addr×Obj)} {σ:St} {H1:Hp} {s1:Shared} (I:Inv (i6 P w Y E) pins σ H1 s1):Inv Y pins σ H1 s1:=
 ⟨⟨I.ok.mod,I.ok.kind,I.ok.glob,I.ok.blt,I.ok.above,I.ok.inj,I.ok.has,I.ok.vZ,I.ok.hd,I.ok.frames,I.ok.xw,I.ok.z9,I.ok.bs,I.ok.qK,I.ok.j4,I.ok.lu,I.ok.fq,I.ok.qL⟩,I.os,I.bare,I.base,I.loc,I.cell,I.free,I.dD,I.pin,I.bo,I.len⟩
theorem Inv.inR {Y:Cx} {pins:List (Addr×Obj)} {σ:St} {H1:Hp} {s1:Shared} (I:Inv Y pins σ H1 s1):Inv (i6 P w Y E) pins σ H1 s1:=
 ⟨⟨I.ok.mod,I.ok.kind,I.ok.glob,I.ok.blt,I.ok.above,I.ok.inj,I.ok.has,I.ok.vZ,I.ok.hd,I.ok.frames,I.ok.xw,I.ok.z9,I.ok.bs,I.ok.qK,I.ok.j4,I.ok.lu,I.ok.fq,I.ok.qL⟩,I.os,I.bare,I.base,I.loc,I.cell,I.free,I.dD,I.pin,I.bo,I.len⟩
theorem zq {Y:Cx}:kE (ki P w) (i6 P w Y E) E:=λpins σ H s _ _ I h=>⟨pins,σ,H,s,I.Na,h⟩
theorem uj {X:Cx} (hX:X=du (ki P w) P w K mg base N qual scope f cd A outer s H E) {sc:Scope} {N':List Str} {cl:List (Str×Addr)} {C:Addr} {fp:List Addr} {pins pz:List (Addr×Obj)} {σ Nb:St} {H2 Hz:Hp} {s2 sz s':Shared} {e acc:Value} {use:Option (Value->Sem Unit)} {QQ:Value->Shared->Prop}
  (I0:Inv X pins σ H2 s2) (hC:s2.heap.objs.size<=C) (hf:∀ b∈fp,jd X pins H2 b) (Iz:Inv (aH X sc N' cl C s2 H2 fp pins) pz Nb Hz sz) (hx:ki P w X.stack Hz sz E e s'):
  notedBy (model X.prog X.w) X.A (compEnvC sc cl C X.env) (λe s'=>compPost (model X.prog X.w) X.A X.xe use QQ acc C (.error e) s') e s':=by
 subst hX
 obtain ⟨a,t,Cc,B,H3,rfl,os,bare,un,bo,na,ta,H8,ub,nc,hE⟩:=hx
 have I1:=Iz.uW (ch:=[]) os un bo bare (λb z=>nomatch z)
 have IX:=I0.uW (s':=s') (ch:=fp) I1.os I1.base I1.bo I1.bare λb hb=>⟨(hf b hb).2.2.2.1,(hf b hb).2.1,(hf b hb).2.2.2.2.1,(hf b hb).2.2.2.2.2⟩
 obtain ⟨m,hn,_⟩:=I1.loc
 have hn:s'.heap.Ns C m:=hn
 have fC:H3 C=none:=I1.free
 refine oS (env:=envOfC qual scope s.heap.objs.size f cd) I0.ok.frames rfl ub nc λh1 held OR up1=>?_
 refine ⟨m,up1.ns hn,λh2 sb lF _=>?_⟩
 have OS:=up1.ns hn
 obtain ⟨oC,es,ep,OT,OU,_⟩:=OS
 have Kl:∀ (h:Heap) b o vs,h1.get? b=some o->o.data=.fields vs->b≠C:=λh b o vs hb hd z=>by
  rw [z,OT] at hb; cases hb; rw [OU] at hd; cases hd
 have Cy:∀ b o,(hideAll B [C]).get? b=some o->b≠C /\ B.get? b=some o:=λb o q=>by
  refine ⟨λz=>?_,of_hideAll _ q⟩
  rw [z,hideAll_none _ (Sn.mpr rfl)] at q; cases q
 have fV:∀ {b},B.get? b=none->(hideAll B [C]).get? b=none:=λ{b} q=>by
  cases z:(hideAll B [C]).get? b with
  | none=>rfl
  | some o=>rw [(Cy b o z).2] at q; cases q
 obtain ⟨g1,g2,g3,g4⟩:=held
 have kC:(hideAll B [C]).StaysIn h2:=λb o q=>(sb.2 b (Cy b o q).1).trans (g1 b o (Cy b o q).2)
 have Nc:∀ b∈ip (envOfC qual scope s.heap.objs.size f cd :: outer),b≠C:=λb hb=>by
  obtain ⟨_,o,ho,_⟩:=I0.stack.mem hb
  exact RW (RL (RR ho) hC)
 have OV:h2.FunFrames (hideAll B [C]) (envOfC qual scope s.heap.objs.size f cd :: outer):=mR g3 fV λenv he L hL=>sb.2 L (Nc L (Tu.mpr ⟨env,he,hL⟩))
 have old:∀ b o,s.heap.get? b=some o->∃ o',sz.heap.get? b=some o':=λb o q=>by
  obtain ⟨o1,q1⟩:=I0.base.there b o q λz=>nomatch z
  refine Iz.base.there b o1 q1 λhb=>?_
  rcases (hf b hb).2.2.2.1 with z | z
  .cases z
  .exact absurd (RL (RR q) z) (Sg _)
 have OW:h2.TracedAtW (hideAll B [C]) a (.ref Cc) (.ref t) (rawInt s.heap.objs.size):=by
  obtain ⟨oe,vs,T,oT,ts,he,sW,hd,k1,Ek,Bk,hT,mJ,h3⟩:=g4
  exact ⟨oe,vs,T,oT,ts,(sb.2 a (Kl h1 a oe vs he hd)).trans he,sW,hd,k1,fV Ek,Bk,(sb.2 T (Kl h1 T oT ts hT mJ)).trans hT,mJ,h3⟩
 have Kj:bx h2 a:=by
  obtain ⟨o,fs,ho,hd,k⟩:=OR
  exact ⟨o,fs,(sb.2 a (Kl h1 a o fs ho hd)).trans ho,hd,k⟩
 refine zp (s:={ s' with heap:=h2 }) kC OV OW Kj λh3 M9 Ac HH OX OY OZ=>?_
 have ua:El s.heap outer H3 (hideAll B [C]):=λb nb i=>by
  have hb:b∉ip (envOfC qual scope s.heap.objs.size f cd :: outer):=λz=>by
   rcases RN.mp (IX.ff b z) with e | z
   .rcases i with i | ⟨o0,i⟩
    .exact i (by rw [e]; exact IX.free)
    .exact absurd (RL (RR i) (by rw [e]; exact IX.ok.above)) (Sg _)
   .exact nb z
  obtain ⟨o,q⟩:=H8 b hb (i.imp id λ⟨o0,i⟩=>old b o0 i)
  refine ⟨o,hideAll_get _ q λz=>?_⟩
  have z:=Sn.mp z
  subst z
  rcases i with i | ⟨o0,i⟩
  .exact i fC
  .exact absurd (RL (RR i) (Sj I0.sz hC)) (Sg _)
 refine ui (s:={ s' with heap:=h3 }) I0.ok.frames rfl Ac (fV g2) HH OX OY λh4 EA Kg Ia=>?_
 refine ⟨a,t,Cc,hideAll B [C],H3,rfl,IX.os,IX.bare,By IX.base ua (λb o q=>ub.1 b o (Cy b o q).2) EA.1 (λb hb o q kz=>?_) IX.fq,p5 IX.bo ua (λb o q=>ub.1 b o (Cy b o q).2) EA.1 (λb hb=>?_),?_,ta,ua,EA,Kg,hE⟩
 .obtain ⟨s1,e1⟩:=up1 b o q kz
  obtain ⟨s3,e3⟩:=OZ b _ ((sb.2 b (Nc b (qa hb))).trans e1) kz
  obtain ⟨s4,e4⟩:=Ia b _ e3 kz
  exact ⟨s4,e4⟩
 .obtain ⟨_,o,ho,_⟩:=IX.ok.fq.mem hb
  exact IX.base.free b o ho (IX.ok.qL b hb) λz=>nomatch z
 .cases q:s.heap.get? a with
  | none=>rfl
  | some o=>
    obtain ⟨o',e⟩:=old a o q
    rw [na] at e; cases e
variable {sc:Scope} {x:Str} {ix:List Nat} {N':List Str} {elt iter:Expr} {px pos:Pos} {wi:TI} {te:TE}
theorem xf {X:Cx} (hX:X=du (ki P w) P w K mg base N qual scope f cd A outer s H E) (S:md X sc x ix N') (hN:N'.Nodup) (hc:X.calm=true) (iB:∀ cl C s2 H2 fp pins,PE (i6 P w (aH X sc N' cl C s2 H2 fp pins) E) elt te)
  {pins:List (Addr×Obj)} {σ:St} {s2:Shared} {Q:VK} {v7:Value} (h:Mq X pins σ (.Name x px) (λJ H1=>tK J ix te σ H1 Q) v7 s2) {cl:List (Str×Addr)} (h1:∀ n c,cl.lookup n=some c->X.env.cells.lookup n=some c) (h2:∀ n,(n,NameKind.free)∈sc.names->∃ c,cl.lookup n=some c)
  {use:Option (Value->Sem Unit)} {QQ:Value->Shared->Prop}
  (fin:∀ (D C:Addr) (H':Hp) (s1:Shared) (m:Str->Option Value),s1.heap.Ns C m->H' C=none->X.ee.heap.objs.size<=C->C≠X.env.locals->(∀ a c,X.env.cells.lookup a=some c->c≠C)->(∀ p∈X.pn ++ pins,p.1≠C)->(∀ h',Heap.SameBut C s1.heap h'->Inv X pins σ H' { s1 with heap:=h' })->Q (.ref D) H'->
   compPost (model X.prog X.w) X.A X.xe use QQ (.ref D) C (.ok .next) s1):
  wpAny (model X.prog X.w) X.A (newList []) (λacc jg=>wpAny (model X.prog X.w) X.A (newFunctionEnv sc X.env.globals cl [] X.env.qual none .none (some X.env)) (λlF pU=>
   codeAny (model X.prog X.w) X.A (.compStart (.ListComp elt [⟨.Name x px,iter,[],0⟩] sc pos) 0 v7 acc { lF with scope:=relabel sc X.env }) (compPost (model X.prog X.w) X.A X.xe use QQ acc lF.locals) pU) X.xe jg) X.xe s2:=by
 obtain ⟨it,fp,tn,J,H1,rfl,I2,T,kC,f2,W,⟨m0,w0⟩,turn⟩:=h
 have oz:∀ b∈fp,b < s2.heap.objs.size:=λb hb=>by
  obtain ⟨o,e,_⟩:=T.obj _ _ kC b hb
  exact RR e
 refine SD (wpAny_newFunctionEnv S.tH (by intro y hy; simp at hy) (λil jF gU=>?_) S.kind)
 dsimp only at jF gU ⊢
 generalize Ee:s2.heap.push { cls:=.type "list",dict:=none,data:=.seq ([]:List Value).toArray }=P2 at jF gU ⊢
 have hC:P2.objs.size=s2.heap.objs.size + 1:=by rw [<- Ee,UA]
 have tJ:s2.heap.objs.size≠P2.objs.size:=by rw [hC]; exact RW (Tb _)
 have jh:s2.heap.objs.size<=P2.objs.size:=by rw [hC]; exact T3 _
 have below:∀ b,b < s2.heap.objs.size->b≠P2.objs.size:=λb hb=>by rw [hC]; exact RW (TM hb)
 have old:∀ b o,s2.heap.get? b=some o->il.get? b=some o:=λb o e=>gU.extBut b o (below b (RR e)) (RG _ (Ee ▸ RG _ e))
 have wL:il.get? s2.heap.objs.size=some (lB [] 0):=gU.extBut _ _ tJ (RG _ (Ee ▸ RU _ rfl))
 generalize P2.objs.size=C at *
 generalize lT:s2.heap.objs.size=D at *
 have GN:∀ p∈X.pn ++ pins,p.1≠D /\ p.1≠C:=λp hp=>by
  have:=RR (I2.pin p hp).1
  rw [lT] at this
  exact ⟨RW this,RW (RL this jh)⟩
 have Ef:D∉fp:=λhb=>Sg _ (oz D hb)
 have JO:C∉fp:=λhb=>absurd (RL (oz C hb) jh) (Sg _)
 have rJ:∀ a c,X.env.cells.lookup a=some c->c≠D /\ c≠C:=λa c e=>by
  obtain ⟨v,q⟩:=I2.cell a c e
  have:=q.lt
  rw [lT] at this
  exact ⟨RW this,RW (RL this jh)⟩
 have yU:X.env.locals < D:=by have:=I2.lt; rw [lT] at this; exact this
 have JP:X.ee.heap.objs.size<=D:=by rw [<- lT]; exact I2.sz
 have I3:=yh (s3:={ s2 with heap:=il,toks:=s2.toks + ([]:List (Str×Value)).length }) S I2 (by rw [lT]; exact jh) h1 h2 f2 (by rw [lT]; exact oz) rfl rfl old jF
 have l5:∀ {H':Hp} {pp:List (Addr×Obj)},(∀ p∈pp,p.1∉fp)->(∀ b∈fp,H' b=none)->∀ b∈fp,jd (aH X sc N' cl C s2 H1 fp pins) pp H' b:=λ{H' pp} yV hn b hb=>by
  obtain ⟨f0,f1,f3,f4,f5,f6⟩:=f2 b hb
  refine ⟨hn b hb,λz=>JO (by rw [<- show b=C from z]; exact hb),λz=>?_,.inl hb,λa c e=>f5 a c (h1 _ _ e),λp hp=>?_⟩
  .rcases RN.mp (I2.ff b z) with q | q
   .exact f1 q
   .exact f3 q
  .rcases R0.mp hp with q | q
   .exact f6 p q
   .intro z; exact yV p q (by rw [z]; exact hb)
 have GO:∀ b,D<=b->b∉ip X.stack:=λb hb z=>by
  rcases RN.mp (I2.ff b z) with q | q
  .rw [q] at hb; exact absurd (RL yU hb) (Sg _)
  .exact I2.CW (by rw [lT]; exact hb) q
 have loop:∀ jg:Shared,jg={ s2 with heap:=il,toks:=s2.toks + ([]:List (Str×Value)).length }->
   codeAny (model X.prog X.w) X.A (.compLoop (.ListComp elt [⟨.Name x px,iter,[],0⟩] sc pos) 0 (.ref it) (.ref D) (compEnvC sc cl C X.env)) (compPost (model X.prog X.w) X.A X.xe use QQ (.ref D) C) jg:=by
  rintro jg rfl
  refine codeAny_compLoop_tests (λn s'=>∃ (i:Nat) (ys:List V) (its:List Value) (k:Nat) (bO:Option V) (H':Hp),Inv (aH X sc N' cl C s2 H1 fp pins) [(D,lB its k)] (bO :: fu ix σ) H' s' /\ tn i s'.heap /\ (∀ b∈fp,H' b=none) /\ W i n ys H' /\ aO ys its) ?_ m0
   ⟨0,[],[],0,none,H1,?_,T.keep _ _ _ kC (λb hb o e=>old b o e),λb hb=>(f2 b hb).1,w0,.nil⟩ (by intro _; rfl)
  .rintro n s' ⟨i,ys,its,k,bO,H',I,st,fr,w,rv⟩
   obtain ⟨hz,w⟩:=turn i n ys H' w
   have pD:=I.pin (D,lB its k) (RI _ RK)
   have yV:∀ p∈[(D,lB its k)],p.1∉fp:=λp hp=>by
    have e:p=(D,lB its k):=by simpa using hp
    rw [e]; exact Ef
   rcases w with ⟨stop,q⟩ | ⟨go,Oe,N,O0,step⟩
   .refine R7 (T.done (aH X sc N' cl C s2 H1 fp pins) rfl rfl rfl hc i _ s' _ H' (λ_ _=>False) I (l5 yV fr) st stop) (λr s1 hr=>?_) λ_ _ z=>z.elim
    obtain ⟨rfl,I1⟩:=hr
    obtain ⟨m,hn,_⟩:=I1.loc
    have p1:=I1.pin (D,lB its k) (RI _ RK)
    have fC:H' C=none:=I1.free
    refine fin D C (upd H' D (.lst ys)) s1 m hn (by rw [aG (Tf tJ)]; exact fC) (Sj JP jh) (T5 (RL yU jh)) (λa c e=>(rJ a c e).2) (λp hp=>(GN p hp).2) (λh' hs=>?_) (q D p1.2.1)
    exact oA (N':=N') I2 (by rw [lT]; exact jh) (by rw [lT]; exact RO _) f2 I1 rv hz hs tJ
   .refine R7 (T.item (aH X sc N' cl C s2 H1 fp pins) rfl rfl rfl hc i _ s' _ H' (λ_ _=>False) I (l5 yV fr) st go) (λr s4 hr=>?_) λ_ _ z=>z.elim
    obtain ⟨u,rfl,h4⟩:=hr
    have key:wpAny (model X.prog X.w) X.A (letOwnedTupleGo (.Name x px) (.ref it) u >>= λ_=>assign (.Name x px) (compEnvC sc cl C X.env) u) (λ_ s6=>∃ (v:V) (H5:Hp) (h5:Heap),J.Dd i H' v H5 /\ tn (i + 1) h5 /\ (∀ b∈fp,H5 b=none) /\
      Inv (aH X sc N' cl C s2 H1 fp pins) ([(D,lB its k)] ++ gg fp h5) (some v :: fu ix σ) H5 s6) (notedBy (model X.prog X.w) X.A (compEnvC sc cl C X.env) λe s'=>compPost (model X.prog X.w) X.A X.xe use QQ (.ref D) C (.error e) s') s4:=by
     refine RF (R7 h4 (λ_ s5 h5=>?_) λ_ _ z=>z.elim)
     obtain ⟨v,H5,I5,r5,y5,tj,Dh⟩:=h5
     have FW:=I5.pinned (l5 yV Dh) (T.obj _ _ tj)
     refine Va (j6 (X:=aH X sc N' cl C s2 H1 fp pins) (i:=0) FW hN (by show N'[0]?=some x; rw [S.nm]; rfl) (.inl (lookup_relabel_local S.own)) r5 (λs6 I6=>?_) (.inr (lookup_relabel_local S.own)))
     exact ⟨v,H5,s5.heap,y5,tj,Dh,I6⟩
    refine R7 (show wpAny (model X.prog X.w) X.A (assign (.Name x px) (compEnvC sc cl C X.env) u) _ _ s4 from key) (λ_ s6 h6=>?_) λ_ _ z=>z
    obtain ⟨v,H5,h5,y5,tj,Dh,I6⟩:=h6
    refine RQ ?_
    rw [RV rfl]
    refine R7 (iB cl C s2 H1 fp pins _ s6 _ H5 _ I6.inR (step v H5 y5)) (λy s7 h7=>?_) λ_ _ z=>by
     obtain ⟨pz,Nb,Hz,sz,Iz,cx⟩:=z
     exact uj hX I2 (by rw [lT]; exact jh) f2 Iz cx
    obtain ⟨yv,H7,I7,r7,n7⟩:=h7
    have I7:=I7.Na
    obtain ⟨m',GP,w7⟩:=O0 yv H7 n7
    have p7:=I7.pin (D,lB its k) (RI _ (So _ RK))
    have hl:=rv.length
    refine U1 S9 ⟨_,p7.1,rfl⟩ UT (UN _ _) (Vc D its.toArray k y (by rw [RZ]; omega)) ⟨p7.1,?_⟩
    have q:=Vo p7.1 (·.push y)
    have rK:∀ b o,b≠D->s7.heap.get? b=some o->(s7.heap.update D (Obj.mapSeq (·.push y))).get? b=some o:=λb o hb e=>(Se s7.heap _ (Tf hb)).trans e
    have I8:Inv (aH X sc N' cl C s2 H1 fp pins) (gg fp h5) (some v :: fu ix σ) H7 s7:=I7.ft λp hp=>I7.pin p (RI _ (RI _ hp))
    have I9:Inv (aH X sc N' cl C s2 H1 fp pins) (gg fp h5) (some v :: fu ix σ) H7 { s7 with heap:=s7.heap.update D (Obj.mapSeq (·.push y)) }:=I8.turned (t':=s7.toks) (it:=D) rK p7.2.1 tJ (.inr (by show s2.heap.objs.size<=D; rw [lT]; exact RO _)) (λa c e=>(rJ a c (h1 _ _ e)).1) λp hp z=>by
     rcases R0.mp hp with z' | z'
     .exact (GN p z').1 z
     .exact Ef (by rw [<- z]; exact (kB z').1)
    refine ⟨m',GP,i + 1,ys ++ [yv],its ++ [y],(if (its.toArray.push y).size == its.toArray.size then k else k + 1),some v,H7,I9.ft (pins':=[(D,lB (its ++ [y]) ((if (its.toArray.push y).size == its.toArray.size then k else k + 1)))]) λp hp=>?_,T.keep _ _ _ tj λb hb o e=>?_,λb hb=>?_,w7,rv.append (.cons r7 .nil)⟩
    .have e:p=(D,lB (its ++ [y]) ((if (its.toArray.push y).size == its.toArray.size then k else k + 1))):=by simpa using hp
     subst e
     refine ⟨by rw [q,List.push_toArray],p7.2.1,tJ,GO D (RO _),λv z=>by cases z⟩
    .have pb:=I7.pin (b,o) (RI _ (RI _ (cZ hb e)))
     exact rK b o (λz=>Ef (by rw [<- z]; exact hb)) pb.1
    .obtain ⟨o,e,d⟩:=T.obj _ _ tj b hb
     exact (I7.pin (b,o) (RI _ (RI _ (cZ hb e)))).2.1
  .exact I3.ft λp hp=>by
    have e:p=(D,lB [] 0):=by simpa using hp
    subst e
    exact ⟨wL,I2.bo.fresh (by rw [lT]; exact RO _),tJ,GO D (RO _),λv z=>by cases z⟩
 exact codeAny_compStart_list (loop _ rfl) (T.self _ 0 _ _ _ (T.keep _ _ _ kC λb hb o e=>old b o e) (loop _ rfl))
theorem zr {X:Cx} (hX:X=du (ki P w) P w K mg base N qual scope f cd A outer s H E) (S:md X sc x ix N') (hN:N'.Nodup) (hc:X.calm=true) (hi:PI X (.Name x px) iter wi) (iB:∀ cl C s2 H2 fp pins,PE (i6 P w (aH X sc N' cl C s2 H2 fp pins) E) elt te)
  (hs:∀ x,foldedSetIterable iter X.env x=pure x):PE X (.ListComp elt [⟨.Name x px,iter,[],0⟩] sc pos) (Gj wi ix te):=by
 intro pins s σ H Q I h
 obtain ⟨cl,tV,h1,h2⟩:=jy (scope:=sc) (env:=X.env) (λy hy hk=>I.ok.has y.1 (S.free y hy hk))
 rw [eval_ListComp]
 refine Uj (use:=none) rfl hs tV S.kind S.names (R7 (hi pins s σ H _ I h) (λxv a9 il=>R7 il (λit l6 t5=>?_) λ_ _ e=>e) λ_ _ e=>e)
 exact xf hX S hN hc iB t5 h1 h2 λD C H' s1 m hn fC c1 c2 c3 c4 hI q=>⟨m,hn,λh' k7=>⟨.ref D,H',hI h' k7,rfl,q⟩⟩
end
def mapR (f:D->Option D):List D->Option (List D ⊕ D)
 | []=>some (.inl [])
 | d :: ds=>(f d).bind λx=>match mK x with
   | some _=>some (.inr x)
   | none=>(mapR f ds).map λr=>match r with
     | .inl xs=>.inl (x :: xs)
     | .inr e=>.inr e
def glue (xs:List D):List D ⊕ D->List D ⊕ D
 | .inl l=>.inl (xs ++ l)
 | .inr e=>.inr e
def zt:List D ⊕ D->D
 | .inl xs=>.tuple xs
 | .inr e=>e
def lb (gi:DS->Option (List D)) (ix:List Nat) (ge:DS->Option D):DS->Option D:=λδ=>(gi δ).bind λds=>if ds.length<=100000 then (mapR (λd=>ge (some d :: cb ix δ)) ds).map zt else none
def tR (K:Frag) (mg:Str->Option Value) (O:List Nat) (E:XK) (g:DS->Option D):TE:=λσ H Q=>∃ U A0 δ d,Rel K O U A0 σ δ H /\ g δ=some d /\ (∀ v H',av H H'->HD K (wo H' (U ++ A0)) v d->Q v H') /\ ∀ c H',d=kG c->av H H'->nP mg E c H'
theorem zu {K:Frag} {mg:Str->Option Value} {E:XK} {O:List Nat} {U A0:List Addr} {σ:St} {δ:DS} {H H1:Hp} {J:It} {ix:List Nat} {n:Nat} {G:List D->Option D} {gr:DS->Option (List D)} {ds:List D} {r:List D ⊕ D} {Q:VK} (R:Rel K O U A0 σ δ H) (s:av H H1) (rA:∀ j∈ix,j∉O) (hw:Walks K (U ++ A0) H1 J ds)
  (hl:ds.length<=100000) (e:mapR (λd=>aJ G n gr (some d :: cb ix δ)) ds=some r) (q:∀ xs,r=.inl xs->∀ p ys H',av H H'->H p=none->H' p=some (.lst ys)->b7 K (wo H' (p :: (U ++ A0))) ys xs->Q (.ref p) H') (qx:∀ c H',r=.inr (kG c)->av H H'->nP mg E c H'):
  tK J ix (l8 (vv K mg n G) [] E (pE K [] gr)) σ H1 Q:=by
 have Oj:(100000:Nat) < sizeLine:=by decide
 refine ⟨λi m ys H2=>m=ds.length - i /\ i<=ds.length /\ av H1 H2 /\ ∃ xs,ys.length=i /\ b7 K (wo H2 (U ++ A0)) ys xs /\ (mapR (λd=>aJ G n gr (some d :: cb ix δ)) (ds.drop i)).map (glue xs)=some r,⟨ds.length,by simp,TF _,av.refl _,[],rfl,.nil,?_⟩,?_⟩
 .rw [List.drop_zero,e]
  cases r <;> rfl
 rintro i m ys H2 ⟨rfl,hle,s2,xs,Cw,hy,em⟩
 refine ⟨by omega,?_⟩
 obtain ⟨Gu,rq⟩:=hw (U ++ A0) i H2 (cE s2) (R.same (s.trans s2)).al
 by_cases jf:i < ds.length
 .obtain ⟨d,hd⟩:∃ d,ds[i]?=some d:=⟨_,RP jf⟩
  obtain ⟨go,HV⟩:=Gu d hd
  rw [show ds.drop i=d :: ds.drop (i + 1) by rw [Tz jf]; rw [RP jf] at hd; cases hd; rfl,mapR] at em
  cases ex:aJ G n gr (some d :: cb ix δ) with
  | none=>rw [ex] at em; cases em
  | some x=>
    rw [ex,RH] at em
    refine .inr ⟨go,by omega,λy H3=>∃ m',m' < ds.length - i /\ (m'=ds.length - (i + 1) /\ i + 1<=ds.length /\ av H1 H3 /\ ∃ xs,(ys ++ [y]).length=i + 1 /\ b7 K (wo H3 (U ++ A0)) (ys ++ [y]) xs /\ (mapR (λd=>aJ G n gr (some d :: cb ix δ)) (ds.drop (i + 1))).map (glue xs)=some r),λ_ _ h=>h,λv H3 y=>?_⟩
    obtain ⟨s3,hv⟩:=HV v H3 y
    have R3:=(R.same (s.trans (s2.trans s3))).fu rA hv
    refine zh R3 ex (λu H4 s4 hu=>?_) λc H4 hc s4=>?_
    .cases hx:mK x with
     | some c=>rw [i5 hx] at hu; exact (vq hu).elim
     | none=>
       rw [hx] at em
       refine ⟨_,by omega,rfl,jf,(s2.trans s3).trans s4,xs ++ [x],by simp [Cw],(hy.same (cE (s3.trans s4))).app (.cons hu .nil),?_⟩
       simp only at em
       rw [<- em]
       cases mapR (λd=>aJ G n gr (some d :: cb ix δ)) (ds.drop (i + 1)) with
       | none=>rfl
       | some z=>cases z with
         | inl l=>simp [glue]
         | inr z=>rfl
    .subst hc
     have em:some (Sum.inr (kG c))=some r:=em
     cases em
     exact qx c H4 rfl ((s.trans (s2.trans s3)).trans s4)
 .have hi:i=ds.length:=by omega
  subst hi
  rw [Vp] at em
  have em:some (Sum.inl (xs ++ []))=some r:=em
  cases em
  refine .inl ⟨rq rfl,λp hp=>?_⟩
  exact oB (s.trans s2) (q _ (by rw [SI])) p ys hp hy
section
variable {X:Cx} {O:List Nat} {E:XK} {i:Nat} {st:Stmt} {b:Bool} {g:DS->Option D}
theorem Bz (h:PS X st (lx (tR X.K X.mg O E g) (ig i))) (hi:i∉O:=by decide):PS X st (tS X.K O (b,nP X.mg E) (rT i g)):=h.mono λD σ H hh=>hh.e λH0 U A0 δ r R F ed P=>by
 obtain ⟨d,e1,e2⟩:=bind1 ed
 have e3:=Su e2
 refine ⟨U,A0,δ,d,R,e1,λv H' s hv=>?_,λc H' hd s=>?_⟩
 .cases hx:mK d with
  | some c=>rw [i5 hx] at hv; exact (vq hv).elim
  | none=>
    rw [oU hx] at e3
    subst e3
    exact P U _ H' ((R.same s).set hi hv) (F.grow s)
 .subst hd
  rw [vt] at e3
  subst e3
  exact P.2 c H' rfl (F.same.trans s)
theorem BA (h:PS X st (FO (tR X.K X.mg O E g))):PS X st (tS X.K O (false,nP X.mg E) (aV g)):=h.mono λD σ H hh=>hh.e λH0 U A0 δ r R F ed P=>by
 obtain ⟨d,e1,e2⟩:=bind1 ed
 cases e2
 refine ⟨U,A0,δ,d,R,e1,λv H' s hv=>P.1 v H' ?_,λc H' hd s=>P.2 c H' hd (F.same.trans s)⟩
 unfold je
 rw [R4 RS]
 exact ⟨F.same.trans s,hv.same (jz λa ha=>RI _ ha)⟩
end
section
variable {P:Program} {w:World} {K:PySem.W.Frag} {mg:Str->Option Value} {base:Heap} {N:List Str} {qual:Str} {scope:Scope} {f:Addr} {cd:Value} {A:Around} {outer:List Env} {s:Shared} {H:Hp} {E:XK}
set_option tactic.hygienic true in
theorem vz {O:List Nat} {n:Nat} {G:List D->Option D} {gi gr:_} {cs:Scope} {x:Str} {elt iter:Expr} {px pos pp pos':Pos} (sc:Scope) (ix:List Nat) (N':List Str) (hm:mg "tuple"=none) (hi:PI (du (ki P w) P w K mg base N qual scope f cd A outer s H E) (.Name x px) iter (tI K O gi))
  (iB:∀ cl C s2 H2 fp pins,PE (i6 P w (aH (du (ki P w) P w K mg base N qual scope f cd A outer s H E) cs N' cl C s2 H2 fp pins) E) elt (l8 (vv K mg n G) [] E (pE K [] gr))) (rA:∀ j∈ix,j∉O:=by decide) (hk:pC sc cs N x ix N'=true:=by decide +kernel) (hN:N'.Nodup:=by decide +kernel) (e1:scope=sc:=by rfl)
  (hg:Gl (du (ki P w) P w K mg base N qual scope f cd A outer s H E) "tuple":=by rfl) (hs:∀ y,foldedSetIterable iter (du (ki P w) P w K mg base N qual scope f cd A outer s H E).env y=pure y:=by intro _; rfl) (he:starEach [.ListComp elt [⟨.Name x px,iter,[],0⟩] cs pos] (du (ki P w) P w K mg base N qual scope f cd A outer s H E).env=(false,eval (.ListComp elt [⟨.Name x px,iter,[],0⟩] cs pos) (du (ki P w) P w K mg base N qual scope f cd A outer s H E).env) :: starEach [] (du (ki P w) P w K mg base N qual scope f cd A outer s H E).env:=by rfl) (gA:(backTo pos' (starEach [] (du (ki P w) P w K mg base N qual scope f cd A outer s H E).env)).any (·.1)=false:=by rfl):
  PE (du (ki P w) P w K mg base N qual scope f cd A outer s H E) (.Call (.Name "tuple" pp) [.ListComp elt [⟨.Name x px,iter,[],0⟩] cs pos] [] pos') (tR K mg O E (lb gi ix (aJ G n gr))):=
 (iT dF hg hm fH (cq (zr rfl (wx hk e1 rfl) hN rfl hi iB hs) el he) (by decide) (by decide) he gA).mono λσ H Q hq=>by
 obtain ⟨U,A0,δ,d,R,ed,q,qx⟩:=hq
 obtain ⟨ds,e2,e3⟩:=bind1 ed
 split at e3
 .rename_i hl
  obtain ⟨r,e4,e5⟩:=Tp.mp e3
  subst e5
  refine ⟨U,A0,δ,ds,R,e2,λJ H1 s1 hw=>zu R s1 rA hw hl e4 (λxs hr p ys H' s2 hp h3 h4=>?_) λc H' hr s2=>qx c H' (by rw [hr]; rfl) s2⟩
  subst hr
  have hn:=R.al.free hp
  have hd:HD K (wo H' (U ++ A0)) (.ref p) (.list xs):=.lst (.of (by rw [bD hn]; exact h3)) (h4.same (jz λa ha=>RM _ ha))
  exact gE _ H' [.ref p] [.list xs] (.tuple xs) _ (R.same s2).al (.cons (.inl hd) .nil) rfl λv H3 s3 h5=>q v H3 (s2.trans s3) h5
 .cases e3
end
def zv (x:Str) (n:Nat):Str:=⟨(List.replicate n x.cps).foldl (· ++ ·) #[]⟩
def zw:D->D->Option D
 | .str x,.int n=>if 1 < n /\ n<=1000 /\ 0 < x.length /\ x.length<=1000 then some (.str (zv x n.toNat)) else none
 | _,_=>none
theorem BB {X:Cx}:gz X (binaryOp .Mult) (λx y H Q=>∃ i n,x=.str i /\ y=.int n /\ (1 < n /\ n<=1000 /\ 0 < i.length /\ i.length<=1000) /\ Q (.str (zv i n.toNat)) H):=by
 intro pins s σ H x y v u Q I rx ry h
 obtain ⟨i,n,rfl,rfl,⟨h1,h2,h3,h4⟩,q⟩:=h
 obtain ⟨t,rfl⟩:=rx
 obtain ⟨t',rfl⟩:=ry
 have hf:(n == 1 || i.length == 0)=false:=by
  rw [Bool.or_eq_false_iff]
  exact ⟨by simp; omega,by simp; omega⟩
 have hm:i.length * n.toNat<=1000 * 1000:=Nat.mul_le_mul h4 (by omega)
 have tl:Builtin.Str.tooLong (i.length * n.toNat)=false:=by unfold Builtin.Str.tooLong; exact decide_eq_false (by unfold sizeLine; omega)
 refine P.mul_str ?_ (λ_ _=>?_) (λ_ _=>?_) ?_
 .rw [Si (by omega),Si (by omega)]; rfl
 .have:(1000:Int)<=(2 ^ 63 - 1) / n:=(Int.le_ediv_iff_mul_le (by omega)).mpr (by have:(1000:Int) * n<=1000 * 1000:=Int.mul_le_mul_of_nonneg_left (by omega) (by decide); omega)
  omega
 .exact tl
 .rw [R4 (by omega),hf,R4 RS]
  exact ⟨fits_reps tl,.str (zv i n.toNat),H,I.tok _,⟨_,rfl⟩,q⟩
theorem zx {K:PySem.W.Frag}:gN K (λx y H Q=>∃ i n,x=.str i /\ y=.int n /\ (1 < n /\ n<=1000 /\ 0 < i.length /\ i.length<=1000) /\ Q (.str (zv i n.toNat)) H) zw:=by
 intro A H x y dx dy d Q al hx hy e q
 unfold zw at e
 split at e
 .split at e
  .cases e
   exact ⟨_,_,hx.str,hy.int,by assumption,q _ H (av.refl H) (.str _)⟩
  .cases e
 .cases e
theorem BC {W:List D->Option D} {i:Nat} {δ:DS} {x:D} {c:Str} (h1:ae i δ=some x) (h2:W [x]=some (.str c)) (h3:jq (.str c) (.str c)=some (.bool true)):aV (g2 jq (aJ W 1 (aa (ae i) ah)) (gC (.str c))) δ=some (.rt (.bool true)):=by
 have e:aJ W 1 (aa (ae i) ah) δ=some (.str c):=by
  unfold aJ aa
  rw [h1]
  exact h2
 unfold aV g2
 rw [e]
 show ((jq (.str c) (.str c)).bind _)=_
 rw [h3]; rfl
inductive vA:List Expr->List Str->Prop
 | nil:vA [] []
 | cons {n:Str} {k:Nat} {p:Pos} {es:List Expr} {ns:List Str}:vA es ns->vA (.Constant (.str n) k p :: es) (n :: ns)
theorem rX {es:List Expr} {ns:List Str} (h:vA es ns):oW es=some ns:=by
 induction h with
 | nil=>rfl
 | cons _ ih=>unfold oW; rw [ih]; rfl
end L2
namespace Q1
end Q1
namespace Q1
end Q1
namespace Q1
end Q1
namespace Q1
end Q1
namespace aF
open PySem Builtin Builtin.Str PySem.StrLaws
def aA (c:Nat):List Nat->List (List Nat)
 | []=>[[]]
 | a :: l=>if a=c then [] :: aA c l else match aA c l with
   | h :: t=>(a :: h) :: t
   | []=>[[a]]
theorem d5 (c:Nat):∀ l,∃ h t,aA c l=h :: t
 | []=>⟨[],[],rfl⟩
 | a :: l=>by
   obtain ⟨h,t,e⟩:=d5 c l
   by_cases ha:a=c
   .exact ⟨[],_,by rw [aA,RV ha]⟩
   .exact ⟨a :: h,t,by rw [aA,R4 ha,e]⟩
def lH (c:Nat):Nat->List Nat->List Nat
 | _,[]=>[]
 | o,a :: l=>if a=c then o :: lH c (o + 1) l else lH c (o + 1) l
theorem jK (c:Nat) (W:List Nat):∀ (l:List Nat) (o s:Nat),W.drop o=l->o<=W.length->s<=o->∀ h t,aA c l=h :: t->
  ((s :: (lH c o l).map (· + 1)).zip (lH c o l ++ [W.length])).map (λ(p:Nat×Nat)=>(W.drop p.1).take (p.2 - p.1))=((W.drop s).take (o - s) ++ h) :: t
 | [],o,s,hd,ho,hs,h,t,e=>by
   have hl:W.length<=o:=Ub.mp hd
   have:o=W.length:=by omega
   subst this
   rw [aA] at e
   cases e
   simp [lH]
 | a :: l,o,s,hd,ho,hs,h,t,e=>by
   have jf:o < W.length:=by
    rcases Vx o W.length with z | z
    .exact z
    .rw [Ub.mpr z] at hd; cases hd
   have pd:W.drop (o + 1)=l:=by rw [<- List.drop_drop,hd]; rfl
   obtain ⟨h',t',e'⟩:=d5 c l
   by_cases ha:a=c
   .rw [aA,RV ha] at e
    cases e
    have ih:=jK c W l (o + 1) (o + 1) pd (by omega) (RO _) h' t' e'
    rw [Nat.sub_self,List.take_zero,S7] at ih
    rw [lH,RV ha,RY,Tt,List.zip_cons_cons,RY,ih,e',SI]
   .rw [aA,R4 ha,e'] at e
    obtain ⟨i1,i2⟩:=List.cons.inj e
    rw [<- i1,<- i2]
    have ih:=jK c W l (o + 1) s pd (by omega) (by omega) h' t' e'
    rw [lH,R4 ha,ih]
    have ek:(W.drop s).take (o + 1 - s)=(W.drop s).take (o - s) ++ [a]:=by
     rw [show o + 1 - s=(o - s) + 1 by omega,List.take_add_one,List.getElem?_drop,show s + (o - s)=o by omega]
     have:W[o]?=some a:=by
      have:=List.getElem?_drop (xs:=W) (i:=o) (j:=0)
      rw [hd] at this
      simpa using this.symm
     rw [this]; rfl
    rw [ek,SN]; rfl
theorem qb (x:Str) (c:Nat):∀ (l:List Nat) (o:Nat) (found:Array Nat) (free:Nat),x.cps.toList.drop o=l->o<=x.length->free<=o->found.size<=o->
  (forIn (List.range' o (l.length + 1)) (found,free) (occBody x ⟨#[c]⟩ x.length (x.length + 1))).run.fst.toList=found.toList ++ lH c o l
 | [],o,found,free,hd,ho,hf,hs=>by
   have hl:x.cps.toList.length<=o:=Ub.mp hd
   have hx:x.cps.toList.length=x.length:=Sd
   rw [List.length_nil,List.range'_succ,US]
   unfold occBody
   rw [R4 (λz=>by have:=z.1.2; have e:(⟨#[c]⟩:Str).length=1:=rfl; omega)]
   simp [lH]
 | a :: l,o,found,free,hd,ho,hf,hs=>by
   have hx:x.cps.toList.length=x.length:=Sd
   have jf:o < x.cps.toList.length:=by
    rcases Vx o x.cps.toList.length with z | z
    .exact z
    .rw [Ub.mpr z] at hd; cases hd
   have pd:x.cps.toList.drop (o + 1)=l:=by rw [<- List.drop_drop,hd]; rfl
   rw [Sx,List.range'_succ,US]
   have iz:subAt x ⟨#[c]⟩ o=decide (a=c):=by
    rw [subAt_eq,hd]
    show ((a :: l).take 1 == [c])=_
    simp [Bool.beq_eq_decide_eq]
   have e1:(⟨#[c]⟩:Str).length=1:=rfl
   have key:occBody x ⟨#[c]⟩ x.length (x.length + 1) o (found,free)=if a=c then pure (ForInStep.yield (found.push o,o + 1)) else pure (ForInStep.yield (found,free)):=by
    unfold occBody
    rw [iz,e1]
    by_cases ha:a=c
    .rw [RV ha,RV ⟨⟨⟨show found.size < _ by omega,hf⟩,by omega⟩,Sl ha⟩]
    .rw [R4 ha,R4 (λz=>ha (SG z.2))]
   rw [key,lH]
   by_cases ha:a=c
   .rw [RV ha,RV ha]
    have ih:=qb x c l (o + 1) (found.push o) (o + 1) pd (by omega) (RO _) (by rw [Array.size_push]; omega)
    show (forIn (List.range' (o + 1) (l.length + 1)) (found.push o,o + 1) (occBody x ⟨#[c]⟩ x.length (x.length + 1))).run.fst.toList=_
    rw [ih,Vg,SN]; rfl
   .rw [R4 ha,R4 ha]
    exact qb x c l (o + 1) found free pd (by omega) (by omega) (by omega)
theorem vB (x:Str) (c:Nat):occurrences x ⟨#[c]⟩ 0 x.length (x.length + 1)=lH c 0 x.cps.toList:=by
 rw [occ_eq]
 have h:=qb x c x.cps.toList 0 #[] 0 rfl (TF _) (RO _) (RO _)
 have hx:x.cps.toList.length=x.length:=Sd
 rw [hx] at h
 rw [Nat.sub_zero,h]; rfl
def b5 (l:List Nat):Str:=⟨l.toArray⟩
theorem jL (x:Str):b5 x.cps.toList=x:=rfl
theorem kN (x:Str) (c:Nat):partsBetween x (lH c 0 x.cps.toList) 1=(aA c x.cps.toList).map b5:=by
 obtain ⟨h,t,e⟩:=d5 c x.cps.toList
 have k:=jK c x.cps.toList x.cps.toList 0 0 rfl (TF _) (RO _) h t e
 rw [Nat.sub_self,List.take_zero,S7,<- e] at k
 rw [<- k,Tr]
 unfold partsBetween
 have hx:x.cps.toList.length=x.length:=Sd
 rw [hx]
 refine S6 λp _=>?_
 show strSub x p.1 p.2=b5 ((x.cps.toList.drop p.1).take (p.2 - p.1))
 rw [<- strSub_toList,jL]
theorem lg {c:Nat}:∀ {l:List Nat},c∉l->aA c l=[l]
 | [],_=>rfl
 | a :: l,h=>by
   rw [aA,R4 (λz=>h (by rw [z]; exact RK)),lg λz=>h (RM _ z)]
theorem mS {c:Nat} {r:List Nat}:∀ {l:List Nat},c∉l->aA c (l ++ c :: r)=l :: aA c r
 | [],_=>by rw [S7,aA,RV rfl]
 | a :: l,h=>by
   rw [Tt,aA,R4 (λz=>h (by rw [z]; exact RK)),mS λz=>h (RM _ z)]
theorem G7 {c:Nat} (h:c < 256) (x:Str):decide (Builtin.Str.strKind x < Builtin.Str.strKind ⟨#[c]⟩)=false:=by
 refine Si ?_
 have e:Builtin.Str.strKind ⟨#[c]⟩=1:=by
  unfold Builtin.Str.strKind
  rw [RV (by simp [h])]
 rw [e]
 unfold Builtin.Str.strKind
 split
 .omega
 .split <;> omega
set_option tactic.hygienic true in
theorem i7 {c:Nat} (h:c < 256) (x:Str):Txt.split x ⟨#[c]⟩=(aA c x.cps.toList).map b5:=by
 unfold Txt.split
 rw [G7 h x,Bool.or_false]
 have e1:(⟨#[c]⟩:Str).length=1:=rfl
 rw [e1,vB,kN]
 have hx:x.cps.toList.length=x.length:=Sd
 split
 .rename_i hl
  have hl:=SG hl
  have:x.cps.toList=[]:=Th.mp (by omega)
  rw [this]
  show [x]=[b5 []]
  rw [<- this,jL]
 .split
  .rename_i he
   have he:=List.isEmpty_iff.mp he
   have k:=kN x c
   rw [<- k,he]
   unfold partsBetween
   simp only [UW,S7,List.zip_cons_cons,List.zip_nil_left,RY]
   congr 1
   refine To ?_
   show x.cps=x.cps.extract 0 x.length
   rw [show x.length=x.cps.size from rfl,Array.extract_size]
  .rfl
theorem join_cons (sep:Str) (x y:Str) (r:List Str):Txt.join sep (x :: y :: r)=x ++ sep ++ Txt.join sep (y :: r):=by
 unfold Txt.join
 rw [glued_eq_join,glued_eq_join]; rfl
theorem join_one (sep:Str) (x:Str):Txt.join sep [x]=x:=by
 unfold Txt.join
 rw [glued_eq_join]; rfl
theorem fZ {c:Nat}:∀ {ts:List Str},ts≠[]->(∀ t∈ts,c∉t.cps.toList)->aA c (Txt.join ⟨#[c]⟩ ts).cps.toList=ts.map (λt=>t.cps.toList)
 | [],h,_=>(h rfl).elim
 | [x],_,h=>by rw [join_one]; exact lg (h x RK)
 | x :: y :: r,_,h=>by
   rw [join_cons,U8,U8,TV,TV]
   show aA c (x.cps.toList ++ [c] ++ _)=_
   rw [SN,List.singleton_append,mS (h x RK),fZ (by simp) λt ht=>h t (RM _ ht)]
   rfl
theorem mT {c:Nat} (hc:c < 256) {ts:List Str} (fV:ts≠[]) (h:∀ t∈ts,c∉t.cps.toList):Txt.split (Txt.join ⟨#[c]⟩ ts) ⟨#[c]⟩=ts:=by
 rw [i7 hc,fZ fV h,Tr]
 exact (S6 λt _=>jL t).trans (UP ts)
theorem mem_join {c:Nat} {sep:Str}:∀ {ts:List Str},c∉sep.cps.toList->(∀ t∈ts,c∉t.cps.toList)->c∉(Txt.join sep ts).cps.toList
 | [],_,_=>by
   have:(Txt.join sep []).cps.toList=[]:=by unfold Txt.join; rw [glued_eq_join]; rfl
   rw [this]; exact S0
 | [x],_,h=>by rw [join_one]; exact h x RK
 | x :: y :: r,hs,h=>by
   rw [join_cons,U8,U8,TV,TV,R0,R0]
   have:=mem_join (ts:=y :: r) hs λt ht=>h t (RM _ ht)
   have:=h x RK
   simp only [Wa]
   refine ⟨⟨?_,?_⟩,?_⟩ <;> assumption
theorem iH {sep:Str} {B:Nat} {ts:List Str} (h:∀ t∈ts,t.length<=B):(Txt.join sep ts).length<=ts.length * B + ts.length * sep.length:=by
 unfold Txt.join
 rw [glued_eq_join]
 exact Sj (StrLaws.join_length_le sep ts) (Nat.add_le_add_right (sumLen_le ts h) _)
theorem gY (c:Nat):∀ l:List Nat,(aA c l).length<=l.length + 1
 | []=>RO _
 | a :: l=>by
   have ih:=gY c l
   obtain ⟨h,t,e⟩:=d5 c l
   rw [aA]
   split
   .rw [Sx,Sx]; omega
   .rw [e] at ih ⊢
    simp only [Sx] at ih ⊢
    omega
end aF
namespace aF
open PySem L2 Q1
abbrev bt (x:Int):Nat:=Builtin.Int.intBits x
theorem vC {m:Nat} {x:Int} (h:x.natAbs < 2 ^ m):bt x<=m:=intBits_le_iff.mpr h
theorem vD {m n:Nat} {x:Int} (h:bt x<=m) (h2:m<=n):bt x<=n:=Sj h h2
theorem mU {a b:Int} (h:IntMulOk a b):ik (.int a) (.int b)=some (.int (a * b)):=pF h
theorem c8 {a b:Int} (h:0 < b):cT (.int a) (.int b)=some (.int (a % b)):=by
 rw [<- Int.fmod_eq_emod_of_nonneg _ (Int.le_of_lt h)]
 exact pF (C:=λ_ j=>j≠0) (by omega)
theorem vE {a b:Int} (h:0 < b) (hb:bt b<=9000):kH (.int a) (.int b)=some (.int (a / b)):=by
 rw [<- Int.fdiv_eq_ediv_of_nonneg _ (Int.le_of_lt h)]
 exact pF (C:=ye) ⟨by omega,wu hb⟩
theorem zy {a:Int} {k:Nat} (h:a.natAbs < 2 ^ 64) (hk:k<=1000000):gO (.int a) (.int k)=some (.int (a ^ k)):=by
 have:=pF (C:=Dj) (g:=λi j=>.int (i ^ j.toNat)) (a:=a) (b:=k) ⟨by omega,by omega,h⟩
 simpa using this
theorem Km {α:Type} {x:α} {xs:List α}:lP (x :: xs) 0=some x:=eP (j:=0) rfl
theorem G8 {α:Type} {x y:α} {xs:List α}:lP (x :: y :: xs) 1=some y:=eP (j:=1) rfl
def c9 {β:Type} (x:Option β) (P:β->Prop):Prop:=∃ d,x=some d /\ P d
theorem cW {β:Type} {x:Option β} {d:β} (h:c9 x λy=>y=d):x=some d:=by
 obtain ⟨y,e,rfl⟩:=h; exact e
theorem c9.mk {β:Type} {x:Option β} {P:β->Prop} {d:β} (e:x=some d) (h:P d):c9 x P:=⟨d,e,h⟩
theorem i8 {a b:DS->Option Res} {δ δ':DS} (h:a δ=some (.nx δ')):aC a b δ=b δ':=by
 unfold aC; rw [h]; rfl
theorem gZ {a b:DS->Option Res} {δ:DS} {d:D} (h:a δ=some (.rt d)):aC a b δ=some (.rt d):=by
 unfold aC; rw [h]; rfl
theorem uk {c:DS->Option Bool} {b:DS->Option Res} (W:Nat->DS->Prop) (Z:DS->Prop) (m:Nat) {δ:DS} (h:W m δ)
  (hs:∀ m δ,W m δ->(c δ=some false /\ Z δ) \/ (c δ=some true /\ ∃ δ' m',b δ=some (.nx δ') /\ m' < m /\ W m' δ')):∃ δ',gQ c b δ=some (.nx δ') /\ Z δ':=by
 obtain ⟨q,h1,δ',rfl,h2⟩:=wF W (λ_ q=>∃ δ',q=.nx δ' /\ Z δ') m δ h (λm δ hW=>by
  rcases hs m δ hW with ⟨a,z⟩ | ⟨a,δ',m',e,l,w⟩
  .exact .inl ⟨a,δ,rfl,z⟩
  .exact .inr ⟨a,.inl ⟨δ',m',.inl e,l,w,λq hq=>hq⟩⟩)
 exact ⟨δ',h1,h2⟩
theorem rY {t:D->DS->Option DS} {b:DS->Option Res} (W:Nat->DS->Prop):∀ (ds:List D) (k:Nat) {δ:DS},W k δ->(∀ i d δ,ds[i]?=some d->W (k + i) δ->∃ fU δ',t d δ=some fU /\ b fU=some (.nx δ') /\ W (k + i + 1) δ')->
  ∃ δ',jB t b ds δ=some (.nx δ') /\ W (k + ds.length) δ'
 | [],k,δ,h,_=>⟨δ,rfl,h⟩
 | d :: ds,k,δ,h,hs=>by
   obtain ⟨fU,δ',e1,e2,h'⟩:=hs 0 d δ rfl h
   obtain ⟨O1,e3,h2⟩:=rY W ds (k + 1) h' (λi d δ e w=>by
    have:=hs (i + 1) d δ (by simpa using e) (by rw [show k + (i + 1)=k + 1 + i by omega]; exact w)
    rw [show k + (i + 1) + 1=k + 1 + i + 1 by omega] at this
    exact this)
   refine ⟨O1,?_,by rw [Sx,show k + (ds.length + 1)=k + 1 + ds.length by omega]; exact h2⟩
   rw [jB,e1,RH,e2,RH]
   exact e3
theorem vF {α:Type} {t:D->DS->Option DS} {b:DS->Option Res} (enc:α->D) (W:Nat->DS->Prop) (xs:List α) {δ:DS} (h:W 0 δ)
  (hs:∀ i x δ,xs[i]?=some x->W i δ->∃ fU δ',t (enc x) δ=some fU /\ b fU=some (.nx δ') /\ W (i + 1) δ'):∃ δ',jB t b (xs.map enc) δ=some (.nx δ') /\ W xs.length δ':=by
 obtain ⟨δ',e,w⟩:=rY (t:=t) (b:=b) W (xs.map enc) 0 h (λi d δ e w=>by
  rw [Sa] at e
  cases ex:xs[i]? with
  | none=>rw [ex] at e; cases e
  | some x=>
    rw [ex] at e; cases e
    rw [Nat.zero_add] at w ⊢
    exact hs i x δ ex w)
 rw [Nat.zero_add,RJ] at w
 exact ⟨δ',e,w⟩
theorem zz {t:D->DS->Option DS} {b:DS->Option Res} {lo:Int} {n:Nat} (W:Nat->DS->Prop) {δ:DS} (h:W 0 δ)
  (hs:∀ i δ,i < n->W i δ->∃ fU δ',t (.int (lo + i)) δ=some fU /\ b fU=some (.nx δ') /\ W (i + 1) δ'):∃ δ',jB t b (gk lo n) δ=some (.nx δ') /\ W n δ':=by
 obtain ⟨δ',e,w⟩:=vF (t:=t) (b:=b) (λk:Nat=>PyData.int (lo + k)) W (List.range n) h (λi x δ e w=>by
  have hi:=(Sh.mp e).1
  rw [Uy] at hi
  rw [List.getElem?_range hi] at e
  cases e
  exact hs i δ hi w)
 rw [Uy] at w
 exact ⟨δ',e,w⟩
theorem xg {c:DS->Option Bool} {b rest:DS->Option Res} {β:Type} {f:Res->Option β} {R:β->Prop} {δ:DS} (W:Nat->DS->Prop) (Z:DS->Prop) (m:Nat) (h:W m δ)
  (hs:∀ m δ,W m δ->(c δ=some false /\ Z δ) \/ (c δ=some true /\ ∃ δ' m',b δ=some (.nx δ') /\ m' < m /\ W m' δ')) (k:∀ δ',Z δ'->c9 ((rest δ').bind f) R):c9 ((aC (gQ c b) rest δ).bind f) R:=by
 obtain ⟨δ',h1,h2⟩:=uk W Z m h hs
 rw [i8 h1]
 exact k δ' h2
theorem BD {α:Type} {t:D->DS->Option DS} {gi:DS->Option (List D)} {b rest:DS->Option Res} {β:Type} {f:Res->Option β} {R:β->Prop} {δ:DS} (enc:α->D) (xs:List α) (W:Nat->DS->Prop) (hi:gi δ=some (xs.map enc)) (h:W 0 δ)
  (hs:∀ i x δ,xs[i]?=some x->W i δ->∃ fU δ',t (enc x) δ=some fU /\ b fU=some (.nx δ') /\ W (i + 1) δ') (k:∀ δ',W xs.length δ'->c9 ((rest δ').bind f) R):c9 ((aC (nJ gi t b) rest δ).bind f) R:=by
 obtain ⟨δ',h1,h2⟩:=vF (t:=t) (b:=b) enc W xs h hs
 rw [i8 (δ':=δ') (by unfold nJ; rw [hi]; exact h1)]
 exact k δ' h2
theorem rZ {t:D->DS->Option DS} {gi:DS->Option (List D)} {b rest:DS->Option Res} {β:Type} {f:Res->Option β} {R:β->Prop} {δ:DS} (lo:Int) (n:Nat) (W:Nat->DS->Prop) (hi:gi δ=some (gk lo n)) (h:W 0 δ)
  (hs:∀ i δ,i < n->W i δ->∃ fU δ',t (.int (lo + i)) δ=some fU /\ b fU=some (.nx δ') /\ W (i + 1) δ') (k:∀ δ',W n δ'->c9 ((rest δ').bind f) R):c9 ((aC (nJ gi t b) rest δ).bind f) R:=by
 obtain ⟨δ',h1,h2⟩:=zz (t:=t) (b:=b) W h hs
 rw [i8 (δ':=δ') (by unfold nJ; rw [hi]; exact h1)]
 exact k δ' h2
theorem br {a rest:DS->Option Res} {β:Type} {f:Res->Option β} {R:β->Prop} {δ:DS} (δ':DS) (h:a δ=some (.nx δ')) (k:c9 ((rest δ').bind f) R):c9 ((aC a rest δ).bind f) R:=by
 rw [i8 h]; exact k
theorem mV {c:DS->Option Bool} {a rest:DS->Option Res} {β:Type} {f:Res->Option β} {R:β->Prop} {δ:DS} (h:c δ=some false) (k:c9 ((rest δ).bind f) R):c9 ((aC (fJ c a ba) rest δ).bind f) R:=by
 rw [i8 (δ':=δ) (by unfold fJ; rw [h]; rfl)]; exact k
theorem cH {c:DS->Option Bool} {a b rest:DS->Option Res} {β:Type} {f:Res->Option β} {R:β->Prop} {δ:DS} (x:Bool) (h:c δ=some x) (k1:x=true->c9 ((aC a rest δ).bind f) R) (k2:x=false->c9 ((aC b rest δ).bind f) R):c9 ((aC (fJ c a b) rest δ).bind f) R:=by
 have e:fJ c a b δ=if x=true then a δ else b δ:=by unfold fJ; rw [h]; rfl
 cases x with
 | true=>rw [if_pos rfl] at e; have:=k1 rfl; unfold aC at this ⊢; rw [e]; exact this
 | false=>rw [if_neg Bool.false_ne_true] at e; have:=k2 rfl; unfold aC at this ⊢; rw [e]; exact this
theorem cI {g:DS->Option D} {rest:DS->Option Res} {β:Type} {f:Res->Option β} {R:β->Prop} {δ:DS} (d:D) (h:g δ=some d) (k:c9 (f (.rt d)) R):c9 ((aC (aV g) rest δ).bind f) R:=by
 rw [gZ (d:=d) (by unfold aV; rw [h]; rfl)]; exact k
theorem ret {g:DS->Option D} {β:Type} {f:Res->Option β} {R:β->Prop} {δ:DS} (d:D) (h:g δ=some d) (k:c9 (f (.rt d)) R):c9 ((aV g δ).bind f) R:=by
 unfold aV; rw [h]; exact k
theorem dU {a b:DS->Option Res} {δ:DS} {r:Option Res} (δ':DS) (h:a δ=some (.nx δ')) (k:b δ'=r):aC a b δ=r:=(i8 h).trans k
theorem vG {c:DS->Option Bool} {a:DS->Option Res} {δ:DS} (h:c δ=some false):fJ c a ba δ=some (.nx δ):=by unfold fJ; rw [h]; rfl
theorem da {rest:DS->Option Res} {δ:DS}:aC ba rest δ=rest δ:=rfl
theorem seq_assoc {a b c:DS->Option Res} {δ:DS}:aC (aC a b) c δ=aC a (aC b c) δ:=by
 unfold aC
 cases a δ with
 | none=>rfl
 | some r=>cases r <;> rfl
theorem vH {α β:Type} {f:D->Option D} (enc:α->D) (jM:β->D) (h:α->β):∀ (l:List α),(∀ a∈l,f (enc a)=some (jM (h a)))->yE f (l.map enc)=some ((l.map h).map jM)
 | [],_=>rfl
 | a :: l,hf=>by
   rw [RY,yE,hf a RK,RH,vH enc jM h l λb hb=>hf b (RM _ hb)]
   rfl
theorem dO {α β:Type} (enc:α->D) (jM:β->D) (h:α->β) {gi:DS->Option (List D)} {ix:List Nat} {ge:DS->Option D} {δ:DS} (l:List α) (hi:gi δ=some (l.map enc)) (hn:l.length<=100000)
  (hf:∀ a∈l,ge (some (enc a) :: cb ix δ)=some (jM (h a))):b4 gi ix ge δ=some ((l.map h).map jM):=by
 unfold b4
 rw [hi,RH,RV (by rw [RJ]; exact hn)]
 exact vH enc jM h l hf
theorem zA {α:Type} (enc:α->D) (l:List α) (lo hi:Option Int):∃ m:List α,cutD (l.map enc) lo hi=m.map enc /\ m.length<=l.length /\ ∀ a∈m,a∈l:=by
 unfold cutD
 refine ⟨(l.drop _).take _,by rw [Vl,List.map_drop,RJ],?_,λa h=>TJ (Uc h)⟩
 rw [SJ,Ue]; omega
theorem zB (a b:Int):jq (.int a) (.int b)=some (.bool (decide (a=b))):=rfl
theorem um {a b:D} {c:Bool} (h:jq a b=some (.bool c)):Fd a b=some (.bool (!c)):=by unfold Fd; rw [h]; rfl
theorem i9 {g:DS->Option (List D)} {δ:DS} {n:Nat} (h:g δ=some [.int (n:Nat)]) (hn:n<=100000):ez g δ=some (gk 0 n):=by
 unfold ez
 rw [h,RH]
 show (if -(2 ^ 62)<=((n:Nat):Int) /\ ((n:Nat):Int) < 2 ^ 62 then some (gk 0 ((n:Nat):Int).toNat) else none)=_
 rw [SR,RV ⟨by omega,by omega⟩]
theorem call_of {G:List D->Option D} {n:Nat} {g:DS->Option (List D)} {δ:DS} {ds:List D} {r:Option D} (h:g δ=some ds) (hn:ds.length=n) (hG:G ds=r):aJ G n g δ=r:=by
 unfold aJ; rw [h,Option.bind_some,if_pos hn]; exact hG
theorem iI {G:List D->Option (List D)} {n:Nat} {g:DS->Option (List D)} {δ:DS} {ds:List D} {r:Option (List D)} (h:g δ=some ds) (hn:ds.length=n) (hG:G ds=r):dS G n g δ=r:=by
 unfold dS; rw [h,Option.bind_some,if_pos hn]; exact hG
theorem ax {g:DS->Option (List D)} {δ:DS} {l:List D} (h:g δ=some l):aw g δ=some (.list l):=by unfold aw; rw [h]; rfl
theorem cons_of {a:DS->Option D} {r:DS->Option (List D)} {δ:DS} {x:D} {xs:List D} (h:a δ=some x) (h2:r δ=some xs):aa a r δ=some (x :: xs):=by unfold aa; rw [h,h2]; rfl
theorem bu {i:Nat} {g:DS->Option D} {δ:DS} {d:D} (h:g δ=some d):bA i g δ=some (.nx (δ.set i (some d))):=by unfold bA; rw [h]; rfl
theorem BE {i:Nat} {g:DS->Option (List D)} {δ:DS} {d:List D} (h:g δ=some d):mj i g δ=some (.nx (δ.set i (some (.list d)))):=by unfold mj; rw [h]; rfl
theorem mW (l:List D):cp [.list l]=some (.int l.length):=rfl
theorem G9 (l:List D) (i:Int):fW (.list l) (.int i)=lP l i:=rfl
theorem r6 {a b:DS->Option Bool} {δ:DS} {r:Option Bool} (h1:a δ=some false) (h2:b δ=r):wA a b δ=r:=by unfold wA; rw [h1]; exact h2
theorem EB {a b:DS->Option Bool} {δ:DS} {r:Option Bool} (h1:a δ=some true) (h2:b δ=r):lC a b δ=r:=by unfold lC; rw [h1]; exact h2
theorem cu {a:DS->Option Bool} {δ:DS} {x:Bool} (h:a δ=some x):dv a δ=some (!x):=by unfold dv; rw [h]; rfl
theorem cO {g:DS->Option D} {δ:DS} {b:Bool} (h:g δ=some (.bool b)):gB g δ=some b:=by unfold gB; rw [h]; rfl
theorem cX {g:DS->Option D} {δ:DS} {b:Bool} (h:g δ=some (.bool b)):dG g δ=some b:=by unfold dG; rw [h]; rfl
theorem ak {f:D->D->Option D} {a b:DS->Option D} {δ:DS} {x y:D} {r:Option D} (h1:a δ=some x) (h2:b δ=some y) (h3:f x y=r):g2 f a b δ=r:=by unfold g2; rw [h1,h2]; exact h3
abbrev eD:List Str:=["NoText"]
abbrev qd:List Str:=["NoNumber","NoPlan","TooLong","NoText","NoEnd","TooMany","NoRow","NoTelling","NoLot","NotOnly","Only","NoShares","NoDeed","NoName","NoDraw"]
abbrev jN:DS->Option Res:=(aV (kZ (ke "int" (ae 0)) (g1 AV (ke "bool" (ae 0)))))
def de:List D->Option D:=fK 1 jN
theorem uo (a0:D):de [a0]=(jN [some a0]).bind fj:=rfl
abbrev jO:DS->Option Res:=(aC (fJ (wA (dv (dG (ke "tuple" (ae 0)))) (gB (g2 jq (dw cp (aa (ae 0) ah)) (gC (.int (0)))))) (aV (gC (.bool false))) ba)
  (aC (fJ (dv (dG (dw t8 (aa (aw (b4 (aR (ae 0)) [1] (kZ (aJ de 1 (aa (ae 0) ah)) (g2 DX (ae 0) (ae 1))))) ah)))) (aV (gC (.bool false))) ba)
  (aV (g2 jq (aw (yy mi (aa (ae 0) ah))) (aw (Eb (ae 0)))))))
def bL:List D->Option D:=fK 2 jO
theorem uq (a0 a1:D):bL [a0,a1]=(jO [some a0,some a1]).bind fj:=rfl
abbrev mX:DS->Option Res:=(aV (aw (Eb (aw (ky eJ (aw (yy mi (aa (ae 0) ah))) (aw (b4 (aR (ae 0)) [] (g2 aQ (ae 0) (gC (.int (1)))))))))))
def df:List D->Option (List D):=rB 1 mX
theorem zC (a0:D):df [a0]=(mX [some a0]).bind oF:=rfl
abbrev kO:DS->Option Res:=(aC (fJ (wA (dv (dG (ke "tuple" (ae 0)))) (dv (gB (iw HM HM (gC (.int (1))) (dw cp (aa (ae 0) ah)) (gC (.int (24))))))) (aV (gC (.bool false))) ba)
  (aC (bA 1 (aw (bH (aa (gC (.int (0))) ah))))
  (aC (nJ (aR (ae 0)) (bF 2)
   (aC (fJ (dv (dG (aJ bL 2 (aa (ae 2) (aa (ae 1) ah))))) (aV (gC (.bool false))) ba)
  (bA 1 (aw (dS df 1 (aa (ae 2) ah))))))
  (aV (gC (.bool true))))))
def d6:List D->Option D:=fK 3 kO
theorem xh (a0:D):d6 [a0]=(kO [some a0,none,none]).bind fj:=rfl
abbrev iJ:DS->Option Res:=(aC (fJ (wA (gB (g2 jq (ae 0) (gC (.str "")))) (dv (dG (dw t8 (aa (aw (b4 (iE (ae 0)) [] (g2 (lG true) (ae 0) (gC (.str "0123456789"))))) ah))))) (aV (gC (.bool false))) ba)
  (aV (yu (g2 jq (ae 0) (gC (.str "0"))) (g2 Fd (g2 fW (ae 0) (gC (.int (0)))) (gC (.str "0"))))))
def bR:List D->Option D:=fK 1 iJ
theorem lh (a0:D):bR [a0]=(iJ [some a0]).bind fj:=rfl
abbrev eT:DS->Option Res:=(aC (fJ (wA (dv (dG (aJ bR 1 (aa (ae 0) ah)))) (gB (g2 nA (dw cp (aa (ae 0) ah)) (gC (.int (2)))))) (ud "NoText") ba)
  (aV (dw vn (aa (ae 0) ah))))
def cj:List D->Option D:=fK 1 eT
theorem mY (a0:D):cj [a0]=(eT [some a0]).bind fj:=rfl
abbrev gm:DS->Option Res:=(aC (fJ (wA (dv (dG (aJ bR 1 (aa (ae 0) ah)))) (gB (g2 nA (dw cp (aa (ae 0) ah)) (gC (.int (2)))))) (λ_=>none) ba)
  (aV (dw vn (aa (ae 0) ah))))
def cQ:List D->Option D:=fK 1 gm
theorem nR (a0:D):cQ [a0]=(gm [some a0]).bind fj:=rfl
abbrev g0:DS->Option Res:=(aV (lb (aR (aw (dE (ae 0) (gC (.str " "))))) [] (aJ cj 1 (aa (ae 0) ah))))
def cc:List D->Option D:=fK 1 g0
theorem nT (a0:D):cc [a0]=(g0 [some a0]).bind fj:=rfl
abbrev g5:DS->Option Res:=(aV (dw gD (aa (aw (b4 (aR (aw (dE (ae 0) (gC (.str " "))))) [] (aJ cQ 1 (aa (ae 0) ah)))) ah)))
def dA:List D->Option D:=fK 1 g5
theorem qe (a0:D):dA [a0]=(g5 [some a0]).bind fj:=rfl
abbrev e9:DS->Option Res:=(aC (rT 1 (lb (aR (aw (dE (ae 0) (gC (.str "|"))))) [] (aJ cc 1 (aa (ae 0) ah))))
  (aC (fJ (dv (dG (aJ d6 1 (aa (ae 1) ah)))) (ud "NoText") ba)
  (aV (ae 1))))
def dh:List D->Option D:=fK 2 e9
theorem qf (a0:D):dh [a0]=(e9 [some a0,none]).bind fj:=rfl
abbrev iK:DS->Option Res:=(aC (bA 1 (dw gD (aa (aw (b4 (aR (aw (dE (ae 0) (gC (.str "|"))))) [] (aJ dA 1 (aa (ae 0) ah)))) ah)))
  (aC (fJ (dv (dG (aJ d6 1 (aa (ae 1) ah)))) (λ_=>none) ba)
  (aV (ae 1))))
def fb:List D->Option D:=fK 2 iK
theorem r8 (a0:D):fb [a0]=(iK [some a0,none]).bind fj:=rfl
abbrev jP:DS->Option Res:=(aC (fJ (gB (g2 wz (ae 1) (dw cp (aa (ae 0) ah)))) (aV (g2 fW (ae 0) (ae 1))) ba)
  (aV (gC (.int (0)))))
def ck:List D->Option D:=fK 2 jP
theorem ur (a0 a1:D):ck [a0,a1]=(jP [some a0,some a1]).bind fj:=rfl
abbrev g6:DS->Option Res:=(aC (mj 3 (bH ah))
  (aC (nJ (ez (aa (ae 2) ah)) (bF 4)
   (aC (wC 3 (g2 cT (ae 0) (ae 1)))
  (bA 0 (g2 kH (ae 0) (ae 1)))))
  (aV (ae 3))))
def dB:List D->Option (List D):=rB 5 g6
theorem qg (a0 a1 a2:D):dB [a0,a1,a2]=(g6 [some a0,some a1,some a2,none,none]).bind oF:=rfl
abbrev iL:DS->Option Res:=(aC (mj 3 (bH ah))
  (aC (nJ (ez (aa (ae 2) ah)) (bF 4)
   (aC (bA 5 (g2 cT (g2 aQ (g2 aQ (g2 ik (g2 cT (ae 0) (gC (.int (1000003)))) (gC (.int (48271)))) (g2 ik (g2 ik (ae 4) (ae 4)) (gC (.int (69621))))) (g2 ik (ae 4) (gC (.int (16807))))) (gC (.int (2147483647)))))
  (wC 3 (g2 cT (g2 kH (g2 cT (g2 aQ (g2 ik (ae 5) (gC (.int (39373)))) (ae 0)) (gC (.int (2147483629)))) (gC (.int (13)))) (ae 1)))))
  (aV (ae 3))))
def di:List D->Option (List D):=rB 6 iL
theorem r9 (a0 a1 a2:D):di [a0,a1,a2]=(iL [some a0,some a1,some a2,none,none,none]).bind oF:=rfl
abbrev jQ:DS->Option Res:=(aC (bA 2 (g2 kH (ae 0) (gC (.int (4)))))
  (aC (bA 3 (g2 aQ (gC (.int (100))) (g2 ik (gC (.int (200))) (dw AY (aa (g2 nA (ae 1) (gC (.int (12)))) ah)))))
  (aC (bA 4 (aw (dS di 3 (aa (ae 2) (aa (gC (.int (3))) (aa (ae 3) ah))))))
  (aC (fJ (gB (g2 Jj (dw yz (aa (ae 0) ah)) (g2 gO (gC (.int (10))) (gC (.int (18)))))) (bA 4 (aw (dS dB 3 (aa (ae 2) (aa (gC (.int (3))) (aa (ae 3) ah)))))) ba)
  (aC (mj 5 (bH (aa (Cp (aa (gC (.int (0))) ah)) ah)))
  (aC (bA 6 (aw (bH (aa (gC (.int (0))) (aa (gC (.int (1))) ah)))))
  (aC (bA 7 (gC (.int (0))))
  (aC (gQ (lC (gB (g2 wz (dw cp (aa (ae 5) ah)) (ae 1))) (gB (g2 nA (dw cp (aa (ae 6) ah)) (gC (.int (0)))))) (aC (bA 8 (aw (cF (gS (ae 6)) 2 [4,3,7] (ml 2 (gR (bF 0) (gR (bF 1) oE))) (gB (g2 nA (g2 fW (ae 2) (g2 cT (g2 aQ (ae 4) (ae 0)) (ae 3))) (gC (.int (0))))) (ae 1))))
  (aC (bA 7 (g2 aQ (ae 7) (dw cp (aa (ae 6) ah))))
  (aC (fJ (gB (g2 nA (g2 cT (ae 0) (gC (.int (4)))) (gC (.int (1))))) (bA 8 (aw (gF (ae 6) (bN (g2 fW (ae 4) (g2 cT (ae 7) (ae 3)))) (bN (dw rk (aa (gC (.int (0))) (aa (g2 wy (dw cp (aa (ae 6) ah)) (g2 fW (ae 4) (g2 cT (g2 aQ (ae 7) (gC (.int (1)))) (ae 3)))) ah))))))) ba)
  (aC (bA 6 (aw (Eb (aw (ky eJ (ae 8) (aw (b4 (aR (ae 8)) [] (g2 aQ (ae 0) (gC (.int (1)))))))))))
  (fJ (gB (g2 nA (dw cp (aa (ae 8) ah)) (gC (.int (0))))) (wC 5 (dw gD (aa (ae 8) ah))) ba))))))
  (aV (dw gD (aa (ae 5) ah)))))))))))
def fO:List D->Option D:=fK 9 jQ
theorem uu (a0 a1:D):fO [a0,a1]=(jQ [some a0,some a1,none,none,none,none,none,none,none]).bind fj:=rfl
abbrev mZ (y:Addr):DS->Option Res:=(aC (bA 1 (aw (bH (aa (bK eD "NoNumber" (ae 0)) (aa (bK eD "NoPlan" (ae 0)) (aa (bK eD "TooLong" (ae 0)) (aa (bK eD "NoText" (ae 0)) ah)))))))
  (aC (bA 1 (aw (ky eJ (ae 1) (aw (bH (aa (bK eD "NoEnd" (ae 0)) (aa (bK eD "TooMany" (ae 0)) (aa (bK eD "NoRow" (ae 0)) (aa (bK eD "NoTelling" (ae 0)) ah)))))))))
  (aC (bA 1 (aw (ky eJ (ae 1) (aw (bH (aa (bK eD "NoLot" (ae 0)) (aa (bK eD "NotOnly" (ae 0)) (aa (bK eD "Only" (ae 0)) (aa (bK eD "NoShares" (ae 0)) ah)))))))))
  (aC (bA 1 (aw (ky eJ (ae 1) (aw (bH (aa (bK eD "NoDeed" (ae 0)) (aa (bK eD "NoName" (ae 0)) (aa (bK eD "NoDraw" (ae 0)) ah))))))))
  (aC (bA 2 (aw (bH (mQ ["NoNumber","NoPlan","TooLong","NoText","NoEnd","TooMany","NoRow","NoTelling","NoLot","NotOnly"]))))
  (aC (bA 2 (aw (ky eJ (ae 2) (aw (bH (mQ ["Only","NoShares","NoDeed","NoName","NoDraw"]))))))
  (aC (fJ (dv (dG (bK eD "ValueError" (ae 0)))) (aV (gC (.str "other"))) ba)
  (aV (fX (gC (.str "")) (aw (cF (kl y 0 (aa (gC (.int (15))) ah)) 1 [2,1] (bF 0) (dG (g2 fW (ae 2) (ae 0))) (g2 fW (ae 1) (ae 0)))))))))))))
def eK (y:Addr):List D->Option D:=fK 3 (mZ y)
theorem zD (a:Addr) (c:Str) (R:DS->Option Res) (hc:c∈eD):(aC (bA 1 (aw (bH (aa (bK eD "NoNumber" (ae 0)) (aa (bK eD "NoPlan" (ae 0)) (aa (bK eD "TooLong" (ae 0)) (aa (bK eD "NoText" (ae 0)) ah)))))))
  (aC (bA 1 (aw (ky eJ (ae 1) (aw (bH (aa (bK eD "NoEnd" (ae 0)) (aa (bK eD "TooMany" (ae 0)) (aa (bK eD "NoRow" (ae 0)) (aa (bK eD "NoTelling" (ae 0)) ah)))))))))
  (aC (bA 1 (aw (ky eJ (ae 1) (aw (bH (aa (bK eD "NoLot" (ae 0)) (aa (bK eD "NotOnly" (ae 0)) (aa (bK eD "Only" (ae 0)) (aa (bK eD "NoShares" (ae 0)) ah)))))))))
  (aC (bA 1 (aw (ky eJ (ae 1) (aw (bH (aa (bK eD "NoDeed" (ae 0)) (aa (bK eD "NoName" (ae 0)) (aa (bK eD "NoDraw" (ae 0)) ah))))))))
  (aC (bA 2 (aw (bH (mQ ["NoNumber","NoPlan","TooLong","NoText","NoEnd","TooMany","NoRow","NoTelling","NoLot","NotOnly"]))))
  (aC (bA 2 (aw (ky eJ (ae 2) (aw (bH (mQ ["Only","NoShares","NoDeed","NoName","NoDraw"]))))))
  (aC (fJ (dv (dG (bK eD "ValueError" (ae 0)))) (aV (gC (.str "other"))) ba) R))))))) [some (Ah a c),none,none]=R [some (Ah a c),some (.list (qd.map λT=>.bool (Fp c T))),some (.list (qd.map .str))]:=by
 rcases RN.mp hc with rfl | hc
 .kernel_rfl
 cases hc
theorem sd (a:Addr):eK a [Ah a "NoText"]=some (.str "NoText"):=by
 refine Eq.trans (Tw (λr=>Option.bind r fj) ((zD a "NoText" _ (by simp)).trans (rW (zl (nQ rfl))))) ?_
 kernel_rfl
theorem EC (a:Addr) (c:Str) (hc:c∈eD):eK a [Ah a c]=some (.str c):=by
 rcases RN.mp hc with rfl | hc
 .exact sd a
 cases hc
abbrev gn:DS->Option Res:=(aV (fX (gC (.str "|")) (aw (b4 (aR (ae 0)) [] (fX (gC (.str " ")) (aw (b4 (aR (ae 0)) [] (dw pW (aa (ae 0) ah)))))))))
def dH:List D->Option D:=fK 1 gn
theorem nU (a0:D):dH [a0]=(gn [some a0]).bind fj:=rfl
abbrev jr (a:Addr):DS->Option Res:=(aV (g2 jq (aJ (eK a) 1 (aa (ae 1) ah)) (gC (.str "NoText"))))
theorem m5 (a:Addr) (c:Str) (d:D) (h:jJ eD (λ_=>.bool true) c=some d):jr a ((List.replicate 2 none).set 1 (some (Ah a c)))=some (.rt d):=by
 obtain ⟨hc,rfl⟩:=la h
 exact (by cases Sn.mp hc; exact BC rfl (EC a _ (Sn.mpr rfl)) (by kernel_rfl))
abbrev eU:DS->Option Res:=(aC (Br (p9 (aJ dh 1 (aa (ae 0) ah))) (jJ eD (λ_=>.bool true)))
  (aV (gC (.bool false))))
def cR:List D->Option D:=fK 2 eU
theorem nV (a0:D):cR [a0]=(eU [some a0,none]).bind fj:=rfl
abbrev jR:DS->Option Res:=(aC (bA 1 (gC (.str "!\"#$&'()*+,-./:;<=>?@ABCDEFGHIJKLMNOPQRSTUVWXYZ[\\]^_`abcdefghijklmnopqrstuvwxyz{}~")))
  (aV (g2 fW (ae 1) (g2 cT (ae 0) (dw cp (aa (ae 1) ah))))))
def dW:List D->Option D:=fK 2 jR
theorem uv (a0:D):dW [a0]=(jR [some a0,none]).bind fj:=rfl
abbrev eL:DS->Option Res:=(aC (bA 4 (g2 cT (ae 3) (dw cp (aa (ae 0) ah))))
  (aC (fJ (gB (g2 jq (ae 2) (gC (.int (6))))) (aV (aw (ky eJ (aw (gF (ae 0) aX (bN (g1 tO (gC (.int (1))))))) (aw (bH (aa (dw pW (aa (g2 aQ (g2 aQ (ae 1) (gC (.int (1)))) (g2 cT (ae 3) (gC (.int (3))))) ah)) ah)))))) ba)
  (aC (fJ (lC (gB (g2 jq (ae 2) (gC (.int (7))))) (gB (g2 nA (dw cp (aa (ae 0) ah)) (gC (.int (1)))))) (aC (bA 4 (g2 cT (ae 3) (g2 wy (dw cp (aa (ae 0) ah)) (gC (.int (1))))))
  (aV (aw (ky eJ (aw (ky eJ (aw (gF (ae 0) aX (bN (ae 4)))) (aw (bH (aa (g2 fW (ae 0) (g2 aQ (ae 4) (gC (.int (1))))) (aa (g2 fW (ae 0) (ae 4)) ah)))))) (aw (gF (ae 0) (bN (g2 aQ (ae 4) (gC (.int (2))))) aX)))))) ba)
  (aC (fJ (gB (g2 jq (ae 2) (gC (.int (8))))) (aV (aw (ky eJ (aw (ky eJ (aw (gF (ae 0) aX (bN (ae 4)))) (aw (bH (aa (g2 fW (ae 0) (ae 4)) (aa (g2 fW (ae 0) (ae 4)) ah)))))) (aw (gF (ae 0) (bN (g2 aQ (ae 4) (gC (.int (1))))) aX))))) ba)
  (aC (fJ (gB (g2 jq (ae 2) (gC (.int (9))))) (aV (aw (ky eJ (aw (ky eJ (aw (gF (ae 0) aX (bN (ae 4)))) (aw (bH (aa (g2 aQ (gC (.str "-")) (g2 fW (ae 0) (ae 4))) ah))))) (aw (gF (ae 0) (bN (g2 aQ (ae 4) (gC (.int (1))))) aX))))) ba)
  (aC (fJ (gB (g2 jq (ae 2) (gC (.int (5))))) (aV (aw (ky eJ (aw (ky eJ (aw (gF (ae 0) aX (bN (ae 4)))) (aw (bH (aa (g2 aQ (gC (.str "0")) (g2 fW (ae 0) (ae 4))) ah))))) (aw (gF (ae 0) (bN (g2 aQ (ae 4) (gC (.int (1))))) aX))))) ba)
  (aV (aw (bH ah)))))))))
def bW:List D->Option (List D):=rB 5 eL
theorem kP (a0 a1 a2 a3:D):bW [a0,a1,a2,a3]=(eL [some a0,some a1,some a2,some a3,none]).bind oF:=rfl
abbrev g7:DS->Option Res:=(aC (bA 4 (aw (cF (ez (aa (dw cp (aa (ae 1) ah)) ah)) 1 [1] (bF 0) (gB (g2 (lG true) (g2 fW (ae 1) (ae 0)) (gC (.str " |")))) (ae 0))))
  (aC (fJ (gB (g2 jq (ae 2) (gC (.int (0))))) (aV (g2 fW (aw (bH (aa (g2 aQ (gC (.str " ")) (ae 1)) (aa (g2 aQ (ae 1) (gC (.str " "))) (aa (g2 aQ (gC (.str "|")) (ae 1)) (aa (g2 aQ (ae 1) (gC (.str "|"))) ah)))))) (g2 cT (ae 3) (gC (.int (4)))))) ba)
  (aC (fJ (lC (gB (g2 wz (ae 2) (gC (.int (3))))) (gB (g2 nA (dw cp (aa (ae 4) ah)) (gC (.int (0)))))) (aC (bA 5 (g2 fW (ae 4) (g2 cT (ae 3) (dw cp (aa (ae 4) ah)))))
  (aV (g2 aQ (g2 aQ (mH (ae 1) aX (bN (ae 5))) (g2 fW (gC (.str " |")) (g2 wy (ae 2) (gC (.int (1)))))) (mH (ae 1) (bN (ae 5)) aX)))) ba)
  (aC (fJ (gB (g2 jq (ae 2) (gC (.int (3))))) (aC (bA 5 (g2 cT (ae 3) (g2 aQ (dw cp (aa (ae 1) ah)) (gC (.int (1))))))
  (aV (g2 aQ (g2 aQ (mH (ae 1) aX (bN (ae 5))) (aJ dW 1 (aa (g2 kH (ae 3) (gC (.int (7)))) ah))) (mH (ae 1) (bN (ae 5)) aX)))) ba)
  (aC (fJ (gB (g2 jq (ae 2) (gC (.int (4))))) (aC (bA 5 (g2 cT (ae 3) (dw cp (aa (ae 1) ah))))
  (aV (g2 aQ (g2 aQ (mH (ae 1) aX (bN (ae 5))) (aJ dW 1 (aa (g2 kH (ae 3) (gC (.int (7)))) ah))) (mH (ae 1) (bN (g2 aQ (ae 5) (gC (.int (1))))) aX)))) ba)
  (aC (mj 6 (b4 (aR (ae 0)) [] (aw (b4 (aR (ae 0)) [] (dw pW (aa (ae 0) ah))))))
  (aC (bA 5 (g2 cT (g2 kH (ae 3) (gC (.int (11)))) (dw cp (aa (ae 6) ah))))
  (aC (pI 6 (ae 5) (aw (dS bW 4 (aa (g2 fW (ae 6) (ae 5)) (aa (ae 5) (aa (ae 2) (aa (ae 3) ah)))))))
  (aV (fX (gC (.str "|")) (aw (b4 (aR (ae 6)) [] (fX (gC (.str " ")) (ae 0))))))))))))))
def eB:List D->Option D:=fK 7 g7
theorem qh (a0 a1 a2 a3:D):eB [a0,a1,a2,a3]=(g7 [some a0,some a1,some a2,some a3,none,none,none]).bind fj:=rfl
abbrev kQ:DS->Option Res:=(aC (bA 1 (aw (bH (mQ [""," ","|","1","0 1","0|2","0|1 0","0|0 0","0||0","0|","|0","0|0 1 2","0|1|0","0|0|2","00"]))))
  (aC (bA 1 (aw (ky eJ (ae 1) (aw (bH (mQ ["0|01","0| 1","0|1 ","0 |1","+0","-0","0|1|1 2 3","0.0","0,1","(0,)","zero","0|0|0 1|3"]))))))
  (aC (bA 1 (aw (ky eJ (ae 1) (aw (bH (aa (g2 aQ (gC (.str "0|")) (g2 zw (gC (.str "9")) (gC (.int (40))))) (aa (fX (gC (.str "|")) (aw (b4 (ez (aa (gC (.int (25))) ah)) [] (gC (.str "0"))))) (aa (gC (.str "0|0  1")) ah))))))))
  (aV (g2 fW (ae 1) (g2 cT (ae 0) (gC (.int (30)))))))))
def gJ:List D->Option D:=fK 2 kQ
theorem xi (a0:D):gJ [a0]=(kQ [some a0,none]).bind fj:=rfl
abbrev zF:DS->Option Res:=(aC (bA 1 (aJ fO 2 (aa (aJ ck 2 (aa (ae 0) (aa (gC (.int (0))) ah))) (aa (g2 aQ (gC (.int (1))) (g2 cT (aJ ck 2 (aa (ae 0) (aa (gC (.int (1))) ah))) (gC (.int (12))))) ah))))
  (aC (bA 2 (aJ dH 1 (aa (ae 1) ah)))
  (aC (nJ (aR (aw (ky eJ (aw (gF (ae 0) (bN (gC (.int (1)))) (bN (gC (.int (13)))))) (aw (bH (aa (aJ ck 2 (aa (ae 0) (aa (gC (.int (1))) ah))) ah)))))) (bF 3)
   (aC (bA 4 (aw (dS di 3 (aa (ae 3) (aa (gC (.int (1000003))) (aa (gC (.int (2))) ah))))))
  (aC (fJ (dv (gB (iw wz wz (g1 tO (g2 gO (gC (.int (10))) (gC (.int (18))))) (ae 3) (g2 gO (gC (.int (10))) (gC (.int (18))))))) (bA 4 (aw (bH (aa (g2 cT (g2 kH (ae 3) (gC (.int (2)))) (gC (.int (10)))) (aa (g2 cT (g2 kH (ae 3) (gC (.int (20)))) (g2 gO (gC (.int (10))) (gC (.int (30))))) ah))))) ba)
  (aC (fJ (dv (dG (aJ cR 1 (aa (aJ eB 4 (aa (ae 1) (aa (ae 2) (aa (g2 cT (g2 fW (ae 4) (gC (.int (0)))) (gC (.int (10)))) (aa (g2 fW (ae 4) (gC (.int (1)))) ah))))) ah)))) (aV (gC (.bool false))) ba)
  (fJ (wA (dv (dG (aJ cR 1 (aa (aJ gJ 1 (aa (g2 fW (ae 4) (gC (.int (1)))) ah)) ah)))) (gB (g2 Fd (aJ fb 1 (aa (ae 2) ah)) (ae 1)))) (aV (gC (.bool false))) ba)))))
  (aV (gC (.bool true))))))
def oX:List D->Option D:=fK 5 zF
theorem Ha (a0:D):oX [a0]=(zF [some a0,none,none,none,none]).bind fj:=rfl
end aF
open L2
namespace aF
open PySem L2 Q1
theorem m6 (ns:List Int) (k:Nat):ck [.list (ns.map .int),.int k]=some (.int (ns.getD k 0)):=by
 rw [ur]
 simp only [aC,fJ,gB,g2,ae,SY,T1,Option.join_some,dw,aa,ah,RH,mW,Gp,aV,G9,ba,Sf,gC]
 rw [RJ,R6]
 by_cases h:k < ns.length
 .rw [RV (by omega),eP (v:=.int ns[k]) (by rw [Sa,RP h]; rfl),RP h]
  rfl
 .rw [R4 (by omega),T9 (by omega)]
  rfl
def dR (r:List Int):D:=.tuple (r.map .int)
def eG (p:List (List Int)):D:=.tuple (p.map dR)
def jS (l:List Int):Prop:=l.Pairwise (· < ·)
def led (r:List Int):List Int:=ss (r ++ r.map (· + 1))
def Nx (r s:List Int):Prop:=s≠[] /\ jS s /\ ∀ x∈s,x∈led r
def CG:List Int->List (List Int)->Prop
 | _,[]=>True
 | r,s :: q=>Nx r s /\ CG s q
def lst:List Int->List (List Int)->List Int
 | r,[]=>r
 | _,s :: q=>lst s q
theorem se {s:List Int}:∀ {q:List (List Int)} {r:List Int},CG r q->Nx (lst r q) s->CG r (q ++ [s])
 | [],_,_,h=>⟨h,trivial⟩
 | _ :: _,_,h1,h2=>⟨h1.1,se h1.2 h2⟩
theorem lst_snoc {s:List Int}:∀ {q:List (List Int)} {r:List Int},lst r (q ++ [s])=s
 | [],_=>rfl
 | _ :: q,_=>lst_snoc (q:=q)
structure Pl (p:List (List Int)):Prop where
 ex:∃ q,p=[0] :: q /\ CG [0] q
theorem ja {x:Int} {r:List Int}:x∈led r↔x∈r \/ x - 1∈r:=by
 unfold led
 rw [t4,R0,RX]
 constructor
 .rintro (h | ⟨y,h,e⟩)
  .exact .inl h
  .exact .inr (by have:x - 1=y:=(by omega); rw [this]; exact h)
 .rintro (h | h)
  .exact .inl h
  .exact .inr ⟨x - 1,h,by omega⟩
theorem m7:∀ {l:List Int} {a b:Int},jS l->(∀ x∈l,a<=x /\ x<=b)->(l.length:Int)<=max 0 (b - a + 1)
 | [],a,b,_,_=>by simp; omega
 | x :: l,a,b,h,hb=>by
   obtain ⟨h1,h2⟩:=Sy.mp h
   have hx:=hb x RK
   have:=m7 (l:=l) (a:=x + 1) (b:=b) h2 λy hy=>⟨by have:=h1 y hy; omega,(hb y (RM _ hy)).2⟩
   rw [Sx]
   push_cast
   omega
theorem uw {i:Nat} {g:DS->Option D} {δ:DS} {ds:List D} {d:D} (h1:ae i δ=some (.list ds)) (h2:g δ=some d) (h3:ds.length < 100000):wC i g δ=some (.nx (δ.set i (some (.list (ds ++ [d]))))):=by
 unfold wC
 rw [h1,h2]
 show (if ds.length < 100000 then _ else _)=_
 rw [RV h3]
theorem CH {g:DS->Option D} {δ:DS} {d:D} {ns:List Int} (h:g δ=some d) (h2:Ea d=some (ns.map .int)) (h3:ns.length < 64):Eb g δ=some ((ss ns).map .int):=by
 unfold Eb
 rw [h,RH,h2,RH,d4,RH,RV h3]
theorem fk {a b:DS->Option D} {δ:DS} {x y:List D} (h1:a δ=some (.list x)) (h2:b δ=some (.list y)) (h3:x.length + y.length<=100000):ky eJ a b δ=some (x ++ y):=by
 unfold ky
 rw [h1,h2]
 show (if x.length + y.length<=100000 then _ else _)=_
 rw [RV h3]
theorem js {c:DS->Option Bool} {a b:DS->Option Res} {δ:DS} {r:Option Res} (x:Bool) (h:c δ=some x) (h1:x=true->a δ=r) (h2:x=false->b δ=r):fJ c a b δ=r:=by
 unfold fJ
 rw [h]
 cases x with
 | true=>exact h1 rfl
 | false=>exact h2 rfl
theorem zG {α:Type} (enc:α->D) (l:List α) (lo hi:Option Int):∃ m:List α,cutD (l.map enc) lo hi=m.map enc /\ m.Sublist l:=by
 refine ⟨(l.drop (HT.kY l.length 0 lo)).take (HT.kY l.length l.length hi - HT.kY l.length 0 lo),?_,(List.take_sublist _ _).trans (List.drop_sublist _ _)⟩
 unfold cutD
 rw [RJ,Vl,List.map_drop]
theorem eH {f:List D->Option D} {g:DS->Option (List D)} {δ:DS} {ds:List D} {r:Option D} (h:g δ=some ds) (h2:f ds=r):dw f g δ=r:=by unfold dw; rw [h]; exact h2
theorem part_of {g:DS->Option D} {δ:DS} {i:Int} (h:g δ=some (.int i)):bN g δ=some (some i):=by unfold bN; rw [h]; rfl
theorem g8 (a b:Int):aQ (.int a) (.int b)=some (.int (a + b)):=rfl
theorem zH {a b:DS->Option D} {δ:DS} {r:List Int} (h1:a δ=some (.list (r.map .int))) (h2:b δ=some (.list (r.map .int)) \/ b δ=some (dR r)) (hl:r.length < 32):Eb (aw (ky eJ a (aw (b4 (aR b) [] (g2 aQ (ae 0) (gC (.int 1))))))) δ=some ((led r).map .int):=by
 have hi:aR b δ=some (r.map .int):=by
  unfold aR
  rcases h2 with h2 | h2
  .rw [h2]; rfl
  .rw [h2]; rfl
 have hc:b4 (aR b) [] (g2 aQ (ae 0) (gC (.int 1))) δ=some ((r.map (· + 1)).map .int):=dO PyData.int PyData.int (λx=>x + 1) r hi (by omega) (λx _=>rfl)
 have Kn:=fk h1 (ax hc) (by simp; omega)
 refine CH (ax Kn) ?_ (by simp; omega)
 rw [SA]
 rfl
theorem lj (c b:Int) (n:Nat) (hb:0 < b) (hn:n<=1000):c9 (di [.int c,.int b,.int (n:Nat)]) λds=>∃ l:List Int,ds=l.map .int /\ l.length=n /\ ∀ x∈l,0<=x /\ x < b:=by
 rw [r9]
 refine br [some (.int c),some (.int b),some (.int (n:Nat)),some (.list []),none,none] rfl ?_
 refine rZ 0 n (λi δ=>∃ (l:List Int) (x y:Option D),δ=[some (.int c),some (.int b),some (.int (n:Nat)),some (.list (l.map .int)),x,y] /\ l.length=i /\ ∀ x∈l,0<=x /\ x < b) (i9 rfl (by omega)) ⟨[],none,none,rfl,rfl,by simp⟩ ?_ ?_
 .rintro i δ hi ⟨l,x,y,rfl,hl,hx⟩
  have m1:ik (.int (c % 1000003)) (.int 48271)=some (.int (c % 1000003 * 48271)):=mU (mul_right (by decide) (by decide))
  have m2:ik (.int (0 + (i:Int))) (.int (0 + (i:Int)))=some (.int ((0 + (i:Int)) * (0 + (i:Int)))):=mU (mul_right (by omega) (by omega))
  have m3:ik (.int ((0 + (i:Int)) * (0 + (i:Int)))) (.int 69621)=some (.int ((0 + (i:Int)) * (0 + (i:Int)) * 69621)):=mU (mul_right (by decide) (by decide))
  have m4:ik (.int (0 + (i:Int))) (.int 16807)=some (.int ((0 + (i:Int)) * 16807)):=mU (mul_right (by decide) (by decide))
  refine ⟨_,[some (.int c),some (.int b),some (.int (n:Nat)),some (.list ((l ++ [_]).map .int)),some (.int (0 + (i:Int))),some (.int ((c % 1000003 * 48271 + (0 + (i:Int)) * (0 + (i:Int)) * 69621 + (0 + (i:Int)) * 16807) % 2147483647))],rfl,
   dU [some (.int c),some (.int b),some (.int (n:Nat)),some (.list (l.map .int)),some (.int (0 + (i:Int))),some (.int ((c % 1000003 * 48271 + (0 + (i:Int)) * (0 + (i:Int)) * 69621 + (0 + (i:Int)) * 16807) % 2147483647))]
    (bu (ak (ak (ak (ak (ak rfl rfl (c8 (by decide))) rfl m1) (ak (ak rfl rfl m2) rfl m3) rfl) (ak rfl rfl m4) rfl) rfl (c8 (by decide))))
    ((uw (d:=.int (((c % 1000003 * 48271 + (0 + (i:Int)) * (0 + (i:Int)) * 69621 + (0 + (i:Int)) * 16807) % 2147483647 * 39373 + c) % 2147483629 / 13 % b)) rfl
      (ak (ak (ak (ak (ak rfl rfl (mU (mul_right (by decide) (by decide)))) rfl rfl) rfl (c8 (by decide))) rfl (vE (by decide) (vD (vC (m:=4) (by decide)) (by decide)))) rfl (c8 hb)) (by simp; omega)).trans (by rw [SA]; rfl)),l ++ [_],_,_,rfl,by simp [hl],?_⟩
  intro z hz
  rcases R0.mp hz with q | q
  .exact hx z q
  .rw [Sn.mp q]
   exact ⟨SF _ (by omega),Sv _ hb⟩
 .rintro δ' ⟨l,x,y,rfl,hl,hx⟩
  exact ret (.list (l.map .int)) rfl (.mk rfl ⟨l,rfl,hl,hx⟩)
theorem qi (c b:Int) (n:Nat) (hb:0 < b) (Ko:bt b<=9000) (hn:n<=1000):c9 (dB [.int c,.int b,.int (n:Nat)]) λds=>∃ l:List Int,ds=l.map .int /\ l.length=n /\ ∀ x∈l,0<=x /\ x < b:=by
 rw [qg]
 refine br [some (.int c),some (.int b),some (.int (n:Nat)),some (.list []),none] rfl ?_
 refine rZ 0 n (λi δ=>∃ (c:Int) (l:List Int) (x:Option D),δ=[some (.int c),some (.int b),some (.int (n:Nat)),some (.list (l.map .int)),x] /\ l.length=i /\ ∀ x∈l,0<=x /\ x < b) (i9 rfl (by omega)) ⟨c,[],none,rfl,rfl,by simp⟩ ?_ ?_
 .rintro i δ hi ⟨c,l,x,rfl,hl,hx⟩
  refine ⟨_,[some (.int (c / b)),some (.int b),some (.int (n:Nat)),some (.list ((l ++ [c % b]).map .int)),some (.int (0 + (i:Int)))],rfl,
   dU [some (.int c),some (.int b),some (.int (n:Nat)),some (.list ((l ++ [c % b]).map .int)),some (.int (0 + (i:Int)))] ((uw (d:=.int (c % b)) rfl (ak rfl rfl (c8 hb)) (by simp; omega)).trans (by rw [SA]; rfl)) (bu (ak rfl rfl (vE hb Ko))),c / b,l ++ [c % b],_,rfl,by simp [hl],?_⟩
  intro z hz
  rcases R0.mp hz with q | q
  .exact hx z q
  .rw [Sn.mp q]
   exact ⟨SF _ (by omega),Sv _ hb⟩
 .rintro δ' ⟨c,l,x,rfl,hl,hx⟩
  exact ret (.list (l.map .int)) rfl (.mk rfl ⟨l,rfl,hl,hx⟩)
theorem vI {f:D->Option (Option D)} (hf:∀ (k:Nat) (x:Int),∃ b:Bool,f (.tuple [.int (k:Nat),.int x])=some (if b=true then some (.int x) else none)):∀ (l:List Int) (n:Nat),∃ m:List Int,mz f (((l.map PyData.int).zipIdx n).map λp=>.tuple [.int (p.2:Nat),p.1])=some (m.map .int) /\ m.Sublist l
 | [],n=>⟨[],rfl,.slnil⟩
 | x :: l,n=>by
   obtain ⟨m,e,hs⟩:=vI hf l (n + 1)
   obtain ⟨b,hb⟩:=hf n x
   rw [RY,List.zipIdx_cons,RY,mz,hb,RH,e,RH]
   cases b with
   | true=>exact ⟨x :: m,rfl,hs.cons₂ x⟩
   | false=>exact ⟨m,rfl,hs.cons x⟩
theorem ux {l:List Int} {i:Int} (h0:0<=i) (h1:i < l.length):∃ x,x∈l /\ fW (.list (l.map .int)) (.int i)=some (.int x):=by
 obtain ⟨k,rfl⟩:∃ k:Nat,i=(k:Int):=⟨i.toNat,by omega⟩
 have hk:k < l.length:=by omega
 exact ⟨l[k],SQ hk,eP (by rw [Sa,RP hk]; rfl)⟩
theorem Kp:led [0]=[0,1]:=yP (by simp) (by intro z; simp)
theorem uy (c:Int) (m:Nat) (O2:1<=m) (hm:m<=24):c9 (fO [.int c,.int (m:Nat)]) λd=>∃ p,d=eG p /\ Pl p /\ p.length<=m /\ ∀ r∈p,r.length<=25:=by
 rw [uu]
 have Ih:gO (.int 10) (.int 18)=some (.int (10 ^ 18)):=zy (k:=18) (by decide) (by decide)
 obtain ⟨many,Hb,ED,He⟩:∃ many:Nat,100<=many /\ many<=300 /\ g2 aQ (gC (.int (100))) (g2 ik (gC (.int (200))) (dw AY (aa (g2 nA (ae 1) (gC (.int (12)))) ah))) [some (.int c),some (.int (m:Nat)),some (.int (c / 4)),none,none,none,none,none,none]=some (.int (many:Nat)):=by
  by_cases h:(12:Int) < (m:Int)
  .refine ⟨300,by decide,by decide,ak rfl (ak rfl (show _=some (.int 1) from ?_) (mU (mul_right (by decide) (by decide)))) rfl⟩
   show some (PyData.int (if decide ((12:Int) < (m:Int))=true then 1 else 0))=_
   rw [Sl h]; rfl
  .refine ⟨100,by decide,by decide,ak rfl (ak rfl (show _=some (.int 0) from ?_) (mU (mul_right (by decide) (by decide)))) rfl⟩
   show some (PyData.int (if decide ((12:Int) < (m:Int))=true then 1 else 0))=_
   rw [Si h]; rfl
 have BF:(0:Int) < (many:Int):=Int.ofNat_lt.mpr (RL (by decide) Hb)
 have zI:many<=1000:=Sj ED (by decide)
 refine br [some (.int c),some (.int (m:Nat)),some (.int (c / 4)),none,none,none,none,none,none] (bu (ak rfl rfl (vE (by decide) (vD (vC (m:=4) (by decide)) (by decide))))) ?_
 refine br [some (.int c),some (.int (m:Nat)),some (.int (c / 4)),some (.int (many:Nat)),none,none,none,none,none] (bu He) ?_
 obtain ⟨_,e1,l1,rfl,Fl,Oz⟩:=lj (c / 4) 3 many (by decide) zI
 refine br [some (.int c),some (.int (m:Nat)),some (.int (c / 4)),some (.int (many:Nat)),some (.list (l1.map .int)),none,none,none,none] (bu (ax (iI (cons_of rfl (cons_of rfl (cons_of rfl rfl))) rfl e1))) ?_
 have dig:∃ dg:List Int,dg.length=many /\ fJ (gB (g2 Jj (dw yz (aa (ae 0) ah)) (g2 gO (gC (.int (10))) (gC (.int (18)))))) (bA 4 (aw (dS dB 3 (aa (ae 2) (aa (gC (.int (3))) (aa (ae 3) ah)))))) ba [some (.int c),some (.int (m:Nat)),some (.int (c / 4)),some (.int (many:Nat)),some (.list (l1.map .int)),none,none,none,none]
   =some (.nx [some (.int c),some (.int (m:Nat)),some (.int (c / 4)),some (.int (many:Nat)),some (.list (dg.map .int)),none,none,none,none]):=by
  obtain ⟨_,e2,l2,rfl,Ae,M4⟩:=qi (c / 4) 3 many (by decide) (vD (vC (m:=4) (by decide)) (by decide)) zI
  have hc:gB (g2 Jj (dw yz (aa (ae 0) ah)) (g2 gO (gC (.int (10))) (gC (.int (18))))) [some (.int c),some (.int (m:Nat)),some (.int (c / 4)),some (.int (many:Nat)),some (.list (l1.map .int)),none,none,none,none]=some (decide ((10 ^ 18:Int)<=(if c < 0 then -c else c))):=cO (ak rfl Ih rfl)
  by_cases h:((10 ^ 18:Int)<=(if c < 0 then -c else c))
  .exact ⟨l2,Ae,js true (by rw [hc,Sl h]) (λ_=>bu (ax (iI (cons_of rfl (cons_of rfl (cons_of rfl rfl))) rfl e2))) (λz=>nomatch z)⟩
  .exact ⟨l1,Fl,js false (by rw [hc,Si h]) (λz=>nomatch z) (λ_=>rfl)⟩
 obtain ⟨dg,Kq,O3⟩:=dig
 refine br _ O3 ?_
 refine br [some (.int c),some (.int (m:Nat)),some (.int (c / 4)),some (.int (many:Nat)),some (.list (dg.map .int)),some (.list [dR [0]]),none,none,none] rfl ?_
 refine br [some (.int c),some (.int (m:Nat)),some (.int (c / 4)),some (.int (many:Nat)),some (.list (dg.map .int)),some (.list [dR [0]]),some (.list (([0,1]:List Int).map .int)),none,none] rfl ?_
 refine br [some (.int c),some (.int (m:Nat)),some (.int (c / 4)),some (.int (many:Nat)),some (.list (dg.map .int)),some (.list [dR [0]]),some (.list (([0,1]:List Int).map .int)),some (.int 0),none] rfl ?_
 refine xg (λk δ=>∃ (q:List (List Int)) (bX:List Int) (pos:Nat) (z:Option D),δ=[some (.int c),some (.int (m:Nat)),some (.int (c / 4)),some (.int (many:Nat)),some (.list (dg.map .int)),some (.list (([0] :: q).map dR)),some (.list (bX.map .int)),some (.int (pos:Nat)),z] /\
   CG [0] q /\ q.length + 1<=m /\ (bX=[] \/ bX=led (lst [0] q)) /\ jS bX /\ (∀ x∈bX,0<=x /\ x<=(q.length:Int) + 1) /\ (∀ r∈q,r.length<=25) /\ k=2 * (m - q.length) + (if bX=[] then 0 else 1))
  (λδ=>∃ (q:List (List Int)) (x y z:Option D),δ=[some (.int c),some (.int (m:Nat)),some (.int (c / 4)),some (.int (many:Nat)),some (.list (dg.map .int)),some (.list (([0] :: q).map dR)),x,y,z] /\ CG [0] q /\ q.length + 1<=m /\ ∀ r∈q,r.length<=25)
  (2 * m + 1) ⟨[],[0,1],0,none,rfl,trivial,by simpa using O2,.inr Kp.symm,by unfold jS; simp,by intro x hx; simp at hx; rcases hx with h | h <;> subst h <;> decide,by simp,by simp⟩ ?_ ?_
 .rintro k δ ⟨q,bX,pos,z,rfl,hq,Ii,Hf,hr,hb,xB,rfl⟩
  have hlen:bX.length<=q.length + 2:=by
   have:=m7 hr hb
   omega
  have cond:lC (gB (g2 wz (dw cp (aa (ae 5) ah)) (ae 1))) (gB (g2 nA (dw cp (aa (ae 6) ah)) (gC (.int (0))))) [some (.int c),some (.int (m:Nat)),some (.int (c / 4)),some (.int (many:Nat)),some (.list (dg.map .int)),some (.list (([0] :: q).map dR)),some (.list (bX.map .int)),some (.int (pos:Nat)),z]
    =some (decide ((((([0] :: q).map dR).length:Nat):Int) < (m:Int)) && decide ((0:Int) < (((bX.map PyData.int).length:Nat):Int))):=by
   by_cases h:((((([0] :: q).map dR).length:Nat):Int) < (m:Int))
   .rw [Sl h,Ul]
    exact EB (cO (b:=true) (show _=_ from Tw (λb=>some (PyData.bool b)) (Sl h))) (cO rfl)
   .rw [Si h,Ua]
    have h1:gB (g2 wz (dw cp (aa (ae 5) ah)) (ae 1)) [some (.int c),some (.int (m:Nat)),some (.int (c / 4)),some (.int (many:Nat)),some (.list (dg.map .int)),some (.list (([0] :: q).map dR)),some (.list (bX.map .int)),some (.int (pos:Nat)),z]=some false:=
     cO (b:=false) (show _=_ from Tw (λb=>some (PyData.bool b)) (Si h))
    unfold lC
    rw [h1]; rfl
  rw [cond]
  cases nB:(decide ((((([0] :: q).map dR).length:Nat):Int) < (m:Int)) && decide ((0:Int) < (((bX.map PyData.int).length:Nat):Int))) with
  | false=>exact .inl ⟨rfl,q,_,_,_,rfl,hq,Ii,xB⟩
  | true=>
    rw [RT,Sf,Sf] at nB
    have O4:q.length + 1 < m:=by
     have:=nB.1
     simp at this
     omega
    have fV:bX≠[]:=by
     intro e
     subst e
     simp at nB
    have tV:bX=led (lst [0] q):=Hf.resolve_left fV
    refine .inr ⟨rfl,?_⟩
    have comp:∃ r1:List Int,cF (gS (ae 6)) 2 [4,3,7] (ml 2 (gR (bF 0) (gR (bF 1) oE))) (gB (g2 nA (g2 fW (ae 2) (g2 cT (g2 aQ (ae 4) (ae 0)) (ae 3))) (gC (.int (0))))) (ae 1)
      [some (.int c),some (.int (m:Nat)),some (.int (c / 4)),some (.int (many:Nat)),some (.list (dg.map .int)),some (.list (([0] :: q).map dR)),some (.list (bX.map .int)),some (.int (pos:Nat)),z]=some (r1.map .int) /\ r1.Sublist bX:=by
     obtain ⟨f,ef⟩:∃ f:D->Option (Option D),f=λd=>(ml 2 (gR (bF 0) (gR (bF 1) oE)) d (List.replicate 2 none ++ cb [4,3,7] [some (.int c),some (.int (m:Nat)),some (.int (c / 4)),some (.int (many:Nat)),some (.list (dg.map .int)),some (.list (([0] :: q).map dR)),some (.list (bX.map .int)),some (.int (pos:Nat)),z])).bind λfU=>
       (gB (g2 nA (g2 fW (ae 2) (g2 cT (g2 aQ (ae 4) (ae 0)) (ae 3))) (gC (.int (0)))) fU).bind λb=>if b=true then (ae 1 fU).map some else some none:=⟨_,rfl⟩
     have hf:∀ (k:Nat) (x:Int),∃ b:Bool,f (.tuple [.int (k:Nat),.int x])=some (if b=true then some (.int x) else none):=by
      intro k x
      obtain ⟨y,_,ey⟩:=ux (l:=dg) (i:=((pos:Nat) + (k:Nat):Int) % (many:Nat)) (SF _ (Int.ne_of_gt BF)) (by rw [Kq]; exact Sv _ BF)
      refine ⟨decide (0 < y),?_⟩
      rw [ef]
      show (Option.bind (some [some (PyData.int (k:Nat)),some (.int x),some (.list (dg.map .int)),some (.int (many:Nat)),some (.int (pos:Nat))]) _)=_
      rw [RH]
      have hb:gB (g2 nA (g2 fW (ae 2) (g2 cT (g2 aQ (ae 4) (ae 0)) (ae 3))) (gC (.int (0)))) [some (PyData.int (k:Nat)),some (.int x),some (.list (dg.map .int)),some (.int (many:Nat)),some (.int (pos:Nat))]=some (decide (0 < y)):=
       cO (ak (ak rfl (ak (ak rfl rfl rfl) rfl (c8 BF)) ey) rfl rfl)
      rw [hb,RH]
      cases decide (0 < y) <;> rfl
     obtain ⟨m1,Nd,Bc⟩:=vI hf bX 0
     refine ⟨m1,?_,Bc⟩
     unfold cF
     rw [show gS (ae 6) [some (.int c),some (.int (m:Nat)),some (.int (c / 4)),some (.int (many:Nat)),some (.list (dg.map .int)),some (.list (([0] :: q).map dR)),some (.list (bX.map .int)),some (.int (pos:Nat)),z]=some (oH (bX.map .int)) from rfl,RH,RV (by rw [oJ,RJ]; omega)]
     rw [ef] at Nd
     exact Nd
    obtain ⟨r1,Nf,Bc⟩:=comp
    have slice:∃ r:List Int,r.Sublist bX /\ fJ (gB (g2 nA (g2 cT (ae 0) (gC (.int (4)))) (gC (.int (1))))) (bA 8 (aw (gF (ae 6) (bN (g2 fW (ae 4) (g2 cT (ae 7) (ae 3)))) (bN (dw rk (aa (gC (.int (0))) (aa (g2 wy (dw cp (aa (ae 6) ah)) (g2 fW (ae 4) (g2 cT (g2 aQ (ae 7) (gC (.int (1)))) (ae 3)))) ah))))))) ba
      [some (.int c),some (.int (m:Nat)),some (.int (c / 4)),some (.int (many:Nat)),some (.list (dg.map .int)),some (.list (([0] :: q).map dR)),some (.list (bX.map .int)),some (.int ((pos:Nat) + (bX.map PyData.int).length)),some (.list (r1.map .int))]
      =some (.nx [some (.int c),some (.int (m:Nat)),some (.int (c / 4)),some (.int (many:Nat)),some (.list (dg.map .int)),some (.list (([0] :: q).map dR)),some (.list (bX.map .int)),some (.int ((pos:Nat) + (bX.map PyData.int).length)),some (.list (r.map .int))]):=by
     obtain ⟨y1,_,O5⟩:=ux (l:=dg) (i:=((pos:Nat) + (bX.map PyData.int).length:Int) % (many:Nat)) (SF _ (Int.ne_of_gt BF)) (by rw [Kq]; exact Sv _ BF)
     obtain ⟨y2,_,O6⟩:=ux (l:=dg) (i:=((pos:Nat) + (bX.map PyData.int).length + 1:Int) % (many:Nat)) (SF _ (Int.ne_of_gt BF)) (by rw [Kq]; exact Sv _ BF)
     have hc:gB (g2 nA (g2 cT (ae 0) (gC (.int (4)))) (gC (.int (1)))) [some (.int c),some (.int (m:Nat)),some (.int (c / 4)),some (.int (many:Nat)),some (.list (dg.map .int)),some (.list (([0] :: q).map dR)),some (.list (bX.map .int)),some (.int ((pos:Nat) + (bX.map PyData.int).length)),some (.list (r1.map .int))]=some (decide (1 < c % 4)):=
      cO (ak (ak rfl rfl (c8 (by decide))) rfl rfl)
     by_cases h:1 < c % 4
     .obtain ⟨r2,O7,xA⟩:=zG PyData.int bX (some y1) (some (if ((bX.map PyData.int).length:Int) - y2 > 0 then ((bX.map PyData.int).length:Int) - y2 else 0))
      refine ⟨r2,xA,js true (by rw [hc,Sl h]) (λ_=>bu (ax ?_)) (λz=>nomatch z)⟩
      have f1:bN (g2 fW (ae 4) (g2 cT (ae 7) (ae 3))) [some (.int c),some (.int (m:Nat)),some (.int (c / 4)),some (.int (many:Nat)),some (.list (dg.map .int)),some (.list (([0] :: q).map dR)),some (.list (bX.map .int)),some (.int ((pos:Nat) + (bX.map PyData.int).length)),some (.list (r1.map .int))]=some (some y1):=by
       exact part_of (ak rfl (ak rfl rfl (c8 BF)) O5)
      have f2:bN (dw rk (aa (gC (.int (0))) (aa (g2 wy (dw cp (aa (ae 6) ah)) (g2 fW (ae 4) (g2 cT (g2 aQ (ae 7) (gC (.int (1)))) (ae 3)))) ah))) [some (.int c),some (.int (m:Nat)),some (.int (c / 4)),some (.int (many:Nat)),some (.list (dg.map .int)),some (.list (([0] :: q).map dR)),some (.list (bX.map .int)),some (.int ((pos:Nat) + (bX.map PyData.int).length)),some (.list (r1.map .int))]
        =some (some (if ((bX.map PyData.int).length:Int) - y2 > 0 then ((bX.map PyData.int).length:Int) - y2 else 0)):=by
       have g:g2 wy (dw cp (aa (ae 6) ah)) (g2 fW (ae 4) (g2 cT (g2 aQ (ae 7) (gC (.int (1)))) (ae 3))) [some (.int c),some (.int (m:Nat)),some (.int (c / 4)),some (.int (many:Nat)),some (.list (dg.map .int)),some (.list (([0] :: q).map dR)),some (.list (bX.map .int)),some (.int ((pos:Nat) + (bX.map PyData.int).length)),some (.list (r1.map .int))]=some (.int (((bX.map PyData.int).length:Int) - y2)):=
        ak rfl (ak rfl (ak (ak rfl rfl rfl) rfl (c8 BF)) O6) rfl
       exact part_of (eH (cons_of rfl (cons_of g rfl)) rfl)
      unfold gF
      rw [f1,f2]
      show some (cutD (bX.map .int) _ _)=_
      rw [O7]
     .exact ⟨r1,Bc,js false (by rw [hc,Si h]) (λz=>nomatch z) (λ_=>rfl)⟩
    obtain ⟨r,hs,Ng⟩:=slice
    have O8:jS r:=hr.sublist hs
    have Kr:r.length<=25:=by have:=hs.length_le; omega
    have Nh:∀ x∈r,0<=x /\ x<=(q.length:Int) + 1:=λx hx=>hb x (hs.subset hx)
    have e6:=zH (a:=ae 8) (b:=ae 8) (δ:=[some (.int c),some (.int (m:Nat)),some (.int (c / 4)),some (.int (many:Nat)),some (.list (dg.map .int)),some (.list (([0] :: q).map dR)),some (.list (bX.map .int)),some (.int ((pos:Nat) + (bX.map PyData.int).length)),some (.list (r.map .int))]) (r:=r) rfl (.inl rfl) (by omega)
    by_cases Fq:r=[]
    .subst Fq
     refine ⟨[some (.int c),some (.int (m:Nat)),some (.int (c / 4)),some (.int (many:Nat)),some (.list (dg.map .int)),some (.list (([0] :: q).map dR)),some (.list (([]:List Int).map .int)),some (.int (((pos + bX.length:Nat):Nat):Int)),some (.list (([]:List Int).map .int))],2 * (m - q.length),?_,by rw [R4 fV]; omega,q,[],pos + bX.length,_,rfl,hq,Ii,.inl rfl,.nil,by simp,xB,by simp⟩
     refine dU _ (bu (ax Nf)) (dU _ (bu (ak rfl rfl rfl)) (dU _ Ng (dU _ (bu (ax e6)) ?_)))
     refine (js false rfl (λz=>nomatch z) λ_=>rfl).trans ?_
     rw [RJ]
     push_cast
     rfl
    .have O9:Nx (lst [0] q) r:=⟨Fq,O8,λx hx=>tV ▸ hs.subset hx⟩
     refine ⟨[some (.int c),some (.int (m:Nat)),some (.int (c / 4)),some (.int (many:Nat)),some (.list (dg.map .int)),some (.list (([0] :: (q ++ [r])).map dR)),some (.list ((led r).map .int)),some (.int (((pos + bX.length:Nat):Nat):Int)),some (.list (r.map .int))],2 * (m - (q ++ [r]).length) + (if led r=[] then 0 else 1),?_,?_,q ++ [r],led r,pos + bX.length,_,rfl,se hq O9,by simp; omega,.inr (by rw [lst_snoc]),iZ,?_,?_,rfl⟩
     .refine dU _ (bu (ax Nf)) (dU _ (bu (ak rfl rfl rfl)) (dU _ Ng (dU _ (bu (ax e6)) ?_)))
      have Bm:(0:Int) < ((r.map PyData.int).length:Int):=by
       have:=List.length_pos_iff.mpr Fq
       simp; omega
      refine (js true (cO (b:=true) (show _=_ from Tw (λb=>some (PyData.bool b)) (Sl Bm))) (λ_=>uw (ds:=([0] :: q).map dR) (d:=dR r) rfl rfl (by simp; omega)) λz=>nomatch z).trans ?_
      rw [RJ,<- List.cons_append,SA]
      push_cast
      rfl
     .have hl:led r≠[]:=λe=>by
       obtain ⟨x,hx⟩:=List.exists_mem_of_ne_nil r Fq
       have:=ja.mpr (.inl hx)
       rw [e] at this; simp at this
      rw [R4 hl,R4 fV]
      simp
      omega
     .intro x hx
      rcases ja.mp hx with h | h
      .have:=Nh x h; simp; omega
      .have:=Nh _ h; simp; omega
     .intro s k7
      rcases R0.mp k7 with h | h
      .exact xB s h
      .rw [Sn.mp h]; exact Kr
 .rintro δ' ⟨q,x,y,z,rfl,hq,Ii,xB⟩
  refine ret (eG ([0] :: q)) rfl (.mk rfl ⟨[0] :: q,rfl,⟨q,rfl,hq⟩,by simpa using Ii,λr hr=>?_⟩)
  rcases RN.mp hr with h | h
  .rw [h]; decide
  .exact xB r h
theorem BG {i:Int} {T:List Int}:DX (.int i) (.list (T.map .int))=some (.bool (decide (i∈T))):=by
 have hf:(iy (.int i) && (T.map PyData.int).all iy)=true:=by simp [iy]
 show (if (iy (.int i) && (T.map PyData.int).all iy)=true then some (PyData.bool ((T.map PyData.int).any λz=>DW z (.int i))) else none)=_
 rw [RV hf,List.any_map]
 congr 2
 rw [TC,TY,Sf]
 constructor
 .rintro ⟨x,hx,e⟩
  rw [Function.comp,vf,Sf] at e
  rw [<- e]; exact hx
 .intro h
  exact ⟨i,h,by rw [Function.comp,vf]; simp⟩
theorem dd {a:Int} (b:Int) (h:0 < b) (h2:b.natAbs < 2 ^ 70):kH (.int a) (.int b)=some (.int (a / b)):=vE h (vD (vC h2) (by decide))
def TE (n:Nat) (x:D):Prop:=PyData.canLay0 x=true /\ PyData.depth x<=n
theorem TE.up {n m:Nat} {x:D} (h:TE n x) (hn:n<=m):TE m x:=⟨h.1,Sj h.2 hn⟩
theorem uz {n:Nat}:∀ {l:List D},(∀ x∈l,TE n x)->PyData.canLayAll0 l=true /\ PyData.depthAll l<=n
 | [],_=>⟨rfl,TF _⟩
 | a :: l,h=>by
   obtain ⟨h1,h2⟩:=h a RK
   obtain ⟨h3,h4⟩:=uz λx hx=>h x (RM _ hx)
   refine ⟨by rw [PyData.canLayAll0,h1,h3]; rfl,?_⟩
   rw [PyData.depthAll]
   exact Nat.max_le.mpr ⟨h2,h4⟩
theorem m8 {n:Nat} {l:List D} (h:∀ x∈l,TE n x):TE (n + 1) (.tuple l):=by
 obtain ⟨h1,h2⟩:=uz h
 exact ⟨by rw [PyData.canLay0]; exact h1,by rw [PyData.depth]; omega⟩
theorem vJ {n:Nat} {l:List D} (h:∀ x∈l,TE n x):TE (n + 1) (.list l):=by
 obtain ⟨h1,h2⟩:=uz h
 exact ⟨by rw [PyData.canLay0]; exact h1,by rw [PyData.depth]; omega⟩
theorem EE (i:Int):TE 1 (.int i):=⟨by rw [PyData.canLay0],by rw [PyData.depth]; omega⟩
theorem zJ (x:Str) (h:PyData.strOk x=true):TE 1 (.str x):=⟨by rw [PyData.canLay0]; exact h,by rw [PyData.depth]; omega⟩
theorem TE.sh {n:Nat} {x:D} (h:TE n x) (hn:n<=60):SeqAt.shaped x=true:=by
 obtain ⟨a,b⟩:=h
 unfold SeqAt.shaped
 rw [a]; simp; omega
theorem TE.ty {n:Nat} {x:D} (h:TE n x):tyName x∈bZ:=by
 cases x with
 | dict l=>have:=h.1; rw [PyData.canLay0] at this; cases this
 | _=>simp [tyName,bZ]
theorem uA {a b:D} (h1:SeqAt.shaped a=true) (h2:SeqAt.shaped b=true):jq a b=some (.bool (PyData.eqv a b)):=by
 unfold jq
 split
 .rw [PyData.eqv]; rfl
 .rw [RV (by rw [h1,h2]; rfl)]
theorem lU (r:List Int):∀ x∈r.map PyData.int,TE 1 x:=λx hx=>by
 obtain ⟨i,_,rfl⟩:=RX.mp hx
 exact EE i
theorem iM:∀ l m:List Int,PyData.eqvAll (l.map .int) (m.map .int)=decide (l=m)
 | [],[]=>rfl
 | [],_ :: _=>rfl
 | _ :: _,[]=>rfl
 | a :: l,b :: m=>by
   rw [RY,RY,PyData.eqvAll,iM l m,PyData.eqv,TC]
   simp
theorem qj {n:Nat} {x:D} (h:TE n x) {t:String} (ht:t∈bZ) {g:DS->Option D} {δ:DS} (hg:g δ=some x):ke t g δ=some (.bool (decide (tyName x=t) || (decide (tyName x="bool") && decide (t="int")))):=by
 unfold ke
 rw [hg]
 show (if tyName x∈bZ /\ t∈bZ then some _ else none)=_
 rw [RV ⟨h.ty,ht⟩]
def Hg:D->Bool
 | .int _=>true
 | _=>false
theorem uB {n:Nat} {x:D} (h:TE n x) {g:DS->Option D} {δ:DS} (hg:g δ=some x):kZ (ke "int" g) (g1 AV (ke "bool" g)) δ=some (.bool (Hg x)):=by
 have h1:=qj h (t:="int") (by decide) hg
 have h2:=qj h (t:="bool") (by decide) hg
 have h3:g1 AV (ke "bool" g) δ=some (.bool (!(decide (tyName x="bool") || (decide (tyName x="bool") && decide ("bool"="int"))))):=by
  unfold g1; rw [h2]; rfl
 unfold kZ
 rw [cO h1,RH,h3]
 cases x <;> simp [tyName,Hg]
theorem uC {n:Nat} {x:D} (h:TE n x):de [x]=some (.bool (Hg x)):=by
 rw [uo]
 exact cW (ret _ (uB h rfl) (.mk rfl rfl))
def Ai (T:List Int):D->Bool
 | .int i=>decide (i∈T)
 | _=>false
theorem uD (T:List Int):∀ l:List D,l.all (Ai T)=match fm l with | some r=>r.all λx=>decide (x∈T) | none=>false
 | []=>rfl
 | d :: l=>by
   cases d with
   | int i=>
     rw [Ui,uD T l,fm]
     cases fm l with
     | none=>simp
     | some r=>simp [Ai]
   | _=>simp [Ai,fm]
def km:D->Option (List Int)
 | .tuple l=>fm l
 | _=>none
theorem xj {d:D} {r:List Int} (h:km d=some r):d=dR r:=by
 cases d with
 | tuple l=>exact Tw PyData.tuple (fL h)
 | _=>cases h
open Classical in
def Fs (d:D):Bool:=match km d with
 | some r=> !r.isEmpty && decide (jS r)
 | none=>false
def xC (T:List Int) (d:D):Bool:=Fs d && match km d with
 | some r=>r.all λx=>decide (x∈T)
 | none=>false
structure TR (d:D):Prop where
 te:TE 4 d
 row:∀ l,d=.tuple l->l.length < 64 /\ ∀ x∈l,TE 3 x
theorem BH {r:List Int}:ss r=r↔jS r:=⟨λh=>h ▸ iZ,Be⟩
theorem uE {d:D} (h:TR d) (T:List Int):bL [d,.list (T.map .int)]=some (.bool (xC T d)):=by
 rw [uq]
 refine cW ?_
 have hi:=qj h.te (t:="tuple") (by decide) (g:=ae 0) (δ:=[some d,some (.list (T.map .int))]) rfl
 by_cases ht:∃ l,d=.tuple l
 .obtain ⟨l,rfl⟩:=ht
  obtain ⟨hl,hx⟩:=h.row l rfl
  have c1:dv (dG (ke "tuple" (ae 0))) [some (.tuple l),some (.list (T.map .int))]=some false:=cu (x:=true) (cX (hi.trans rfl))
  have c2:gB (g2 jq (dw cp (aa (ae 0) ah)) (gC (.int (0)))) [some (.tuple l),some (.list (T.map .int))]=some (decide ((l.length:Int)=0)):=cO rfl
  refine cH (decide ((l.length:Int)=0)) (r6 c1 c2) (λe=>?_) λe=>?_
  .have:l=[]:=Th.mp (by have:=SG e; omega)
   subst this
   exact cI (.bool false) rfl (.mk rfl (by simp [xC,Fs,km,fm]))
  .have fV:l≠[]:=λz=>by subst z; simp at e
   have Hh:b4 (aR (ae 0)) [1] (kZ (aJ de 1 (aa (ae 0) ah)) (g2 DX (ae 0) (ae 1))) [some (.tuple l),some (.list (T.map .int))]=some ((l.map (Ai T)).map .bool):=by
    refine dO id PyData.bool (Ai T) l (by simp; rfl) (by omega) λx Pa=>?_
    have hw:aJ de 1 (aa (ae 0) ah) (some (id x) :: cb [1] [some (.tuple l),some (.list (T.map .int))])=some (.bool (Hg x)):=call_of (cons_of rfl rfl) rfl (uC (hx x Pa))
    unfold kZ
    rw [cO hw,RH]
    cases x with
    | int i=>
      rw [show Hg (.int i)=true from rfl,RV rfl]
      exact ak rfl rfl BG
    | _=>rfl
   have AM:dG (dw t8 (aa (aw (b4 (aR (ae 0)) [1] (kZ (aJ de 1 (aa (ae 0) ah)) (g2 DX (ae 0) (ae 1))))) ah)) [some (.tuple l),some (.list (T.map .int))]=some (l.all (Ai T)):=by
    refine cX (eH (cons_of (ax Hh) rfl) ?_)
    show (fM ((l.map (Ai T)).map .bool)).map _=_
    rw [gW]
    simp [List.all_map]
   show c9 ((aC _ _ _).bind fj) _
   refine cH (!(l.all (Ai T))) (cu AM) (λe2=>?_) λe2=>?_
   .refine cI (.bool false) rfl (.mk rfl ?_)
    have e3:l.all (Ai T)=false:=by simpa using e2
    rw [uD] at e3
    unfold xC
    rw [show km (.tuple l)=fm l from rfl,e3,Bool.and_false]
   .have e3:l.all (Ai T)=true:=by simpa using e2
    rw [uD] at e3
    cases hr:fm l with
    | none=>rw [hr] at e3; cases e3
    | some r=>
      rw [hr] at e3
      dsimp only at e3
      have Pb:=fL hr
      subst Pb
      have Kr:r.length < 64:=by simpa using hl
      refine ret (.bool (decide (r=ss r))) (ak (ax rfl) (ax (CH (ns:=r) rfl rfl Kr)) ?_) (.mk rfl ?_)
      .rw [uA ((vJ (lU r)).sh (by decide)) ((vJ (lU (ss r))).sh (by decide)),PyData.eqv,iM]
      .unfold xC Fs
       rw [show km (.tuple (r.map .int))=fm (r.map .int) from rfl,d4]
       dsimp only
       have Fq:r.isEmpty=false:=by cases r with | nil=>exact absurd rfl fV | cons _ _=>rfl
       rw [Fq,e3]
       simp only [Bool.not_false,Ul,Bool.and_true]
       congr 1
       rw [TC,Sf,@Sf _ (Classical.propDecidable _),<- BH,eq_comm]
 .have hn:tyName d≠"tuple":=λz=>by
   cases d with
   | tuple l=>exact ht ⟨l,rfl⟩
   | _=>simp [tyName] at z
  have c1:dv (dG (ke "tuple" (ae 0))) [some d,some (.list (T.map .int))]=some true:=cu (x:=false) (cX (hi.trans (by simp [hn])))
  refine cH true (by unfold wA; rw [c1]; rfl) (λ_=>cI (.bool false) rfl (.mk rfl ?_)) λz=>nomatch z
  unfold xC Fs
  cases d with
  | tuple l=>exact absurd ⟨l,rfl⟩ ht
  | _=>rfl
theorem zK {r:List Int} (h:r.length < 32):df [dR r]=some ((led r).map .int):=by
 rw [zC]
 exact cW (ret (.list ((led r).map .int)) (ax (zH (a:=aw (yy mi (aa (ae 0) ah))) (b:=ae 0) rfl (.inr rfl) h)) (.mk rfl rfl))
def sf:List Int->List D->Bool
 | _,[]=>true
 | T,d :: l=>xC T d && sf (led ((km d).getD [])) l
theorem qk {T:List Int} {d:D} (h:xC T d=true):∃ r,km d=some r /\ d=dR r /\ r≠[] /\ jS r /\ ∀ x∈r,x∈T:=by
 unfold xC Fs at h
 cases hr:km d with
 | none=>rw [hr] at h; cases h
 | some r=>
   rw [hr] at h
   dsimp only at h
   rw [RT,RT,@Sf _ (Classical.propDecidable _),Ss] at h
   exact ⟨r,rfl,xj hr,λz=>by subst z; simp at h,h.1.2,λx hx=>SG (h.2 x hx)⟩
structure Tame (d:D):Prop where
 te:TE 5 d
 pl:∀ l,d=.tuple l->l.length<=100 /\ ∀ e∈l,TR e
theorem oY {th:D}:∀ (l:List D) (T:List Int) (k:Nat) (x:Option D),(∀ e∈l,TR e)->(∀ z∈T,0<=z /\ z<=(k:Int))->k + l.length<=26->
  (sf T l=true->∃ δ',jB (bF 2) (aC (fJ (dv (dG (aJ bL 2 (aa (ae 2) (aa (ae 1) ah))))) (aV (gC (.bool false))) ba) (bA 1 (aw (dS df 1 (aa (ae 2) ah))))) l [some th,some (.list (T.map .int)),x]=some (.nx δ')) /\
  (sf T l=false->jB (bF 2) (aC (fJ (dv (dG (aJ bL 2 (aa (ae 2) (aa (ae 1) ah))))) (aV (gC (.bool false))) ba) (bA 1 (aw (dS df 1 (aa (ae 2) ah))))) l [some th,some (.list (T.map .int)),x]=some (.rt (.bool false)))
 | [],T,k,x,_,_,_=>⟨λ_=>⟨_,rfl⟩,λe=>by cases e⟩
 | d :: l,T,k,x,ht,hT,hk=>by
   have hp:=uE (ht d RK) T
   have hc:dv (dG (aJ bL 2 (aa (ae 2) (aa (ae 1) ah)))) [some th,some (.list (T.map .int)),some d]=some (!(xC T d)):=cu (cX (call_of (cons_of rfl (cons_of rfl rfl)) rfl hp))
   rw [jB,show bF 2 d [some th,some (.list (T.map .int)),x]=some [some th,some (.list (T.map .int)),some d] from rfl,RH,sf]
   cases gA:xC T d with
   | false=>
     rw [gA] at hc
     rw [Ua]
     refine ⟨λe=>(nomatch e),λ_=>?_⟩
     rw [show aC (fJ (dv (dG (aJ bL 2 (aa (ae 2) (aa (ae 1) ah))))) (aV (gC (.bool false))) ba) (bA 1 (aw (dS df 1 (aa (ae 2) ah)))) [some th,some (.list (T.map .int)),some d]=some (.rt (.bool false)) from gZ (js true hc (λ_=>rfl) λz=>nomatch z)]
     rfl
   | true=>
     rw [gA] at hc
     obtain ⟨r,er,rfl,fV,hr,iz⟩:=qk gA
     have hlen:=m7 hr λz hz=>hT z (iz z hz)
     rw [Sx] at hk
     have hb:aC (fJ (dv (dG (aJ bL 2 (aa (ae 2) (aa (ae 1) ah))))) (aV (gC (.bool false))) ba) (bA 1 (aw (dS df 1 (aa (ae 2) ah)))) [some th,some (.list (T.map .int)),some (dR r)]=some (.nx [some th,some (.list ((led r).map .int)),some (dR r)]):=
      dU _ (vG hc) (bu (ax (iI (cons_of rfl rfl) rfl (zK (by omega)))))
     rw [hb,RH,Ul,er]
     refine oY l (led r) (k + 1) _ (λe he=>ht e (RM _ he)) (λz hz=>?_) (by omega)
     rcases ja.mp hz with h | h
     .have:=hT z (iz z h); push_cast; omega
     .have:=hT _ (iz _ h); push_cast; omega
def uF:D->Bool
 | .tuple l=>decide (1<=l.length /\ l.length<=24) && sf [0] l
 | _=>false
theorem oZ {d:D} (h:Tame d):d6 [d]=some (.bool (uF d)):=by
 rw [xh]
 refine cW ?_
 have hi:=qj h.te (t:="tuple") (by decide) (g:=ae 0) (δ:=[some d,none,none]) rfl
 by_cases ht:∃ l,d=.tuple l
 .obtain ⟨l,rfl⟩:=ht
  obtain ⟨hl,hx⟩:=h.pl l rfl
  have c1:dv (dG (ke "tuple" (ae 0))) [some (.tuple l),none,none]=some false:=cu (x:=true) (cX (hi.trans rfl))
  have c2:dv (gB (iw HM HM (gC (.int (1))) (dw cp (aa (ae 0) ah)) (gC (.int (24))))) [some (.tuple l),none,none]=some (!(decide (1<=l.length /\ l.length<=24))):=by
   refine cu (cO ?_)
   show (match (PyData.bool (decide ((1:Int)<=(l.length:Int)))) with | .bool true=>some (PyData.bool (decide ((l.length:Int)<=24))) | .bool false=>some (PyData.bool false) | _=>none)=_
   by_cases h1:(1:Int)<=(l.length:Int)
   .rw [Sl h1]
    dsimp only
    congr 2
    rw [TC,Sf,Sf]
    omega
   .rw [Si h1]
    dsimp only
    congr 2
    rw [eq_comm,T2]
    omega
  refine cH (!(decide (1<=l.length /\ l.length<=24))) (r6 c1 c2) (λe=>?_) λe=>?_
  .refine cI (.bool false) rfl (.mk rfl ?_)
   have e2:decide (1<=l.length /\ l.length<=24)=false:=by rw [SS] at e; exact e
   rw [uF,e2,Ua]
  .have e2:1<=l.length /\ l.length<=24:=by rw [Bool.not_eq_false'] at e; exact SG e
   rw [uF,Sl e2,Ul,da]
   refine br [some (.tuple l),some (.list (([0]:List Int).map .int)),none] rfl ?_
   obtain ⟨k1,k2⟩:=oY (th:=.tuple l) l [0] 0 none hx (by intro z hz; simp at hz; subst hz; decide) (by omega)
   have hf:nJ (aR (ae 0)) (bF 2) (aC (fJ (dv (dG (aJ bL 2 (aa (ae 2) (aa (ae 1) ah))))) (aV (gC (.bool false))) ba) (bA 1 (aw (dS df 1 (aa (ae 2) ah))))) [some (.tuple l),some (.list (([0]:List Int).map .int)),none]
     =jB (bF 2) (aC (fJ (dv (dG (aJ bL 2 (aa (ae 2) (aa (ae 1) ah))))) (aV (gC (.bool false))) ba) (bA 1 (aw (dS df 1 (aa (ae 2) ah))))) l [some (.tuple l),some (.list (([0]:List Int).map .int)),none]:=rfl
   cases Ni:sf [0] l with
   | true=>
     obtain ⟨δ',e3⟩:=k1 Ni
     exact br δ' (hf.trans e3) (ret (.bool true) rfl (.mk rfl rfl))
   | false=>
     rw [gZ (hf.trans (k2 Ni))]
     exact .mk rfl rfl
 .have hn:tyName d≠"tuple":=λz=>by
   cases d with
   | tuple l=>exact ht ⟨l,rfl⟩
   | _=>simp [tyName] at z
  have c1:dv (dG (ke "tuple" (ae 0))) [some d,none,none]=some true:=cu (x:=false) (cX (hi.trans (by simp [hn])))
  refine cH true (by unfold wA; rw [c1]; rfl) (λ_=>cI (.bool false) rfl (.mk rfl ?_)) λz=>nomatch z
  cases d with
  | tuple l=>exact absurd ⟨l,rfl⟩ ht
  | _=>rfl
theorem zL (r:List Int) (h:r.length < 64):TR (dR r):=⟨(m8 (lU r)).up (by decide),λl e=>by
 cases e
 exact ⟨by simpa using h,λx hx=>(lU r x hx).up (by decide)⟩⟩
theorem zM {T r:List Int} (h1:r≠[]) (h2:jS r) (h3:∀ x∈r,x∈T):xC T (dR r)=true:=by
 have yS:km (dR r)=some r:=d4 r
 unfold xC Fs
 rw [yS]
 dsimp only
 rw [RT,RT,@Sf _ (Classical.propDecidable _),Ss]
 refine ⟨⟨?_,h2⟩,λx hx=>Sl (h3 x hx)⟩
 cases r with
 | nil=>exact (h1 rfl).elim
 | cons a l=>rfl
theorem sg:∀ {q:List (List Int)} {r:List Int},CG r q->sf (led r) (q.map dR)=true
 | [],_,_=>rfl
 | s :: q,r,h=>by
   have yS:km (dR s)=some s:=d4 s
   rw [RY,sf,zM h.1.1 h.1.2.1 h.1.2.2,Ul,yS]
   exact sg h.2
theorem si {p:List (List Int)} (hp:Pl p) (hl:p.length<=24):uF (eG p)=true:=by
 obtain ⟨q,rfl,hq⟩:=hp.ex
 show (decide (1<=(([0] :: q).map dR).length /\ (([0] :: q).map dR).length<=24) && sf [0] (([0] :: q).map dR))=true
 rw [decide_eq_true (show 1<=(([0] :: q).map dR).length /\ (([0] :: q).map dR).length<=24 by simp at hl ⊢; exact hl),Bool.true_and,List.map_cons,sf,zM (by simp) (by unfold jS; simp) (by simp),Bool.true_and]
 exact sg hq
theorem o3 {p:List (List Int)} (hl:p.length<=24) (xB:∀ r∈p,r.length<=25):Tame (eG p):=by
 have Hi:∀ x∈p.map dR,TR x:=λx hx=>by
  obtain ⟨r,hr,rfl⟩:=RX.mp hx
  exact zL r (by have:=xB r hr; omega)
 exact ⟨m8 λx hx=>(Hi x hx).te,λl e=>by cases e; exact ⟨by simp; omega,Hi⟩⟩
theorem Ij {x:Str} (h:∀ c∈x.cps.toList,c < 128):PyData.strOk x=true /\ x.cps.all (· < 128)=true:=by
 refine ⟨?_,?_⟩
 .show x.cps.all (· < 0x110000)=true
  rw [UD]
  intro c hc
  have:=h c (UM.mpr hc)
  exact Sl (by omega)
 .rw [UD]
  intro c hc
  exact Sl (h c (UM.mpr hc))
theorem kR {x y:Str} (hx:PyData.strOk x=true) (hy:PyData.strOk y=true):jq (.str x) (.str y)=some (.bool (x == y)):=by
 rw [uA ((zJ x hx).sh (by decide)) ((zJ y hy).sh (by decide)),PyData.eqv]
theorem uG {x y:Str} (h:x.cps.toList≠y.cps.toList):(x == y)=false:=S5.mpr λe=>h (by rw [e])
def nS (b:Int):Str:=Str.ofString (toString b)
def dX (m:Nat):List Nat:=(Nat.toDigits 10 m).map Char.toNat
theorem dP (m:Nat):(nS (m:Nat)).cps.toList=dX m:=PySem.W.KIN.signs_num m
def Hj (m:Nat):Bool:=(dX m).all (λc=>decide (48<=c) && decide (c<=57)) && !(dX m).isEmpty && decide ((dX m).length<=2) && (decide (m=0) || (!((dX m)[0]? == some 48)))
theorem EF:∀ m,m < 25->Hj m=true:=by decide +kernel
theorem Pc:dX 0=[48]:=by decide +kernel
structure Dg (m:Nat):Prop where
 lr:∀ c∈dX m,48<=c /\ c<=57
 ne:dX m≠[]
 len:(dX m).length<=2
 hd:m=0 \/ (dX m)[0]?≠some 48
theorem ll {m:Nat} (h:m < 25):Dg m:=by
 have k:=EF m h
 unfold Hj at k
 simp only [RT,Ss,Sf,Ti,SS,S5,List.isEmpty_eq_false_iff] at k
 exact ⟨k.1.1.1,k.1.1.2,k.1.2,k.2⟩
theorem Hk:(("0123456789":Str)).cps.toList=[48,49,50,51,52,53,54,55,56,57]:=by decide +kernel
theorem CI:(("":Str)).cps.toList=[]:=by decide +kernel
theorem vK:(("0":Str)).cps.toList=[48]:=by decide +kernel
theorem EG {c:Nat} (h1:48<=c) (h2:c<=57):lG true (.str ⟨#[c]⟩) (.str "0123456789")=some (.bool true):=by
 show some (PyData.bool ((!(Builtin.Str.occurrences ("0123456789":Str) ⟨#[c]⟩ 0 ("0123456789":Str).length 1).isEmpty) == true))=_
 rw [Uv,Hk,Sl (by simp; omega)]
 rfl
theorem EH {m:Nat} (h:m < 25):∀ c∈(nS (m:Nat)).cps.toList,c < 128:=λc hc=>by
 rw [dP] at hc
 have:=(ll h).lr c hc
 omega
theorem sj {m:Nat} (h:m < 25):bR [.str (nS (m:Nat))]=some (.bool true):=by
 rw [lh]
 refine cW ?_
 have g:=ll h
 obtain ⟨k1,k2⟩:=Ij (EH h)
 have o1:PyData.strOk ""=true:=by decide +kernel
 have o2:PyData.strOk "0"=true:=by decide +kernel
 have c1:gB (g2 jq (ae 0) (gC (.str ""))) [some (.str (nS (m:Nat)))]=some false:=by
  refine cO (ak rfl rfl ((kR k1 o1).trans ?_))
  rw [uG (by rw [dP,CI]; exact g.ne)]
 have es:iE (ae 0) [some (.str (nS (m:Nat)))]=some ((dX m).map λc=>PyData.str ⟨#[c]⟩):=by
  show (if (nS (m:Nat)).cps.all (· < 128)=true then some (iD (nS (m:Nat))) else none)=_
  rw [RV k2,iD,dP]
 have ec:b4 (iE (ae 0)) [] (g2 (lG true) (ae 0) (gC (.str "0123456789"))) [some (.str (nS (m:Nat)))]=some (((dX m).map λ_=>true).map .bool):=by
  refine dO (λc:Nat=>PyData.str ⟨#[c]⟩) PyData.bool (λ_=>true) (dX m) es (by have:=g.len; omega) λc hc=>?_
  exact ak rfl rfl (EG (g.lr c hc).1 (g.lr c hc).2)
 have ca:dG (dw t8 (aa (aw (b4 (iE (ae 0)) [] (g2 (lG true) (ae 0) (gC (.str "0123456789"))))) ah)) [some (.str (nS (m:Nat)))]=some true:=by
  refine cX (eH (cons_of (ax ec) rfl) ?_)
  show (fM (((dX m).map λ_=>true).map .bool)).map _=_
  rw [gW]
  simp
 refine mV (r6 c1 (cu ca)) ?_
 refine ret (.bool true) ?_ (.mk rfl rfl)
 have e1:g2 jq (ae 0) (gC (.str "0")) [some (.str (nS (m:Nat)))]=some (.bool (nS (m:Nat) == "0")):=ak rfl rfl (kR k1 o2)
 unfold yu
 rw [cO e1,RH]
 by_cases hz:nS (m:Nat)="0"
 .rw [Ta.mpr hz,RV rfl]
 .rw [S5.mpr hz,R4 (by decide)]
  have hm:m≠0:=λz=>hz (by
   subst z
   refine To (Td.mp ?_)
   rw [dP,Pc,vK])
  obtain ⟨a,r,er⟩:∃ a r,dX m=a :: r:=by
   cases hd:dX m with
   | nil=>exact (g.ne hd).elim
   | cons a r=>exact ⟨a,r,rfl⟩
  have ha:a≠48:=λz=>by
   rcases g.hd with h0 | h0
   .exact hm h0
   .rw [er,z] at h0; exact h0 rfl
  have hlen:(nS (m:Nat)).length<=2:=by
   have e:(nS (m:Nat)).cps.toList.length=(nS (m:Nat)).length:=Sd
   rw [<- e,dP]; exact g.len
  have ix:fW (.str (nS (m:Nat))) (.int 0)=some (.str ⟨#[a]⟩):=by
   show (if (nS (m:Nat)).length<=100000 then (lP (nS (m:Nat)).cps.toList 0).map (λc=>PyData.str ⟨#[c]⟩) else none)=_
   rw [RV (by omega),dP,er,show (0:Int)=((0:Nat):Int) from rfl,eP (v:=a) rfl]
   rfl
  have oa:PyData.strOk ⟨#[a]⟩=true:=(Ij (x:=⟨#[a]⟩) (λc hc=>by
   have:c=a:=by simpa using hc
   subst this
   have:=g.lr c (by rw [er]; exact RK)
   omega)).1
  refine ak (ak rfl rfl ix) rfl ?_
  refine (um (kR oa o2)).trans ?_
  rw [uG (by rw [vK]; simpa using ha)]
  rfl
theorem nW {m:Nat} (h:m < 25):cQ [.str (nS (m:Nat))]=some (.int (m:Nat)):=by
 rw [nR]
 refine cW ?_
 have hlen:(nS (m:Nat)).length<=2:=by
  have e:(nS (m:Nat)).cps.toList.length=(nS (m:Nat)).length:=Sd
  rw [<- e,dP]; exact (ll h).len
 have c1:dv (dG (aJ bR 1 (aa (ae 0) ah))) [some (.str (nS (m:Nat)))]=some false:=cu (x:=true) (cX (call_of (cons_of rfl rfl) rfl (sj h)))
 have e2:dw cp (aa (ae 0) ah) [some (.str (nS (m:Nat)))]=some (.int ((nS (m:Nat)).length:Nat)):=by
  refine eH (cons_of rfl rfl) ?_
  show (if (nS (m:Nat)).length<=100000 then some (PyData.int ((nS (m:Nat)).length:Nat)) else none)=_
  rw [RV (by omega)]
 have c2:gB (g2 nA (dw cp (aa (ae 0) ah)) (gC (.int (2)))) [some (.str (nS (m:Nat)))]=some false:=by
  refine cO (ak e2 rfl ?_)
  show some (PyData.bool (decide ((2:Int) < ((nS (m:Nat)).length:Nat))))=_
  rw [Si (by omega)]
 refine mV (r6 c1 c2) ?_
 refine ret (.int (m:Nat)) (eH (cons_of rfl rfl) ?_) (.mk rfl rfl)
 show (if (nS (m:Nat)).length<=640 then (PySem.intText? (nS (m:Nat))).map PyData.int else none)=_
 rw [RV (by omega),nS,PySem.W.KIN.num_reads (by omega) (by omega)]
 rfl
theorem zN:(" ":Str)=⟨#[32]⟩:=by decide +kernel
theorem sk:("|":Str)=⟨#[124]⟩:=by decide +kernel
structure Ent (r:List Int):Prop where
 ne:r≠[]
 len:r.length<=25
 lr:∀ b∈r,0<=b /\ b<=24
def rS (r:List Int):Str:=Txt.join ⟨#[32]⟩ (r.map nS)
def pS (p:List (List Int)):Str:=Txt.join ⟨#[124]⟩ (p.map rS)
theorem ql {b:Int} (h:0<=b /\ b<=24):∃ m:Nat,b=(m:Int) /\ m < 25:=⟨b.toNat,by omega,by omega⟩
theorem zO {b:Int} (h:0<=b /\ b<=24):(nS b).length<=2:=by
 obtain ⟨m,rfl,hm⟩:=ql h
 have e:(nS (m:Nat)).cps.toList.length=(nS (m:Nat)).length:=Sd
 rw [<- e,dP]; exact (ll hm).len
theorem CJ {b:Int} (h:0<=b /\ b<=24) {c:Nat} (hc:c < 48 \/ 57 < c):c∉(nS b).cps.toList:=by
 obtain ⟨m,rfl,hm⟩:=ql h
 rw [dP]
 intro hx
 have:=(ll hm).lr c hx
 omega
theorem qm {r:List Int} (h:Ent r):(rS r).length<=75:=by
 have k:=iH (sep:=⟨#[32]⟩) (B:=2) (ts:=r.map nS) λt ht=>by
  obtain ⟨b,hb,rfl⟩:=RX.mp ht
  exact zO (h.lr b hb)
 rw [RJ] at k
 have:=h.len
 have e:(⟨#[32]⟩:Str).length=1:=rfl
 rw [e] at k
 unfold rS
 omega
theorem Hl {r:List Int} (h:Ent r):JoinOk ⟨#[32]⟩ (r.map nS)=true:=by
 unfold JoinOk
 rw [T7 (B:=2) (λt ht=>by
  obtain ⟨b,hb,rfl⟩:=RX.mp ht
  exact zO (h.lr b hb)) (by rw [RJ]; have:=h.len; have e:(⟨#[32]⟩:Str).length=1:=rfl; rw [e]; omega)]
 rfl
theorem Hm {p:List (List Int)} (hl:p.length<=24) (h:∀ r∈p,Ent r):JoinOk ⟨#[124]⟩ (p.map rS)=true:=by
 unfold JoinOk
 rw [T7 (B:=75) (λt ht=>by
  obtain ⟨r,hr,rfl⟩:=RX.mp ht
  exact qm (h r hr)) (by rw [RJ]; have e:(⟨#[124]⟩:Str).length=1:=rfl; rw [e]; omega)]
 rfl
theorem EI {p:List (List Int)} (hl:p.length<=24) (h:∀ r∈p,Ent r):(pS p).length<=2000:=by
 have k:=iH (sep:=⟨#[124]⟩) (B:=75) (ts:=p.map rS) λt ht=>by
  obtain ⟨r,hr,rfl⟩:=RX.mp ht
  exact qm (h r hr)
 rw [RJ] at k
 have e:(⟨#[124]⟩:Str).length=1:=rfl
 rw [e] at k
 unfold pS
 omega
theorem CK {r:List Int} (h:Ent r) {c:Nat} (hc:c < 48 \/ 57 < c) (Pd:c≠32):c∉(rS r).cps.toList:=by
 refine mem_join (by simpa using Pd) λt ht=>?_
 obtain ⟨b,hb,rfl⟩:=RX.mp ht
 exact CJ (h.lr b hb) hc
theorem EJ {p:List (List Int)} (h:∀ r∈p,Ent r):∀ c∈(pS p).cps.toList,c < 128:=λc hc=>by
 rcases Vx c 128 with z | z
 .exact z
 .refine absurd hc (mem_join (by simp; omega) λt ht=>?_)
  obtain ⟨r,hr,rfl⟩:=RX.mp ht
  exact CK (h r hr) (by omega) (by omega)
theorem kn {go ge:DS->Option D} {δ:DS} {sep:Str} {ns:List Str} (h1:go δ=some (.str sep)) (h2:ge δ=some (.list (ns.map .str))) (h3:JoinOk sep ns=true):fX go ge δ=some (.str (Txt.join sep ns)):=by
 unfold fX
 rw [h1,RH,h2,RH]
 show (jI (ns.map PyData.str)).bind _=_
 rw [mE,RH,RV h3]
theorem uH {b:Int} (h:0<=b /\ b<=24):pW [.int b]=some (.str (nS b)):=by
 show (if b.natAbs < 1000000 then some (PyData.str (Str.ofString (toString b))) else none)=_
 rw [RV (by omega)]; rfl
theorem zP {r:List Int} (h:Ent r) {δ:DS} {g:DS->Option D} (e:g δ=some (dR r)):fX (gC (.str " ")) (aw (b4 (aR g) [] (dw pW (aa (ae 0) ah)))) δ=some (.str (rS r)):=by
 refine kn (ns:=r.map nS) (show some (PyData.str (" ":Str))=_ by rw [zN]) (ax ?_) (Hl h)
 refine dO PyData.int PyData.str nS r ?_ (by have:=h.len; omega) λb hb=>eH (cons_of rfl rfl) (uH (h.lr b hb))
 unfold aR; rw [e]; rfl
theorem nX {p:List (List Int)} (hl:p.length<=24) (h:∀ r∈p,Ent r):dH [eG p]=some (.str (pS p)):=by
 rw [nU]
 refine cW (ret (.str (pS p)) ?_ (.mk rfl rfl))
 refine kn (ns:=p.map rS) (show some (PyData.str ("|":Str))=_ by rw [sk]) (ax ?_) (Hm hl h)
 exact dO dR PyData.str rS p rfl (by omega) λr hr=>zP (h r hr) rfl
theorem ko {go ge:DS->Option D} {δ:DS} {a:Str} {c:Nat} (hc:c < 256) (h1:go δ=some (.str a)) (h2:ge δ=some (.str ⟨#[c]⟩)) (h3:a.length<=2000):dE go ge δ=some ((Txt.split a ⟨#[c]⟩).map .str):=by
 have e1:(⟨#[c]⟩:Str).length=1:=rfl
 have hx:a.cps.toList.length=a.length:=Sd
 have hl:=gY c a.cps.toList
 have ok:gX a ⟨#[c]⟩=true:=by
  unfold gX
  rw [e1,vB,kN,i7 hc,RJ,Sl (show a.length<=100000 by omega),Sl (show (aA c a.cps.toList).length<=100000 by omega)]
  rfl
 unfold dE
 rw [h1,RH,h2,RH]
 show (if gX a ⟨#[c]⟩=true then some ((Txt.split a ⟨#[c]⟩).map PyData.str) else none)=_
 rw [RV ok]
theorem qo {r:List Int} (h:Ent r):dA [.str (rS r)]=some (dR r):=by
 rw [qe]
 refine cW (ret (dR r) (eH (cons_of (ax (l:=r.map PyData.int) ?_) rfl) rfl) (.mk rfl rfl))
 have es:dE (ae 0) (gC (.str " ")) [some (.str (rS r))]=some ((r.map nS).map .str):=by
  refine (ko (c:=32) (by decide) rfl (show some (PyData.str (" ":Str))=_ by rw [zN]) (by have:=qm h; omega)).trans ?_
  rw [rS,mT (by decide) (by simpa using h.ne) λt ht=>?_]
  obtain ⟨b,hb,rfl⟩:=RX.mp ht
  exact CJ (h.lr b hb) (by omega)
 have ec:=dO (λb:Int=>PyData.str (nS b)) PyData.int id r (gi:=aR (aw (dE (ae 0) (gC (.str " "))))) (ix:=[]) (ge:=aJ cQ 1 (aa (ae 0) ah)) (δ:=[some (.str (rS r))]) (by unfold aR; rw [ax es,List.map_map]; rfl) (by have:=h.len; omega) λb hb=>by
  obtain ⟨m,rfl,hm⟩:=ql (h.lr b hb)
  exact call_of (cons_of rfl rfl) rfl (nW hm)
 rw [UP] at ec
 exact ec
theorem sm {p:List (List Int)} (hp:Pl p) (hl:p.length<=24) (h:∀ r∈p,Ent r):fb [.str (pS p)]=some (eG p):=by
 rw [r8]
 refine cW ?_
 have fV:p≠[]:=by obtain ⟨q,rfl,_⟩:=hp.ex; simp
 have es:dE (ae 0) (gC (.str "|")) [some (.str (pS p)),none]=some ((p.map rS).map .str):=by
  refine (ko (c:=124) (by decide) rfl (show some (PyData.str ("|":Str))=_ by rw [sk]) (EI hl h)).trans ?_
  rw [pS,mT (by decide) (by simpa using fV) λt ht=>?_]
  obtain ⟨r,hr,rfl⟩:=RX.mp ht
  exact CK (h r hr) (by omega) (by decide)
 have ec:=dO (λr:List Int=>PyData.str (rS r)) dR id p (gi:=aR (aw (dE (ae 0) (gC (.str "|"))))) (ix:=[]) (ge:=aJ dA 1 (aa (ae 0) ah)) (δ:=[some (.str (pS p)),none]) (by unfold aR; rw [ax es,List.map_map]; rfl) (by omega) λr hr=>call_of (cons_of rfl rfl) rfl (qo (h r hr))
 rw [UP] at ec
 refine br [some (.str (pS p)),some (eG p)] (bu (eH (cons_of (ax ec) rfl) rfl)) ?_
 have hi:=oZ (o3 hl λr hr=>(h r hr).len)
 rw [si hp hl] at hi
 refine mV (cu (x:=true) (cX (call_of (cons_of rfl rfl) rfl hi))) ?_
 exact ret (eG p) rfl (.mk rfl rfl)
theorem vL:∀ {q:List (List Int)} {r:List Int} {n:Nat},(∀ x∈r,0<=x /\ x<=(n:Int))->CG r q->∀ s∈q,s≠[] /\ ∀ x∈s,0<=x /\ x<=((n + q.length:Nat):Int)
 | [],_,_,_,_,_,hs=>absurd hs S0
 | t :: q,r,n,hr,hc,s,hs=>by
   have ht:∀ x∈t,0<=x /\ x<=((n + 1:Nat):Int):=λx hx=>by
    rcases ja.mp (hc.1.2.2 x hx) with z | z
    .have:=hr x z; omega
    .have:=hr _ z; omega
   rcases RN.mp hs with rfl | hs
   .exact ⟨hc.1.1,λx hx=>by have:=ht x hx; rw [Sx]; omega⟩
   .obtain ⟨a,b⟩:=vL ht hc.2 s hs
    exact ⟨a,λx hx=>by have:=b x hx; rw [Sx]; omega⟩
theorem EK {p:List (List Int)} (hp:Pl p) (hl:p.length<=24) (xB:∀ r∈p,r.length<=25):∀ r∈p,Ent r:=λr hr=>by
 obtain ⟨q,rfl,hq⟩:=hp.ex
 rw [Sx] at hl
 rcases RN.mp hr with rfl | hs
 .exact ⟨by simp,by simp,by simp⟩
 .obtain ⟨a,b⟩:=vL (n:=0) (by simp) hq r hs
  exact ⟨a,xB r hr,λx hx=>by have:=b x hx; omega⟩
theorem CL {a b:DS->Option Bool} {δ:DS} {x y:Bool} (h1:a δ=some x) (h2:b δ=some y):wA a b δ=some (x || y):=by
 unfold wA; rw [h1,Option.bind_some]; cases x with
 | true=>rfl
 | false=>rw [R4 RS,h2]; rfl
theorem Hn {a b:DS->Option D} {δ:DS} {x y:Bool} (h1:a δ=some (.bool x)) (h2:b δ=some (.bool y)):yu a b δ=some (.bool (x || y)):=by
 unfold yu
 rw [cO h1,RH]
 cases x with
 | true=>rfl
 | false=>rw [R4 RS,h2]; rfl
def fP (c:Nat):Bool:=decide (48<=c) && decide (c<=57)
def isNum (w:List Nat):Bool:=(!decide (w=[]) && w.all fP) && (decide (w=[48]) || !(w.head? == some 48))
def cJ (w:List Nat):Bool:=isNum w && decide (w.length<=2)
def ji (w:List Nat):Int:=w.foldl (λ(n:Int) (c:Nat)=>10 * n + ((c:Int) - 48)) 0
theorem m9 {g:DS->Option D} {δ:DS} {l:List D} (h:g δ=some (.list l)):aR g δ=some l:=by unfold aR; rw [h]; rfl
theorem cY (w:List Nat):(b5 w).cps.toList=w:=List.toList_toArray
theorem dC (w:List Nat):(b5 w).length=w.length:=RZ
theorem uI {w v:List Nat} {x:Str} (h:x.cps.toList=v):(b5 w == x)=decide (w=v):=by
 by_cases q:w=v
 .rw [Sl q]
  exact Ta.mpr (To (Td.mp ((cY w).trans (q.trans h.symm))))
 .rw [Si q]
  exact uG (by rw [cY,h]; exact q)
theorem BI (c:Nat):lG true (.str ⟨#[c]⟩) (.str "0123456789")=some (.bool (fP c)):=by
 show some (PyData.bool ((!(Builtin.Str.occurrences ("0123456789":Str) ⟨#[c]⟩ 0 ("0123456789":Str).length 1).isEmpty) == true))=_
 rw [Uv,Hk]
 congr 2
 unfold fP
 rw [beq_true,TC,Sw,RT,Sw,Sw]
 simp
 omega
theorem BJ {w:List Nat} (hw:∀ c∈w,c < 128) (hl:w.length<=2000):bR [.str (b5 w)]=some (.bool (isNum w)):=by
 rw [lh]
 refine cW ?_
 obtain ⟨k1,k2⟩:=Ij (x:=b5 w) (λc hc=>hw c (by rw [cY] at hc; exact hc))
 have o1:PyData.strOk ""=true:=by decide +kernel
 have o2:PyData.strOk "0"=true:=by decide +kernel
 have c1:gB (g2 jq (ae 0) (gC (.str ""))) [some (.str (b5 w))]=some (decide (w=[])):=cO (ak rfl rfl ((kR k1 o1).trans (by rw [uI CI])))
 have es:iE (ae 0) [some (.str (b5 w))]=some (w.map λc=>PyData.str ⟨#[c]⟩):=by
  show (if (b5 w).cps.all (· < 128)=true then some (iD (b5 w)) else none)=_
  rw [RV k2,iD,cY]
 have ec:b4 (iE (ae 0)) [] (g2 (lG true) (ae 0) (gC (.str "0123456789"))) [some (.str (b5 w))]=some ((w.map fP).map .bool):=dO (λc:Nat=>PyData.str ⟨#[c]⟩) PyData.bool fP w es (by omega) λc _=>ak rfl rfl (BI c)
 have ca:dG (dw t8 (aa (aw (b4 (iE (ae 0)) [] (g2 (lG true) (ae 0) (gC (.str "0123456789"))))) ah)) [some (.str (b5 w))]=some (w.all fP):=by
  refine cX (eH (cons_of (ax ec) rfl) ?_)
  show (fM ((w.map fP).map .bool)).map _=_
  rw [gW]
  simp [List.all_map,Function.comp_def]
 have hc:=CL c1 (cu ca)
 unfold isNum
 refine cH _ hc (λq=>?_) λq=>?_
 .refine cI (.bool false) rfl (.mk rfl ?_)
  congr 1
  cases h0:decide (w=[]) with
  | true=>rfl
  | false=>
    rw [h0,Bool.false_or] at q
    cases h:w.all fP with
    | true=>rw [h] at q; cases q
    | false=>rfl
 .rw [da]
  rw [Bool.or_eq_false_iff] at q
  have fV:=of_decide_eq_false q.1
  have Pe:w.all fP=true:=by have:=q.2; cases h:w.all fP with
   | true=>rfl
   | false=>rw [h] at this; cases this
  obtain ⟨a,r,rfl⟩:∃ a r,w=a :: r:=by
   cases w with
   | nil=>exact (fV rfl).elim
   | cons a r=>exact ⟨a,r,rfl⟩
  have ix:fW (.str (b5 (a :: r))) (.int 0)=some (.str ⟨#[a]⟩):=by
   show (if (b5 (a :: r)).length<=100000 then (lP (b5 (a :: r)).cps.toList 0).map (λc=>PyData.str ⟨#[c]⟩) else none)=_
   rw [RV (by rw [dC]; omega),cY,show (0:Int)=((0:Nat):Int) from rfl,eP (v:=a) rfl]
   rfl
  have oa:PyData.strOk ⟨#[a]⟩=true:=(Ij (x:=⟨#[a]⟩) (λc hc=>by
   have:c=a:=by simpa using hc
   subst this
   exact hw c RK)).1
  refine ret _ (Hn (ak rfl rfl ((kR k1 o2).trans (by rw [uI vK]))) (ak (ak rfl rfl ix) rfl ((um (kR oa o2)).trans rfl))) (.mk rfl ?_)
  rw [q.1,Pe]
  congr 2
  rw [show ((⟨#[a]⟩:Str) == "0")=decide ([a]=[48]) from uI (w:=[a]) vK]
  congr 1
  by_cases z:a=48
  .subst z; rfl
  .rw [decide_eq_false (by simpa using z),List.head?_cons,beq_eq_false_iff_ne.mpr (by simpa using z)]
theorem Pf:∀ a,a < 10->dX a=[a + 48]:=by decide +kernel
theorem Pg:∀ a,a < 10->∀ b,b < 10->1<=a->dX (10 * a + b)=[a + 48,b + 48]:=by decide +kernel
theorem zQ {w:List Nat} (h:cJ w=true):∃ m:Nat,m < 100 /\ w=dX m /\ ji w=(m:Int):=by
 unfold cJ isNum fP at h
 simp only [RT,Ti,SS,Sf,T2,Ss,S5] at h
 obtain ⟨⟨⟨h1,h2⟩,h3⟩,h4⟩:=h
 match w,h1,h2,h3,h4 with
 | [],h1,_,_,_=>exact (h1 rfl).elim
 | [a],_,h2,_,_=>
   have:=h2 a RK
   refine ⟨a - 48,by omega,by rw [Pf _ (by omega),show a - 48 + 48=a by omega],?_⟩
   show 10 * 0 + ((a:Int) - 48)=_
   omega
 | [a,b],_,h2,h3,_=>
   have ha:=h2 a RK
   have hb:=h2 b (RM _ RK)
   have hz:a≠48:=by
    rcases h3 with z | z
    .simp at z
    .simpa using z
   refine ⟨10 * (a - 48) + (b - 48),by omega,by rw [Pg _ (by omega) _ (by omega) (by omega),show a - 48 + 48=a by omega,show b - 48 + 48=b by omega],?_⟩
   show 10 * (10 * 0 + ((a:Int) - 48)) + ((b:Int) - 48)=_
   push_cast
   omega
 | a :: b :: c :: r,_,_,_,h4=>simp at h4
theorem xl {w:List Nat} (hw:∀ c∈w,c < 128) (hl:w.length<=2000):cj [.str (b5 w)]=some (if cJ w=true then .int (ji w) else kG "NoText"):=by
 rw [mY]
 have c1:=cu (cX (call_of (G:=bR) (n:=1) (g:=aa (ae 0) ah) (δ:=[some (.str (b5 w))]) (cons_of rfl rfl) rfl (BJ hw hl)))
 have c2:gB (g2 nA (dw cp (aa (ae 0) ah)) (gC (.int (2)))) [some (.str (b5 w))]=some (decide (2 < w.length)):=by
  refine cO (ak (eH (cons_of rfl rfl) (show cp [.str (b5 w)]=some (.int (w.length:Nat)) from ?_)) rfl ?_)
  .show (if (b5 w).length<=100000 then some (PyData.int ((b5 w).length:Nat)) else none)=_
   rw [dC,RV (by omega)]
  .show some (PyData.bool (decide ((2:Int) < (w.length:Nat))))=_
   rw [UJ.mpr (show (2:Int) < (w.length:Nat)↔2 < w.length by omega)]
 have hc:=CL c1 c2
 by_cases q:cJ w=true
 .obtain ⟨m,hm,ew,en⟩:=zQ q
  rw [RV q]
  unfold cJ at q
  rw [RT,Sw] at q
  rw [q.1,Si (show ¬ 2 < w.length by omega)] at hc
  refine cW (mV hc (ret _ (eH (cons_of rfl rfl) ?_) (.mk rfl rfl)))
  show (if (b5 w).length<=640 then (PySem.intText? (b5 w)).map PyData.int else none)=_
  rw [RV (by rw [dC]; omega),show b5 w=nS (m:Nat) from To (Td.mp (by rw [cY,dP,ew])),nS,PySem.W.KIN.num_reads (by omega) (by omega),en]
  rfl
 .rw [R4 q]
  have hb:(!isNum w || decide (2 < w.length))=true:=by
   cases h:isNum w with
   | false=>rfl
   | true=>
     have:¬ w.length<=2:=λz=>q (by unfold cJ; rw [h,decide_eq_true z]; rfl)
     rw [Sl (show 2 < w.length by omega)]; rfl
  rw [hb] at hc
  rw [show eT [some (.str (b5 w))]=some (.rt (kG "NoText")) from gZ (js true hc (λ_=>rfl) λz=>nomatch z)]
  rfl
theorem qp {α:Type} {f:D->Option D} (enc v:α->D) (P:α->Bool) (c:Str):∀ (l:List α),(∀ a∈l,f (enc a)=some (if P a=true then v a else kG c))->(∀ a∈l,P a=true->mK (v a)=none)->mapR f (l.map enc)=some (if l.all P=true then .inl (l.map v) else .inr (kG c))
 | [],_,_=>rfl
 | a :: l,h,hv=>by
   rw [RY,mapR,h a RK,RH,Ui]
   cases q:P a with
   | false=>rfl
   | true=>
     rw [RV rfl,hv a RK q,qp enc v P c l (λb hb=>h b (RM _ hb)) λb hb=>hv b (RM _ hb),Ul]
     cases l.all P <;> rfl
theorem fQ {c:Nat}:∀ {l w:List Nat},w∈aA c l->(∀ x∈w,x∈l) /\ w.length<=l.length
 | [],w,h=>by
   rw [aA,Sn] at h
   subst h
   exact ⟨λx hx=>hx,RO _⟩
 | a :: l,w,h=>by
   obtain ⟨u,t,e⟩:=d5 c l
   have ih:∀ {w},w∈aA c l->(∀ x∈w,x∈l) /\ w.length<=l.length:=λh=>fQ h
   rw [aA] at h
   split at h
   .rcases RN.mp h with rfl | h
    .exact ⟨λx hx=>by simp at hx,TF _⟩
    .exact ⟨λx hx=>RM _ ((ih h).1 x hx),Vh (ih h).2⟩
   .rw [e] at h
    rw [e] at ih
    rcases RN.mp h with rfl | h
    .have:=ih RK
     refine ⟨λx hx=>?_,Nat.succ_le_succ this.2⟩
     rcases RN.mp hx with rfl | hx
     .exact RK
     .exact RM _ (this.1 x hx)
    .have:=ih (RM _ h)
     exact ⟨λx hx=>RM _ (this.1 x hx),Vh this.2⟩
def CM (t:List Nat):Bool:=(aA 32 t).all cJ
def so (t:List Nat):List Int:=(aA 32 t).map ji
theorem zR {t:List Nat} (ht:∀ c∈t,c < 128) (hl:t.length<=2000):cc [.str (b5 t)]=some (if CM t=true then dR (so t) else kG "NoText"):=by
 rw [nT]
 have es:dE (ae 0) (gC (.str " ")) [some (.str (b5 t))]=some (((aA 32 t).map b5).map .str):=by
  refine (ko (c:=32) (by decide) rfl (show some (PyData.str (" ":Str))=_ by rw [zN]) (by rw [dC]; exact hl)).trans ?_
  rw [i7 (by decide),cY]
 have hs:=gY 32 t
 have em:lb (aR (aw (dE (ae 0) (gC (.str " "))))) [] (aJ cj 1 (aa (ae 0) ah)) [some (.str (b5 t))]=some (if CM t=true then dR (so t) else kG "NoText"):=by
  unfold lb
  rw [m9 (ax es),RH,RV (by rw [RJ,RJ]; omega),Tr]
  have key:=qp (f:=λd=>aJ cj 1 (aa (ae 0) ah) (some d :: cb [] [some (.str (b5 t))])) (λw=>PyData.str (b5 w)) (λw=>.int (ji w)) cJ "NoText" (aA 32 t) (λw hw=>call_of (cons_of rfl rfl) rfl (xl (λc hc=>ht c ((fQ hw).1 c hc)) (Sj (fQ hw).2 hl))) λ_ _ _=>rfl
  refine (Tw (Option.map zt) key).trans ?_
  show some (zt _)=_
  unfold CM so
  cases (aA 32 t).all cJ with
  | true=>show some (PyData.tuple _)=some (dR _); unfold dR; rw [List.map_map]; rfl
  | false=>rfl
 show (aV _ _).bind fj=_
 unfold aV
 rw [em]
 rfl
def lV (t:List Nat):Bool:=(aA 124 t).all CM
def gf (t:List Nat):List (List Int):=(aA 124 t).map so
structure BK (t:List Nat):Prop where
 Ho:∀ c∈t,c < 128
 len:t.length<=2000
 rows:lV t=true->(aA 124 t).length<=100
 nums:lV t=true->∀ q∈aA 124 t,(aA 32 q).length < 64
theorem BL {t:List Nat} (h:BK t):dh [.str (b5 t)]=some (if lV t=true /\ uF (eG (gf t))=true then eG (gf t) else kG "NoText"):=by
 have ht:=h.Ho
 have hl:=h.len
 rw [qf]
 have es:dE (ae 0) (gC (.str "|")) [some (.str (b5 t)),none]=some (((aA 124 t).map b5).map .str):=by
  refine (ko (c:=124) (by decide) rfl (show some (PyData.str ("|":Str))=_ by rw [sk]) (by rw [dC]; exact hl)).trans ?_
  rw [i7 (by decide),cY]
 have hs:=gY 124 t
 have em:lb (aR (aw (dE (ae 0) (gC (.str "|"))))) [] (aJ cc 1 (aa (ae 0) ah)) [some (.str (b5 t)),none]=some (if lV t=true then eG (gf t) else kG "NoText"):=by
  unfold lb
  rw [m9 (ax es),RH,RV (by rw [RJ,RJ]; omega),Tr]
  have key:=qp (f:=λd=>aJ cc 1 (aa (ae 0) ah) (some d :: cb [] [some (.str (b5 t)),none])) (λw=>PyData.str (b5 w)) (λw=>dR (so w)) CM "NoText" (aA 124 t) (λw hw=>call_of (cons_of rfl rfl) rfl (zR (λc hc=>ht c ((fQ hw).1 c hc)) (Sj (fQ hw).2 hl))) λ_ _ _=>rfl
  refine (Tw (Option.map zt) key).trans ?_
  show some (zt _)=_
  unfold lV gf
  cases (aA 124 t).all CM with
  | true=>show some (PyData.tuple _)=some (eG _); unfold eG; rw [List.map_map]; rfl
  | false=>rfl
 cases q:lV t with
 | false=>
   rw [q] at em
   rw [R4 λz=>RS z.1]
   rw [show e9 [some (.str (b5 t)),none]=some (.rt (kG "NoText")) from gZ (by unfold rT; rw [em]; rfl)]
   rfl
 | true=>
   rw [q,RV rfl] at em
   have e1:rT 1 (lb (aR (aw (dE (ae 0) (gC (.str "|"))))) [] (aJ cc 1 (aa (ae 0) ah))) [some (.str (b5 t)),none]=some (.nx [some (.str (b5 t)),some (eG (gf t))]):=by
    unfold rT
    rw [em]; rfl
   have Hi:∀ x∈(gf t).map dR,TR x:=λx hx=>by
    obtain ⟨r,hr,rfl⟩:=RX.mp hx
    obtain ⟨w,hw,rfl⟩:=RX.mp hr
    refine zL _ ?_
    unfold so
    rw [RJ]
    exact h.nums q w hw
   have tm:Tame (eG (gf t)):=⟨m8 λx hx=>(Hi x hx).te,λl e=>by
    cases e
    refine ⟨?_,Hi⟩
    unfold gf
    rw [RJ,RJ]
    exact h.rows q⟩
   have hi:=oZ tm
   have hc:=cu (cX (call_of (G:=d6) (n:=1) (g:=aa (ae 1) ah) (δ:=[some (.str (b5 t)),some (eG (gf t))]) (cons_of rfl rfl) rfl hi))
   cases q2:uF (eG (gf t)) with
   | true=>
     rw [q2] at hc
     rw [RV ⟨rfl,rfl⟩]
     exact cW (br _ e1 (mV hc (ret _ rfl (.mk rfl rfl))))
   | false=>
     rw [q2] at hc
     rw [R4 λz=>RS z.2]
     rw [show e9 [some (.str (b5 t)),none]=some (.rt (kG "NoText")) from dU _ e1 (gZ (js true hc (λ_=>rfl) λz=>nomatch z))]
     rfl
theorem EL {gb:DS->Option Res} {hand:Str->Option D} {δ:DS} {c:Str} {d:D} (h:gb δ=some (.rt (kG c))) (hh:hand c=some d):Br gb hand δ=some (.rt d):=by
 unfold Br; rw [h]; show (hand c).bind _=_; rw [hh]; rfl
def Ft (t:List Nat):Prop:=lV t=false \/ uF (eG (gf t))=false
theorem o4 {t:List Nat} (h:BK t) (hb:Ft t):cR [.str (b5 t)]=some (.bool true):=by
 rw [nV]
 have hp:=BL h
 rw [R4 (λz=>by
  rcases hb with q | q
  .rw [q] at z; exact RS z.1
  .rw [q] at z; exact RS z.2)] at hp
 have hm:("NoText":Str)∈eD:=.head _
 have e:p9 (aJ dh 1 (aa (ae 0) ah)) [some (.str (b5 t)),none]=some (.rt (kG "NoText")):=by
  have ec:aJ dh 1 (aa (ae 0) ah) [some (.str (b5 t)),none]=some (kG "NoText"):=call_of (cons_of rfl rfl) rfl hp
  unfold p9
  rw [ec]; rfl
 rw [show eU [some (.str (b5 t)),none]=some (.rt (.bool true)) from gZ (EL e (by unfold jJ; rw [if_pos hm]))]
 rfl
theorem kq {t q w:List Nat} (hq:q∈aA 124 t) (hw:w∈aA 32 q) (h:cJ w=false):lV t=false:=by
 unfold lV
 rw [Vj]
 refine ⟨q,hq,?_⟩
 unfold CM
 rw [Bool.not_eq_true,Vj]
 exact ⟨w,hw,by rw [h]; exact RS⟩
set_option tactic.hygienic true in
theorem g9 {c x:Nat} (hx:x≠c):∀ {l:List Nat},x∈l->∃ w∈aA c l,x∈w
 | [],h=>by cases h
 | a :: l,h=>by
   obtain ⟨u,t,e⟩:=d5 c l
   rw [aA]
   split
   .rename_i ha
    rcases RN.mp h with rfl | h
    .exact absurd ha hx
    .obtain ⟨w,hw,hm⟩:=g9 hx h
     exact ⟨w,RM _ hw,hm⟩
   .rw [e]
    rcases RN.mp h with rfl | h
    .exact ⟨_,RK,RK⟩
    .obtain ⟨w,hw,hm⟩:=g9 hx h
     rw [e] at hw
     rcases RN.mp hw with rfl | hw
     .exact ⟨_,RK,RM _ hm⟩
     .exact ⟨w,RM _ hw,hm⟩
theorem zS {t:List Nat} {x:Nat} (hx:x∈t) (h1:x≠32) (h2:x≠124) (h3:fP x=false):lV t=false:=by
 obtain ⟨q,hq,hm⟩:=g9 h2 hx
 obtain ⟨w,hw,hm⟩:=g9 h1 hm
 refine kq hq hw ?_
 unfold cJ isNum
 have:w.all fP=false:=Vj.mpr ⟨x,hm,by rw [h3]; exact RS⟩
 rw [this,Bool.and_false,Ua,Ua]
theorem vM {t:List Nat} (h1:∀ c∈t,c < 128) (h2:t.length<=2000) (h:lV t=false):BK t:=⟨h1,h2,λz=>absurd (h.symm.trans z) RS,λz=>absurd (h.symm.trans z) RS⟩
theorem lW:cJ []=false:=rfl
def dj:List Nat->List (List Nat)
 | []=>[[]]
 | a :: l=>if a=32 \/ a=124 then [] :: dj l else match dj l with
   | h :: t=>(a :: h) :: t
   | []=>[[a]]
theorem o5:∀ t:List Nat,(aA 124 t).flatMap (aA 32)=dj t
 | []=>rfl
 | a :: l=>by
   have ih:=o5 l
   obtain ⟨h,r,e⟩:=d5 124 l
   obtain ⟨u,v,e2⟩:=d5 32 h
   rw [aA,dj]
   by_cases h1:a=124
   .rw [RV h1,RV (Or.inr h1),List.flatMap_cons,ih]; rfl
   .rw [R4 h1,e]
    rw [e,List.flatMap_cons,e2] at ih
    by_cases h2:a=32
    .rw [RV (Or.inl h2),<- ih]
     show (aA 32 (a :: h)) ++ _=_
     rw [aA,RV h2,e2]; rfl
    .rw [R4 (λz=>z.elim h2 h1),<- ih]
     show (aA 32 (a :: h)) ++ _=_
     rw [aA,R4 h2,e2]; rfl
theorem xm (t:List Nat):∃ h r,dj t=h :: r:=by
 cases t with
 | nil=>exact ⟨_,_,rfl⟩
 | cons a l=>
   rw [dj]
   split
   .exact ⟨_,_,rfl⟩
   .split
    .exact ⟨_,_,rfl⟩
    .exact ⟨_,_,rfl⟩
theorem jT {s:Nat} (hs:s=32 \/ s=124) (b:List Nat):∀ a:List Nat,dj (a ++ s :: b)=dj a ++ dj b
 | []=>by
   show dj (s :: b)=[] :: dj b
   rw [dj,RV hs]
 | x :: a=>by
   rw [Tt,dj,jT hs b a,dj]
   split
   .rfl
   .obtain ⟨h,r,e⟩:=xm a
    rw [e]; rfl
theorem zT {t w:List Nat} (h:w∈dj t) (hw:cJ w=false):lV t=false:=by
 rw [<- o5] at h
 obtain ⟨q,hq,hm⟩:=List.mem_flatMap.mp h
 exact kq hq hm hw
theorem o6 {s:Nat} (hs:s=32 \/ s=124) (b:List Nat):lV (s :: b)=false:=zT (w:=[]) (by rw [dj,RV hs]; exact RK) lW
theorem sr {s:Nat} (hs:s=32 \/ s=124) (a:List Nat):lV (a ++ [s])=false:=zT (w:=[]) (by rw [jT hs]; exact RI _ RK) lW
theorem BM {s r:Nat} (hs:s=32 \/ s=124) (hr:r=32 \/ r=124) (a b:List Nat):lV (a ++ s :: r :: b)=false:=zT (w:=[]) (by rw [jT hs]; exact RI _ (by rw [dj,RV hr]; exact RK)) lW
theorem zU {t:List Nat} (h:([]:List Nat)∈aA 124 t):lV t=false:=kq h (Sn.mpr rfl) lW
def vN (r:List (List Nat)):Str:=Txt.join ⟨#[32]⟩ (r.map b5)
def txt (R:List (List (List Nat))):List Nat:=(Txt.join ⟨#[124]⟩ (R.map vN)).cps.toList
def Cl (R:List (List (List Nat))):Prop:=∀ r∈R,∀ w∈r,32∉w /\ 124∉w
theorem EM {r:List (List Nat)} (h:∀ w∈r,32∉w /\ 124∉w):124∉(vN r).cps.toList:=by
 refine mem_join (show 124∉[32] by decide) λt ht=>?_
 obtain ⟨w,hw,rfl⟩:=RX.mp ht
 rw [cY]
 exact (h w hw).2
theorem fD {R:List (List (List Nat))} (hR:R≠[]) (h:Cl R):aA 124 (txt R)=R.map λr=>(vN r).cps.toList:=by
 refine (fZ (by simpa using hR) λt ht=>?_).trans (by rw [List.map_map]; rfl)
 obtain ⟨r,hr,rfl⟩:=RX.mp ht
 exact EM (h r hr)
theorem jb {r:List (List Nat)} (hr:r≠[]) (h:∀ w∈r,32∉w /\ 124∉w):aA 32 (vN r).cps.toList=r:=by
 refine (fZ (by simpa using hr) λt ht=>?_).trans ?_
 .obtain ⟨w,hw,rfl⟩:=RX.mp ht
  rw [cY]
  exact (h w hw).1
 .rw [Tr]
  exact (S6 λw _=>cY w).trans (UP _)
theorem zV {R:List (List (List Nat))} (h:Cl R) {r:List (List Nat)} {w:List Nat} (hr:r∈R) (hw:w∈r) (hb:cJ w=false):lV (txt R)=false:=by
 refine kq (q:=(vN r).cps.toList) (by rw [fD (Us hr) h]; exact RX.mpr ⟨r,hr,rfl⟩) ?_ hb
 rw [jb (Us hw) (h r hr)]
 exact hw
theorem BN {R:List (List (List Nat))} (h:Cl R) (hr:[]∈R):lV (txt R)=false:=by
 refine zU ?_
 rw [fD (Us hr) h]
 exact RX.mpr ⟨[],hr,rfl⟩
theorem zW {R:List (List (List Nat))} (hR:R≠[]) (h:Cl R) (hn:∀ r∈R,r≠[]):gf (txt R)=R.map λr=>r.map ji:=by
 unfold gf
 rw [fD hR h,Tr]
 refine S6 λr hr=>?_
 show so (vN r).cps.toList=_
 unfold so
 rw [jb (hn r hr) (h r hr)]
theorem BO {R:List (List (List Nat))} (hR:R≠[]) (h:Cl R) (hn:∀ r∈R,r≠[]) (h1:R.length<=100) (h2:∀ r∈R,r.length < 64) (ha:∀ c∈txt R,c < 128) (hl:(txt R).length<=2000):BK (txt R):=by
 refine ⟨ha,hl,λ_=>by rw [fD hR h,RJ]; exact h1,λ_ q hq=>?_⟩
 rw [fD hR h] at hq
 obtain ⟨r,hr,rfl⟩:=RX.mp hq
 rw [jb (hn r hr) (h r hr)]
 exact h2 r hr
theorem vO:∀ (rows:List (List Int)) (T:List Int) (k:Int),(∀ z∈T,z<=k)->sf T (rows.map dR)=true->∀ (i:Nat) (r:List Int),rows[i]?=some r->jS r /\ ∀ x∈r,x<=k + (i:Int)
 | [],_,_,_,_,i,r,e=>by simp at e
 | s :: rows,T,k,hT,h,i,r,e=>by
   rw [RY,sf,RT] at h
   obtain ⟨s',e1,e2,_,hs,iz⟩:=qk h.1
   have es:s=s':=by
    have:=d4 s
    have e3:km (dR s)=some s:=this
    rw [e3] at e1; cases e1; rfl
   subst es
   rw [e1] at h
   cases i with
   | zero=>
     rw [T1] at e
     cases e
     exact ⟨hs,λx hx=>by have:=hT x (iz x hx); omega⟩
   | succ i=>
     rw [SY] at e
     have:=vO rows (led s) (k + 1) (λz hz=>by
      rcases ja.mp hz with q | q
      .have:=hT z (iz z q); omega
      .have:=hT _ (iz _ q); omega) h.2 i r e
     exact ⟨this.1,λx hx=>by have:=this.2 x hx; push_cast; omega⟩
theorem lX {rows:List (List Int)} (h:uF (eG rows)=true) {i:Nat} {r:List Int} (e:rows[i]?=some r):jS r /\ ∀ x∈r,x<=(i:Int):=by
 have h:(decide (1<=(rows.map dR).length /\ (rows.map dR).length<=24) && sf [0] (rows.map dR))=true:=h
 rw [RT] at h
 have:=vO rows [0] 0 (λz hz=>by rw [Sn.mp hz]; exact Int.le_refl 0) h.2 i r e
 exact ⟨this.1,λx hx=>by have:=this.2 x hx; omega⟩
theorem BP {rows:List (List Int)} {i:Nat} {r:List Int} {x:Int} (e:rows[i]?=some r) (hx:x∈r) (h:(i:Int) < x):uF (eG rows)=false:=by
 cases q:uF (eG rows) with
 | false=>rfl
 | true=>have:=(lX q e).2 x hx; omega
theorem vP {rows:List (List Int)} {i:Nat} {r:List Int} (e:rows[i]?=some r) (h:¬ jS r):uF (eG rows)=false:=by
 cases q:uF (eG rows) with
 | false=>rfl
 | true=>exact absurd (lX q e).1 h
theorem Ks (l:List D) (k:Nat):cutD l none (some (k:Int))=l.take k:=by
 unfold cutD
 rw [HT.uZ,show ∀ n d,HT.kY n d none=d from λ_ _=>rfl]
 simp
theorem Kt (l:List D) (k:Nat):cutD l (some (k:Int)) none=l.drop k:=by
 unfold cutD
 rw [HT.uZ,show ∀ n d,HT.kY n d none=d from λ_ _=>rfl]
 by_cases h:k<=l.length
 .rw [Nat.min_eq_left h,List.take_of_length_le (by rw [Ue]; omega)]
 .rw [Nat.min_eq_right (by omega),List.drop_eq_nil_of_le (RO _),List.drop_eq_nil_of_le (by omega),List.take_nil]
theorem Ku (l:List D):cutD l none (some (-1))=l.take (l.length - 1):=by
 unfold cutD
 have e:HT.kY l.length l.length (some (-1))=l.length - 1:=by
  show (if (-1:Int) < 0 then ((-1:Int) + (l.length:Int)).toNat else min (-1:Int).toNat l.length)=_
  rw [RV (by decide)]; omega
 rw [show ∀ n d,HT.kY n d none=d from λ_ _=>rfl,e]
 rfl
abbrev eS (w:List Nat):D:=.str (b5 w)
theorem fw {g:DS->Option (List D)} {δ:DS} {xs:List D} (h:g δ=some xs) (hl:xs.length<=100000:=by simp):bH g δ=some xs:=by
 unfold bH; rw [h,Option.bind_some,if_pos hl]
theorem Ik {i:Nat} {ws:List (List Nat)} {δ:DS} {g:DS->Option D} {k:Nat} (h:ae i δ=some (.list (ws.map eS))) (hg:g δ=some (.int (k:Nat))):gF (ae i) aX (bN g) δ=some ((ws.take k).map eS):=by
 unfold gF
 rw [h,RH,show aX δ=some none from rfl,RH,part_of hg,RH]
 show some (cutD _ _ _)=_
 rw [Ks,Vl]
theorem Il {i:Nat} {ws:List (List Nat)} {δ:DS} {g:DS->Option D} {k:Nat} (h:ae i δ=some (.list (ws.map eS))) (hg:g δ=some (.int (k:Nat))):gF (ae i) (bN g) aX δ=some ((ws.drop k).map eS):=by
 unfold gF
 rw [h,RH,part_of hg,RH,show aX δ=some none from rfl,RH]
 show some (cutD _ _ _)=_
 rw [Kt,List.map_drop]
theorem Fu {ws:List (List Nat)} {k:Nat} (hk:k < ws.length):fW (.list (ws.map eS)) (.int (k:Nat))=some (eS ws[k]):=eP (by rw [Sa,RP hk]; rfl)
theorem parted {α:Type} {ws:List α} {k:Nat} (hk:k < ws.length):ws=ws.take k ++ ws[k] :: ws.drop (k + 1):=by rw [<- List.drop_eq_getElem_cons hk,UE]
theorem BQ {α:Type} {ws:List α} {k:Nat} (hk:k + 1 < ws.length):ws=ws.take k ++ ws[k] :: ws[k + 1] :: ws.drop (k + 2):=by rw [<- List.drop_eq_getElem_cons hk,<- List.drop_eq_getElem_cons (show k < ws.length by omega),UE]
theorem lI {x y:List Nat} (h:x.length + y.length<=100000):aQ (.str (b5 x)) (.str (b5 y))=some (.str (b5 (x ++ y))):=by
 show (if (b5 x).length + (b5 y).length<=100000 then some (PyData.str (b5 x ++ b5 y)) else none)=_
 rw [dC,dC,RV h]
 congr 2
 refine To (Td.mp ?_)
 rw [cY]
 show ((b5 x).cps ++ (b5 y).cps).toList=_
 rw [TV,cY,cY]
def Im (ws:List (List Nat)) (d:Nat) (way:Int) (W:List (List Nat)):Prop:=
 (way=6 /\ ∃ k:Nat,d < k /\ k<=d + 3 /\ W=ws.take (ws.length - 1) ++ [dX k]) \/ (way=7 /\ ∃ a x y b,ws=a ++ x :: y :: b /\ W=a ++ y :: x :: b) \/
 (way=8 /\ ∃ a x b,ws=a ++ x :: b /\ W=a ++ x :: x :: b) \/ (way=9 /\ ∃ a x b,ws=a ++ x :: b /\ W=a ++ (45 :: x) :: b) \/ (way=5 /\ ∃ a x b,ws=a ++ x :: b /\ W=a ++ (48 :: x) :: b) \/ W=[]
theorem qq {ws:List (List Nat)} (fV:ws≠[]) (hl:ws.length<=100) (hw:∀ w∈ws,w.length<=100) (d:Nat) (hd:d<=20) (way n:Int):∃ W,bW [.list (ws.map eS),.int (d:Nat),.int way,.int n]=some (W.map eS) /\ Im ws d way W:=by
 suffices key:c9 (bW [.list (ws.map eS),.int (d:Nat),.int way,.int n]) λx=>∃ W,x=W.map eS /\ Im ws d way W by
  obtain ⟨_,e,W,rfl,h⟩:=key
  exact ⟨W,e,h⟩
 rw [kP]
 have hp:0 < ws.length:=List.length_pos_iff.mpr fV
 obtain ⟨k,hk,jZ⟩:∃ k:Nat,n % (ws.length:Int)=(k:Nat) /\ k < ws.length:=by
  have h0:=SF n (show (ws.length:Int)≠0 by omega)
  have h1:=Sv n (show 0 < (ws.length:Int) by omega)
  exact ⟨(n % (ws.length:Int)).toNat,by omega,by omega⟩
 have ln:∀ {δ:DS},ae 0 δ=some (.list (ws.map eS))->dw cp (aa (ae 0) ah) δ=some (.int (ws.length:Nat)):=λe=>eH (cons_of e rfl) ((mW _).trans (by rw [RJ]))
 have Ph:("-":Str)=b5 [45]:=by decide +kernel
 have Pj:("0":Str)=b5 [48]:=by decide +kernel
 refine br [some (.list (ws.map eS)),some (.int (d:Nat)),some (.int way),some (.int n),some (.int (k:Nat))] (by rw [<- hk]; exact bu (ak rfl (ln rfl) (c8 (by omega)))) ?_
 have hc:∀ (j:Int) (δ:DS),ae 2 δ=some (.int way)->gB (g2 jq (ae 2) (gC (.int j))) δ=some (decide (way=j)):=λj δ e=>cO (ak e rfl (zB _ _))
 refine cH _ (hc 6 _ rfl) (λq=>?_) λ_=>?_
 .have hq:=SG q
  have m0:=SF n (show (3:Int)≠0 by decide)
  have m1:=Sv n (show (0:Int) < 3 by decide)
  obtain ⟨m,hm⟩:∃ m:Nat,(d:Int) + 1 + n % 3=(m:Nat):=⟨((d:Int) + 1 + n % 3).toNat,by omega⟩
  have es:dw pW (aa (g2 aQ (g2 aQ (ae 1) (gC (.int (1)))) (g2 cT (ae 3) (gC (.int (3))))) ah) [some (.list (ws.map eS)),some (.int (d:Nat)),some (.int way),some (.int n),some (.int (k:Nat))]=some (eS (dX m)):=by
   refine eH (cons_of (ak (ak rfl rfl (g8 _ _)) (ak rfl rfl (c8 (by decide))) (g8 _ _)) rfl) ?_
   rw [hm,uH (by omega)]
   congr 2
   exact To (Td.mp (by rw [dP,cY]))
  have sl:gF (ae 0) aX (bN (g1 tO (gC (.int (1))))) [some (.list (ws.map eS)),some (.int (d:Nat)),some (.int way),some (.int n),some (.int (k:Nat))]=some ((ws.take (ws.length - 1)).map eS):=by
   show some (cutD (ws.map eS) none (some (-1)))=_
   rw [Ku,RJ,Vl]
  refine cI (.list ((ws.take (ws.length - 1) ++ [dX m]).map eS)) (ax ((fk (ax sl) (ax (fw (cons_of es rfl))) (by rw [RJ,SJ]; simp; omega)).trans (by rw [SA]; rfl))) (.mk rfl ⟨_,rfl,.inl ⟨hq,m,by omega,by omega,rfl⟩⟩)
 rw [da]
 have h7:lC (gB (g2 jq (ae 2) (gC (.int (7))))) (gB (g2 nA (dw cp (aa (ae 0) ah)) (gC (.int (1))))) [some (.list (ws.map eS)),some (.int (d:Nat)),some (.int way),some (.int n),some (.int (k:Nat))]=some (decide (way=7) && decide (1 < ws.length)):=by
  have:=hc 7 [some (.list (ws.map eS)),some (.int (d:Nat)),some (.int way),some (.int n),some (.int (k:Nat))] rfl
  have g:gB (g2 nA (dw cp (aa (ae 0) ah)) (gC (.int (1)))) [some (.list (ws.map eS)),some (.int (d:Nat)),some (.int way),some (.int n),some (.int (k:Nat))]=some (decide (1 < ws.length)):=cO (ak (ln rfl) rfl (by show some (PyData.bool (decide ((1:Int) < (ws.length:Nat))))=_; rw [UJ.mpr (show (1:Int) < (ws.length:Nat)↔1 < ws.length by omega)]))
  unfold lC
  rw [this,RH]
  cases decide (way=7) with
  | true=>rw [RV rfl,g]; rfl
  | false=>rfl
 refine cH _ h7 (λq=>?_) λ_=>?_
 .rw [RT,Sw,Sw] at q
  obtain ⟨j,hj,Nj⟩:∃ j:Nat,n % ((ws.length:Int) - 1)=(j:Nat) /\ j + 1 < ws.length:=by
   have h0:=SF n (show (ws.length:Int) - 1≠0 by omega)
   have h1:=Sv n (show 0 < (ws.length:Int) - 1 by omega)
   exact ⟨(n % ((ws.length:Int) - 1)).toNat,by omega,by omega⟩
  refine (show ∀ {x y:Option (List D)},x=y->c9 y _->c9 x _ from λe h=>e ▸ h) (Tw (λz:Option Res=>z.bind oF) seq_assoc) ?_
  refine br [some (.list (ws.map eS)),some (.int (d:Nat)),some (.int way),some (.int n),some (.int (j:Nat))] (by rw [<- hj]; exact bu (ak rfl (ak (ln rfl) rfl rfl) (c8 (by omega)))) ?_
  have a1:∀ c:Nat,aQ (.int (j:Nat)) (.int (c:Nat))=some (.int ((j + c:Nat):Int)):=λc=>(g8 _ _).trans (by push_cast; rfl)
  refine cI (.list ((ws.take j ++ ws[j + 1] :: ws[j]'(by omega) :: ws.drop (j + 2)).map eS)) (ax ((fk (ax (fk (ax (Ik rfl rfl)) (ax (fw (cons_of (ak rfl (ak rfl rfl (a1 1)) (Fu Nj)) (cons_of (ak rfl rfl (Fu (show j < ws.length by omega))) rfl)))) (by rw [RJ,SJ]; simp; omega))) (ax (Il rfl (ak rfl rfl (a1 2)))) (by simp; omega)).trans (by simp only [SA,RY,SN,Tt,S7]))) (.mk rfl ⟨_,rfl,.inr (.inl ⟨q.1,ws.take j,ws[j]'(by omega),ws[j + 1],ws.drop (j + 2),BQ Nj,rfl⟩)⟩)
 rw [da]
 have a1:aQ (.int (k:Nat)) (.int 1)=some (.int ((k + 1:Nat):Int)):=(g8 _ _).trans (by push_cast; rfl)
 have RB:=hw _ (SQ jZ)
 refine cH _ (hc 8 _ rfl) (λq=>?_) λ_=>?_
 .refine cI (.list ((ws.take k ++ ws[k] :: ws[k] :: ws.drop (k + 1)).map eS)) (ax ((fk (ax (fk (ax (Ik rfl rfl)) (ax (fw (cons_of (ak rfl rfl (Fu jZ)) (cons_of (ak rfl rfl (Fu jZ)) rfl)))) (by rw [RJ,SJ]; simp; omega))) (ax (Il rfl (ak rfl rfl a1))) (by simp; omega)).trans (by simp only [SA,RY,SN,Tt,S7]))) (.mk rfl ⟨_,rfl,.inr (.inr (.inl ⟨SG q,ws.take k,ws[k],ws.drop (k + 1),parted jZ,rfl⟩))⟩)
 rw [da]
 refine cH _ (hc 9 _ rfl) (λq=>?_) λ_=>?_
 .refine cI (.list ((ws.take k ++ (45 :: ws[k]) :: ws.drop (k + 1)).map eS)) (ax ((fk (ax (fk (ax (Ik rfl rfl)) (ax (fw (cons_of (ak (show gC (.str "-") _=some (.str (b5 [45])) by rw [<- Ph]; rfl) (ak rfl rfl (Fu jZ)) (lI (by simp; omega))) rfl))) (by rw [RJ,SJ]; simp; omega))) (ax (Il rfl (ak rfl rfl a1))) (by simp; omega)).trans (by simp only [SA,RY,SN,Tt,S7]))) (.mk rfl ⟨_,rfl,.inr (.inr (.inr (.inl ⟨SG q,ws.take k,ws[k],ws.drop (k + 1),parted jZ,rfl⟩)))⟩)
 rw [da]
 refine cH _ (hc 5 _ rfl) (λq=>?_) λ_=>?_
 .refine cI (.list ((ws.take k ++ (48 :: ws[k]) :: ws.drop (k + 1)).map eS)) (ax ((fk (ax (fk (ax (Ik rfl rfl)) (ax (fw (cons_of (ak (show gC (.str "0") _=some (.str (b5 [48])) by rw [<- Pj]; rfl) (ak rfl rfl (Fu jZ)) (lI (by simp; omega))) rfl))) (by rw [RJ,SJ]; simp; omega))) (ax (Il rfl (ak rfl rfl a1))) (by simp; omega)).trans (by simp only [SA,RY,SN,Tt,S7]))) (.mk rfl ⟨_,rfl,.inr (.inr (.inr (.inr (.inl ⟨SG q,ws.take k,ws[k],ws.drop (k + 1),parted jZ,rfl⟩))))⟩)
 rw [da]
 exact ret (.list []) rfl (.mk rfl ⟨[],rfl,.inr (.inr (.inr (.inr (.inr rfl))))⟩)
theorem Pk {t:List Nat} {k:Nat} (h:k<=t.length):Txt.slice (b5 t) none (some (k:Int))=b5 (t.take k):=by
 have e:=Ta.mp (PyProof.Rows.slice_closes_to (x:=b5 t) (j:=(k:Int)) ⟨by omega,by rw [cY]; omega⟩)
 rw [e]
 refine To (Td.mp ?_)
 show (List.drop (0:Int).toNat (b5 t).cps.toList).take ((k:Int) - 0).toNat=_
 rw [cY,cY,show ((k:Int) - 0).toNat=k by omega,show (0:Int).toNat=0 from rfl,List.drop_zero]
theorem Pm {t:List Nat} {k:Nat} (h:k<=t.length):Txt.slice (b5 t) (some (k:Int)) none=b5 (t.drop k):=by
 have e:=Ta.mp (PyProof.Rows.slice_closes_from (x:=b5 t) (i:=(k:Int)) ⟨by omega,by rw [cY]; omega⟩)
 rw [e]
 refine To (Td.mp ?_)
 show (List.drop (k:Int).toNat (b5 t).cps.toList).take (((b5 t).cps.toList.length:Int) - (k:Int)).toNat=_
 rw [cY,cY,SR,List.take_of_length_le (by rw [Ue]; omega)]
theorem sA {t:List Nat} {k i:Nat} {δ:DS} {g:DS->Option D} (h:ae i δ=some (eS t)) (hg:g δ=some (.int (k:Nat))) (hk:k<=t.length) (hl:t.length<=100000):mH (ae i) aX (bN g) δ=some (eS (t.take k)):=by
 unfold mH
 rw [h,RH,show aX δ=some none from rfl,RH,part_of hg,RH]
 show (if (b5 t).length<=100000 then some (PyData.str (Txt.slice (b5 t) none (some (k:Int)))) else none)=_
 rw [RV (by rw [dC]; exact hl),Pk hk]
theorem sB {t:List Nat} {k i:Nat} {δ:DS} {g:DS->Option D} (h:ae i δ=some (eS t)) (hg:g δ=some (.int (k:Nat))) (hk:k<=t.length) (hl:t.length<=100000):mH (ae i) (bN g) aX δ=some (eS (t.drop k)):=by
 unfold mH
 rw [h,RH,part_of hg,RH,show aX δ=some none from rfl,RH]
 show (if (b5 t).length<=100000 then some (PyData.str (Txt.slice (b5 t) (some (k:Int)) none)) else none)=_
 rw [RV (by rw [dC]; exact hl),Pm hk]
theorem Io {t:List Nat} {k:Nat} (hk:k < t.length) (hl:t.length<=100000):fW (eS t) (.int (k:Nat))=some (eS [t[k]]):=by
 show (if (b5 t).length<=100000 then (lP (b5 t).cps.toList (k:Int)).map (λc=>PyData.str ⟨#[c]⟩) else none)=_
 rw [RV (by rw [dC]; exact hl),cY,eP (v:=t[k]) (RP hk)]
 rfl
theorem BR {t:List Nat} {i:Nat} {δ:DS} (h:ae i δ=some (eS t)) (hl:t.length<=100000):dw cp (aa (ae i) ah) δ=some (.int (t.length:Nat)):=by
 refine eH (cons_of h rfl) ?_
 show (if (b5 t).length<=100000 then some (PyData.int ((b5 t).length:Nat)) else none)=_
 rw [dC,RV hl]
def xn:List Nat:=[33,34,35,36,38,39,40,41,42,43,44,45,46,47,58,59,60,61,62,63,64,65,66,67,68,69,70,71,72,73,74,75,76,77,78,79,80,81,82,83,84,85,86,87,88,89,90,91,92,93,94,95,96,97,98,99,100,101,102,103,104,105,106,107,108,109,110,111,112,113,114,115,116,117,118,119,120,121,122,123,125,126]
theorem uJ:∀ c∈xn,c < 128 /\ c≠32 /\ c≠124 /\ fP c=false:=by decide +kernel
theorem uK (n:Int):∃ c∈xn,dW [.int n]=some (eS [c]):=by
 rw [uv]
 have e:("!\"#$&'()*+,-./:;<=>?@ABCDEFGHIJKLMNOPQRSTUVWXYZ[\\]^_`abcdefghijklmnopqrstuvwxyz{}~":Str)=b5 xn:=by decide +kernel
 have hl:xn.length=82:=by decide +kernel
 obtain ⟨k,hk,jZ⟩:∃ k:Nat,n % (xn.length:Int)=(k:Nat) /\ k < xn.length:=by
  have h0:=SF n (show (xn.length:Int)≠0 by rw [hl]; decide)
  have h1:=Sv n (show 0 < (xn.length:Int) by rw [hl]; decide)
  exact ⟨(n % (xn.length:Int)).toNat,by omega,by omega⟩
 refine ⟨xn[k],SQ jZ,cW ?_⟩
 refine br [some (.int n),some (eS xn)] (bu (show gC _ _=some (eS xn) by rw [e]; rfl)) ?_
 exact ret _ (ak rfl (ak rfl (BR rfl (by rw [hl]; decide)) (c8 (by rw [hl]; decide))) (by rw [hk]; exact Io jZ (by rw [hl]; decide))) (.mk rfl rfl)
theorem zX {α β:Type} (enc:α->D) (jM:β->D) (h:α->β) (P:α->Bool) {f:D->Option (Option D)}:∀ l:List α,(∀ a∈l,f (enc a)=some (if P a=true then some (jM (h a)) else none))->mz f (l.map enc)=some (((l.filter P).map h).map jM)
 | [],_=>rfl
 | a :: l,q=>by
   have ih:=zX enc jM h P l λb hb=>q b (RM _ hb)
   rw [RY,mz,q a RK,RH,ih,RH,List.filter_cons]
   cases P a <;> rfl
theorem zY {α β:Type} (enc:α->D) (jM:β->D) (h:α->β) (P:α->Bool) {gi:DS->Option (List D)} {ix:List Nat} {gc:DS->Option Bool} {ge:DS->Option D} {δ:DS} (l:List α) (hi:gi δ=some (l.map enc)) (hl:l.length<=100000)
  (hc:∀ a∈l,gc (some (enc a) :: cb ix δ)=some (P a)) (he:∀ a∈l,P a=true->ge (some (enc a) :: cb ix δ)=some (jM (h a))):cF gi 1 ix (bF 0) gc ge δ=some (((l.filter P).map h).map jM):=by
 unfold cF
 rw [hi,RH,RV (by rw [RJ]; exact hl)]
 refine zX enc jM h P l λa ha=>?_
 show (Option.bind (some (some (enc a) :: cb ix δ)) _)=_
 rw [RH,hc a ha,RH]
 cases q:P a with
 | true=>rw [RV rfl,RV rfl,he a ha q]; rfl
 | false=>rfl
def BS (c:Nat):Bool:=decide (c=32 \/ c=124)
theorem Kv:((" |":Str)).cps.toList=[32,124]:=by decide +kernel
theorem EN (c:Nat):lG true (eS [c]) (.str " |")=some (.bool (BS c)):=by
 show some (PyData.bool ((!(Builtin.Str.occurrences (" |":Str) ⟨#[c]⟩ 0 (" |":Str).length 1).isEmpty) == true))=_
 rw [Uv,Kv]
 congr 2
 unfold BS
 rw [beq_true,TC,Sw,Sw]
 simp
def o7 (t:List Nat):List Nat:=(List.range t.length).filter λk=>BS (t.getD k 0)
theorem EO {t:List Nat} {δ:DS} (h1:ae 1 δ=some (eS t)) (hl:t.length<=2000):cF (ez (aa (dw cp (aa (ae 1) ah)) ah)) 1 [1] (bF 0) (gB (g2 (lG true) (g2 fW (ae 1) (ae 0)) (gC (.str " |")))) (ae 0) δ=some ((o7 t).map λk:Nat=>PyData.int (0 + k)):=by
 have Kw:cb [1] δ=[some (eS t)]:=by
  show [(δ[1]?).join]=_
  have:(δ[1]?).join=some (eS t):=h1
  rw [this]
 refine (zY (λk:Nat=>PyData.int (0 + k)) (λk:Nat=>PyData.int (0 + k)) id (λk=>BS (t.getD k 0)) (List.range t.length) (i9 (cons_of (BR h1 (by omega)) rfl) (by omega)) (by rw [Uy]; omega) (λk hk=>?_) λk _ _=>rfl).trans (by rw [UP]; rfl)
 rw [Kw]
 have hk:=TX.mp hk
 refine cO (ak (ak rfl rfl (show fW (eS t) (.int (0 + (k:Int)))=some (eS [t[k]]) by rw [Int.zero_add]; exact Io hk (by omega))) rfl ?_)
 rw [EN,R6,RP hk]; rfl
theorem vQ {t:List Nat} {k:Nat} (h:k∈o7 t):∃ hk:k < t.length,t[k]=32 \/ t[k]=124:=by
 obtain ⟨h1,h2⟩:=VA.mp h
 have hk:=TX.mp h1
 refine ⟨hk,?_⟩
 rw [R6,RP hk] at h2
 exact SG h2
theorem BU {t:List Nat} {k s:Nat} (hk:k∈o7 t) (hs:s=32 \/ s=124):lV (t.take k ++ s :: t.drop k)=false:=by
 obtain ⟨h1,h2⟩:=vQ hk
 rw [Tz h1]
 exact BM hs h2 _ _
theorem vR {t:List Nat} {c:Nat} (hc:c∈xn) (ht:c∈t):lV t=false:=by
 obtain ⟨_,h1,h2,h3⟩:=uJ c hc
 exact zS ht h1 h2 h3
def wR (r:List Int):List (List Nat):=r.map λb=>dX b.toNat
theorem CN {b:Int} (h:0<=b):nS b=b5 (dX b.toNat):=by
 obtain ⟨m,rfl⟩:∃ m:Nat,b=(m:Nat):=⟨b.toNat,by omega⟩
 exact To (Td.mp (by rw [dP,cY,SR]))
def Wd (w:List Nat):Prop:=w.length<=3 /\ ∀ c∈w,c < 128 /\ c≠32 /\ c≠124
theorem qr {m:Nat} (h:m < 25):Wd (dX m):=by
 have g:=ll h
 exact ⟨by have:=g.len; omega,λc hc=>by have:=g.lr c hc; omega⟩
theorem jU {r:List Int} (h:Ent r):∀ w∈wR r,Wd w /\ w.length<=2:=λw hw=>by
 obtain ⟨b,hb,rfl⟩:=RX.mp hw
 have:=h.lr b hb
 exact ⟨qr (by omega),(ll (show b.toNat < 25 by omega)).len⟩
structure Rw (R:List (List (List Nat))):Prop where
 Nk:R.length<=24
 short:∀ r∈R,r.length<=26
 wd:∀ r∈R,∀ w∈r,Wd w
theorem Rw.cl {R:List (List (List Nat))} (h:Rw R):Cl R:=λr hr w hw=>⟨λz=>((h.wd r hr w hw).2 32 z).2.1 rfl,λz=>((h.wd r hr w hw).2 124 z).2.2 rfl⟩
theorem vS {r:List (List Nat)} (h1:r.length<=26) (h2:∀ w∈r,Wd w):(vN r).length<=104:=by
 have k:=iH (sep:=⟨#[32]⟩) (B:=3) (ts:=r.map b5) λt ht=>by
  obtain ⟨w,hw,rfl⟩:=RX.mp ht
  rw [dC]; exact (h2 w hw).1
 rw [RJ] at k
 have e:(⟨#[32]⟩:Str).length=1:=rfl
 rw [e] at k
 unfold vN
 omega
theorem ER {r:List (List Nat)} (h1:r.length<=26) (h2:∀ w∈r,Wd w):JoinOk ⟨#[32]⟩ (r.map b5)=true:=by
 unfold JoinOk
 rw [T7 (B:=3) (λt ht=>by
  obtain ⟨w,hw,rfl⟩:=RX.mp ht
  rw [dC]; exact (h2 w hw).1) (by rw [RJ]; have e:(⟨#[32]⟩:Str).length=1:=rfl; rw [e]; omega)]
 rfl
theorem Rw.jo {R:List (List (List Nat))} (h:Rw R):JoinOk ⟨#[124]⟩ (R.map vN)=true:=by
 unfold JoinOk
 rw [T7 (B:=104) (λt ht=>by
  obtain ⟨r,hr,rfl⟩:=RX.mp ht
  exact vS (h.short r hr) (h.wd r hr)) (by rw [RJ]; have:=h.Nk; have e:(⟨#[124]⟩:Str).length=1:=rfl; rw [e]; omega)]
 rfl
theorem Rw.len {R:List (List (List Nat))} (h:Rw R) (RC:R.length<=19):(txt R).length<=2000:=by
 have k:=iH (sep:=⟨#[124]⟩) (B:=104) (ts:=R.map vN) λt ht=>by
  obtain ⟨r,hr,rfl⟩:=RX.mp ht
  exact vS (h.short r hr) (h.wd r hr)
 rw [RJ] at k
 have e:(⟨#[124]⟩:Str).length=1:=rfl
 rw [e] at k
 have e2:(txt R).length=(Txt.join ⟨#[124]⟩ (R.map vN)).length:=Sd
 omega
theorem Rw.Ho {R:List (List (List Nat))} (h:Rw R):∀ c∈txt R,c < 128:=λc hc=>by
 rcases Vx c 128 with q | q
 .exact q
 .exfalso
  refine mem_join (c:=c) (sep:=⟨#[124]⟩) (ts:=R.map vN) (show c∉[124] by simp; omega) (λt ht=>?_) hc
  obtain ⟨r,hr,rfl⟩:=RX.mp ht
  refine mem_join (show c∉[32] by simp; omega) λt ht=>?_
  obtain ⟨w,hw,rfl⟩:=RX.mp ht
  rw [cY]
  intro z
  have:=((h.wd r hr w hw).2 c z).1
  omega
theorem kS {m:Nat} (h:m < 25):cJ (dX m)=true /\ ji (dX m)=(m:Int):=by
 have k:∀ m,m < 25->(cJ (dX m) && decide (ji (dX m)=(m:Int)))=true:=by decide +kernel
 have:=k m h
 rw [RT,Sw] at this
 exact this
theorem ES {p:List (List Int)} (hp:Pl p) (hl:p.length<=12) (he:∀ r∈p,Ent r) {k:Nat} (hk:k < p.length) {way:Int} {W:List (List Nat)} (h:Im (wR p[k]) k way W):BK (txt ((p.map wR).set k W)) /\ Ft (txt ((p.map wR).set k W)):=by
 have hr:=he _ (SQ hk)
 have ng:=jU hr
 have pA:(wR p[k]).length<=25:=by unfold wR; rw [List.length_map]; exact hr.len
 have Pn:k < (p.map wR).length:=by rw [RJ]; exact hk
 have ET:W∈(p.map wR).set k W:=List.mem_set Pn W
 have Kx:(W.length<=26 /\ ∀ w∈W,Wd w)->Rw ((p.map wR).set k W):=λhW=>by
  refine ⟨by rw [Sr,RJ]; omega,λr hr=>?_,λr hr=>?_⟩
  .rcases S8 hr with q | q
   .obtain ⟨s,hs,rfl⟩:=RX.mp q
    unfold wR; rw [List.length_map]; have:=(he s hs).len; omega
   .rw [q]; exact hW.1
  .rcases S8 hr with q | q
   .obtain ⟨s,hs,rfl⟩:=RX.mp q
    exact λw hw=>(jU (he s hs) w hw).1
   .rw [q]; exact hW.2
 have bw:(W.length<=26 /\ ∀ w∈W,Wd w)->(∃ w∈W,cJ w=false)->BK (txt ((p.map wR).set k W)) /\ Ft (txt ((p.map wR).set k W)):=λhW ⟨w,hw,hb⟩=>by
  have R:=Kx hW
  have o:=zV R.cl ET hw hb
  exact ⟨vM R.Ho (R.len (by rw [Sr,RJ]; omega)) o,.inl o⟩
 have bp:(W.length<=26 /\ ∀ w∈W,Wd w)->W≠[]->uF (eG (((p.map wR).set k W).map λr=>r.map ji))=false->BK (txt ((p.map wR).set k W)) /\ Ft (txt ((p.map wR).set k W)):=λhW fV hb=>by
  have R:=Kx hW
  have hR:(p.map wR).set k W≠[]:=Us ET
  have hn:∀ r∈(p.map wR).set k W,r≠[]:=λr hr=>by
   rcases S8 hr with q | q
   .obtain ⟨s,hs,rfl⟩:=RX.mp q
    unfold wR
    simpa using (he s hs).ne
   .rw [q]; exact fV
  refine ⟨BO hR R.cl hn (by rw [Sr,RJ]; omega) (λr hr=>by have:=R.short r hr; omega) R.Ho (R.len (by rw [Sr,RJ]; omega)),.inr ?_⟩
  rw [zW hR R.cl hn]
  exact hb
 have ek:(((p.map wR).set k W).map λr=>r.map ji)[k]?=some (W.map ji):=by
  rw [Sa,Sk (by rw [RJ]; exact hk)]; rfl
 have nums:(wR p[k]).map ji=p[k]:=by
  unfold wR
  rw [Tr]
  exact (S6 λb hb=>by
   have:=hr.lr b hb
   show ji (dX b.toNat)=b
   rw [(kS (by omega)).2]; omega).trans (UP _)
 have zZ:jS ((wR p[k]).map ji):=by
  rw [nums]
  exact (lX (si hp (by omega)) (RP hk)).1
 rcases h with ⟨_,j,j1,j2,rfl⟩ | ⟨_,a,x,y,b,e,rfl⟩ | ⟨_,a,x,b,e,rfl⟩ | ⟨_,a,x,b,e,rfl⟩ | ⟨_,a,x,b,e,rfl⟩ | rfl
 .refine bp ⟨by rw [SO,SJ]; simp; omega,λw hw=>?_⟩ (by simp) (BP ek (x:=(j:Int)) ?_ (by omega))
  .rcases R0.mp hw with q | q
   .exact (ng w (Uc q)).1
   .rw [Sn.mp q]; exact qr (by omega)
  .rw [SA,RY,(kS (show j < 25 by omega)).2]
   exact RI _ RK
 .rw [e] at ng pA zZ
  refine bp ⟨by simp at pA ⊢; omega,λw hw=>(ng w (by simp at hw ⊢; grind)).1⟩ (by simp) (vP ek λz=>?_)
  rw [SA,RY,RY] at z zZ
  have h1:=(Sy.mp (TH.mp z).2.1).1 (ji x) RK
  have h2:=(Sy.mp (TH.mp zZ).2.1).1 (ji y) RK
  omega
 .rw [e] at ng pA
  refine bp ⟨by simp at pA ⊢; omega,λw hw=>(ng w (by simp at hw ⊢; grind)).1⟩ (by simp) (vP ek λz=>?_)
  rw [SA,RY,RY] at z
  have h1:=(Sy.mp (TH.mp z).2.1).1 (ji x) RK
  omega
 .rw [e] at ng pA
  have hx:=ng x (by simp)
  refine bw ⟨by simp at pA ⊢; omega,λw hw=>?_⟩ ⟨45 :: x,by simp,by unfold cJ isNum; simp [fP]⟩
  rcases R0.mp hw with q | q
  .exact (ng w (So _ q)).1
  .rcases RN.mp q with rfl | q
   .exact ⟨by simp; exact hx.2,λc hc=>by
     rcases RN.mp hc with rfl | hc
     .omega
     .exact hx.1.2 c hc⟩
   .exact (ng w (RI _ (RM _ q))).1
 .rw [e] at ng pA
  have hx:=ng x (by simp)
  have Po:x≠[]:=by
   have:x∈wR p[k]:=by rw [e]; simp
   obtain ⟨b,hb,rfl⟩:=RX.mp this
   have:=hr.lr b hb
   exact (ll (show b.toNat < 25 by omega)).ne
  refine bw ⟨by simp at pA ⊢; omega,λw hw=>?_⟩ ⟨48 :: x,by simp,by unfold cJ isNum; simp [Po]⟩
  rcases R0.mp hw with q | q
  .exact (ng w (So _ q)).1
  .rcases RN.mp q with rfl | q
   .exact ⟨by simp; exact hx.2,λc hc=>by
     rcases RN.mp hc with rfl | hc
     .omega
     .exact hx.1.2 c hc⟩
   .exact (ng w (RI _ (RM _ q))).1
 .have R:=Kx ⟨by simp,λw hw=>by simp at hw⟩
  have o:=BN R.cl ET
  exact ⟨vM R.Ho (R.len (by rw [Sr,RJ]; omega)) o,.inl o⟩
theorem Hq {n k:Nat} (h:k < n):yb n (k:Int)=some k:=by
 unfold yb
 rw [RV (by omega),RV (by omega),SR]
theorem z0 {i:Nat} {gx ge:DS->Option D} {δ:DS} {ds:List D} {k:Nat} {d:D} (h1:ae i δ=some (.list ds)) (h2:gx δ=some (.int (k:Nat))) (h3:ge δ=some d) (hk:k < ds.length):pI i gx ge δ=some (.nx (δ.set i (some (.list (ds.set k d))))):=by
 unfold pI
 rw [h3,RH,h1,RH,h2,RH]
 show (yb ds.length (k:Int)).bind _=_
 rw [Hq hk]; rfl
theorem qt {α β:Type} (enc:α->β) (l:List α) (h:0 < l.length) (m:Int):∃ a∈l,lP (l.map enc) (m % (l.length:Int))=some (enc a):=by
 have h0:=SF m (show (l.length:Int)≠0 by omega)
 have h1:=Sv m (show 0 < (l.length:Int) by omega)
 obtain ⟨k,hk⟩:∃ k:Nat,m % (l.length:Int)=(k:Nat):=⟨(m % (l.length:Int)).toNat,by omega⟩
 have Nl:k < l.length:=by omega
 refine ⟨l[k],SQ Nl,?_⟩
 rw [hk]
 exact eP (by rw [Sa,RP Nl]; rfl)
abbrev lS (r:List (List Nat)):D:=.list (r.map eS)
theorem EU {p:List (List Int)} (hl:p.length<=12) (h:∀ r∈p,Ent r):(pS p).length<=912:=by
 have k:=iH (sep:=⟨#[124]⟩) (B:=75) (ts:=p.map rS) λt ht=>by
  obtain ⟨r,hr,rfl⟩:=RX.mp ht
  exact qm (h r hr)
 rw [RJ] at k
 have e:(⟨#[124]⟩:Str).length=1:=rfl
 rw [e] at k
 unfold pS
 omega
theorem Hr {r:List Int} (hr:Ent r) {k:Nat} (hk:k < 20) {way:Int} {W:List (List Nat)} (h:Im (wR r) k way W):W.length<=26 /\ ∀ w∈W,Wd w:=by
 have ng:=jU hr
 have pA:(wR r).length<=25:=by unfold wR; rw [List.length_map]; exact hr.len
 have one:∀ {a:List (List Nat)} {x:List Nat} {b:List (List Nat)} {c:Nat},wR r=a ++ x :: b->c < 128->c≠32->c≠124->(a ++ (c :: x) :: b).length<=26 /\ ∀ w∈a ++ (c :: x) :: b,Wd w:=λ{a x b c} e h1 h2 h3=>by
  rw [e] at ng pA
  have hx:=ng x (by simp)
  refine ⟨by simp at pA ⊢; omega,λw hw=>?_⟩
  rcases R0.mp hw with q | q
  .exact (ng w (So _ q)).1
  .rcases RN.mp q with rfl | q
   .exact ⟨by simp; exact hx.2,λd hd=>by
     rcases RN.mp hd with rfl | hd
     .exact ⟨h1,h2,h3⟩
     .exact hx.1.2 d hd⟩
   .exact (ng w (RI _ (RM _ q))).1
 rcases h with ⟨_,j,j1,j2,rfl⟩ | ⟨_,a,x,y,b,e,rfl⟩ | ⟨_,a,x,b,e,rfl⟩ | ⟨_,a,x,b,e,rfl⟩ | ⟨_,a,x,b,e,rfl⟩ | rfl
 .refine ⟨by rw [SO,SJ]; simp; omega,λw hw=>?_⟩
  rcases R0.mp hw with q | q
  .exact (ng w (Uc q)).1
  .rw [Sn.mp q]; exact qr (by omega)
 .rw [e] at ng pA
  exact ⟨by simp at pA ⊢; omega,λw hw=>(ng w (by simp at hw ⊢; grind)).1⟩
 .rw [e] at ng pA
  exact ⟨by simp at pA ⊢; omega,λw hw=>(ng w (by simp at hw ⊢; grind)).1⟩
 .exact one e (by decide) (by decide) (by decide)
 .exact one e (by decide) (by decide) (by decide)
 .exact ⟨by simp,λw hw=>by simp at hw⟩
def Sb (d:D):Prop:=∃ t,d=eS t /\ BK t /\ Ft t
theorem qu {p:List (List Int)} (hp:Pl p) (hl:p.length<=12) (he:∀ r∈p,Ent r) (w:Nat) (hw:w < 10) (n:Int):c9 (eB [eG p,.str (pS p),.int (w:Nat),.int n]) Sb:=by
 rw [qh]
 obtain ⟨t,ht⟩:∃ t,t=(pS p).cps.toList:=⟨_,rfl⟩
 have Pp:PyData.str (pS p)=eS t:=by rw [ht]; rfl
 have BV:∀ c∈t,c < 128:=by rw [ht]; exact EJ he
 have RD:t.length<=912:=by
  have e:(pS p).cps.toList.length=(pS p).length:=Sd
  rw [ht,e]; exact EU hl he
 have Nm:1<=p.length:=by obtain ⟨q,rfl,_⟩:=hp.ex; simp
 have tV:Cl (p.map wR):=λr hr w hw=>by
  obtain ⟨s,hs,rfl⟩:=RX.mp hr
  exact ⟨λq=>((jU (he s hs) w hw).1.2 32 q).2.1 rfl,λq=>((jU (he s hs) w hw).1.2 124 q).2.2 rfl⟩
 have et:t=txt (p.map wR):=by
  rw [ht]
  unfold pS txt
  rw [Tr]
  congr 3
  refine S6 λr hr=>?_
  show Txt.join ⟨#[32]⟩ (r.map nS)=Txt.join ⟨#[32]⟩ ((wR r).map b5)
  unfold wR
  rw [Tr]
  congr 1
  exact S6 λb hb=>CN ((he r hr).lr b hb).1
 have Pq:lV t=true:=by
  rw [et]
  unfold lV
  rw [fD (by intro z; rw [List.map_eq_nil_iff.mp z] at Nm; exact absurd Nm (by decide)) tV,Ss]
  intro x hx
  obtain ⟨r,hr,rfl⟩:=RX.mp hx
  obtain ⟨s,hs,rfl⟩:=RX.mp hr
  unfold CM
  rw [jb (by unfold wR; simpa using (he s hs).ne) (tV _ hr),List.all_eq_true]
  intro w hw
  obtain ⟨b,hb,rfl⟩:=RX.mp hw
  have:=(he s hs).lr b hb
  exact (kS (by omega)).1
 have RE:0 < t.length:=by
  cases t with
  | nil=>exact absurd Pq (by decide +kernel)
  | cons a l=>exact Nat.succ_pos _
 rw [Pp]
 have wc:∀ (j:Int) (δ:DS),ae 2 δ=some (.int (w:Nat))->gB (g2 jq (ae 2) (gC (.int j))) δ=some (decide ((w:Int)=j)):=λj δ e=>cO (ak e rfl (zB _ _))
 have sp:∀ {s:List Nat},(∀ c∈s,c < 128)->s.length<=2000->lV s=false->Sb (eS s):=λh1 h2 h3=>⟨_,rfl,vM h1 h2 h3,.inl h3⟩
 have Nn:(" ":Str)=b5 [32]:=zN
 have Hs:("|":Str)=b5 [124]:=sk
 refine br [some (eG p),some (eS t),some (.int (w:Nat)),some (.int n),some (.list ((o7 t).map λk:Nat=>PyData.int (0 + k))),none,none] (bu (ax (EO rfl (by omega)))) ?_
 refine cH _ (wc 0 _ rfl) (λq=>?_) λq0=>?_
 .obtain ⟨u,hu,eu⟩:=qt eS [32 :: t,t ++ [32],124 :: t,t ++ [124]] (Nat.succ_pos _) n
  refine cI (eS u) (ak (ax (fw (cons_of (ak (show gC (.str " ") _=some (eS [32]) by rw [Nn]; rfl) rfl (lI (by simp; omega))) (cons_of (ak rfl (show gC (.str " ") _=some (eS [32]) by rw [Nn]; rfl) (lI (by simp; omega))) (cons_of (ak (show gC (.str "|") _=some (eS [124]) by rw [Hs]; rfl) rfl (lI (by simp; omega))) (cons_of (ak rfl (show gC (.str "|") _=some (eS [124]) by rw [Hs]; rfl) (lI (by simp; omega))) rfl)))))) (ak rfl rfl (c8 (by decide))) eu) (.mk rfl ?_)
  simp only [RN,S0,Vq] at hu
  have a1:∀ s,s=32 \/ s=124->(∀ c∈s :: t,c < 128) /\ ∀ c∈t ++ [s],c < 128:=λs hs=>⟨λc hc=>by
   rcases RN.mp hc with rfl | hc
   .omega
   .exact BV c hc,λc hc=>by
   rcases R0.mp hc with hc | hc
   .exact BV c hc
   .have:=Sn.mp hc; omega⟩
  rcases hu with rfl | rfl | rfl | rfl
  .exact sp (a1 32 (.inl rfl)).1 (by simp; omega) (o6 (.inl rfl) _)
  .exact sp (a1 32 (.inl rfl)).2 (by simp; omega) (sr (.inl rfl) _)
  .exact sp (a1 124 (.inr rfl)).1 (by simp; omega) (o6 (.inr rfl) _)
  .exact sp (a1 124 (.inr rfl)).2 (by simp; omega) (sr (.inr rfl) _)
 rw [da]
 have hand:lC (gB (g2 wz (ae 2) (gC (.int (3))))) (gB (g2 nA (dw cp (aa (ae 4) ah)) (gC (.int (0))))) [some (eG p),some (eS t),some (.int (w:Nat)),some (.int n),some (.list ((o7 t).map λk:Nat=>PyData.int (0 + k))),none,none]=some (decide (w < 3) && decide (0 < (o7 t).length)):=by
  have g1:gB (g2 wz (ae 2) (gC (.int (3)))) [some (eG p),some (eS t),some (.int (w:Nat)),some (.int n),some (.list ((o7 t).map λk:Nat=>PyData.int (0 + k))),none,none]=some (decide (w < 3)):=cO (ak rfl rfl (by show some (PyData.bool (decide ((w:Int) < 3)))=_; rw [UJ.mpr (show (w:Int) < 3↔w < 3 by omega)]))
  have Pr:gB (g2 nA (dw cp (aa (ae 4) ah)) (gC (.int (0)))) [some (eG p),some (eS t),some (.int (w:Nat)),some (.int n),some (.list ((o7 t).map λk:Nat=>PyData.int (0 + k))),none,none]=some (decide (0 < (o7 t).length)):=cO (ak (eH (cons_of rfl rfl) ((mW _).trans (by rw [RJ]))) rfl (by show some (PyData.bool (decide ((0:Int) < ((o7 t).length:Nat))))=_; rw [UJ.mpr (show (0:Int) < ((o7 t).length:Nat)↔0 < (o7 t).length by omega)]))
  unfold lC
  rw [g1,RH]
  cases decide (w < 3) with
  | true=>rw [RV rfl,Pr]; rfl
  | false=>rfl
 have cut:∀ {s:List Nat} {k c:Nat},k<=t.length->c < 128->(∀ x∈s,x∈t)->∀ x∈t.take k ++ [c] ++ s,x < 128:=λ{s k c} _ hc hs x hx=>by
  rcases R0.mp hx with hx | hx
  .rcases R0.mp hx with hx | hx
   .exact BV x (Uc hx)
   .rw [Sn.mp hx]; exact hc
  .exact BV x (hs x hx)
 refine cH _ hand (λq=>?_) λ_=>?_
 .rw [RT,Sw,Sw] at q
  have h0:=of_decide_eq_false q0
  obtain ⟨k,hk,ek⟩:=qt (λk:Nat=>PyData.int (0 + k)) (o7 t) q.2 n
  obtain ⟨kt,_⟩:=vQ hk
  obtain ⟨s,hs,es⟩:∃ s,(s=32 \/ s=124) /\ fW (.str " |") (.int ((w:Int) - 1))=some (eS [s]):=by
   have c2:(" |":Str)=b5 [32,124]:=by decide +kernel
   rw [c2]
   rcases (show w=1 \/ w=2 by omega) with rfl | rfl
   .exact ⟨32,.inl rfl,Io (t:=[32,124]) (k:=0) (by decide) (by decide)⟩
   .exact ⟨124,.inr rfl,Io (t:=[32,124]) (k:=1) (by decide) (by decide)⟩
  refine (show ∀ {x y:Option D},x=y->c9 y _->c9 x _ from λe h=>e ▸ h) (Tw (λz:Option Res=>z.bind fj) seq_assoc) ?_
  refine br [some (eG p),some (eS t),some (.int (w:Nat)),some (.int n),some (.list ((o7 t).map λk:Nat=>PyData.int (0 + k))),some (.int (k:Nat)),none] (bu (ak rfl (ak rfl (eH (cons_of rfl rfl) ((mW _).trans (by rw [RJ]))) (c8 (by omega))) (ek.trans (by rw [Int.zero_add])))) ?_
  refine cI (eS (t.take k ++ [s] ++ t.drop k)) (ak (ak (sA rfl rfl (by omega) (by omega)) (ak rfl (ak rfl rfl rfl) es) (lI (by simp; omega))) (sB rfl rfl (by omega) (by omega)) (lI (by simp; omega))) (.mk rfl ?_)
  refine sp (cut (by omega) (by omega) λx hx=>TJ hx) (by simp; omega) ?_
  rw [SN]
  exact BU hk hs
 rw [da]
 obtain ⟨c,hc,ec⟩:=uK (n / 7)
 have cs:∀ {δ:DS},ae 3 δ=some (.int n)->aJ dW 1 (aa (g2 kH (ae 3) (gC (.int (7)))) ah) δ=some (eS [c]):=λe=>call_of (cons_of (ak e rfl (dd 7 (by decide) (by decide))) rfl) rfl ec
 refine cH _ (wc 3 _ rfl) (λq=>?_) λ_=>?_
 .obtain ⟨k,hk,jZ⟩:∃ k:Nat,n % ((t.length:Int) + 1)=(k:Nat) /\ k<=t.length:=by
   have h0:=SF n (show (t.length:Int) + 1≠0 by omega)
   have h1:=Sv n (show 0 < (t.length:Int) + 1 by omega)
   exact ⟨(n % ((t.length:Int) + 1)).toNat,by omega,by omega⟩
  refine (show ∀ {x y:Option D},x=y->c9 y _->c9 x _ from λe h=>e ▸ h) (Tw (λz:Option Res=>z.bind fj) seq_assoc) ?_
  refine br [some (eG p),some (eS t),some (.int (w:Nat)),some (.int n),some (.list ((o7 t).map λk:Nat=>PyData.int (0 + k))),some (.int (k:Nat)),none] (by rw [<- hk]; exact bu (ak rfl (ak (BR rfl (by omega)) rfl (g8 _ _)) (c8 (by omega)))) ?_
  refine cI (eS (t.take k ++ [c] ++ t.drop k)) (ak (ak (sA rfl rfl jZ (by omega)) (cs rfl) (lI (by simp; omega))) (sB rfl rfl jZ (by omega)) (lI (by simp; omega))) (.mk rfl (sp (cut jZ (uJ c hc).1 λx hx=>TJ hx) (by simp; omega) (vR hc (by simp))))
 rw [da]
 refine cH _ (wc 4 _ rfl) (λq=>?_) λ_=>?_
 .obtain ⟨k,hk,jZ⟩:∃ k:Nat,n % (t.length:Int)=(k:Nat) /\ k < t.length:=by
   have h0:=SF n (show (t.length:Int)≠0 by omega)
   have h1:=Sv n (show 0 < (t.length:Int) by omega)
   exact ⟨(n % (t.length:Int)).toNat,by omega,by omega⟩
  refine (show ∀ {x y:Option D},x=y->c9 y _->c9 x _ from λe h=>e ▸ h) (Tw (λz:Option Res=>z.bind fj) seq_assoc) ?_
  refine br [some (eG p),some (eS t),some (.int (w:Nat)),some (.int n),some (.list ((o7 t).map λk:Nat=>PyData.int (0 + k))),some (.int (k:Nat)),none] (by rw [<- hk]; exact bu (ak rfl (BR rfl (by omega)) (c8 (by omega)))) ?_
  have a1:aQ (.int (k:Nat)) (.int 1)=some (.int ((k + 1:Nat):Int)):=(g8 _ _).trans (by push_cast; rfl)
  refine cI (eS (t.take k ++ [c] ++ t.drop (k + 1))) (ak (ak (sA rfl rfl (by omega) (by omega)) (cs rfl) (lI (by simp; omega))) (sB rfl (ak rfl rfl a1) (by omega) (by omega)) (lI (by simp; omega))) (.mk rfl (sp (cut (by omega) (uJ c hc).1 λx hx=>TJ hx) (by simp; omega) (vR hc (by simp))))
 rw [da]
 have rows:b4 (aR (ae 0)) [] (aw (b4 (aR (ae 0)) [] (dw pW (aa (ae 0) ah)))) [some (eG p),some (eS t),some (.int (w:Nat)),some (.int n),some (.list ((o7 t).map λk:Nat=>PyData.int (0 + k))),none,none]=some ((p.map wR).map lS):=by
  refine dO dR lS wR p rfl (by omega) λr hr=>ax ?_
  refine dO PyData.int eS (λb=>dX b.toNat) r rfl (by have:=(he r hr).len; omega) λb hb=>eH (cons_of rfl rfl) ?_
  rw [uH ((he r hr).lr b hb),CN ((he r hr).lr b hb).1]
 refine br [some (eG p),some (eS t),some (.int (w:Nat)),some (.int n),some (.list ((o7 t).map λk:Nat=>PyData.int (0 + k))),none,some (.list ((p.map wR).map lS))] (BE rows) ?_
 obtain ⟨k,hk,jZ⟩:∃ k:Nat,n / 11 % (p.length:Int)=(k:Nat) /\ k < p.length:=by
  have h0:=SF (n / 11) (show (p.length:Int)≠0 by omega)
  have h1:=Sv (n / 11) (show 0 < (p.length:Int) by omega)
  exact ⟨(n / 11 % (p.length:Int)).toNat,by omega,by omega⟩
 have hr:=he _ (SQ jZ)
 obtain ⟨W,eW,hW⟩:=qq (ws:=wR p[k]) (by unfold wR; simpa using hr.ne) (by unfold wR; rw [List.length_map]; have:=hr.len; omega) (λw hw=>by have:=(jU hr w hw).2; omega) k (by omega) (w:Int) n
 refine br [some (eG p),some (eS t),some (.int (w:Nat)),some (.int n),some (.list ((o7 t).map λk:Nat=>PyData.int (0 + k))),some (.int (k:Nat)),some (.list ((p.map wR).map lS))] (by rw [<- hk]; exact bu (ak (ak rfl rfl (dd 11 (by decide) (by decide))) (eH (cons_of rfl rfl) ((mW _).trans (by rw [RJ,RJ]))) (c8 (by omega)))) ?_
 have ix:fW (.list ((p.map wR).map lS)) (.int (k:Nat))=some (lS (wR p[k])):=eP (by rw [Sa,Sa,RP jZ]; rfl)
 refine br [some (eG p),some (eS t),some (.int (w:Nat)),some (.int n),some (.list ((o7 t).map λk:Nat=>PyData.int (0 + k))),some (.int (k:Nat)),some (.list (((p.map wR).set k W).map lS))] ((z0 rfl rfl (ax (iI (cons_of (ak rfl rfl ix) (cons_of rfl (cons_of rfl (cons_of rfl rfl)))) rfl eW)) (by rw [RJ,RJ]; exact jZ)).trans (by rw [List.map_set]; rfl)) ?_
 have Np:=Hr hr (by omega) hW
 obtain ⟨hf,hb⟩:=ES hp hl he jZ hW
 have R:Rw ((p.map wR).set k W):=by
  refine ⟨by rw [Sr,RJ]; omega,λr hr=>?_,λr hr=>?_⟩
  .rcases S8 hr with q | q
   .obtain ⟨s,hs,rfl⟩:=RX.mp q
    unfold wR; rw [List.length_map]; have:=(he s hs).len; omega
   .rw [q]; exact Np.1
  .rcases S8 hr with q | q
   .obtain ⟨s,hs,rfl⟩:=RX.mp q
    exact λw hw=>(jU (he s hs) w hw).1
   .rw [q]; exact Np.2
 refine ret (eS (txt ((p.map wR).set k W))) (kn (ns:=((p.map wR).set k W).map vN) (show gC (.str "|") _=some (.str ⟨#[124]⟩) by rw [sk]; rfl) (ax (dO lS PyData.str vN ((p.map wR).set k W) rfl (by have:=R.Nk; omega) λr hr=>kn (ns:=r.map b5) (show gC (.str " ") _=some (.str ⟨#[32]⟩) by rw [zN]; rfl) (show ae 0 _=some (.list ((r.map b5).map .str)) by rw [Tr]; rfl) (ER (R.short r hr) (R.wd r hr)))) R.jo) (.mk rfl ⟨_,rfl,hf,hb⟩)
theorem su:∀ (rows:List (List Int)) (T:List Int),sf T (rows.map dR)=true->∀ (i:Nat) (r s:List Int),rows[i]?=some r->rows[i + 1]?=some s->∀ x∈s,x∈r \/ x - 1∈r
 | [],_,_,i,r,s,e,_=>by simp at e
 | u :: rows,T,h,i,r,s,e1,e2=>by
   rw [RY,sf,RT] at h
   have e3:km (dR u)=some u:=d4 u
   rw [e3] at h
   cases i with
   | zero=>
     rw [T1] at e1
     cases e1
     rw [SY] at e2
     cases rows with
     | nil=>simp at e2
     | cons v rows=>
       rw [T1] at e2
       cases e2
       have h2:=h.2
       rw [RY,sf,RT] at h2
       obtain ⟨v',f1,f2,_,_,iz⟩:=qk h2.1
       have f3:km (dR s)=some s:=d4 s
       rw [f3] at f1; cases f1
       exact λx hx=>ja.mp (iz x hx)
   | succ i=>
     rw [SY] at e1 e2
     exact su rows _ h.2 i r s e1 e2
def vT:List Int->Bool
 | []=>true
 | a :: l=>l.all (λb=>decide (a < b)) && vT l
theorem sv:∀ {l:List Int},jS l->vT l=true
 | [],_=>rfl
 | a :: l,h=>by
   obtain ⟨h1,h2⟩:=Sy.mp h
   rw [vT,sv h2,Bool.and_true,Ss]
   exact λb hb=>Sl (h1 b hb)
def EV (rows:List (List Int)):Bool:=decide (24 < rows.length) || (List.range rows.length).any λi=> !vT (rows.getD i []) || (rows.getD i []).any (λx=>decide ((i:Int) < x)) || (rows.getD (i + 1) []).any λx=> !decide (x∈rows.getD i []) && !decide (x - 1∈rows.getD i [])
theorem BW {rows:List (List Int)} (h:EV rows=true):uF (eG rows)=false:=by
 cases q:uF (eG rows) with
 | false=>rfl
 | true=>
   exfalso
   have hq:(decide (1<=(rows.map dR).length /\ (rows.map dR).length<=24) && sf [0] (rows.map dR))=true:=q
   rw [RT,Sw,RJ] at hq
   unfold EV at h
   rw [Ti,Sw,TY] at h
   rcases h with h | ⟨i,hi,h⟩
   .omega
   .have hi:=TX.mp hi
    have e:rows[i]?=some rows[i]:=RP hi
    have eg:rows.getD i []=rows[i]:=by rw [R6,e]; rfl
    rw [eg,Ti,Ti,TY,TY] at h
    obtain ⟨h1,h2⟩:=lX q e
    rcases h with (h | ⟨x,hx,h⟩) | ⟨x,hx,h⟩
    .rw [sv h1] at h; cases h
    .have:=h2 x hx
     have:=SG h
     omega
    .by_cases J2:i + 1 < rows.length
     .have e2:rows[i + 1]?=some rows[i + 1]:=RP J2
      rw [R6,e2] at hx
      have:=su rows [0] hq.2 i _ _ e e2 x hx
      rw [RT,SS,SS,T2,T2] at h
      rcases this with z | z
      .exact h.1 z
      .exact h.2 z
     .rw [R6,T9 (by omega)] at hx
      cases hx
def EW (t:List Nat):Bool:=t.all (λc=>decide (c < 128)) && decide (t.length<=2000) && (!lV t || (decide ((aA 124 t).length<=100) && (aA 124 t).all (λq=>decide ((aA 32 q).length < 64)) && EV (gf t)))
theorem EX {t:List Nat} (h:EW t=true):BK t /\ Ft t:=by
 unfold EW at h
 simp only [RT,Ss,Sf,Ti,SS] at h
 obtain ⟨⟨h1,h2⟩,h3⟩:=h
 rcases h3 with h3 | ⟨⟨h3,h4⟩,h5⟩
 .exact ⟨vM h1 h2 h3,.inl h3⟩
 .exact ⟨⟨h1,h2,λ_=>h3,λ_=>h4⟩,.inr (BW h5)⟩
def BX:List Str:=[""," ","|","1","0 1","0|2","0|1 0","0|0 0","0||0","0|","|0","0|0 1 2","0|1|0","0|0|2","00"]
def EY:List Str:=["0|01","0| 1","0|1 ","0 |1","+0","-0","0|1|1 2 3","0.0","0,1","(0,)","zero","0|0|0 1|3"]
def Ky:List Str:=[("0|":Str) ++ zv "9" 40,Txt.join "|" (List.replicate 25 "0"),"0|0  1"]
def BY:List Str:=BX ++ EY ++ Ky
theorem BZ:(BY.all λs=>EW s.cps.toList)=true:=by decide +kernel
theorem xo (n:Int):c9 (gJ [.int n]) Sb:=by
 rw [xi]
 have DL:∀ (l:List Str),(l.map PyData.str).length=l.length:=λl=>RJ ..
 refine br [some (.int n),some (.list (BX.map .str))] rfl ?_
 refine br [some (.int n),some (.list ((BX ++ EY).map .str))] rfl ?_
 have ej:fX (gC (.str "|")) (aw (b4 (ez (aa (gC (.int (25))) ah)) [] (gC (.str "0")))) [some (.int n),some (.list ((BX ++ EY).map .str))]=some (.str (Txt.join "|" (List.replicate 25 "0"))):=by
  refine kn (ns:=List.replicate 25 "0") rfl (ax ((dO (λk:Nat=>PyData.int (0 + k)) PyData.str (λ_=>("0":Str)) (List.range 25) (i9 (n:=25) (cons_of rfl rfl) (by decide)) (by decide) λk _=>rfl).trans rfl)) (by decide +kernel)
 refine br [some (.int n),some (.list (BY.map .str))] (bu (ax ((fk rfl (ax (fw (cons_of (ak rfl (ak rfl rfl rfl) rfl) (cons_of ej (cons_of rfl rfl))))) (by decide)).trans rfl))) ?_
 obtain ⟨u,hu,eu⟩:=qt PyData.str BY (by decide) n
 have Pt:BY.length=30:=by decide
 rw [Pt] at eu
 refine ret (.str u) (ak rfl (ak rfl rfl (c8 (by decide))) eu) (.mk rfl ⟨u.cps.toList,rfl,EX (Ss.mp BZ u hu)⟩)
theorem EZ (p:List (List Int)):PyData.eqv (eG p) (eG p)=true:=by
 have h:∀ l:List (List Int),PyData.eqvAll (l.map dR) (l.map dR)=true:=λl=>by
  induction l with
  | nil=>rfl
  | cons r l ih=>
    rw [RY,PyData.eqvAll,ih,Bool.and_true]
    show PyData.eqv (.tuple (r.map .int)) (.tuple (r.map .int))=true
    rw [PyData.eqv,iM]
    exact Sl rfl
 show PyData.eqv (.tuple (p.map dR)) (.tuple (p.map dR))=true
 rw [PyData.eqv,h]
theorem Ht {p:List (List Int)} (h:Tame (eG p)):Fd (eG p) (eG p)=some (.bool false):=by
 have s:=h.te.sh (by decide)
 exact (um (uA s s)).trans (by rw [EZ]; rfl)
theorem z5 (ns:List Int) (h:ns.length<=63):oX [.list (ns.map .int)]=some (.bool true):=by
 rw [Ha]
 refine cW ?_
 obtain ⟨x,hx⟩:∃ x,x=ns.getD 0 0:=⟨_,rfl⟩
 obtain ⟨y,hy⟩:∃ y,y=ns.getD 1 0:=⟨_,rfl⟩
 have v0:ck [.list (ns.map .int),.int 0]=some (.int x):=(m6 ns 0).trans (by rw [hx])
 have v1:ck [.list (ns.map .int),.int 1]=some (.int y):=(m6 ns 1).trans (by rw [hy])
 have Ih:gO (.int 10) (.int 18)=some (.int (10 ^ 18)):=zy (k:=18) (by decide) (by decide)
 have Pu:gO (.int 10) (.int 30)=some (.int (10 ^ 30)):=zy (k:=30) (by decide) (by decide)
 obtain ⟨k,hk⟩:∃ k:Nat,(1:Int) + y % 12=(k:Nat) /\ 1<=k /\ k<=12:=⟨(1 + y % 12).toNat,by omega,by omega,by omega⟩
 obtain ⟨_,ep,p,rfl,hp,gA,xB⟩:=uy x k hk.2.1 (by omega)
 have hl:p.length<=12:=by omega
 have he:=EK hp (by omega) xB
 refine br [some (.list (ns.map .int)),some (eG p),none,none,none] (bu (call_of (cons_of (call_of (cons_of rfl (cons_of rfl rfl)) rfl v0) (cons_of (ak rfl (ak (call_of (cons_of rfl (cons_of rfl rfl)) rfl v1) rfl (c8 (by decide))) ((g8 _ _).trans (by rw [hk.1]))) rfl)) rfl ep)) ?_
 refine br [some (.list (ns.map .int)),some (eG p),some (.str (pS p)),none,none] (bu (call_of (cons_of rfl rfl) rfl (nX (by omega) he))) ?_
 obtain ⟨m,em,hm,_⟩:=zA PyData.int ns (some 1) (some 13)
 have es:aR (aw (ky eJ (aw (gF (ae 0) (bN (gC (.int (1)))) (bN (gC (.int (13)))))) (aw (bH (aa (aJ ck 2 (aa (ae 0) (aa (gC (.int (1))) ah))) ah))))) [some (.list (ns.map .int)),some (eG p),some (.str (pS p)),none,none]=some ((m ++ [y]).map .int):=by
  refine m9 (ax ((fk (ax (l:=m.map .int) ?_) (ax (fw (cons_of (call_of (cons_of rfl (cons_of rfl rfl)) rfl v1) rfl))) (by rw [RJ]; simp; omega)).trans (by rw [SA]; rfl)))
  show some (cutD (ns.map .int) (some 1) (some 13))=_
  rw [em]
 refine BD PyData.int (m ++ [y]) (λ_ δ=>∃ a b:Option D,δ=[some (.list (ns.map .int)),some (eG p),some (.str (pS p)),a,b]) es ⟨none,none,rfl⟩ ?_ ?_
 .rintro i c δ _ ⟨a,b,rfl⟩
  obtain ⟨_,e1,l1,rfl,Fl,_⟩:=lj c 1000003 2 (by decide) (by decide)
  obtain ⟨u,v,e2⟩:∃ u v:Int,fJ (dv (gB (iw wz wz (g1 tO (g2 gO (gC (.int (10))) (gC (.int (18))))) (ae 3) (g2 gO (gC (.int (10))) (gC (.int (18))))))) (bA 4 (aw (bH (aa (g2 cT (g2 kH (ae 3) (gC (.int (2)))) (gC (.int (10)))) (aa (g2 cT (g2 kH (ae 3) (gC (.int (20)))) (g2 gO (gC (.int (10))) (gC (.int (30))))) ah))))) ba [some (.list (ns.map .int)),some (eG p),some (.str (pS p)),some (.int c),some (.list (l1.map .int))]=some (.nx [some (.list (ns.map .int)),some (eG p),some (.str (pS p)),some (.int c),some (.list [.int u,.int v])]):=by
   have hc:dv (gB (iw wz wz (g1 tO (g2 gO (gC (.int (10))) (gC (.int (18))))) (ae 3) (g2 gO (gC (.int (10))) (gC (.int (18)))))) [some (.list (ns.map .int)),some (eG p),some (.str (pS p)),some (.int c),some (.list (l1.map .int))]=some (!(decide (-10 ^ 18 < c) && decide (c < 10 ^ 18))):=by
    refine cu (cO ?_)
    unfold iw
    rw [show g1 tO (g2 gO (gC (.int (10))) (gC (.int (18)))) [some (.list (ns.map .int)),some (eG p),some (.str (pS p)),some (.int c),some (.list (l1.map .int))]=some (.int (-10 ^ 18)) from by unfold g1; rw [show g2 gO (gC (.int (10))) (gC (.int (18))) [some (.list (ns.map .int)),some (eG p),some (.str (pS p)),some (.int c),some (.list (l1.map .int))]=some (.int (10 ^ 18)) from ak rfl rfl Ih]; rfl]
    show ((match PyData.bool (decide (-10 ^ 18 < c)) with | .bool true=>_ | .bool false=>_ | _=>_):Option D)=_
    cases decide (-10 ^ 18 < c) with
    | false=>rfl
    | true=>
      show (g2 gO (gC (.int (10))) (gC (.int (18))) _).bind _=_
      rw [show g2 gO (gC (.int (10))) (gC (.int (18))) [some (.list (ns.map .int)),some (eG p),some (.str (pS p)),some (.int c),some (.list (l1.map .int))]=some (.int (10 ^ 18)) from ak rfl rfl Ih]
      rfl
   cases q:(!(decide (-10 ^ 18 < c) && decide (c < 10 ^ 18))) with
   | true=>
     rw [q] at hc
     exact ⟨_,_,js true hc (λ_=>bu (ax (fw (cons_of (ak (ak rfl rfl (dd 2 (by decide) (by decide))) rfl (c8 (by decide))) (cons_of (ak (ak rfl rfl (dd 20 (by decide) (by decide))) Pu (c8 (by decide))) rfl))))) λz=>nomatch z⟩
   | false=>
     rw [q] at hc
     match l1,Fl with
     | [u,v],_=>exact ⟨u,v,vG hc⟩
  obtain ⟨w,hw,Pw⟩:∃ w:Nat,u % 10=(w:Nat) /\ w < 10:=⟨(u % 10).toNat,by omega,by omega⟩
  obtain ⟨_,e3,t1,rfl,Px,Py⟩:=qu hp hl he w Pw v
  obtain ⟨_,e4,t2,rfl,Pz,Ko⟩:=xo v
  have hn:=Ht (o3 (by omega) xB)
  refine ⟨_,[some (.list (ns.map .int)),some (eG p),some (.str (pS p)),some (.int c),some (.list [.int u,.int v])],rfl,?_,_,_,rfl⟩
  refine dU [some (.list (ns.map .int)),some (eG p),some (.str (pS p)),some (.int c),some (.list (l1.map .int))] (bu (ax (iI (cons_of rfl (cons_of rfl (cons_of rfl rfl))) rfl e1))) ?_
  refine dU _ e2 ?_
  refine dU [some (.list (ns.map .int)),some (eG p),some (.str (pS p)),some (.int c),some (.list [.int u,.int v])] (vG (cu (x:=true) (cX (call_of (cons_of (call_of (cons_of rfl (cons_of rfl (cons_of (ak (ak rfl rfl Km) rfl ((c8 (by decide)).trans (by rw [hw]))) (cons_of (ak rfl rfl G8) rfl)))) rfl e3) rfl) rfl (o4 Px Py))))) ?_
  exact vG (r6 (cu (x:=true) (cX (call_of (cons_of (call_of (cons_of (ak rfl rfl G8) rfl) rfl e4) rfl) rfl (o4 Pz Ko)))) (cO (ak (call_of (cons_of rfl rfl) rfl (sm hp (by omega) he)) rfl hn)))
 .rintro δ' ⟨a,b,rfl⟩
  exact ret (.bool true) rfl (.mk rfl rfl)
abbrev eM:Stmt:=top 19
theorem hJ:aN ["thing","there","place"] ["thing"] (ai eM):=⟨rfl,rfl,rfl,by decide +kernel,rfl,by decide +kernel,by decide +kernel⟩
abbrev fe:Stmt:=top 20
theorem xp:aN ["place"] ["place"] (ai fe):=⟨rfl,rfl,rfl,by decide +kernel,rfl,by decide +kernel,by decide +kernel⟩
abbrev dk:Stmt:=top 21
theorem sx:aN ["thing","there"] ["thing","there"] (ai dk):=⟨rfl,rfl,rfl,by decide +kernel,rfl,by decide +kernel,by decide +kernel⟩
abbrev dY:Stmt:=top 22
theorem sy:aN ["thing"] ["thing"] (ai dY):=⟨rfl,rfl,rfl,by decide +kernel,rfl,by decide +kernel,by decide +kernel⟩
abbrev bS:Stmt:=top 26
theorem fA:aN ["text","plan"] ["text"] (ai bS):=⟨rfl,rfl,rfl,by decide +kernel,rfl,by decide +kernel,by decide +kernel⟩
abbrev bB:Stmt:=top 27
theorem jt:aN ["text"] ["text"] (ai bB):=⟨rfl,rfl,rfl,by decide +kernel,rfl,by decide +kernel,by decide +kernel⟩
abbrev bT:Stmt:=top 28
theorem iN:aN ["word"] ["word"] (ai bT):=⟨rfl,rfl,rfl,by decide +kernel,rfl,by decide +kernel,by decide +kernel⟩
abbrev cC:Stmt:=top 29
theorem qv:aN ["word"] ["word"] (ai cC):=⟨rfl,rfl,rfl,by decide +kernel,rfl,by decide +kernel,by decide +kernel⟩
abbrev dZ:Stmt:=top 31
theorem sC:aN ["_law_script","_law_k"] ["_law_script","_law_k"] (ai dZ):=⟨rfl,rfl,rfl,by decide +kernel,rfl,by decide +kernel,by decide +kernel⟩
abbrev cK:Stmt:=top 32
theorem eV:aN ["_law_cell_here","_law_base","_law_many","_law_row","_law_k"] ["_law_cell_here","_law_base","_law_many"] (ai cK):=⟨rfl,rfl,rfl,by decide +kernel,rfl,by decide +kernel,by decide +kernel⟩
abbrev dn:Stmt:=top 33
theorem fB:aN ["_law_cell_here","_law_base","_law_many","_law_row","_law_k","_law_number"] ["_law_cell_here","_law_base","_law_many"] (ai dn):=⟨rfl,rfl,rfl,by decide +kernel,rfl,by decide +kernel,by decide +kernel⟩
abbrev cM:Stmt:=top 34
theorem bj:aN ["_law_cell_here","_law_most_here","_law_rest","_law_many","_law_digits_here","_law_rows","_law_come","_law_at","_law_row"] ["_law_cell_here","_law_most_here"] (ai cM):=⟨rfl,rfl,rfl,by decide +kernel,rfl,by decide +kernel,by decide +kernel⟩
abbrev dq:Stmt:=top 36
theorem dr:aN ["_law_e","_law_named","_law_words"] ["_law_e"] (ai dq):=⟨rfl,rfl,rfl,by decide +kernel,rfl,by decide +kernel,by decide +kernel⟩
abbrev bU:Stmt:=top 37
theorem nh:aN ["_law_plan_here"] ["_law_plan_here"] (ai bU):=⟨rfl,rfl,rfl,by decide +kernel,rfl,by decide +kernel,by decide +kernel⟩
abbrev cm:Stmt:=top 38
theorem iO:aN ["_law_text","_law_e"] ["_law_text"] (ai cm):=⟨rfl,rfl,rfl,by decide +kernel,rfl,by decide +kernel,by decide +kernel⟩
abbrev d3:Stmt:=top 39
theorem lp:aN ["_law_number","_law_signs"] ["_law_number"] (ai d3):=⟨rfl,rfl,rfl,by decide +kernel,rfl,by decide +kernel,by decide +kernel⟩
abbrev bz:Stmt:=top 40
theorem eC:aN ["_law_row","_law_draws","_law_way","_law_number","_law_at"] ["_law_row","_law_draws","_law_way","_law_number"] (ai bz):=⟨rfl,rfl,rfl,by decide +kernel,rfl,by decide +kernel,by decide +kernel⟩
abbrev bC:Stmt:=top 41
theorem cn:aN ["_law_plan_here","_law_text","_law_way","_law_number","_law_some","_law_at","_law_rows"] ["_law_plan_here","_law_text","_law_way","_law_number"] (ai bC):=⟨rfl,rfl,rfl,by decide +kernel,rfl,by decide +kernel,by decide +kernel⟩
abbrev d7:Stmt:=top 42
theorem hV:aN ["_law_number","_law_odd_here"] ["_law_number"] (ai d7):=⟨rfl,rfl,rfl,by decide +kernel,rfl,by decide +kernel,by decide +kernel⟩
abbrev iP:Stmt:=top 43
theorem kT:aN ["_law_script","_law_plan_here","_law_text","_law_cell_here","_law_number"] ["_law_script"] (ai iP):=⟨rfl,rfl,rfl,by decide +kernel,rfl,by decide +kernel,by decide +kernel⟩
section
variable {P:Program} {w:World} {K:PySem.W.Frag} {mg:Str->Option Value} {base:Heap}
theorem sD (F:Df K mg "is_whole" dY ["thing"]) (B:Bs mg):Dn P w K mg base 1 "is_whole" ["thing"] (gj K 1 de):=
 eA [] jN F sy λf b6 A outer s H E hr=>(az (aW (yw (pH "int" B.isinstance (af (pv 0)) (j8 rfl B.int pB (v:=.ty "int") rfl)) (sY (DQ (PE.sh (pH "bool" B.isinstance (af (pv 0)) (j8 rfl B.bool AN (v:=.ty "bool") rfl))))))))
theorem sE (F:Df K mg "is_place" dk ["thing","there"]) (B:Bs mg) (jV:Dn P w K mg base 1 "is_whole" ["thing"] (gj K 1 de)):Dn P w K mg base 2 "is_place" ["thing","there"] (gj K 2 bL):=
 eA [] jO F sx λf b6 A outer s H E hr=>(ar (cB (PW.pt (kI (cV (cy (PE.sh (pH "tuple" B.isinstance (af (pv 0)) (j8 rfl B.tuple fH (v:=.ty "tuple") rfl))))) (pw_or1 (bc (fi hr) imp_eq (PE.sh (aS aU bJ rfl B.len cw (au (af (pv 0)) aB))) (PE.sh (aj ao)) (bq _))))) (az (aW (jn jk))) bE)
  (ar (cB (cV (cy (PE.sh (aS (oQ rfl) vj rfl B.all yX (au (PE.sh (PE.nE (PE.wX (c7 (ai dk) ["thing","there"] [1] ["bad","there"] ["bad"] jH (PI.c (dz (aI (pv 0)))) (λ_ _ _ _ _ _=>(bb (bG (i:=0) (show (["bad","there"]:List Str).Nodup from by decide +kernel) rfl (Or.inl rfl)))) (λ_ _ _ _ _ _=>dN) (λ_ _ _ _ _ _=>(yw (bI jV hr (by decide) (ag (aI (pv 0)) aq)) (sY (jA DY DZ (af (pv 0)) (af (pv 1)) (by with_unfolding_all rfl))))))))) aB))))) (az (aW (jn jk))) bE)
  (az (aW (jA (fi hr) imp_eq (PE.sh (PE.nE (mh kc rl rfl B.list u5 (au (af (pv 0)) aB)))) (PE.sh (PE.nE (jE B.sorted B.set (af (pv 0))))) (bq _))))))
theorem xq (F:Df K mg "led_to" fe ["place"]) (B:Bs mg):Dn P w K mg base 1 "led_to" ["place"] (xy K 1 df):=
 lR [] mX F xp λf b6 A outer s H E hr=>(az (gP (jE B.sorted B.set (PE.sh (PE.nE (cS bP bQ (PE.sh (PE.nE (mh kc rl rfl B.list u5 (au (af (pv 0)) aB)))) (PE.sh (PE.nE (PE.wX (c7 (ai fe) ["place"] [] ["bad"] ["bad"] jH (PI.c (dz (aI (pv 0)))) (λ_ _ _ _ _ _=>(bb (bG (i:=0) (show (["bad"]:List Str).Nodup from by decide +kernel) rfl (Or.inl rfl)))) (λ_ _ _ _ _ _=>dN) (λ_ _ _ _ _ _=>(ay aM aD (af (pv 0)) (PE.sh (aj ao))))))))))))))
theorem uL (F:Df K mg "is_plan" eM ["thing"]) (B:Bs mg) (gq:Cn mg "MOST_PLACES" (.int (24))) (jW:Dn P w K mg base 2 "is_place" ["thing","there"] (gj K 2 bL)) (ni:Dn P w K mg base 1 "led_to" ["place"] (xy K 1 df)):Dn P w K mg base 3 "is_plan" ["thing"] (gj K 1 d6):=
 eA [] kO F hJ λf b6 A outer s H E hr=>(ar (cB (PW.pt (kI (cV (cy (PE.sh (pH "tuple" B.isinstance (af (pv 0)) (j8 rfl B.tuple fH (v:=.ty "tuple") rfl))))) (pw_or1 (cV (oG B8 c5 B8 c5 (PE.sh (aj ao)) (PE.sh (aS aU bJ rfl B.len cw (au (af (pv 0)) aB))) (PE.sh (aj (ra gq)))))))) (az (aW (jn jk))) bE)
  (ar (aT (aP (i:=1) hJ.nd rfl (Or.inl rfl) (PE.nE (bY (ag (aj ao) aq)))))
  (ar (pK Up rfl (dz (aI (pv 0))) (bb (bG (i:=2) hJ.nd rfl (Or.inl rfl)))
   (ar (cB (cV (cy (PE.sh (bI jW hr (by decide) (ag (aI (pv 2)) (ag (aI (pv 1)) aq)))))) (az (aW (jn jk))) bE)
  (az (aT (aP (i:=1) hJ.nd rfl (Or.inl rfl) (PE.nE (iu ni hr (by decide) (ag (aI (pv 2)) aq))))))))
  (az (aW (jn jk))))))
theorem qw (F:Df K mg "is_number" cC ["word"]) (B:Bs mg) (kU:Cn mg "FIGURES" (.str "0123456789")):Dn P w K mg base 1 "is_number" ["word"] (gj K 1 bR):=
 eA [] iJ F qv λf b6 A outer s H E hr=>(ar (cB (PW.pt (kI (bc (fi hr) imp_eq (af (pv 0)) (PE.sh (be aZ)) (bq _)) (pw_or1 (cV (cy (PE.sh (aS (oQ rfl) vj rfl B.all yX (au (PE.sh (PE.nE (PE.wX (c7 (ai cC) ["word"] [] ["sign"] ["sign"] jH (PI.c (y0 (aI (pv 0)))) (λ_ _ _ _ _ _=>(bb (bG (i:=0) (show (["sign"]:List Str).Nodup from by decide +kernel) rfl (Or.inl rfl)))) (λ_ _ _ _ _ _=>dN) (λ_ _ _ _ _ _=>(jA oi vo (af (pv 0)) (PE.sh (be (ra kU))) (by with_unfolding_all rfl))))))) aB)))))))) (az (aW (jn jk))) bE)
  (az (aW (Gq (jA (fi hr) imp_eq (af (pv 0)) (PE.sh (be aZ)) (bq _)) (sY (jA (yo hr) yp (PE.sh (c6 (af (pv 0)) (PE.sh (aj ao)))) (PE.sh (be aZ)) (bq _)))))))
theorem lJ (F:Df K mg "read_number" bT ["word"]) (B:Bs mg) (cz:Cn mg "MOST_FIGURES" (.int (2))) (dJ:∃ C tl,Fo K mg "NoText" C VE tl "ValueError.__new__") (d8:Dn P w K mg base 1 "is_number" ["word"] (gj K 1 bR)):Bp P w K mg base 2 "read_number" ["word"] (vv K mg 1 cj):=by
 obtain ⟨_,_,dJ⟩:=dJ; exact p8 [] eT F iN λf b6 A outer s H E hr=>(ar (cB (PW.pt (kI (cV (cy (PE.sh (bI d8 hr (by decide) (ag (aI (pv 0)) aq))))) (pw_or1 (bc j9 c5 (PE.sh (aS aU bJ rfl B.len cw (au (af (pv 0)) aB))) (PE.sh (aj (ra cz))) (bq _))))) (az (rR dJ Tx (by decide) Tx aZ)) bE)
  (az (aW (cP oR rL rfl B.int pB (au (af (pv 0)) aB)))))
theorem nj (F:Df K mg "read_number" bT ["word"]) (B:Bs mg) (cz:Cn mg "MOST_FIGURES" (.int (2))) (d8:Dn P w K mg base 1 "is_number" ["word"] (gj K 1 bR)):Dn P w K mg base 2 "read_number" ["word"] (gj K 1 cQ):=
 eA [] gm F iN λf b6 A outer s H E hr=>(ar (cB (PW.pt (kI (cV (cy (PE.sh (bI d8 hr (by decide) (ag (aI (pv 0)) aq))))) (pw_or1 (bc j9 c5 (PE.sh (aS aU bJ rfl B.len cw (au (af (pv 0)) aB))) (PE.sh (aj (ra cz))) (bq _))))) (az rm) bE)
  (az (aW (cP oR rL rfl B.int pB (au (af (pv 0)) aB)))))
theorem nk (F:Df K mg "read_place" bB ["text"]) (B:Bs mg) (fR:Bp P w K mg base 2 "read_number" ["word"] (vv K mg 1 cj)):Bp P w K mg base 3 "read_place" ["text"] (vv K mg 1 cc):=by
 exact p8 [] g0 F jt λf b6 A outer s H E hr=>(az (BA (pe (vz (ai bB) [] ["word"] B.tuple (dz (PE.nE (kh (af (pv 0)) (PE.sh (be aZ))))) (λ_ _ _ _ _ _=>(mM fR hr (by decide) zq (ag (aI (pv 0)) aq)))))))
theorem nY (F:Df K mg "read_place" bB ["text"]) (B:Bs mg) (gu:Dn P w K mg base 2 "read_number" ["word"] (gj K 1 cQ)):Dn P w K mg base 3 "read_place" ["text"] (gj K 1 dA):=
 eA [] g5 F jt λf b6 A outer s H E hr=>(az (aW (cP dF gE rfl B.tuple fH (au (PE.sh (PE.nE (PE.wX (c7 (ai bB) ["text"] [] ["word"] ["word"] jH (PI.c (dz (PE.nE (kh (af (pv 0)) (PE.sh (be aZ)))))) (λ_ _ _ _ _ _=>(bb (bG (i:=0) (show (["word"]:List Str).Nodup from by decide +kernel) rfl (Or.inl rfl)))) (λ_ _ _ _ _ _=>dN) (λ_ _ _ _ _ _=>(bI gu hr (by decide) (ag (aI (pv 0)) aq))))))) aB))))
theorem nZ (F:Df K mg "read_plan" bS ["text"]) (B:Bs mg) (dJ:∃ C tl,Fo K mg "NoText" C VE tl "ValueError.__new__") (fE:Dn P w K mg base 3 "is_plan" ["thing"] (gj K 1 d6)) (gv:Bp P w K mg base 3 "read_place" ["text"] (vv K mg 1 cc)):Bp P w K mg base 4 "read_plan" ["text"] (vv K mg 1 dh):=by
 obtain ⟨_,_,dJ⟩:=dJ; exact p8 [] e9 F fA λf b6 A outer s H E hr=>(ar (Bz (aP (i:=1) fA.nd rfl (Or.inl rfl) (vz (ai bS) [] ["part"] B.tuple (dz (PE.nE (kh (af (pv 0)) (PE.sh (be aZ))))) (λ_ _ _ _ _ _=>(mM gv hr (by decide) zq (ag (aI (pv 0)) aq))))))
  (ar (cB (cV (cy (PE.sh (bI fE hr (by decide) (ag (aI (pv 1)) aq))))) (az (rR dJ Tx (by decide) Tx aZ)) bE)
  (az (aW (aI (pv 1))))))
theorem qy (F:Df K mg "read_plan" bS ["text"]) (B:Bs mg) (fE:Dn P w K mg base 3 "is_plan" ["thing"] (gj K 1 d6)) (hZ:Dn P w K mg base 3 "read_place" ["text"] (gj K 1 dA)):Dn P w K mg base 4 "read_plan" ["text"] (gj K 1 fb):=
 eA [] iK F fA λf b6 A outer s H E hr=>(ar (aT (aP (i:=1) fA.nd rfl (Or.inl rfl) (cP dF gE rfl B.tuple fH (au (PE.sh (PE.nE (PE.wX (c7 (ai bS) ["text","plan"] [] ["part"] ["part"] jH (PI.c (dz (PE.nE (kh (af (pv 0)) (PE.sh (be aZ)))))) (λ_ _ _ _ _ _=>(bb (bG (i:=0) (show (["part"]:List Str).Nodup from by decide +kernel) rfl (Or.inl rfl)))) (λ_ _ _ _ _ _=>dN) (λ_ _ _ _ _ _=>(bI hZ hr (by decide) (ag (aI (pv 0)) aq))))))) aB))))
  (ar (cB (cV (cy (PE.sh (bI fE hr (by decide) (ag (aI (pv 1)) aq))))) (az rm) bE)
  (az (aW (aI (pv 1))))))
theorem sF (F:Df K mg "_law_cell" dZ ["_law_script","_law_k"]) (B:Bs mg):Dn P w K mg base 1 "_law_cell" ["_law_script","_law_k"] (gj K 2 ck):=
 eA [] jP F sC λf b6 A outer s H E hr=>(ar (cB (bc qR c5 (af (pv 1)) (PE.sh (aS aU bJ rfl B.len cw (au (af (pv 0)) aB))) (bq _)) (az (aW (c6 (af (pv 0)) (af (pv 1))))) bE)
  (az (aW (aj ao))))
theorem n0 (F:Df K mg "_law_digits" cK ["_law_cell_here","_law_base","_law_many"]) (B:Bs mg):Dn P w K mg base 1 "_law_digits" ["_law_cell_here","_law_base","_law_many"] (xy K 3 dB):=
 lR [3] g6 F eV λf b6 A outer s H E hr=>(ar (lQ (aP (i:=3) eV.nd rfl (Or.inl rfl) (bY aq)))
  (ar (pK Up rfl (iW B.range (ag (aI (pv 2)) aq)) (bb (bG (i:=4) eV.nd rfl (Or.inl rfl)))
   (ar (kJ (lM (qW Uw S9 Um kF (pv 3) (cq (ay bf aK (af (pv 0)) (af (pv 1))) el))))
  (az (aT (aP (i:=0) eV.nd rfl (Or.inl rfl) (ay eZ aK (af (pv 0)) (af (pv 1))))))))
  (az (oD (pv 3)))))
theorem qz (F:Df K mg "_law_mixes" dn ["_law_cell_here","_law_base","_law_many"]) (B:Bs mg):Dn P w K mg base 1 "_law_mixes" ["_law_cell_here","_law_base","_law_many"] (xy K 3 di):=
 lR [3] iL F fB λf b6 A outer s H E hr=>(ar (lQ (aP (i:=3) fB.nd rfl (Or.inl rfl) (bY aq)))
  (ar (pK Up rfl (iW B.range (ag (aI (pv 2)) aq)) (bb (bG (i:=4) fB.nd rfl (Or.inl rfl)))
   (ar (aT (aP (i:=5) fB.nd rfl (Or.inl rfl) (ay bf aK (PE.sh (ay aM aD (PE.sh (ay aM aD (PE.sh (ay iU aK (PE.sh (ay bf aK (af (pv 0)) (PE.sh (aj ao)))) (PE.sh (aj ao)))) (PE.sh (ay iU aK (PE.sh (ay iU aK (af (pv 4)) (af (pv 4)))) (PE.sh (aj ao)))))) (PE.sh (ay iU aK (af (pv 4)) (PE.sh (aj ao)))))) (PE.sh (aj ao)))))
  (az (kJ (lM (qW Uw S9 Um kF (pv 3) (cq (ay bf aK (PE.sh (ay eZ aK (PE.sh (ay bf aK (PE.sh (ay aM aD (PE.sh (ay iU aK (af (pv 5)) (PE.sh (aj ao)))) (af (pv 0)))) (PE.sh (aj ao)))) (PE.sh (aj ao)))) (af (pv 1))) el)))))))
  (az (oD (pv 3)))))
theorem sG (F:Df K mg "_law_plan" cM ["_law_cell_here","_law_most_here"]) (B:Bs mg) (h8:Dn P w K mg base 1 "_law_digits" ["_law_cell_here","_law_base","_law_many"] (xy K 3 dB)) (d9:Dn P w K mg base 1 "_law_mixes" ["_law_cell_here","_law_base","_law_many"] (xy K 3 di)):Dn P w K mg base 2 "_law_plan" ["_law_cell_here","_law_most_here"] (gj K 2 fO):=
 eA [5] jQ F bj λf b6 A outer s H E hr=>(ar (aT (aP (i:=2) bj.nd rfl (Or.inl rfl) (ay eZ aK (af (pv 0)) (PE.sh (aj ao)))))
  (ar (aT (aP (i:=3) bj.nd rfl (Or.inr rfl) (ay aM aD (PE.sh (aj ao)) (PE.sh (ay iU aK (PE.sh (aj ao)) (PE.sh (cP wb AZ rfl B.int pB (au (PE.sh (jA j9 c5 (af (pv 1)) (PE.sh (aj ao)) (bq _))) aB))))))))
  (ar (aT (aP (i:=4) bj.nd rfl (Or.inr rfl) (PE.nE (iu d9 hr (by decide) (ag (aI (pv 2)) (ag (aj ao) (ag (aI (pv 3)) aq)))))))
  (ar (cB (bc FZ c5 (PE.sh (aS xW AW rfl B.abs DE (au (af (pv 0)) aB))) (PE.sh (ay pf aK (PE.sh (aj ao)) (PE.sh (aj ao)))) (bq _)) (az (aT (aP (i:=4) bj.nd rfl (Or.inr rfl) (PE.nE (iu h8 hr (by decide) (ag (aI (pv 2)) (ag (aj ao) (ag (aI (pv 3)) aq)))))))) bE)
  (ar (lQ (aP (i:=5) bj.nd rfl (Or.inl rfl) (bY (ag (DR (ag (aj ao) aq)) aq))))
  (ar (aT (aP (i:=6) bj.nd rfl (Or.inl rfl) (PE.nE (bY (ag (aj ao) (ag (aj ao) aq))))))
  (ar (aT (aP (i:=7) bj.nd rfl (Or.inr rfl) (aj ao)))
  (ar (yC Up (PW.pt (pG (bc qR c5 (PE.sh (aS aU bJ rfl B.len cw (au (af (pv 5)) aB))) (af (pv 1)) (bq _)) (pw_and1 (bc j9 c5 (PE.sh (aS aU bJ rfl B.len cw (au (af (pv 6)) aB))) (PE.sh (aj ao)) (bq _))))) (ar (aT (PS.nE (mC (i:=8) (ai cM) ["_law_cell_here","_law_most_here","_law_rest","_law_many","_law_digits_here","_law_rows","_law_come","_law_at","_law_row"] [4,3,7] ["_law_k","_law_bad","_law_digits_here","_law_many","_law_at"] ["_law_k","_law_bad"] bj.nd rfl rfl JS (PI.c (pM B.enumerate (aI (pv 6)))) (λ_ _ _ _ _ _=>(A4 rfl (rp (bb (bG (i:=0) (show (["_law_k","_law_bad","_law_digits_here","_law_many","_law_at"]:List Str).Nodup from by decide +kernel) rfl (Or.inl rfl))) (rp (bb (bG (i:=1) (show (["_law_k","_law_bad","_law_digits_here","_law_many","_law_at"]:List Str).Nodup from by decide +kernel) rfl (Or.inl rfl))) A3)))) (λ_ _ _ _ _ _=>(t6 (bc j9 c5 (PE.sh (c6 (af (pv 2)) (PE.sh (ay bf aK (PE.sh (ay aM aD (af (pv 4)) (af (pv 0)))) (af (pv 3)))))) (PE.sh (aj ao)) (bq _)))) (λ_ _ _ _ _ _=>(aI (pv 1))))))
  (ar (aT (aP (i:=7) bj.nd rfl (Or.inr rfl) (ay aM aD (af (pv 7)) (PE.sh (aS aU bJ rfl B.len cw (au (af (pv 6)) aB))))))
  (ar (cB (bc j9 c5 (PE.sh (ay bf aK (af (pv 0)) (PE.sh (aj ao)))) (PE.sh (aj ao)) (bq _)) (az (aT (aP (i:=8) bj.nd rfl (Or.inl rfl) (PE.nE (fI (af (pv 6)) (bg (PE.sh (c6 (af (pv 4)) (PE.sh (ay bf aK (af (pv 7)) (af (pv 3))))))) (bg (PE.sh (aS (wa rfl) AX rfl B.max DF (au (PE.sh (aj ao)) (au (PE.sh (ay tq ym (PE.sh (aS aU bJ rfl B.len cw (au (af (pv 6)) aB))) (PE.sh (c6 (af (pv 4)) (PE.sh (ay bf aK (PE.sh (ay aM aD (af (pv 7)) (PE.sh (aj ao)))) (af (pv 3)))))))) aB)))))))))) bE)
  (ar (aT (aP (i:=6) bj.nd rfl (Or.inl rfl) (PE.nE (jE B.sorted B.set (PE.sh (PE.nE (cS bP bQ (af (pv 8)) (PE.sh (PE.nE (PE.wX (c7 (ai cM) ["_law_cell_here","_law_most_here","_law_rest","_law_many","_law_digits_here","_law_rows","_law_come","_law_at","_law_row"] [] ["_law_bad"] ["_law_bad"] jH (PI.c (dz (aI (pv 8)))) (λ_ _ _ _ _ _=>(bb (bG (i:=0) (show (["_law_bad"]:List Str).Nodup from by decide +kernel) rfl (Or.inl rfl)))) (λ_ _ _ _ _ _=>dN) (λ_ _ _ _ _ _=>(ay aM aD (af (pv 0)) (PE.sh (aj ao)))))))))))))))
  (az (cB (bc j9 c5 (PE.sh (aS aU bJ rfl B.len cw (au (af (pv 8)) aB))) (PE.sh (aj ao)) (bq _)) (az (kJ (lM (qW Uw S9 Um kF (pv 5) (cq (cP dF gE rfl B.tuple fH (au (af (pv 8)) aB)) el))))) bE)))))))
  (az (aW (cP dF gE rfl B.tuple fH (au (af (pv 5)) aB))))))))))))
theorem qA (F:Df K mg "_law_word" dq ["_law_e"]) (B:Bs mg) (CT:Ey K mg eD qd) (Kz:mg "ValueError"=none) (KA:Ic K eD "ValueError" (.type "ValueError")):Ig P w K mg base 1 "_law_word" ["_law_e"] (λy=>gj K 1 (eK y)):=by
 refine Bt [] mZ F dr λy f b6 A outer s H hr hy=>?_
 refine ar ?_ ?_
 .exact (aT (aP (i:=1) dr.nd rfl (Or.inr rfl) (PE.nE (bY (ag (cG eD qd CT (.head _) B.isinstance (af (pv 0))) (ag (cG eD qd CT (.tail _ (.head _)) B.isinstance (af (pv 0))) (ag (cG eD qd CT (.tail _ (.tail _ (.head _))) B.isinstance (af (pv 0))) (ag (cG eD qd CT (.tail _ (.tail _ (.tail _ (.head _)))) B.isinstance (af (pv 0))) aq))))))))
 refine ar ?_ ?_
 .exact (aT (aP (i:=1) dr.nd rfl (Or.inr rfl) (PE.nE (cS bP bQ (af (pv 1)) (PE.sh (PE.nE (bY (ag (cG eD qd CT (.tail _ (.tail _ (.tail _ (.tail _ (.head _))))) B.isinstance (af (pv 0))) (ag (cG eD qd CT (.tail _ (.tail _ (.tail _ (.tail _ (.tail _ (.head _)))))) B.isinstance (af (pv 0))) (ag (cG eD qd CT (.tail _ (.tail _ (.tail _ (.tail _ (.tail _ (.tail _ (.head _))))))) B.isinstance (af (pv 0))) (ag (cG eD qd CT (.tail _ (.tail _ (.tail _ (.tail _ (.tail _ (.tail _ (.tail _ (.head _)))))))) B.isinstance (af (pv 0))) aq)))))))))))
 refine ar ?_ ?_
 .exact (aT (aP (i:=1) dr.nd rfl (Or.inr rfl) (PE.nE (cS bP bQ (af (pv 1)) (PE.sh (PE.nE (bY (ag (cG eD qd CT (.tail _ (.tail _ (.tail _ (.tail _ (.tail _ (.tail _ (.tail _ (.tail _ (.head _))))))))) B.isinstance (af (pv 0))) (ag (cG eD qd CT (.tail _ (.tail _ (.tail _ (.tail _ (.tail _ (.tail _ (.tail _ (.tail _ (.tail _ (.head _)))))))))) B.isinstance (af (pv 0))) (ag (cG eD qd CT (.tail _ (.tail _ (.tail _ (.tail _ (.tail _ (.tail _ (.tail _ (.tail _ (.tail _ (.tail _ (.head _))))))))))) B.isinstance (af (pv 0))) (ag (cG eD qd CT (.tail _ (.tail _ (.tail _ (.tail _ (.tail _ (.tail _ (.tail _ (.tail _ (.tail _ (.tail _ (.tail _ (.head _)))))))))))) B.isinstance (af (pv 0))) aq)))))))))))
 refine ar ?_ ?_
 .exact (aT (aP (i:=1) dr.nd rfl (Or.inr rfl) (PE.nE (cS bP bQ (af (pv 1)) (PE.sh (PE.nE (bY (ag (cG eD qd CT (.tail _ (.tail _ (.tail _ (.tail _ (.tail _ (.tail _ (.tail _ (.tail _ (.tail _ (.tail _ (.tail _ (.tail _ (.head _))))))))))))) B.isinstance (af (pv 0))) (ag (cG eD qd CT (.tail _ (.tail _ (.tail _ (.tail _ (.tail _ (.tail _ (.tail _ (.tail _ (.tail _ (.tail _ (.tail _ (.tail _ (.tail _ (.head _)))))))))))))) B.isinstance (af (pv 0))) (ag (cG eD qd CT (.tail _ (.tail _ (.tail _ (.tail _ (.tail _ (.tail _ (.tail _ (.tail _ (.tail _ (.tail _ (.tail _ (.tail _ (.tail _ (.tail _ (.head _))))))))))))))) B.isinstance (af (pv 0))) aq))))))))))
 refine ar ?_ ?_
 .refine aT ?_
  refine aP ?_ ?_ ?_ ?_ ?_ ?_
  .exact dr.nd
  .rfl
  .exact (Or.inr rfl)
  .refine PE.nE ?_
   refine bY ?_
   exact iF rfl
  .exact oV
  .exact .inl rfl
 refine ar ?_ ?_
 .exact (aT (aP (i:=2) dr.nd rfl (Or.inr rfl) (PE.nE (cS bP bQ (af (pv 2)) (PE.sh (PE.nE (bY (iF (by rfl)))))))))
 refine ar ?_ ?_
 .exact (cB (cV (cy (PE.sh (vx eD B.isinstance (af (pv 0)) (j8 rfl Kz G5 (v:=.ty "ValueError") rfl) (λ_ r=>r) KA)))) (az (aW (be aZ))) bE)
 exact az (aW (i4 (PE.sh (be aZ)) (PE.nE (xb (gd:=Ie y) (ai dq) ["_law_e","_law_named","_law_words"] [2,1] ["_law_k","_law_words","_law_named"] ["_law_k"] (λ_ _ _ _ _ _=>hy) jH (uf y 0 B.range (ag (aj ao) aq)) (λ_ _ _ _ _ _=>(bb (bG (i:=0) (show (["_law_k","_law_words","_law_named"]:List Str).Nodup from by decide +kernel) rfl (Or.inl rfl)))) (λ_ _ _ _ _ _=>(t6 (cy (PE.sh (c6 (af (pv 2)) (af (pv 0))))))) (λ_ _ _ _ _ _=>(c6 (af (pv 1)) (af (pv 0))))))))
theorem nq (F:Df K mg "_law_written" bU ["_law_plan_here"]) (B:Bs mg):Dn P w K mg base 1 "_law_written" ["_law_plan_here"] (gj K 1 dH):=
 eA [] gn F nh λf b6 A outer s H E hr=>(az (aW (i4 (PE.sh (be aZ)) (PE.nE (PE.wX (c7 (ai bU) ["_law_plan_here"] [] ["_law_row"] ["_law_row"] jH (PI.c (dz (aI (pv 0)))) (λ_ _ _ _ _ _=>(bb (bG (i:=0) (show (["_law_row"]:List Str).Nodup from by decide +kernel) rfl (Or.inl rfl)))) (λ_ _ _ _ _ _=>dN) (λ_ _ _ _ _ _=>(i4 (PE.sh (be aZ)) (PE.nE (PE.wX (c7 { kind:=.function,names:=[(".0",.local),("_law_row",.local)],isGenerator:=false,isCoroutine:=false } ["_law_row"] [] ["_law_bad"] ["_law_bad"] jH (PI.c (dz (aI (pv 0)))) (λ_ _ _ _ _ _=>(bb (bG (i:=0) (show (["_law_bad"]:List Str).Nodup from by decide +kernel) rfl (Or.inl rfl)))) (λ_ _ _ _ _ _=>dN) (λ_ _ _ _ _ _=>(cP gM pX rfl B.str tF (au (af (pv 0)) aB))))))))))))))
theorem nr (F:Df K mg "_law_refused" cm ["_law_text"]) (B:Bs mg) {cL:Addr} (mL:mg "LotError"=some (.ref cL)) (CE:G4 K mg cL eD) (iQ:Ig P w K mg base 1 "_law_word" ["_law_e"] (λy=>gj K 1 (eK y))) (ia:Bp P w K mg base 4 "read_plan" ["text"] (vv K mg 1 dh)):Dn P w K mg base 5 "_law_refused" ["_law_text"] (gj K 1 cR):=
 eA [] eU F iO λf b6 A outer s H E hr=>(ar (Et (i:=1) (gs:=jr) (hand:=jJ eD (λ_=>.bool true)) (λgI E=>(az (zi (lM (mM ia hr (by decide) Bq (ag (aI (pv 0)) aq)))))) (λa=>(az (aW (jA (Ew (hr.markX _)) imp_eq (PE.sh (zk (G:=eK) (y:=a) iQ (hr.markX _) (by decide) rfl (ag (aI (pv 1)) aq))) (PE.sh (be aZ)) (bq _))))) (λc d h=>CE c (ug h)) m5 mL iO.nd)
  (az (aW (jn jk))))
theorem sH (F:Df K mg "_law_sign" d3 ["_law_number"]) (B:Bs mg):Dn P w K mg base 1 "_law_sign" ["_law_number"] (gj K 1 dW):=
 eA [] jR F lp λf b6 A outer s H E hr=>(ar (aT (aP (i:=1) lp.nd rfl (Or.inl rfl) (be aZ)))
  (az (aW (c6 (af (pv 1)) (PE.sh (ay bf aK (af (pv 0)) (PE.sh (aS aU bJ rfl B.len cw (au (af (pv 1)) aB)))))))))
theorem kr (F:Df K mg "_law_row_spoilt" bz ["_law_row","_law_draws","_law_way","_law_number"]) (B:Bs mg):Dn P w K mg base 1 "_law_row_spoilt" ["_law_row","_law_draws","_law_way","_law_number"] (xy K 4 bW):=
 lR [] eL F eC λf b6 A outer s H E hr=>(ar (aT (aP (i:=4) eC.nd rfl (Or.inl rfl) (ay bf aK (af (pv 3)) (PE.sh (aS aU bJ rfl B.len cw (au (af (pv 0)) aB))))))
  (ar (cB (bc (fi hr) imp_eq (af (pv 2)) (PE.sh (aj ao)) (bq _)) (az (gP (cS bP bQ (PE.sh (PE.nE (fI (af (pv 0)) b0 (bg (PE.sh (yt (PE.sh (aj ao)))))))) (PE.sh (PE.nE (bY (ag (cP gM pX rfl B.str tF (au (PE.sh (ay aM aD (PE.sh (ay aM aD (af (pv 1)) (PE.sh (aj ao)))) (PE.sh (ay bf aK (af (pv 3)) (PE.sh (aj ao)))))) aB)) aq))))))) bE)
  (ar (cB (PW.pt (pG (bc (fi hr) imp_eq (af (pv 2)) (PE.sh (aj ao)) (bq _)) (pw_and1 (bc j9 c5 (PE.sh (aS aU bJ rfl B.len cw (au (af (pv 0)) aB))) (PE.sh (aj ao)) (bq _))))) (ar (aT (aP (i:=4) eC.nd rfl (Or.inl rfl) (ay bf aK (af (pv 3)) (PE.sh (ay tq ym (PE.sh (aS aU bJ rfl B.len cw (au (af (pv 0)) aB))) (PE.sh (aj ao)))))))
  (az (gP (cS bP bQ (PE.sh (PE.nE (cS bP bQ (PE.sh (PE.nE (fI (af (pv 0)) b0 (bg (af (pv 4)))))) (PE.sh (PE.nE (bY (ag (c6 (af (pv 0)) (PE.sh (ay aM aD (af (pv 4)) (PE.sh (aj ao))))) (ag (c6 (af (pv 0)) (af (pv 4))) aq)))))))) (PE.sh (PE.nE (fI (af (pv 0)) (bg (PE.sh (ay aM aD (af (pv 4)) (PE.sh (aj ao))))) b0))))))) bE)
  (ar (cB (bc (fi hr) imp_eq (af (pv 2)) (PE.sh (aj ao)) (bq _)) (az (gP (cS bP bQ (PE.sh (PE.nE (cS bP bQ (PE.sh (PE.nE (fI (af (pv 0)) b0 (bg (af (pv 4)))))) (PE.sh (PE.nE (bY (ag (c6 (af (pv 0)) (af (pv 4))) (ag (c6 (af (pv 0)) (af (pv 4))) aq)))))))) (PE.sh (PE.nE (fI (af (pv 0)) (bg (PE.sh (ay aM aD (af (pv 4)) (PE.sh (aj ao))))) b0)))))) bE)
  (ar (cB (bc (fi hr) imp_eq (af (pv 2)) (PE.sh (aj ao)) (bq _)) (az (gP (cS bP bQ (PE.sh (PE.nE (cS bP bQ (PE.sh (PE.nE (fI (af (pv 0)) b0 (bg (af (pv 4)))))) (PE.sh (PE.nE (bY (ag (ay aM aD (PE.sh (be aZ)) (PE.sh (c6 (af (pv 0)) (af (pv 4))))) aq))))))) (PE.sh (PE.nE (fI (af (pv 0)) (bg (PE.sh (ay aM aD (af (pv 4)) (PE.sh (aj ao))))) b0)))))) bE)
  (ar (cB (bc (fi hr) imp_eq (af (pv 2)) (PE.sh (aj ao)) (bq _)) (az (gP (cS bP bQ (PE.sh (PE.nE (cS bP bQ (PE.sh (PE.nE (fI (af (pv 0)) b0 (bg (af (pv 4)))))) (PE.sh (PE.nE (bY (ag (ay aM aD (PE.sh (be aZ)) (PE.sh (c6 (af (pv 0)) (af (pv 4))))) aq))))))) (PE.sh (PE.nE (fI (af (pv 0)) (bg (PE.sh (ay aM aD (af (pv 4)) (PE.sh (aj ao))))) b0)))))) bE)
  (az (gP (bY aq)))))))))
theorem n1 (F:Df K mg "_law_spoilt" bC ["_law_plan_here","_law_text","_law_way","_law_number"]) (B:Bs mg) (eO:Dn P w K mg base 1 "_law_row_spoilt" ["_law_row","_law_draws","_law_way","_law_number"] (xy K 4 bW)) (ib:Dn P w K mg base 1 "_law_sign" ["_law_number"] (gj K 1 dW)):Dn P w K mg base 2 "_law_spoilt" ["_law_plan_here","_law_text","_law_way","_law_number"] (gj K 4 eB):=
 eA [6] g7 F cn λf b6 A outer s H E hr=>(ar (aT (PS.nE (mC (i:=4) (ai bC) ["_law_plan_here","_law_text","_law_way","_law_number","_law_some","_law_at","_law_rows"] [1] ["_law_k","_law_text"] ["_law_k"] cn.nd rfl rfl jH (PI.c (iW B.range (ag (aS aU bJ rfl B.len cw (au (af (pv 1)) aB)) aq))) (λ_ _ _ _ _ _=>(bb (bG (i:=0) (show (["_law_k","_law_text"]:List Str).Nodup from by decide +kernel) rfl (Or.inl rfl)))) (λ_ _ _ _ _ _=>(t6 (bc oi vo (PE.sh (c6 (af (pv 1)) (af (pv 0)))) (PE.sh (be aZ)) (by with_unfolding_all rfl)))) (λ_ _ _ _ _ _=>(aI (pv 0))))))
  (ar (cB (bc (fi hr) imp_eq (af (pv 2)) (PE.sh (aj ao)) (bq _)) (az (aW (c6 (PE.sh (PE.nE (bY (ag (ay aM aD (PE.sh (be aZ)) (af (pv 1))) (ag (ay aM aD (af (pv 1)) (PE.sh (be aZ))) (ag (ay aM aD (PE.sh (be aZ)) (af (pv 1))) (ag (ay aM aD (af (pv 1)) (PE.sh (be aZ))) aq))))))) (PE.sh (ay bf aK (af (pv 3)) (PE.sh (aj ao))))))) bE)
  (ar (cB (PW.pt (pG (bc qR c5 (af (pv 2)) (PE.sh (aj ao)) (bq _)) (pw_and1 (bc j9 c5 (PE.sh (aS aU bJ rfl B.len cw (au (af (pv 4)) aB))) (PE.sh (aj ao)) (bq _))))) (ar (aT (aP (i:=5) cn.nd rfl (Or.inl rfl) (c6 (af (pv 4)) (PE.sh (ay bf aK (af (pv 3)) (PE.sh (aS aU bJ rfl B.len cw (au (af (pv 4)) aB))))))))
  (az (aW (ay aM aD (PE.sh (ay aM aD (PE.sh (kL (af (pv 1)) b0 (bg (af (pv 5))))) (PE.sh (c6 (PE.sh (be aZ)) (PE.sh (ay tq ym (af (pv 2)) (PE.sh (aj ao)))))))) (PE.sh (kL (af (pv 1)) (bg (af (pv 5))) b0)))))) bE)
  (ar (cB (bc (fi hr) imp_eq (af (pv 2)) (PE.sh (aj ao)) (bq _)) (ar (aT (aP (i:=5) cn.nd rfl (Or.inl rfl) (ay bf aK (af (pv 3)) (PE.sh (ay aM aD (PE.sh (aS aU bJ rfl B.len cw (au (af (pv 1)) aB))) (PE.sh (aj ao)))))))
  (az (aW (ay aM aD (PE.sh (ay aM aD (PE.sh (kL (af (pv 1)) b0 (bg (af (pv 5))))) (PE.sh (bI ib hr (by decide) (ag (ay eZ aK (af (pv 3)) (PE.sh (aj ao))) aq))))) (PE.sh (kL (af (pv 1)) (bg (af (pv 5))) b0)))))) bE)
  (ar (cB (bc (fi hr) imp_eq (af (pv 2)) (PE.sh (aj ao)) (bq _)) (ar (aT (aP (i:=5) cn.nd rfl (Or.inl rfl) (ay bf aK (af (pv 3)) (PE.sh (aS aU bJ rfl B.len cw (au (af (pv 1)) aB))))))
  (az (aW (ay aM aD (PE.sh (ay aM aD (PE.sh (kL (af (pv 1)) b0 (bg (af (pv 5))))) (PE.sh (bI ib hr (by decide) (ag (ay eZ aK (af (pv 3)) (PE.sh (aj ao))) aq))))) (PE.sh (kL (af (pv 1)) (bg (PE.sh (ay aM aD (af (pv 5)) (PE.sh (aj ao))))) b0)))))) bE)
  (ar (lQ (PS.wX (mC (i:=6) (ai bC) ["_law_plan_here","_law_text","_law_way","_law_number","_law_some","_law_at","_law_rows"] [] ["_law_row"] ["_law_row"] cn.nd rfl rfl jH (PI.c (dz (aI (pv 0)))) (λ_ _ _ _ _ _=>(bb (bG (i:=0) (show (["_law_row"]:List Str).Nodup from by decide +kernel) rfl (Or.inl rfl)))) (λ_ _ _ _ _ _=>dN) (λ_ _ _ _ _ _=>(PE.nE (PE.wX (c7 { kind:=.function,names:=[(".0",.local),("_law_row",.local)],isGenerator:=false,isCoroutine:=false } ["_law_row"] [] ["_law_bad"] ["_law_bad"] jH (PI.c (dz (aI (pv 0)))) (λ_ _ _ _ _ _=>(bb (bG (i:=0) (show (["_law_bad"]:List Str).Nodup from by decide +kernel) rfl (Or.inl rfl)))) (λ_ _ _ _ _ _=>dN) (λ_ _ _ _ _ _=>(cP gM pX rfl B.str tF (au (af (pv 0)) aB))))))))))
  (ar (aT (aP (i:=5) cn.nd rfl (Or.inl rfl) (ay bf aK (PE.sh (ay eZ aK (af (pv 3)) (PE.sh (aj ao)))) (PE.sh (aS aU bJ rfl B.len cw (au (af (pv 6)) aB))))))
  (ar (yA (C9 (PE.nE (iu eO hr (by decide) (ag (c6 (af (pv 6)) (af (pv 5))) (ag (aI (pv 5)) (ag (aI (pv 2)) (ag (aI (pv 3)) aq)))))) (C8 (pv 6) (af (pv 5)) set_list)))
  (az (aW (i4 (PE.sh (be aZ)) (PE.nE (PE.wX (c7 (ai bC) ["_law_plan_here","_law_text","_law_way","_law_number","_law_some","_law_at","_law_rows"] [] ["_law_row"] ["_law_row"] jH (A9 (af (pv 6))) (λ_ _ _ _ _ _=>(bb (bG (i:=0) (show (["_law_row"]:List Str).Nodup from by decide +kernel) rfl (Or.inl rfl)))) (λ_ _ _ _ _ _=>dN) (λ_ _ _ _ _ _=>(i4 (PE.sh (be aZ)) (aI (pv 0))))))))))))))))))
theorem uM (F:Df K mg "_law_odd" d7 ["_law_number"]) (B:Bs mg):Dn P w K mg base 1 "_law_odd" ["_law_number"] (gj K 1 gJ):=by
 refine eA [] kQ F hV λf b6 A outer s H E hr=>?_
 refine ar ?_ ?_
 .refine aT ?_
  refine aP ?_ ?_ ?_ ?_ ?_ ?_
  .exact hV.nd
  .rfl
  .exact (Or.inl rfl)
  .refine PE.nE ?_
   refine bY ?_
   refine iF ?_
   exact rX (by repeat constructor)
  .exact oV
  .exact .inl rfl
 refine ar ?_ ?_
 .refine aT ?_
  refine aP ?_ ?_ ?_ ?_ ?_ ?_
  .exact hV.nd
  .rfl
  .exact (Or.inl rfl)
  .refine PE.nE ?_
   refine cS bP bQ (af (pv 1)) ?_
   refine PE.sh ?_
   refine PE.nE ?_
   refine bY ?_
   refine iF ?_
   exact rX (by repeat constructor)
  .rfl
  .exact .inl rfl
 refine ar ?_ ?_
 .exact (aT (aP (i:=1) hV.nd rfl (Or.inl rfl) (PE.nE (cS bP bQ (af (pv 1)) (PE.sh (PE.nE (bY (ag (ay aM aD (PE.sh (be aZ)) (PE.sh (ay BB zx (PE.sh (be aZ)) (PE.sh (aj ao))))) (ag (i4 (PE.sh (be aZ)) (PE.nE (PE.wX (c7 (ai d7) ["_law_number","_law_odd_here"] [] ["_law_k"] ["_law_k"] jH (PI.c (iW B.range (ag (aj ao) aq))) (λ_ _ _ _ _ _=>(bb (bG (i:=0) (show (["_law_k"]:List Str).Nodup from by decide +kernel) rfl (Or.inl rfl)))) (λ_ _ _ _ _ _=>dN) (λ_ _ _ _ _ _=>(be aZ)))))) (ag (be aZ) aq))))))))))
 exact az (aW (c6 (af (pv 1)) (PE.sh (ay bf aK (af (pv 0)) (PE.sh (aj ao))))))
theorem E3 {f:Addr} {fd:FuncData} (F:jY K "law" "law" iP f fd) (B:Bs mg) (fS:Dn P w K mg base 1 "_law_cell" ["_law_script","_law_k"] (gj K 2 ck)) (d9:Dn P w K mg base 1 "_law_mixes" ["_law_cell_here","_law_base","_law_many"] (xy K 3 di)) (kW:Dn P w K mg base 1 "_law_odd" ["_law_number"] (gj K 1 gJ)) (jX:Dn P w K mg base 2 "_law_plan" ["_law_cell_here","_law_most_here"] (gj K 2 fO)) (eX:Dn P w K mg base 5 "_law_refused" ["_law_text"] (gj K 1 cR)) (ic:Dn P w K mg base 2 "_law_spoilt" ["_law_plan_here","_law_text","_law_way","_law_number"] (gj K 4 eB)) (gy:Dn P w K mg base 1 "_law_written" ["_law_plan_here"] (gj K 1 dH)) (iR:Dn P w K mg base 4 "read_plan" ["text"] (gj K 1 fb)):ly P w K mg base sT 6 f fd ["_law_script"] (gj K 1 oX):=
 Gw [] zF F kT λf b6 A outer s H E hr=>(ar (aT (aP (i:=1) kT.nd rfl (Or.inl rfl) (bI jX hr (by decide) (ag (bI fS hr (by decide) (ag (aI (pv 0)) (ag (aj ao) aq))) (ag (ay aM aD (PE.sh (aj ao)) (PE.sh (ay bf aK (PE.sh (bI fS hr (by decide) (ag (aI (pv 0)) (ag (aj ao) aq)))) (PE.sh (aj ao))))) aq)))))
  (ar (aT (aP (i:=2) kT.nd rfl (Or.inl rfl) (bI gy hr (by decide) (ag (aI (pv 1)) aq))))
  (ar (pK Up rfl (dz (PE.nE (cS bP bQ (PE.sh (PE.nE (fI (af (pv 0)) (bg (PE.sh (aj ao))) (bg (PE.sh (aj ao)))))) (PE.sh (PE.nE (bY (ag (bI fS hr (by decide) (ag (aI (pv 0)) (ag (aj ao) aq))) aq))))))) (bb (bG (i:=3) kT.nd rfl (Or.inl rfl)))
   (ar (aT (aP (i:=4) kT.nd rfl (Or.inl rfl) (PE.nE (iu d9 hr (by decide) (ag (aI (pv 3)) (ag (aj ao) (ag (aj ao) aq)))))))
  (ar (cB (cV (oG qR c5 qR c5 (PE.sh (yt (PE.sh (ay pf aK (PE.sh (aj ao)) (PE.sh (aj ao)))))) (af (pv 3)) (PE.sh (ay pf aK (PE.sh (aj ao)) (PE.sh (aj ao)))))) (az (aT (aP (i:=4) kT.nd rfl (Or.inl rfl) (PE.nE (bY (ag (ay bf aK (PE.sh (ay eZ aK (af (pv 3)) (PE.sh (aj ao)))) (PE.sh (aj ao))) (ag (ay bf aK (PE.sh (ay eZ aK (af (pv 3)) (PE.sh (aj ao)))) (PE.sh (ay pf aK (PE.sh (aj ao)) (PE.sh (aj ao))))) aq))))))) bE)
  (ar (cB (cV (cy (PE.sh (bI eX hr (by decide) (ag (bI ic hr (by decide) (ag (aI (pv 1)) (ag (aI (pv 2)) (ag (ay bf aK (PE.sh (c6 (af (pv 4)) (PE.sh (aj ao)))) (PE.sh (aj ao))) (ag (c6 (af (pv 4)) (PE.sh (aj ao))) aq))))) aq))))) (az (aW (jn jk))) bE)
  (az (cB (PW.pt (kI (cV (cy (PE.sh (bI eX hr (by decide) (ag (bI kW hr (by decide) (ag (c6 (af (pv 4)) (PE.sh (aj ao))) aq)) aq))))) (pw_or1 (bc (yo hr) yp (PE.sh (bI iR hr (by decide) (ag (aI (pv 2)) aq))) (af (pv 1)) (bq _))))) (az (aW (jn jk))) bE))))))
  (az (aW (jn jk))))))
end
structure QF (K:PySem.W.Frag) (n:Str) (st:Stmt) (f:Addr) (od an:Option Addr) (sl:Array (Option Value)) (oc kV dc pm cd ct:Value):Prop where
 a:PySem.W.nsIn K mainGlobals n=some (some (.ref f))
 l:K.lookup f=some ⟨oc,od,.func (PySem.W.fnOf n n (gL st) (cD st) (ai st) .none kV dc pm an cd ct),sl⟩
 c:PySem.W.codeIn K cd n=true
 k:PySem.W.keepIn K (.ref f)=true
theorem vU {us:List Value} {n:Nat} (h:us.length=n + 1):∃ a r,us=a :: r /\ r.length=n:=by cases us with | nil=>cases h | cons a r=>exact ⟨a,r,rfl,Nat.succ.inj h⟩
theorem len_1 (us:List Value) (h:us.length=1):∃ a0,us=[a0]:=by obtain ⟨a,r,rfl,g⟩:=vU h; rw [Th.mp g]; exact ⟨a,rfl⟩
theorem len_2 (us:List Value) (h:us.length=2):∃ a0 a1,us=[a0,a1]:=by obtain ⟨a,r,rfl,g⟩:=vU h; obtain ⟨a0,rfl⟩:=len_1 r g; exact ⟨a,a0,rfl⟩
theorem len_3 (us:List Value) (h:us.length=3):∃ a0 a1 a2,us=[a0,a1,a2]:=by obtain ⟨a,r,rfl,g⟩:=vU h; obtain ⟨a0,a1,rfl⟩:=len_2 r g; exact ⟨a,a0,a1,rfl⟩
theorem len_4 (us:List Value) (h:us.length=4):∃ a0 a1 a2 a3,us=[a0,a1,a2,a3]:=by obtain ⟨a,r,rfl,g⟩:=vU h; obtain ⟨a0,a1,a2,rfl⟩:=len_3 r g; exact ⟨a,a0,a1,a2,rfl⟩
section
variable {K:PySem.W.Frag} {mg:Str->Option Value} {f:Addr} {fd:FuncData}
theorem uN (F:jY K "is_plan" "is_plan" eM f fd) (m:mg "is_plan"=some (.ref f)):Df K mg "is_plan" eM ["thing"]:=⟨f,fd,F,m,F.binds λ_ _ _ _ _ _ us hl=>by obtain ⟨a0,rfl⟩:=len_1 us hl; rfl⟩
theorem xr (F:jY K "led_to" "led_to" fe f fd) (m:mg "led_to"=some (.ref f)):Df K mg "led_to" fe ["place"]:=⟨f,fd,F,m,F.binds λ_ _ _ _ _ _ us hl=>by obtain ⟨a0,rfl⟩:=len_1 us hl; rfl⟩
theorem sI (F:jY K "is_place" "is_place" dk f fd) (m:mg "is_place"=some (.ref f)):Df K mg "is_place" dk ["thing","there"]:=⟨f,fd,F,m,F.binds λ_ _ _ _ _ _ us hl=>by obtain ⟨a0,a1,rfl⟩:=len_2 us hl; rfl⟩
theorem sJ (F:jY K "is_whole" "is_whole" dY f fd) (m:mg "is_whole"=some (.ref f)):Df K mg "is_whole" dY ["thing"]:=⟨f,fd,F,m,F.binds λ_ _ _ _ _ _ us hl=>by obtain ⟨a0,rfl⟩:=len_1 us hl; rfl⟩
theorem qB (F:jY K "read_plan" "read_plan" bS f fd) (m:mg "read_plan"=some (.ref f)):Df K mg "read_plan" bS ["text"]:=⟨f,fd,F,m,F.binds λ_ _ _ _ _ _ us hl=>by obtain ⟨a0,rfl⟩:=len_1 us hl; rfl⟩
theorem n4 (F:jY K "read_place" "read_place" bB f fd) (m:mg "read_place"=some (.ref f)):Df K mg "read_place" bB ["text"]:=⟨f,fd,F,m,F.binds λ_ _ _ _ _ _ us hl=>by obtain ⟨a0,rfl⟩:=len_1 us hl; rfl⟩
theorem nu (F:jY K "read_number" "read_number" bT f fd) (m:mg "read_number"=some (.ref f)):Df K mg "read_number" bT ["word"]:=⟨f,fd,F,m,F.binds λ_ _ _ _ _ _ us hl=>by obtain ⟨a0,rfl⟩:=len_1 us hl; rfl⟩
theorem qC (F:jY K "is_number" "is_number" cC f fd) (m:mg "is_number"=some (.ref f)):Df K mg "is_number" cC ["word"]:=⟨f,fd,F,m,F.binds λ_ _ _ _ _ _ us hl=>by obtain ⟨a0,rfl⟩:=len_1 us hl; rfl⟩
theorem sL (F:jY K "_law_cell" "_law_cell" dZ f fd) (m:mg "_law_cell"=some (.ref f)):Df K mg "_law_cell" dZ ["_law_script","_law_k"]:=⟨f,fd,F,m,F.binds λ_ _ _ _ _ _ us hl=>by obtain ⟨a0,a1,rfl⟩:=len_2 us hl; rfl⟩
theorem n5 (F:jY K "_law_digits" "_law_digits" cK f fd) (m:mg "_law_digits"=some (.ref f)):Df K mg "_law_digits" cK ["_law_cell_here","_law_base","_law_many"]:=⟨f,fd,F,m,F.binds λ_ _ _ _ _ _ us hl=>by obtain ⟨a0,a1,a2,rfl⟩:=len_3 us hl; rfl⟩
theorem qD (F:jY K "_law_mixes" "_law_mixes" dn f fd) (m:mg "_law_mixes"=some (.ref f)):Df K mg "_law_mixes" dn ["_law_cell_here","_law_base","_law_many"]:=⟨f,fd,F,m,F.binds λ_ _ _ _ _ _ us hl=>by obtain ⟨a0,a1,a2,rfl⟩:=len_3 us hl; rfl⟩
theorem sM (F:jY K "_law_plan" "_law_plan" cM f fd) (m:mg "_law_plan"=some (.ref f)):Df K mg "_law_plan" cM ["_law_cell_here","_law_most_here"]:=⟨f,fd,F,m,F.binds λ_ _ _ _ _ _ us hl=>by obtain ⟨a0,a1,rfl⟩:=len_2 us hl; rfl⟩
theorem sN (F:jY K "_law_word" "_law_word" dq f fd) (m:mg "_law_word"=some (.ref f)):Df K mg "_law_word" dq ["_law_e"]:=⟨f,fd,F,m,F.binds λ_ _ _ _ _ _ us hl=>by obtain ⟨a0,rfl⟩:=len_1 us hl; rfl⟩
theorem nv (F:jY K "_law_written" "_law_written" bU f fd) (m:mg "_law_written"=some (.ref f)):Df K mg "_law_written" bU ["_law_plan_here"]:=⟨f,fd,F,m,F.binds λ_ _ _ _ _ _ us hl=>by obtain ⟨a0,rfl⟩:=len_1 us hl; rfl⟩
theorem ny (F:jY K "_law_refused" "_law_refused" cm f fd) (m:mg "_law_refused"=some (.ref f)):Df K mg "_law_refused" cm ["_law_text"]:=⟨f,fd,F,m,F.binds λ_ _ _ _ _ _ us hl=>by obtain ⟨a0,rfl⟩:=len_1 us hl; rfl⟩
theorem sP (F:jY K "_law_sign" "_law_sign" d3 f fd) (m:mg "_law_sign"=some (.ref f)):Df K mg "_law_sign" d3 ["_law_number"]:=⟨f,fd,F,m,F.binds λ_ _ _ _ _ _ us hl=>by obtain ⟨a0,rfl⟩:=len_1 us hl; rfl⟩
theorem ku (F:jY K "_law_row_spoilt" "_law_row_spoilt" bz f fd) (m:mg "_law_row_spoilt"=some (.ref f)):Df K mg "_law_row_spoilt" bz ["_law_row","_law_draws","_law_way","_law_number"]:=⟨f,fd,F,m,F.binds λ_ _ _ _ _ _ us hl=>by obtain ⟨a0,a1,a2,a3,rfl⟩:=len_4 us hl; rfl⟩
theorem n6 (F:jY K "_law_spoilt" "_law_spoilt" bC f fd) (m:mg "_law_spoilt"=some (.ref f)):Df K mg "_law_spoilt" bC ["_law_plan_here","_law_text","_law_way","_law_number"]:=⟨f,fd,F,m,F.binds λ_ _ _ _ _ _ us hl=>by obtain ⟨a0,a1,a2,a3,rfl⟩:=len_4 us hl; rfl⟩
theorem uO (F:jY K "_law_odd" "_law_odd" d7 f fd) (m:mg "_law_odd"=some (.ref f)):Df K mg "_law_odd" d7 ["_law_number"]:=⟨f,fd,F,m,F.binds λ_ _ _ _ _ _ us hl=>by obtain ⟨a0,rfl⟩:=len_1 us hl; rfl⟩
theorem E4 (F:jY K "law" "law" iP f fd) (m:mg "law"=some (.ref f)):Df K mg "law" iP ["_law_script"]:=⟨f,fd,F,m,F.binds λ_ _ _ _ _ _ us hl=>by obtain ⟨a0,rfl⟩:=len_1 us hl; rfl⟩
end
theorem all_mk {l:PySem.W.OpenLaw} {w:World} {K:PySem.W.Frag} {h:Heap} {mg:Str->Option Value} {fa:Addr} (X:K.In h) (G:h.Ns mainGlobals mg) (PB:mg "law"=some (.ref fa))
  {f1 f2 f3 f4 f5 f6 f7 f8 f9 PC PD PH PJ PK PL PM PN PQ PR PU:Addr} {PV PX PY PZ P0 P4 P5 P6 P7 P8 P9 Qa Qb Qc Qd Qe Qf Qg KC KD KE KG KH KI KJ KL KN KO KP KQ KR KS KU KW KY KZ K1 K2 K3 Hu:Option Addr} {JT AB Qh Qi Qj Qk Ql Qm Qn K4 K5 K6 K7 K8 K9 La Lb Lc Ld Le:Array (Option Value)} {Qo Qp Qq Qr Qs Qt Qu Qv Qw Qx Qy Qz QA QB QC QD QE QG QH QI QJ QK QL QM QN QO QP QR QS QT QU QV QW QX QY QZ Q0 Q3 Q4 Q5 Q6 Q7 Q8 Q9 Ra Rb Rc Rf Rg Rh Ri Rj Rk Rl Lf Lg Lh Li Lj Lk Ll Lm Ln Lo Lp Lq Lr Lu Lv Lw Lx Ly Lz LA LB LC LD LF LG LH LI LJ LK LL LM LN LO LP LQ LR LU LV LW LX LY LZ L3 L4 L5 L6 L7 L8 L9 Ma Mb Mc Md Me Mf Mg Mh Mi Mj Mk Ml Hv Hw Hx Hy HA:Value}
  (q1:QF K "is_plan" eM f1 PV PX JT Qo Qp Qq Qr Qs Qt)
  (q2:QF K "led_to" fe f2 PY PZ AB Qu Qv Qw Qx Qy Qz)
  (q3:QF K "is_place" dk f3 P0 P4 Qh QA QB QC QD QE QG)
  (q4:QF K "is_whole" dY f4 P5 P6 Qi QH QI QJ QK QL QM)
  (q5:QF K "read_plan" bS f5 P7 P8 Qj QN QO QP QR QS QT)
  (q6:QF K "read_place" bB f6 P9 Qa Qk QU QV QW QX QY QZ)
  (q7:QF K "read_number" bT f7 Qb Qc Ql Q0 Q3 Q4 Q5 Q6 Q7)
  (q8:QF K "is_number" cC f8 Qd Qe Qm Q8 Q9 Ra Rb Rc Rf)
  (q9:QF K "_law_cell" dZ f9 Qf Qg Qn Rg Rh Ri Rj Rk Rl)
  (q10:QF K "_law_digits" cK PC KC KD K4 Lf Lg Lh Li Lj Lk)
  (q11:QF K "_law_mixes" dn PD KE KG K5 Ll Lm Ln Lo Lp Lq)
  (q12:QF K "_law_plan" cM PH KH KI K6 Lr Lu Lv Lw Lx Ly)
  (q14:QF K "_law_word" dq PJ KJ KL K7 Lz LA LB LC LD LF)
  (q15:QF K "_law_written" bU PK KN KO K8 LG LH LI LJ LK LL)
  (q16:QF K "_law_refused" cm PL KP KQ K9 LM LN LO LP LQ LR)
  (q17:QF K "_law_sign" d3 PM KR KS La LU LV LW LX LY LZ)
  (q18:QF K "_law_row_spoilt" bz PN KU KW Lb L3 L4 L5 L6 L7 L8)
  (q19:QF K "_law_spoilt" bC PQ KY KZ Lc L9 Ma Mb Mc Md Me)
  (q20:QF K "_law_odd" d7 PR K1 K2 Ld Mf Mg Mh Mi Mj Mk)
  (q21:QF K "law" iP PU K3 Hu Le Ml Hv Hw Hx Hy HA)
  {qE:Tok} (aMOST_PLACES:PySem.W.nsIn K mainGlobals "MOST_PLACES"=some (some (.int 24 qE)))
  {z6:Tok} (aFIGURES:PySem.W.nsIn K mainGlobals "FIGURES"=some (some (.str "0123456789" z6)))
  {n8:Tok} (aMOST_FIGURES:PySem.W.nsIn K mainGlobals "MOST_FIGURES"=some (some (.int 2 n8)))
  (z_len:PySem.W.nsIn K mainGlobals "len"=some none)
  (z_range:PySem.W.nsIn K mainGlobals "range"=some none)
  (z_isinstance:PySem.W.nsIn K mainGlobals "isinstance"=some none)
  (z_max:PySem.W.nsIn K mainGlobals "max"=some none)
  (z_min:PySem.W.nsIn K mainGlobals "min"=some none)
  (z_int:PySem.W.nsIn K mainGlobals "int"=some none)
  (z_bool:PySem.W.nsIn K mainGlobals "bool"=some none)
  (z_tuple:PySem.W.nsIn K mainGlobals "tuple"=some none)
  (z_list:PySem.W.nsIn K mainGlobals "list"=some none)
  (z_abs:PySem.W.nsIn K mainGlobals "abs"=some none)
  (z_str:PySem.W.nsIn K mainGlobals "str"=some none)
  (z_sum:PySem.W.nsIn K mainGlobals "sum"=some none)
  (z_sorted:PySem.W.nsIn K mainGlobals "sorted"=some none)
  (z_reversed:PySem.W.nsIn K mainGlobals "reversed"=some none)
  (z_enumerate:PySem.W.nsIn K mainGlobals "enumerate"=some none)
  (z_set:PySem.W.nsIn K mainGlobals "set"=some none)
  (z_all:PySem.W.nsIn K mainGlobals "all"=some none)
  (z_zip:PySem.W.nsIn K mainGlobals "zip"=some none)
  (z_any:PySem.W.nsIn K mainGlobals "any"=some none)
  (ct:cg=[])
  {vV:Addr} (aNoText:PySem.W.nsIn K mainGlobals "NoText"=some (some (.ref vV)))
  (qxNoText:PySem.W.excIn (bV K) vV VE "ValueError.__new__"=true)
  {cL:Addr} (aL:PySem.W.nsIn K mainGlobals "LotError"=some (some (.ref cL)))
  (zE:PySem.W.nsIn K mainGlobals "ValueError"=some none)
  (qc:uh (bV K) cL eD qd=true)
  :kg K /\ ∃ fd:FuncData,(∀ (s:Shared) (v:Value),BindsTo s fd ⟨[v],[]⟩ [("_law_script",v)]) /\ ∀ base:Heap,(bV K).In base->base.Ns mainGlobals mg->ly l.prog w (bV K) mg base sT 6 fa fd ["_law_script"] (gj (bV K) 1 oX):=by
 have e:=PB.symm.trans (R9 X G q21.a)
 cases e
 have C:kg K:=⟨(λp xs m=>by rw [ct] at m; cases m),(λp xs m=>by rw [ct] at m; cases m)⟩
 have xt:Df (bV K) mg "is_plan" eM ["thing"]:=uN (C.func (cf (st:=eM) q1.l q1.c q1.k)) (R9 X G q1.a)
 have z7:Df (bV K) mg "led_to" fe ["place"]:=xr (C.func (cf (st:=fe) q2.l q2.c q2.k)) (R9 X G q2.a)
 have uP:Df (bV K) mg "is_place" dk ["thing","there"]:=sI (C.func (cf (st:=dk) q3.l q3.c q3.k)) (R9 X G q3.a)
 have uQ:Df (bV K) mg "is_whole" dY ["thing"]:=sJ (C.func (cf (st:=dY) q4.l q4.c q4.k)) (R9 X G q4.a)
 have lq:Df (bV K) mg "read_plan" bS ["text"]:=qB (C.func (cf (st:=bS) q5.l q5.c q5.k)) (R9 X G q5.a)
 have kv:Df (bV K) mg "read_place" bB ["text"]:=n4 (C.func (cf (st:=bB) q6.l q6.c q6.k)) (R9 X G q6.a)
 have ju:Df (bV K) mg "read_number" bT ["word"]:=nu (C.func (cf (st:=bT) q7.l q7.c q7.k)) (R9 X G q7.a)
 have sQ:Df (bV K) mg "is_number" cC ["word"]:=qC (C.func (cf (st:=cC) q8.l q8.c q8.k)) (R9 X G q8.a)
 have uR:Df (bV K) mg "_law_cell" dZ ["_law_script","_law_k"]:=sL (C.func (cf (st:=dZ) q9.l q9.c q9.k)) (R9 X G q9.a)
 have qF:Df (bV K) mg "_law_digits" cK ["_law_cell_here","_law_base","_law_many"]:=n5 (C.func (cf (st:=cK) q10.l q10.c q10.k)) (R9 X G q10.a)
 have sR:Df (bV K) mg "_law_mixes" dn ["_law_cell_here","_law_base","_law_many"]:=qD (C.func (cf (st:=dn) q11.l q11.c q11.k)) (R9 X G q11.a)
 have uS:Df (bV K) mg "_law_plan" cM ["_law_cell_here","_law_most_here"]:=sM (C.func (cf (st:=cM) q12.l q12.c q12.k)) (R9 X G q12.a)
 have uT:Df (bV K) mg "_law_word" dq ["_law_e"]:=sN (C.func (cf (st:=dq) q14.l q14.c q14.k)) (R9 X G q14.a)
 have n9:Df (bV K) mg "_law_written" bU ["_law_plan_here"]:=nv (C.func (cf (st:=bU) q15.l q15.c q15.k)) (R9 X G q15.a)
 have og:Df (bV K) mg "_law_refused" cm ["_law_text"]:=ny (C.func (cf (st:=cm) q16.l q16.c q16.k)) (R9 X G q16.a)
 have uU:Df (bV K) mg "_law_sign" d3 ["_law_number"]:=sP (C.func (cf (st:=d3) q17.l q17.c q17.k)) (R9 X G q17.a)
 have kX:Df (bV K) mg "_law_row_spoilt" bz ["_law_row","_law_draws","_law_way","_law_number"]:=ku (C.func (cf (st:=bz) q18.l q18.c q18.k)) (R9 X G q18.a)
 have qG:Df (bV K) mg "_law_spoilt" bC ["_law_plan_here","_law_text","_law_way","_law_number"]:=n6 (C.func (cf (st:=bC) q19.l q19.c q19.k)) (R9 X G q19.a)
 have xu:Df (bV K) mg "_law_odd" d7 ["_law_number"]:=uO (C.func (cf (st:=d7) q20.l q20.c q20.k)) (R9 X G q20.a)
 have Nq:Df (bV K) mg "law" iP ["_law_script"]:=E4 (C.func (cf (st:=iP) q21.l q21.c q21.k)) (R9 X G q21.a)
 have gq:Cn mg "MOST_PLACES" (.int 24):=⟨_,R9 X G aMOST_PLACES,⟨_,rfl⟩⟩
 have kU:Cn mg "FIGURES" (.str "0123456789"):=⟨_,R9 X G aFIGURES,⟨_,rfl⟩⟩
 have cz:Cn mg "MOST_FIGURES" (.int 2):=⟨_,R9 X G aMOST_FIGURES,⟨_,rfl⟩⟩
 have B:Bs mg:=⟨R5 X G z_len,R5 X G z_range,R5 X G z_isinstance,R5 X G z_max,R5 X G z_min,R5 X G z_int,R5 X G z_bool,R5 X G z_tuple,R5 X G z_list,R5 X G z_abs,R5 X G z_str,R5 X G z_sum,R5 X G z_sorted,R5 X G z_reversed,R5 X G z_enumerate,R5 X G z_set,R5 X G z_all,R5 X G z_zip,R5 X G z_any⟩
 have dJ:∃ C tl,Fo (bV K) mg "NoText" C VE tl "ValueError.__new__":=⟨_,Er (R9 X G aNoText) qxNoText⟩
 have mL:=R9 X G aL
 have Kz:=R5 X G zE
 have CT:=Bv (vy X) G qc
 have KA:=Bw qc
 have CE:=Bx (vy X) G qc
 refine ⟨C,PySem.W.fnOf "law" "law" (gL iP) (cD iP) (ai iP) .none Hv Hw Hx Hu Hy HA,λs v=>.of_eq rfl,λbase _ _=>?_⟩
 have jV:=sD (P:=l.prog) (w:=w) (base:=base) uQ B
 have jW:=sE (P:=l.prog) (w:=w) (base:=base) uP B jV
 have ni:=xq (P:=l.prog) (w:=w) (base:=base) z7 B
 have fE:=uL (P:=l.prog) (w:=w) (base:=base) xt B gq jW ni
 have d8:=qw (P:=l.prog) (w:=w) (base:=base) sQ B kU
 have fR:=lJ (P:=l.prog) (w:=w) (base:=base) ju B cz dJ d8
 have gu:=nj (P:=l.prog) (w:=w) (base:=base) ju B cz d8
 have gv:=nk (P:=l.prog) (w:=w) (base:=base) kv B fR
 have hZ:=nY (P:=l.prog) (w:=w) (base:=base) kv B gu
 have ia:=nZ (P:=l.prog) (w:=w) (base:=base) lq B dJ fE gv
 have iR:=qy (P:=l.prog) (w:=w) (base:=base) lq B fE hZ
 have fS:=sF (P:=l.prog) (w:=w) (base:=base) uR B
 have h8:=n0 (P:=l.prog) (w:=w) (base:=base) qF B
 have d9:=qz (P:=l.prog) (w:=w) (base:=base) sR B
 have jX:=sG (P:=l.prog) (w:=w) (base:=base) uS B h8 d9
 have iQ:=qA (P:=l.prog) (w:=w) (base:=base) uT B CT Kz KA
 have gy:=nq (P:=l.prog) (w:=w) (base:=base) n9 B
 have eX:=nr (P:=l.prog) (w:=w) (base:=base) og B mL CE iQ ia
 have ib:=sH (P:=l.prog) (w:=w) (base:=base) uU B
 have eO:=kr (P:=l.prog) (w:=w) (base:=base) kX B
 have ic:=n1 (P:=l.prog) (w:=w) (base:=base) qG B eO ib
 have kW:=uM (P:=l.prog) (w:=w) (base:=base) xu B
 exact E3 (P:=l.prog) (w:=w) (base:=base) (C.func (cf (st:=iP) q21.l q21.c q21.k)) B fS d9 kW jX eX ic gy iR
theorem walk {l:PySem.W.OpenLaw} {q:Program} {loose:List Str} {XP:(Str->Option Value)->Heap->Prop} {YP:World->Heap->Prop} {d:DefRec} {K:Params->PySem.W.Frag} (hn:l.most=some 63) (Gd:d.params.defaults=[])
  (hY:∀ (w:World) (h:Heap),YP w h->(K w.params).In h)
  (F:∀ (w:World) (mg:Str->Option Value) (fa:Addr) (h:Heap),(K w.params).In h->h.Ns mainGlobals mg->mg d.name=some (.ref fa)->
   kg (K w.params) /\ ∃ fd:FuncData,(∀ (s:Shared) (u:Value),BindsTo s fd ⟨[u],[]⟩ [("_law_script",u)]) /\ ∀ base:Heap,(bV (K w.params)).In base->base.Ns mainGlobals mg->ly l.prog w (bV (K w.params)) mg base sT 6 fa fd ["_law_script"] (gj (bV (K w.params)) 1 oX)):
  PySem.W.WalkO q loose XP YP l.row.toRowW d [] (λf vs=>PySem.call f vs):=
 L2.yZ (n:=63) (k:=6) (x:="_law_script") (CX:=λ_=>sT) (sp:=λw=>gj (bV (K w.params)) 1 oX) hn (by decide) Gd ⟨rfl,by decide,by decide⟩ hY F (λ_ _ a ns hl hS hT=>⟨rfl,[],[.list (ns.map PyData.int)],.bool true,⟨λ_ z=>by simp at z,hT⟩,by rw [yi]; exact .cons (.lst hS (b7.ints ns)) .nil,z5 ns hl,λv H' _ h=>by cases h; rfl⟩) λ_ _ _ _ _ z=>z
end aF
open PySem PySem.W PyProof.Rows
set_option tactic.hygienic true
set_option maxRecDepth 100000 in
set_option maxHeartbeats 0 in
theorem PySem.Challenge.cw_lotdraw_k18_bad_texts_holds : PySem.Challenge.rw_lotdraw_k18_bad_texts.Holds := by
 w_on; o_law
 refine PySem.W.holds_open (q:=aF.qJ) (loose:=[]) (Xt:=aF.Mm) (XP:=XL aF.qJ []) (Yf:=Hook.obs (kHook aF.Fv aF.Fw aF.xE)) (Ya:=Hook.val (kHook aF.Fv aF.Fw aF.xE)) (YP:=Hook.says (kHook aF.Fv aF.Fw aF.xE)) (N:=8216) (Hd.vX ?h1 rfl (λ_=>rfl) aF.Ak aF.Al) (Hook.of _) (Hook.keeps _) (λs e=>xl_of s (Bool.and_eq_true_iff.mp e).1) XL.keeps (by rfl) (by rfl) (by rfl) (λs e=>recFacts_of (Bool.and_eq_true_iff.mp e).2) rfl (by first | assumption | decide +kernel) (by decide +kernel) ⟨rfl,rfl,rfl,rfl,rfl,by decide +kernel⟩ ?hw ?hc
 case h1=>kernel_rfl
 case hw=>w_witness2
 k_fill
 refine aF.walk (l:=PySem.Challenge.rw_lotdraw_k18_bad_texts) rfl rfl (λw h Y=>PySem.W.kIn_of Y) ?F
 case F=>
  intro w mg fa h KX G Ge
  refine' aF.all_mk KX G Ge ?q1 ?q2 ?q3 ?q4 ?q5 ?q6 ?q7 ?q8 ?q9 ?q10 ?q11 ?q12 ?q14 ?q15 ?q16 ?q17 ?q18 ?q19 ?q20 ?q21 ?aMOST_PLACES ?aFIGURES ?aMOST_FIGURES ?z_len ?z_range ?z_isinstance ?z_max ?z_min ?z_int ?z_bool ?z_tuple ?z_list ?z_abs ?z_str ?z_sum ?z_sorted ?z_reversed ?z_enumerate ?z_set ?z_all ?z_zip ?z_any ?ct ?aNoText ?qxNoText ?aL ?zE ?qc
  (case q1=>refine' ⟨?x,?y,?z,?t⟩; (case x=>k_is); (case y=>k_is); (case z=>k_is); (case t=>k_is))
  (case q2=>refine' ⟨?x,?y,?z,?t⟩; (case x=>k_is); (case y=>k_is); (case z=>k_is); (case t=>k_is))
  (case q3=>refine' ⟨?x,?y,?z,?t⟩; (case x=>k_is); (case y=>k_is); (case z=>k_is); (case t=>k_is))
  (case q4=>refine' ⟨?x,?y,?z,?t⟩; (case x=>k_is); (case y=>k_is); (case z=>k_is); (case t=>k_is))
  (case q5=>refine' ⟨?x,?y,?z,?t⟩; (case x=>k_is); (case y=>k_is); (case z=>k_is); (case t=>k_is))
  (case q6=>refine' ⟨?x,?y,?z,?t⟩; (case x=>k_is); (case y=>k_is); (case z=>k_is); (case t=>k_is))
  (case q7=>refine' ⟨?x,?y,?z,?t⟩; (case x=>k_is); (case y=>k_is); (case z=>k_is); (case t=>k_is))
  (case q8=>refine' ⟨?x,?y,?z,?t⟩; (case x=>k_is); (case y=>k_is); (case z=>k_is); (case t=>k_is))
  (case q9=>refine' ⟨?x,?y,?z,?t⟩; (case x=>k_is); (case y=>k_is); (case z=>k_is); (case t=>k_is))
  (case q10=>refine' ⟨?x,?y,?z,?t⟩; (case x=>k_is); (case y=>k_is); (case z=>k_is); (case t=>k_is))
  (case q11=>refine' ⟨?x,?y,?z,?t⟩; (case x=>k_is); (case y=>k_is); (case z=>k_is); (case t=>k_is))
  (case q12=>refine' ⟨?x,?y,?z,?t⟩; (case x=>k_is); (case y=>k_is); (case z=>k_is); (case t=>k_is))
  (case q14=>refine' ⟨?x,?y,?z,?t⟩; (case x=>k_is); (case y=>k_is); (case z=>k_is); (case t=>k_is))
  (case q15=>refine' ⟨?x,?y,?z,?t⟩; (case x=>k_is); (case y=>k_is); (case z=>k_is); (case t=>k_is))
  (case q16=>refine' ⟨?x,?y,?z,?t⟩; (case x=>k_is); (case y=>k_is); (case z=>k_is); (case t=>k_is))
  (case q17=>refine' ⟨?x,?y,?z,?t⟩; (case x=>k_is); (case y=>k_is); (case z=>k_is); (case t=>k_is))
  (case q18=>refine' ⟨?x,?y,?z,?t⟩; (case x=>k_is); (case y=>k_is); (case z=>k_is); (case t=>k_is))
  (case q19=>refine' ⟨?x,?y,?z,?t⟩; (case x=>k_is); (case y=>k_is); (case z=>k_is); (case t=>k_is))
  (case q20=>refine' ⟨?x,?y,?z,?t⟩; (case x=>k_is); (case y=>k_is); (case z=>k_is); (case t=>k_is))
  (case q21=>refine' ⟨?x,?y,?z,?t⟩; (case x=>k_is); (case y=>k_is); (case z=>k_is); (case t=>k_is))
  (case aMOST_PLACES=>k_is)
  (case aFIGURES=>k_is)
  (case aMOST_FIGURES=>k_is)
  (case z_len=>kernel_rfl)
  (case z_range=>kernel_rfl)
  (case z_isinstance=>kernel_rfl)
  (case z_max=>kernel_rfl)
  (case z_min=>kernel_rfl)
  (case z_int=>kernel_rfl)
  (case z_bool=>kernel_rfl)
  (case z_tuple=>kernel_rfl)
  (case z_list=>kernel_rfl)
  (case z_abs=>kernel_rfl)
  (case z_str=>kernel_rfl)
  (case z_sum=>kernel_rfl)
  (case z_sorted=>kernel_rfl)
  (case z_reversed=>kernel_rfl)
  (case z_enumerate=>kernel_rfl)
  (case z_set=>kernel_rfl)
  (case z_all=>kernel_rfl)
  (case z_zip=>kernel_rfl)
  (case z_any=>kernel_rfl)
  (case ct=>rfl)
  (case aNoText=>k_is)
  (case qxNoText=>kernel_rfl)
  (case aL=>k_is)
  (case zE=>kernel_rfl)
  (case qc=>kernel_rfl)
end
