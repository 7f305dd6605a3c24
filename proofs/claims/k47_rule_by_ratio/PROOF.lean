import PyProof.Rows.All
import Wide.All
import OpenK.AllK
import Wide.FinOn
import Lean
import PyProof.EqAt
import PyProof.EqKinds
import PyProof.TupleCall
import PySem.Challenge.RW_lotdraw_k47_rule_by_ratio
set_option Elab.async false
set_option linter.all false
set_option maxRecDepth 100000
set_option tactic.hygienic false
noncomputable section
def Y3:=@PySem.wpAny_bind
def Y4:=@List.getElem?_eq_getElem
def Y5:=@PySem.Heap.get?_push_of_some
def Y6:=@List.mem_cons
def Y7:=@List.length_map
def Y8:=@List.mem_cons_of_mem
def Y9:=@List.getD_eq_getElem?_getD
def Za:=@Option.bind_some
def Zb:=@List.mem_cons_self
def Zc:=@PySem.wpAny_pure
def Zd:=@List.getElem?_eq_some_iff
def Ze:=@Nat.le_refl
def Zf:=@PySem.Heap.lt_size
def Zg:=@List.mem_append_right
def Zh:=@PySem.Heap.get?_push_size
def Zi:=@Nat.lt_of_lt_of_le
def Zj:=@if_neg
def Zk:=@if_pos
def Zl:=@List.getElem?_map
def Zm:=@List.size_toArray
def Zn:=@List.map_cons
def Zo:=@List.getElem?_cons_zero
def Zp:=@List.length_cons
def Zq:=@List.mem_of_getElem?
def Zr:=@decide_eq_false
def Zs:=@Nat.ne_of_lt
def Zt:=@Bool.false_ne_true
def Zu:=@decide_eq_true
def Zv:=@List.getElem?_set_ne
def Zw:=@List.getElem?_cons_succ
def Zx:=@PySem.PassesOwn.never
def Zy:=@Option.join_some
def Zz:=@List.length_append
def ZA:=@PySem.W.mg_none_of
def ZC:=@List.mem_append
def ZD:=@Int.toNat_natCast
def ZE:=@Bool.and_eq_true
def ZF:=@List.pairwise_cons
def ZG:=@List.mem_map
def ZH:=@List.length_take
def ZI:=@List.map_append
def ZJ:=@List.getElem?_set_self
def ZK:=@PySem.Heap.SameBut.update
def ZL:=@decide_eq_true_eq
def ZM:=@PySem.wpAny_mono
def ZN:=@Bool.false_eq_true
def ZO:=@Int.emod_lt_of_pos
def ZP:=@Array.length_toList
def ZQ:=@Nat.le_trans
def ZR:=@List.lookup_cons
def ZS:=@List.not_mem_nil
def ZT:=@PySem.F.plainAttrs_list
def ZU:=@Nat.lt_irrefl
def ZV:=@Option.some.inj
def ZW:=@List.mem_singleton
def ZX:=@List.mem_append_left
def ZY:=@List.getElem_of_mem
def ZZ:=@PySem.F.slot_list_append
def Z0:=@Option.map_some
def Z1:=@Int.mul_ne_zero
def Z2:=@Int.emod_nonneg
def Z3:=@PySem.wpAny_newObj_type
def Z4:=@List.take_add_one
def Z5:=@List.mem_of_mem_take
def Z6:=@PySem.W.kia_one
def Z7:=@List.append_nil
def Z8:=@List.take_length
def Z9:=@List.length_range
def aaa:=@Nat.lt_of_le_of_lt
def aab:=@PySem.Obj.data_mapFields
def aac:=@List.set_cons_zero
def aad:=@List.length_set
def aae:=@List.getElem_mem
def aaf:=@PySem.F.type_list_append
def aag:=@PySem.W.mg_of
def aah:=@Nat.zero_le
def aai:=@Int.mul_pos
def aaj:=@PySem.Heap.get?_update_self
def aak:=@Nat.le_of_lt
def aal:=@PyProof.Rows.callWith_type1
def aam:=@congrArg
def aan:=@Nat.lt_succ_of_lt
def aao:=@Int.lt_of_mul_lt_mul_right
def aap:=@List.set_cons_succ
def aaq:=@List.length_nil
def aar:=@Nat.lt_succ_self
def aas:=@Nat.zero_add
def aat:=@Array.getElem?_eq_getElem
def aau:=@List.pairwise_iff_getElem
def aav:=@PySem.mem_of_lookup
def aaw:=@List.pairwise_map
def aax:=@Int.pow_pos
def aay:=@List.map_map
def aaz:=@PySem.F.called_set
def aaA:=@Nat.le_succ
def aaB:=@PySem.wpAny_callSpecial?_slot
def aaC:=@PySem.wpAny_call_entry
def aaD:=@List.pairwise_append
def aaE:=@PySem.Around.under_plainId
def aaF:=@Int.mul_lt_mul_of_pos_right
def aaG:=@List.sum_cons
def aaH:=@PySem.Heap.get?_update_other
def aaI:=@PySem.F.slot_tuple_iterator_next
def aaJ:=@List.getElem?_append_right
def aaK:=@Int.eq_of_mul_eq_mul_right
def aaL:=@PySem.codeAny_builtin
def aaM:=@List.drop_eq_getElem_cons
def aaN:=@if_false
def aaO:=@List.getElem?_eq_none
def aaP:=@Int.natAbs_natCast
def aaQ:=@PySem.Heap.size_push
def aaR:=@List.mem_filter
def aaS:=@List.find?_cons
def aaT:=@List.getElem?_range
def aaU:=@PyProof.Rows.F.plain_set_update_loop
def aaV:=@Int.toNat_of_nonneg
def aaW:=@if_true
def aaX:=@PySem.wpAny_holding
def aaY:=@PySem.wpAny_setField
def aaZ:=@PySem.Obj.isFreed_of_fields
def aa0:=@List.getElem?_append_left
def aa1:=@PySem.wpAny_passesOwn
def aa2:=@Nat.ne_of_gt
def aa3:=@PySem.codeAny_mono
def aa4:=@Option.some.injEq
def aa5:=@or_false
def aa6:=@PySem.wpAny_pyIter_enum
def aa7:=@List.getElem?_zipIdx
def aa8:=@PySem.wpAny_setState_of
def aa9:=@Int.mul_comm
def aba:=@PySem.F.called_enumerate
def abb:=@Bool.true_and
def abc:=@beq_eq_false_iff_ne
def abd:=@Ne.symm
def abe:=@PySem.wpAny_setEntries_of
def abf:=@List.mem_range
def abg:=@PySem.wpAny_askSetting
def abh:=@PySem.Value.type.inj
def abi:=@List.cons_append
def abj:=@List.filter_cons
def abk:=@Int.mul_le_mul_of_nonneg_right
def abl:=@PySem.wpAny_rule
def abm:=@PySem.wpAny_Call_Name_kw
def abn:=@List.take_of_length_le
def abo:=@List.of_mem_zip
def abp:=@Int.gcd_pos_of_ne_zero_right
def abq:=@Prod.mk.injEq
def abr:=@List.take_append_drop
def abt:=@PySem.wpAny_truthy_bool
def abu:=@List.getElem_take
def abv:=@of_decide_eq_true
def abw:=@List.foldl_append
def abx:=@PySem.sizeLine_eq
def aby:=@PySem.wpAny_letOwnedTupleGo_enum
def abz:=@PySem.F.plain_list_iadd
def abA:=@Array.perm_iff_toList_perm
def abB:=@Int.gcd_add_mul_right_left
def abC:=@Int.le_of_mul_le_mul_right
def abD:=@List.perm_ext_iff_of_nodup
def abE:=@List.length_drop
def abF:=@Int.pow_succ
def abG:=@List.getElem?_zip_eq_some
def abH:=@Int.eq_of_mul_eq_mul_left
def abI:=@Int.mul_neg_of_neg_of_pos
def abJ:=@PyProof.Rows.F.entry_set_update_loop
def abK:=@Int.mul_fdiv_cancel
def abL:=@Int.mul_ediv_cancel
def abM:=@Nat.add_le_add_left
def abN:=@PySem.F.args_tuple_add_2
def abO:=@List.any_cons
def abP:=@PySem.plainId_quiet
def abQ:=@PySem.wpAny_attempt
def abR:=@List.Pairwise.imp_of_mem
def abS:=@Int.pow_ne_zero
def abT:=@PySem.Calls.spliced_cons
def abU:=@PySem.F.args_tuple_iterator_next_1
def abV:=@PySem.F.entry_tuple_add
def abW:=@List.length_eq_zero_iff
def abX:=@decide_eq_false_iff_not
def abY:=@Int.le_refl
def abZ:=@PySem.F.entry_tuple_iterator_next
def ab0:=@Option.map_eq_some_iff
def ab1:=@PySem.F.slot_tuple_add
def ab2:=@List.map_nil
def ab3:=@PySem.Calls.callWith_builtin
def ab4:=@PySem.F.slot_list_extend
def ab5:=@PySem.Obj.cls_mapFields
def ab6:=@PySem.isSubtype_type
def ab7:=@Bool.not_eq_true'
def ab8:=@Int.lt_trichotomy
def ab9:=@PySem.F.slot_dict_get
def aca:=@Int.natAbs_dvd_natAbs
def acb:=@List.length_filter_le
def acd:=@Nat.le_of_not_lt
def ace:=@List.getElem_map
def acf:=@PySem.wpAny_standAt
def acg:=@List.all_cons
def ach:=@Nat.le_of_dvd
def aci:=@PySem.codeAny_call_builtin
def acj:=@PySem.wpAny_execs_nil
def ack:=@List.nodup_cons
def acm:=@List.map_congr_left
def acn:=@List.filter_sublist
def aco:=@Nat.lt_trans
def acq:=@Nat.le_of_eq
def acr:=@getElem?_pos
def acu:=@Bool.false_and
def acw:=@Array.append_empty
def acx:=@PySem.wpAny_seqItems
def acy:=@PySem.wpAny_fieldsOf
def acA:=@List.length_zipIdx
def acB:=@List.filter_append
def acC:=@Nat.add_sub_cancel
def acE:=@PySem.W.kitx_list
def acG:=@List.take_sublist
def acI:=@PySem.wpAny_of_eq
def acJ:=@List.getElem_drop
def acL:=@Array.toList_push
def acM:=@List.nodup_append
def acN:=@List.append_assoc
def acO:=@Nat.gcd_dvd_right
def acT:=@Bool.not_true
def acY:=@beq_self_eq_true
def acZ:=@List.drop_length
def ac0:=@Nat.succ_ne_self
def ac2:=@List.ext_getElem
def ac9:=@not_or
def adf:=@Nat.min_self
def adg:=@Int.zero_mul
def adh:=@Int.le_of_lt
namespace L2
open PySem
def eW (s:Stmt):Arguments:=match s with
 | .FunctionDef _ a _ _ _ _ _ _ _ _=>a
 | _=>{ posonlyargs:=[],args:=[],vararg:=none,kwonlyargs:=[],kw_defaults:=[],kwarg:=none,defaults:=[] }
def cA (s:Stmt):List Stmt:=match s with
 | .FunctionDef _ _ b _ _ _ _ _ _ _=>b
 | _=>[]
def ai (s:Stmt):Scope:=match s with
 | .FunctionDef _ _ _ _ _ _ sc _ _ _=>sc
 | _=>{ kind:=.function,names:=[],isGenerator:=false,isCoroutine:=false }
end L2
namespace Hd
open PySem PySem.W
def yt (tb:String->Option Builtin) (p:Program) (w:World) (m:Nat) (ann:Option Value):Nat->SharedT->Thread->Option SharedT
 | 0,_,_=>none
 | n + 1,s,t=>match through t with
   | true=>some s
   | false=>match stepOk m ann t with
     | false=>none
     | true=>match stepT (denote tb) p w s t with
       | some (s',t')=>yt tb p w m ann n s' t'
       | none=>none
theorem Aa {tb:String->Option Builtin} {p:Program} {w:World} {m:Nat} {ann:Option Value}:∀ {n:Nat} {s s':SharedT} {t:Thread},yt tb p w m ann n s t=some s'->topRun tb p w m ann n s.abs t=some s'.abs
 | 0,_,_,_,h=>by cases h
 | n + 1,s,s',t,h=>by
   unfold yt at h
   unfold topRun
   cases he:through t with
   | true=>rw [he] at h; cases h; rfl
   | false=>
     rw [he] at h
     cases hk:stepOk m ann t with
     | false=>rw [hk] at h; cases h
     | true=>
       rw [hk] at h
       cases hs:stepT (denote tb) p w s t with
       | none=>rw [hs] at h; cases h
       | some r=>obtain ⟨s2,t2⟩:=r; rw [hs] at h; rw [stepT_spec hs]; exact Aa h
def CS (P:Params):BT:=(.node (boot_o_0 P) (.node (boot_o_1 P) (.node (boot_o_3 P) (.node (boot_o_7 P) .nil .nil) .nil) (.node (boot_o_5 P) (.node (boot_o_9 P) .nil .nil) .nil)) (.node (boot_o_2 P) (.node (boot_o_4 P) (.node (boot_o_8 P) .nil .nil) .nil) (.node (boot_o_6 P) (.node (boot_o_10 P) .nil .nil) .nil)))
theorem boot_abs (P:Params):boot_heap P=absHeap (CS P) 11 (boot_heap P).life:=by kernel_rfl
def v5 (w:World) (os:OsState):SharedT:=⟨CS w.params,11,(boot_heap w.params).life,Array.mk [],boot_drawn,boot_toks,os⟩
theorem Gw (w:World) (os:OsState):(v5 w os).abs=⟨boot_heap w.params,Array.mk [],boot_drawn,boot_toks,os⟩:=by
 show Shared.mk (absHeap (CS w.params) 11 (boot_heap w.params).life) _ _ _ _=_
 rw [<- boot_abs]; rfl
theorem Br (P:Params):((boot_heap P).isNs mainGlobals,(boot_heap P).objs.size,(boot_heap P).nsMap mainGlobals "__annotations__")=(true,11,some (.ref 6)):=by kernel_rfl
theorem Bt {p q:Program} {loose:List Str} {Xt:Shared->Bool} {α:Type} {Yf:Shared->α} {Ya:World->α} {N:Nat} (e:opening p=plainProg p.main.scope.names) (hN:Nat.ble 600 N=true) (f:∀ s,fenceModules? p s=some s)
  (one:∀ (w:World) (os:OsState),(yt treeTable p w 11 (some (.ref 6)) N (v5 w os) (topStub p)).map (λs=>((staticsOk (importedModules p.main.body) (boot_heap w.params) s.abs.heap && namesBound p s.abs.heap && gensDone s.abs && laidKept (boot_heap w.params) s.abs.heap),Yf s.abs))=some (true,Ya w))
  (two:∀ (w:World) (os:OsState),(yt treeTable p w 11 (some (.ref 6)) N (v5 w os) (topStub p)).map (λs=>openSeen q loose (importedModules p.main.body) Xt true s.abs)=some (openGood q loose)):
  LeftO p q loose Xt Yf Ya N:=λw=>by
 obtain ⟨⟨h,gs,d,k,os⟩,e1,e2⟩:=ab0.mp (boot_open e hN f w)
 obtain ⟨rfl,rfl,rfl,rfl⟩:h=boot_heap w.params /\ gs=Array.mk [] /\ d=boot_drawn /\ k=boot_toks:=by simpa using e2
 obtain ⟨s,r,l⟩:=ab0.mp (one w os)
 obtain ⟨l1,l3⟩:_ /\ _:=by simpa only [Prod.mk.injEq] using l
 have l2:openSeen q loose (importedModules p.main.body) Xt true s.abs=openGood q loose:=by
  have:=two w os
  rw [r] at this
  exact ZV this
 obtain ⟨z1,z2,z3⟩:_ /\ _ /\ _:=by simpa only [Prod.mk.injEq] using Br w.params
 have r':=Aa r
 rw [Gw] at r'
 have t:topFrom treeTable p w N ⟨boot_heap w.params,Array.mk [],boot_drawn,boot_toks,os⟩=some s.abs:=by
  unfold topFrom
  dsimp only
  rw [z1,z2,z3,r']
  show (match staticsOk (importedModules p.main.body) (boot_heap w.params) s.abs.heap && namesBound p s.abs.heap && gensDone s.abs && laidKept (boot_heap w.params) s.abs.heap with | true=>_ | false=>_)=_
  rw [l1]
 unfold openEnds
 rw [e1]
 show (topFrom treeTable p w N ⟨boot_heap w.params,Array.mk [],boot_drawn,boot_toks,os⟩).map _=_
 rw [t,Z0,l2,l3]
end Hd
namespace au
open PySem PySem.W L2
def top (i:Nat):Stmt:=PySem.Challenge.pw_lotdraw_k47_rule_by_ratio.main.body.getD i (.Pass ⟨0,0,0,0⟩)
def v7:Program:={ PySem.Challenge.pw_lotdraw_k47_rule_by_ratio with main:={ PySem.Challenge.pw_lotdraw_k47_rule_by_ratio.main with body:=[top 1,top 2,top 3,top 5,top 6,top 7,top 8,top 9,top 10,top 11,top 12,top 13,top 14,top 15,top 16,top 18,top 19,top 20,top 21,top 22,top 23,top 25,top 26,top 27,top 29,top 31,top 32,top 33,top 34,top 35,top 36,top 37,top 38,top 39,top 41,top 42,top 43,top 44,top 45,top 46,top 47,top 48,top 49,top 50,top 51,top 52,top 53,top 54,top 55,top 56,top 57,top 58,top 59] } }
abbrev ent (P:Params) (k:Str) (n:Nat) (v:Value):DictEntry:=⟨PyData.keyHash P k,.str k n,v⟩
abbrev j7 (P:Params):=λx0 x1 x2 x3 x4 x5 x6 x7 x8 x9 Oh RO RP=>(⟨(.type "code"),none,(.fields #[(.str x0 x1),(.str x0 x2),(.str "/claim/cut.py" x3),(.int x4 0),(.int x5 0),(.int 0 0),(.int 0 0),(.int 3 0),(.ref x6),(.bool true),(.int 181 0),(.ref x7),.none,(.ref x8),(.ref x9),(.ref Oh),(.int RO 0),(.int x4 0),(.str "/claim/cut.py" RP)]),#[]⟩:Obj)
abbrev fO (P:Params):=λx0 x1 x2 x3 x4=>(⟨(.type "function"),none,.func (fnOf x0 x0 (eW (top x1)) (cA (top x1)) (ai (top x1)) .none .none .none (.str x2 x3) none (.ref x4) .none),#[]⟩:Obj)
abbrev nO (P:Params):=λx0 x1 x2 x3 x4 x5 x6 x7 x8 x9 Oh=>(⟨(.type "code"),none,(.fields #[(.str x0 x1),(.str x0 x2),(.str "/claim/cut.py" x3),(.int x4 0),(.int x5 0),(.int 0 0),(.int 0 0),(.int 3 0),(.ref x6),(.bool true),(.int 181 0),(.ref x7),.none,.none,.none,(.ref x8),(.int x9 0),(.int x4 0),(.str "/claim/cut.py" Oh)]),#[]⟩:Obj)
def Oi:Params->Frag:=λP=>(nat_lit 2,⟨.none,none,(.dict #[] 0),#[]⟩) ::
 (nat_lit 3,⟨(.type "dict"),none,(.dict #[(ent P "__name__" 165 (.str "law_lotdraw_k47_rule_by_ratio" 495)),(ent P "__doc__" 166 .none),(ent P "__package__" 167 .none),(ent P "__loader__" 168 (.builtin "__main__.__loader__#opaque")),(ent P "__spec__" 169 .none),(ent P "__annotations__" 170 (.ref 6)),(ent P "__builtins__" 171 (.ref 4)),(ent P "__file__" 173 (.str "/claim/cut.py" 172)),(ent P "__cached__" 174 .none),(ent P "LotError" 206 (.ref 24)),(ent P "NoNumber" 222 (.ref 37)),(ent P "NoShares" 238 (.ref 49)),(ent P "LONG" 242 (.int 4000 241)),(ent P "WINDOW" 244 (.int 240 243)),(ent P "SHED" 246 (.int 120 245)),(ent P "frac" 255 (.ref 58)),(ent P "plus" 267 (.ref 65)),(ent P "minus" 275 (.ref 72)),(ent P "times" 285 (.ref 79)),(ent P "over" 293 (.ref 86)),(ent P "power" 304 (.ref 93)),(ent P "under" 312 (.ref 100)),(ent P "greatest_divisor" 322 (.ref 107)),(ent P "leap" 335 (.ref 114)),(ent P "goes_on" 346 (.ref 121)),(ent P "come_to" 352 (.ref 126)),(ent P "ends" 358 (.ref 131)),(ent P "drawn_on" 364 (.ref 136)),(ent P "led_to" 370 (.ref 141)),(ent P "after" 378 (.ref 148)),(ent P "NOUGHT" 383 (.ref 149)),(ent P "common_bottom" 392 (.ref 156)),(ent P "tops_over" 398 (.ref 161)),(ent P "ways_from" 412 (.ref 168)),(ent P "WHOLE" 417 (.ref 169)),(ent P "ratio" 426 (.ref 176)),(ent P "rule_by_ratio" 440 (.ref 183)),(ent P "check_shares" 448 (.ref 190)),(ent P "check_most" 455 (.ref 197)),(ent P "often" 465 (.ref 204)),(ent P "by_falling_ratio" 471 (.ref 209)),(ent P "taken" 487 (.ref 216)),(ent P "in_order" 494 (.ref 223)),(ent P "_law_cell" 504 (.ref 230)),(ent P "_law_digits" 515 (.ref 237)),(ent P "_law_mixes" 527 (.ref 244)),(ent P "_law_plan" 533 (.ref 249)),(ent P "_law_most" 540 (.ref 256)),(ent P "_law_ends" 546 (.ref 261)),(ent P "_law_ways" 559 (.ref 268)),(ent P "_law_whole" 566 (.ref 275)),(ent P "_law_divisor" 574 (.ref 282)),(ent P "_law_is_frac" 583 (.ref 289)),(ent P "_law_shares" 594 (.ref 296)),(ent P "_law_made" 603 (.ref 303)),(ent P "_law_times" 613 (.ref 310)),(ent P "_law_weight" 622 (.ref 317)),(ent P "_law_order" 635 (.ref 324)),(ent P "_law_odds" 646 (.ref 331)),(ent P "_law_most_of" 656 (.ref 338)),(ent P "_law_asked" 662 (.ref 343)),(ent P "law" 673 (.ref 350))] 62),#[]⟩) ::
 (nat_lit 23,⟨(.type "dict"),none,(.dict #[(ent P "__module__" 196 (.str "lotdraw.errors" 187)),(ent P "__firstlineno__" 200 (.int 2 199)),(ent P "__static_attributes__" 201 (.ref 22)),(ent P "__weakref__" 203 (.ref 25)),(ent P "__doc__" 204 .none)] 3),#[]⟩) ::
 (nat_lit 24,⟨(.type "type"),none,(.cls ⟨"LotError",[(.type "ValueError")],[(.ref 24),(.type "ValueError"),(.type "Exception"),(.type "BaseException"),(.type "object")],23,"LotError",true,[],[(.ref 37),(.ref 49)],false,none,false⟩),#[(some (.ref 15)),none,(some (.str "LotError" 189)),(some (.str "LotError" 197)),(some (.builtin "ValueError.__new__")),(some (.bool true))]⟩) ::
 (nat_lit 25,⟨(.type "getset_descriptor"),none,(.fields #[(.str "__weakref__" 202),(.ref 24),(.builtin "ExceptionGroup.__weakref__"),.none]),#[]⟩) ::
 (nat_lit 36,⟨(.type "dict"),none,(.dict #[(ent P "__module__" 214 (.str "lotdraw.errors" 187)),(ent P "__firstlineno__" 218 (.int 4 217)),(ent P "__static_attributes__" 219 (.ref 35)),(ent P "__doc__" 220 .none)] 2),#[]⟩) ::
 (nat_lit 37,⟨(.type "type"),none,(.cls ⟨"NoNumber",[(.ref 24)],[(.ref 37),(.ref 24),(.type "ValueError"),(.type "Exception"),(.type "BaseException"),(.type "object")],36,"NoNumber",true,[],[],false,none,false⟩),#[(some (.ref 28)),none,(some (.str "NoNumber" 207)),(some (.str "NoNumber" 215)),(some (.builtin "ValueError.__new__")),(some (.bool true))]⟩) ::
 (nat_lit 48,⟨(.type "dict"),none,(.dict #[(ent P "__module__" 230 (.str "lotdraw.errors" 187)),(ent P "__firstlineno__" 234 (.int 6 233)),(ent P "__static_attributes__" 235 (.ref 47)),(ent P "__doc__" 236 .none)] 2),#[]⟩) ::
 (nat_lit 49,⟨(.type "type"),none,(.cls ⟨"NoShares",[(.ref 24)],[(.ref 49),(.ref 24),(.type "ValueError"),(.type "Exception"),(.type "BaseException"),(.type "object")],48,"NoShares",true,[],[],false,none,false⟩),#[(some (.ref 40)),none,(some (.str "NoShares" 223)),(some (.str "NoShares" 231)),(some (.builtin "ValueError.__new__")),(some (.bool true))]⟩) ::
 (nat_lit 57,j7 P "frac" 247 248 249 12 2 52 53 54 55 56 253 254) ::
 (nat_lit 58,fO P "frac" 8 "lotdraw.fracs" 239 57) ::
 (nat_lit 64,j7 P "plus" 256 257 258 19 2 59 60 61 62 63 265 266) ::
 (nat_lit 65,fO P "plus" 9 "lotdraw.fracs" 239 64) ::
 (nat_lit 71,j7 P "minus" 268 269 270 25 2 66 67 68 69 70 273 274) ::
 (nat_lit 72,fO P "minus" 10 "lotdraw.fracs" 239 71) ::
 (nat_lit 78,j7 P "times" 276 277 278 27 2 73 74 75 76 77 283 284) ::
 (nat_lit 79,fO P "times" 11 "lotdraw.fracs" 239 78) ::
 (nat_lit 85,j7 P "over" 286 287 288 31 2 80 81 82 83 84 291 292) ::
 (nat_lit 86,fO P "over" 12 "lotdraw.fracs" 239 85) ::
 (nat_lit 92,j7 P "power" 294 295 296 33 2 87 88 89 90 91 302 303) ::
 (nat_lit 93,fO P "power" 13 "lotdraw.fracs" 239 92) ::
 (nat_lit 99,j7 P "under" 305 306 307 40 2 94 95 96 97 98 310 311) ::
 (nat_lit 100,fO P "under" 14 "lotdraw.fracs" 239 99) ::
 (nat_lit 106,j7 P "greatest_divisor" 313 314 315 42 2 101 102 103 104 105 320 321) ::
 (nat_lit 107,fO P "greatest_divisor" 15 "lotdraw.fracs" 239 106) ::
 (nat_lit 113,j7 P "leap" 323 324 325 54 2 108 109 110 111 112 333 334) ::
 (nat_lit 114,fO P "leap" 16 "lotdraw.fracs" 239 113) ::
 (nat_lit 120,j7 P "goes_on" 338 339 340 65 2 115 116 117 118 119 344 345) ::
 (nat_lit 121,fO P "goes_on" 18 "lotdraw.plans" 336 120) ::
 (nat_lit 125,nO P "come_to" 347 348 349 68 1 122 123 124 350 351) ::
 (nat_lit 126,fO P "come_to" 19 "lotdraw.plans" 336 125) ::
 (nat_lit 130,nO P "ends" 353 354 355 73 1 127 128 129 356 357) ::
 (nat_lit 131,fO P "ends" 20 "lotdraw.plans" 336 130) ::
 (nat_lit 135,nO P "drawn_on" 359 360 361 75 1 132 133 134 362 363) ::
 (nat_lit 136,fO P "drawn_on" 21 "lotdraw.plans" 336 135) ::
 (nat_lit 140,nO P "led_to" 365 366 367 80 1 137 138 139 368 369) ::
 (nat_lit 141,fO P "led_to" 22 "lotdraw.plans" 336 140) ::
 (nat_lit 147,j7 P "after" 371 372 373 82 2 142 143 144 145 146 376 377) ::
 (nat_lit 148,fO P "after" 23 "lotdraw.plans" 336 147) ::
 (nat_lit 149,⟨(.type "tuple"),none,(.seq #[(.int 0 381),(.int 1 382)] 0),#[]⟩) ::
 (nat_lit 155,j7 P "common_bottom" 384 385 386 88 1 150 151 152 153 154 390 391) ::
 (nat_lit 156,fO P "common_bottom" 26 "lotdraw.polys" 379 155) ::
 (nat_lit 160,nO P "tops_over" 393 394 395 93 2 157 158 159 396 397) ::
 (nat_lit 161,fO P "tops_over" 27 "lotdraw.polys" 379 160) ::
 (nat_lit 167,j7 P "ways_from" 401 402 403 96 2 162 163 164 165 166 410 411) ::
 (nat_lit 168,fO P "ways_from" 29 "lotdraw.ways" 399 167) ::
 (nat_lit 169,⟨(.type "tuple"),none,(.seq #[(.int 1 415),(.int 1 416)] 0),#[]⟩) ::
 (nat_lit 175,j7 P "ratio" 418 419 420 105 3 170 171 172 173 174 424 425) ::
 (nat_lit 176,fO P "ratio" 32 "lotdraw.rules" 413 175) ::
 (nat_lit 182,j7 P "rule_by_ratio" 427 428 429 108 4 177 178 179 180 181 438 439) ::
 (nat_lit 183,fO P "rule_by_ratio" 33 "lotdraw.rules" 413 182) ::
 (nat_lit 189,j7 P "check_shares" 441 442 443 117 2 184 185 186 187 188 446 447) ::
 (nat_lit 190,fO P "check_shares" 34 "lotdraw.rules" 413 189) ::
 (nat_lit 196,j7 P "check_most" 449 450 451 120 1 191 192 193 194 195 453 454) ::
 (nat_lit 197,fO P "check_most" 35 "lotdraw.rules" 413 196) ::
 (nat_lit 203,j7 P "often" 456 457 458 123 2 198 199 200 201 202 463 464) ::
 (nat_lit 204,fO P "often" 36 "lotdraw.rules" 413 203) ::
 (nat_lit 208,nO P "by_falling_ratio" 466 467 468 127 1 205 206 207 469 470) ::
 (nat_lit 209,fO P "by_falling_ratio" 37 "lotdraw.rules" 413 208) ::
 (nat_lit 215,j7 P "taken" 472 473 474 132 2 210 211 212 213 214 485 486) ::
 (nat_lit 216,fO P "taken" 38 "lotdraw.rules" 413 215) ::
 (nat_lit 222,j7 P "in_order" 488 489 490 144 1 217 218 219 220 221 492 493) ::
 (nat_lit 223,fO P "in_order" 39 "lotdraw.rules" 413 222) ::
 (nat_lit 229,j7 P "_law_cell" 497 498 499 147 2 224 225 226 227 228 502 503) ::
 (nat_lit 230,fO P "_law_cell" 41 "law_lotdraw_k47_rule_by_ratio" 495 229) ::
 (nat_lit 236,j7 P "_law_digits" 505 506 507 151 3 231 232 233 234 235 513 514) ::
 (nat_lit 237,fO P "_law_digits" 42 "law_lotdraw_k47_rule_by_ratio" 495 236) ::
 (nat_lit 243,j7 P "_law_mixes" 516 517 518 157 3 238 239 240 241 242 525 526) ::
 (nat_lit 244,fO P "_law_mixes" 43 "law_lotdraw_k47_rule_by_ratio" 495 243) ::
 (nat_lit 248,nO P "_law_plan" 528 529 530 163 2 245 246 247 531 532) ::
 (nat_lit 249,fO P "_law_plan" 44 "law_lotdraw_k47_rule_by_ratio" 495 248) ::
 (nat_lit 255,j7 P "_law_most" 534 535 536 181 1 250 251 252 253 254 538 539) ::
 (nat_lit 256,fO P "_law_most" 45 "law_lotdraw_k47_rule_by_ratio" 495 255) ::
 (nat_lit 260,nO P "_law_ends" 541 542 543 185 1 257 258 259 544 545) ::
 (nat_lit 261,fO P "_law_ends" 46 "law_lotdraw_k47_rule_by_ratio" 495 260) ::
 (nat_lit 267,j7 P "_law_ways" 547 548 549 194 1 262 263 264 265 266 557 558) ::
 (nat_lit 268,fO P "_law_ways" 47 "law_lotdraw_k47_rule_by_ratio" 495 267) ::
 (nat_lit 274,j7 P "_law_whole" 560 561 562 202 1 269 270 271 272 273 564 565) ::
 (nat_lit 275,fO P "_law_whole" 48 "law_lotdraw_k47_rule_by_ratio" 495 274) ::
 (nat_lit 281,j7 P "_law_divisor" 567 568 569 204 2 276 277 278 279 280 572 573) ::
 (nat_lit 282,fO P "_law_divisor" 49 "law_lotdraw_k47_rule_by_ratio" 495 281) ::
 (nat_lit 288,j7 P "_law_is_frac" 575 576 577 208 3 283 284 285 286 287 581 582) ::
 (nat_lit 289,fO P "_law_is_frac" 50 "law_lotdraw_k47_rule_by_ratio" 495 288) ::
 (nat_lit 295,j7 P "_law_shares" 584 585 586 214 1 290 291 292 293 294 592 593) ::
 (nat_lit 296,fO P "_law_shares" 51 "law_lotdraw_k47_rule_by_ratio" 495 295) ::
 (nat_lit 302,j7 P "_law_made" 595 596 597 223 2 297 298 299 300 301 601 602) ::
 (nat_lit 303,fO P "_law_made" 52 "law_lotdraw_k47_rule_by_ratio" 495 302) ::
 (nat_lit 309,j7 P "_law_times" 604 605 606 226 2 304 305 306 307 308 611 612) ::
 (nat_lit 310,fO P "_law_times" 53 "law_lotdraw_k47_rule_by_ratio" 495 309) ::
 (nat_lit 316,j7 P "_law_weight" 614 615 616 231 3 311 312 313 314 315 620 621) ::
 (nat_lit 317,fO P "_law_weight" 54 "law_lotdraw_k47_rule_by_ratio" 495 316) ::
 (nat_lit 323,j7 P "_law_order" 623 624 625 233 2 318 319 320 321 322 633 634) ::
 (nat_lit 324,fO P "_law_order" 55 "law_lotdraw_k47_rule_by_ratio" 495 323) ::
 (nat_lit 330,j7 P "_law_odds" 636 637 638 243 5 325 326 327 328 329 644 645) ::
 (nat_lit 331,fO P "_law_odds" 56 "law_lotdraw_k47_rule_by_ratio" 495 330) ::
 (nat_lit 337,j7 P "_law_most_of" 647 648 649 245 3 332 333 334 335 336 654 655) ::
 (nat_lit 338,fO P "_law_most_of" 57 "law_lotdraw_k47_rule_by_ratio" 495 337) ::
 (nat_lit 342,nO P "_law_asked" 657 658 659 254 3 339 340 341 660 661) ::
 (nat_lit 343,fO P "_law_asked" 58 "law_lotdraw_k47_rule_by_ratio" 495 342) ::
 (nat_lit 349,j7 P "law" 663 664 665 283 1 344 345 346 347 348 671 672) ::
 (nat_lit 350,fO P "law" 59 "law_lotdraw_k47_rule_by_ratio" 495 349) ::
 []
def Oj:List Addr:=[2,3,23,24,25,36,37,48,49,57,58,64,65,71,72,78,79,85,86,92,93,99,100,106,107,113,114,120,121,125,126,130,131,135,136,140,141,147,148,149,155,156,160,161,167,168,169,175,176,182,183,189,190,196,197,203,204,208,209,215,216,222,223,229,230,236,237,243,244,248,249,255,256,260,261,267,268,274,275,281,282,288,289,295,296,302,303,309,310,316,317,323,324,330,331,337,338,342,343,349,350]
def Ol:List Addr:=[218,206]
set_option maxHeartbeats 0
theorem CT (P:Params):Oj=(Oi P).map (·.1):=by kernel_rfl
theorem Gx (w:World) (os:OsState):(Hd.yt treeTable PySem.Challenge.pw_lotdraw_k47_rule_by_ratio w 11 (some (.ref 6)) 4344 (Hd.v5 w os) (topStub PySem.Challenge.pw_lotdraw_k47_rule_by_ratio)).map (λs=>((staticsOk (importedModules PySem.Challenge.pw_lotdraw_k47_rule_by_ratio.main.body) (boot_heap w.params) s.abs.heap && namesBound PySem.Challenge.pw_lotdraw_k47_rule_by_ratio s.abs.heap && gensDone s.abs && laidKept (boot_heap w.params) s.abs.heap),(Oj.map s.abs.heap.get?,Ol.map s.abs.heap.get?)))=some (true,((Oi w.params).map λp=>some p.2,Ol.map λ_=>some (tabObj #[]))):=by kernel_rfl
abbrev UD:Shared->Bool:=λs=>xlAt v7 [] s && recOk (RowW.records (OpenRow.toRowW (OpenLaw.row PySem.Challenge.rw_lotdraw_k47_rule_by_ratio))) s
theorem Gy (w:World) (os:OsState):(Hd.yt treeTable PySem.Challenge.pw_lotdraw_k47_rule_by_ratio w 11 (some (.ref 6)) 4344 (Hd.v5 w os) (topStub PySem.Challenge.pw_lotdraw_k47_rule_by_ratio)).map (λs=>openSeen v7 [] (importedModules PySem.Challenge.pw_lotdraw_k47_rule_by_ratio.main.body) UD true s.abs)=some (openGood v7 []):=by kernel_rfl
end au
set_option maxHeartbeats 4000000
namespace L2
open PySem PySem.Spec PyProof.Rows
abbrev Key:=Sum Int Str
def su:Key->Value->Bool
 | .inl k,v=>Value.isInt k v
 | .inr x,v=>Value.isStrOf x v
def RQ (w:World):Key->Int
 | .inl k=>hashInt k
 | .inr x=>hashStr w x
theorem cP:∀ {k:Key} {v:Value},su k v=true->(∃ i t,k=Sum.inl i /\ v=Value.int i t) \/ (∃ x t,k=Sum.inr x /\ v=Value.str x t)
 | .inl i,v,h=>by
   obtain ⟨t,e⟩:=Value.isInt_shape (k:=i) (v:=v) h
   exact .inl ⟨i,t,rfl,e⟩
 | .inr x,v,h=>by
   obtain ⟨t,e⟩:=Value.isStrOf_shape (x:=x) (v:=v) h
   exact .inr ⟨x,t,rfl,e⟩
theorem Bu (i:Int) (t:Tok):su (.inl i) (.int i t)=true:=by simp [su,Value.isInt]
theorem Bv (x:Str) (t:Tok):su (.inr x) (.str x t)=true:=by simp [su,Value.isStrOf]
theorem Lg (a b:Int):decide ((Sum.inl a:Key)=Sum.inl b)=(a == b):=by
 by_cases e:a=b
 .subst e; simp
 .have h:¬ (Sum.inl a:Key)=Sum.inl b:=λq=>e (Sum.inl.inj q)
  rw [Zr h]
  exact (abc.mpr e).symm
theorem Lh (a b:Str):decide ((Sum.inr a:Key)=Sum.inr b)=decide (a=b):=by
 by_cases e:a=b
 .subst e; simp
 .have h:¬ (Sum.inr a:Key)=Sum.inr b:=λq=>e (Sum.inr.inj q)
  rw [Zr h,Zr e]
theorem Li (a:Int) (b:Str):decide ((Sum.inl a:Key)=Sum.inr b)=false:=Zr (λq=>nomatch q)
theorem Lj (a:Str) (b:Int):decide ((Sum.inr a:Key)=Sum.inl b)=false:=Zr (λq=>nomatch q)
def cW (prog:Program) (w:World):PySem.KeyKind prog w Key where
 is:=su
 hash:=RQ w
 inj:=λv a b ha hb=>by
  rcases cP ha with ⟨i,t,rfl,rfl⟩ | ⟨x,t,rfl,rfl⟩
  .rcases cP hb with ⟨j,u,rfl,e⟩ | ⟨y,u,rfl,e⟩
   .injection e with e1 _; rw [e1]
   .exact nomatch e
  .rcases cP hb with ⟨j,u,rfl,e⟩ | ⟨y,u,rfl,e⟩
   .exact nomatch e
   .injection e with e1 _; rw [e1]
 byValue:=λk v h=>by
  rcases cP h with ⟨i,t,rfl,rfl⟩ | ⟨x,t,rfl,rfl⟩ <;> rfl
 pyHash:=λhv h=>by
  rcases cP hv with ⟨i,t,rfl,rfl⟩ | ⟨x,t,rfl,rfl⟩
  .exact wpAny_pyHash_int h
  .exact wpAny_pyHash_str h
 eqBool:=λhu hv h=>by
  rcases cP hu with ⟨i,t,rfl,rfl⟩ | ⟨x,t,rfl,rfl⟩
  .rcases cP hv with ⟨j,u,rfl,rfl⟩ | ⟨y,u,rfl,rfl⟩
   .rw [Lg] at h; exact wpAny_eqBool_int h
   .rw [Li] at h; exact SeqAt.EqAt.int_str i t y u _ _ _ _ h
  .rcases cP hv with ⟨j,u,rfl,rfl⟩ | ⟨y,u,rfl,rfl⟩
   .rw [Lj] at h; exact SeqAt.EqAt.str_int x t j u _ _ _ _ h
   .rw [Lh] at h; exact wpAny_eqBool_str h
 «strs»:=λk x t v h=>by
  rcases cP h with ⟨i,u,rfl,e⟩ | ⟨y,u,rfl,e⟩
  .exact nomatch e
  .injection e with e1 _
   subst e1
   cases v <;> rfl
theorem v8 (prog:Program) (w:World) (i:Int) (t:Tok):(cW prog w).is (.inl i) (.int i t)=true:=Bu i t
theorem v9 (prog:Program) (w:World) (x:Str) (t:Tok):(cW prog w).is (.inr x) (.str x t)=true:=Bv x t
inductive V where
 | gu | bl (b:Bool) | int (i:Int) | str (x:Str) | Om (b:Array UInt8) | NW (b:UInt64) | ref (a:Addr) | ty (n:String)
 deriving DecidableEq
def RelV:V->Value->Prop
 | .gu,u=>u=Value.none
 | .bl b,u=>u=Value.bool b
 | .int i,u=>∃ t,u=Value.int i t
 | .str x,u=>∃ t,u=Value.str x t
 | .Om b,u=>∃ t,u=Value.bytes b t
 | .NW b,u=>∃ t,u=Value.float b t
 | .ref a,u=>u=Value.ref a
 | .ty n,u=>u=Value.type n
abbrev bj:List V->List Value->Prop:=Paired RelV
theorem bj.length {xs:List V} {us:List Value} (r:bj xs us):xs.length=us.length:=Paired.length r
theorem bj.get:∀ {xs:List V} {us:List Value} {i:Nat} {x:V},bj xs us->xs[i]?=some x->∃ u,us[i]?=some u /\ RelV x u
 | _,_,_,_,.nil,e=>by simp at e
 | _,_,0,_,.cons r _,e=>by simp at e; subst e; exact ⟨_,rfl,r⟩
 | _,_,i + 1,x,.cons _ t,e=>by
   obtain ⟨u,h1,h2⟩:=bj.get (i:=i) (x:=x) t (by simpa using e)
   exact ⟨u,by simpa using h1,h2⟩
theorem bj.append:∀ {xs ys:List V} {us ws:List Value},bj xs us->bj ys ws->bj (xs ++ ys) (us ++ ws)
 | _,_,_,_,.nil,s=>s
 | _,_,_,_,.cons r t,s=>.cons r (bj.append t s)
theorem bj.take:∀ {xs:List V} {us:List Value} (n:Nat),bj xs us->bj (xs.take n) (us.take n)
 | _,_,0,_=>.nil
 | _,_,_ + 1,.nil=>.nil
 | _,_,n + 1,.cons r t=>.cons r (bj.take n t)
theorem bj.drop:∀ {xs:List V} {us:List Value} (n:Nat),bj xs us->bj (xs.drop n) (us.drop n)
 | _,_,0,r=>r
 | _,_,_ + 1,.nil=>.nil
 | _,_,n + 1,.cons _ t=>bj.drop n t
def nP:Option V->Option Value->Prop
 | some v,some u=>RelV v u
 | none,none=>True
 | _,_=>False
def KV {κ:Type}:List (κ×V)->List (κ×Value)->Prop:=Paired λ(p:κ×V) (q:κ×Value)=>p.1=q.1 /\ RelV p.2 q.2
def kV:Key->V
 | .inl i=>.int i
 | .inr x=>.str x
inductive HO where
  | lst (xs:List V)
  | tup (xs:List V)
  | dK (aH:List (Key×V)) | dT (aH:List (List Key×V))
  | set (S:Int->Bool) (n:Nat)
  | ins (C dx:Addr) (fs:List (Str×V))
  | own (x:Addr)
  | xd (fs:List (Str×V))
  | met (f x:Addr)
  | RR (lo hi:Int)
  | rJ (o:Obj) (u:HO)
  | Lk (ps:Array Value)
 | lam (p:Pos) (q:Str) | code (q:Str)
   | ext (φ:Heap->Prop)
abbrev Hp:=Addr->Option HO
def upd (H:Hp) (a:Addr) (o:HO):Hp:=λb=>if b=a then some o else H b
theorem bC {H:Hp} {a:Addr} {o:HO}:upd H a o a=some o:=by unfold upd; rw [if_pos rfl]
theorem aI {H:Hp} {a b:Addr} {o:HO} (h:b≠a):upd H a o b=H b:=by unfold upd; rw [if_neg h]
theorem aN {H:Hp} {a b:Addr} {o:HO} (h:H a=some o) (h':H b=none):a≠b:=by
 intro e; subst e; rw [h] at h'; cases h'
def cV (H:Hp) (b:Addr) (xs:List V):Prop:=H b=some (.tup xs) \/ ∃ ob,H b=some (.rJ ob (.tup xs))
theorem cV.ne {H:Hp} {a b:Addr} {o:HO} {xs:List V} (t:cV H b xs) (n:b≠a):cV (upd H a o) b xs:=by
 rcases t with t | ⟨ob,t⟩
 .exact .inl (by rw [aI n]; exact t)
 .exact .inr ⟨ob,by rw [aI n]; exact t⟩
theorem cV.new {H:Hp} {a b:Addr} {o:HO} {xs:List V} (t:cV H b xs) (n:H a=none):cV (upd H a o) b xs:=t.ne λz=>by
 subst z
 rcases t with t | ⟨ob,t⟩ <;> rw [n] at t <;> cases t
theorem cV.dT {H:Hp} {a b:Addr} {o:HO} {xs:List V} {aH:List (List Key×V)} (t:cV H b xs) (e:H a=some (.dT aH)):cV (upd H a o) b xs:=t.ne λz=>by
 subst z
 rcases t with t | ⟨ob,t⟩ <;> rw [e] at t <;> cases t
section
variable (P:Program) (w:World)
def cw (H:Hp) (h:Heap) (a:Addr):HO->Prop
 | .lst xs=>xs.length<=sizeLine /\ ∃ (its:List Value) (n:Nat),bj xs its /\ h.get? a=some { cls:=.type "list",data:=.seq its.toArray n }
 | .tup xs=>xs.length<=sizeLine /\ ∃ its:List Value,bj xs its /\ IsTup h a its.toArray
 | .dK aH=>aH.length<=sizeLine /\ (a == sysModules)=false /\ ∃ vs,KV aH vs /\ h.DictOf (cW P w) a vs
 | .dT aH=>aH.length<=sizeLine /\ (a == sysModules)=false /\ ∃ xs:List (List Key×Addr×Value),
   Paired (λ(p:List Key×V) (q:List Key×Addr×Value)=>p.1=q.1 /\ cV H q.2.1 (p.1.map kV) /\ RelV p.2 q.2.2) aH xs /\
   ∃ o es ep,h.get? a=some o /\ o.ExactDict /\ o.data=.dict es ep /\ es.toList=xs.map (entryOfKey (tupleKind (cW P w))) /\ (xs.map (·.1)).Nodup
 | .set S n=>h.SetOf (intKind P w) a S n
 | .ins C dx fs=>H dx=some (.own a) /\ fs.length<=1000 /\ dx≠a /\ h.get? a=some (PySem.W.instObj C dx) /\
   ∃ mA,h.Ns1 dx mA /\ (∀ f,nP (fs.lookup f) (mA f)) /\ PySem.Within mA (fs.map (·.1))
 | .own _=>∃ o,h.get? a=some o
 | .xd fs=>∃ mA,h.Ns1 a mA /\ ∀ f,nP (fs.lookup f) (mA f)
 | .RR lo hi=>∃ t u v,h.get? a=some { cls:=.type "range",data:=.fields #[.int lo t,.int hi u,.int 1 v] }
 | .rJ o u=>h.get? a=some o /\ cw H h a u
 | .Lk ps=>h.get? a=some { cls:=.none,data:=.fields ps }
 | .lam p q=>∃ ps:Array Value,h.get? a=some (PySem.W.tabObj ps) /\ TriplesOk ps.toList /\ (codeAmong p ps.toList=none \/ ∃ c,codeAmong p ps.toList=some (.ref c) /\ H c=some (.code q))
 | .code q=>h.CodeRec (.ref a) q
 | .met f x=>h.get? a=some (PySem.W.methodObj (.ref f) (.ref x))
 | .ext φ=>φ h /\ (∃ o,h.get? a=some o) /\ ∀ h1 h2:Heap,φ h1->(∀ o,h1.get? a=some o->h2.get? a=some o)->φ h2
def lI (H:Hp) (h:Heap):Prop:=∀ a o,H a=some o->cw P w H h a o
end
section
variable {P:Program} {w:World} {H H':Hp} {h h':Heap} {a:Addr} {o:HO}
theorem cw.lt (x:cw P w H h a o):a < h.objs.size:=by
 cases o with
 | lst xs=>obtain ⟨_,_,_,_,e⟩:=x; exact Zf e
 | tup xs=>obtain ⟨_,_,_,p⟩:=x; exact p.lt
 | dK aH=>obtain ⟨_,_,_,_,o,_,_,e,_⟩:=x; exact Zf e
 | dT aH=>obtain ⟨_,_,_,_,o,_,_,e,_⟩:=x; exact Zf e
 | set S n=>obtain ⟨o,_,_,_,e,_⟩:=x; exact Zf e
 | ins C dx fs=>obtain ⟨_,_,_,e,_⟩:=x; exact Zf e
 | own y=>obtain ⟨_,e⟩:=x; exact Zf e
 | xd fs=>obtain ⟨_,⟨_,_,_,e,_⟩,_⟩:=x; exact Zf e
 | RR lo hi=>obtain ⟨_,_,_,e⟩:=x; exact Zf e
 | rJ ob u=>obtain ⟨e,_⟩:=x; exact Zf e
 | Lk ps=>exact Zf (show h.get? a=some _ from x)
 | lam p q=>obtain ⟨_,e,_⟩:=x; exact Zf e
 | code q=>obtain ⟨_,_,_,_,z,e,_⟩:=x; cases z; exact Zf e
 | met f y=>exact Zf (show h.get? a=some _ from x)
 | ext φ=>obtain ⟨_,⟨_,e⟩,_⟩:=x; exact Zf e
theorem Paired.Ll {α β:Type} {F G:α->β->Prop}:∀ {Oo:List α} {Oq:List β},Paired F Oo Oq->(∀ a b,F a b->G a b)->Paired G Oo Oq
 | _,_,.nil,_=>.nil
 | _,_,.cons r t,f=>.cons (f _ _ r) (Paired.Ll t f)
theorem cw.rK (x:cw P w H h a o) (k:∀ b u,(b=a \/ H b=some (.own a))->h.get? b=some u->h'.get? b=some u)
  (ho:∀ b,H b=some (.own a)->H' b=some (.own a)) (ht:∀ b xs,cV H b xs->cV H' b xs) (hc:∀ b q,H b=some (.code q)->H' b=some (.code q):=by first | exact λ_ _ z=>z | (intro c y z; rw [aI (aN z (by assumption))]; exact z)):cw P w H' h' a o:=by
 induction o with
 | lst xs=>obtain ⟨z,its,n,r,e⟩:=x; exact ⟨z,its,n,r,k _ _ (.inl rfl) e⟩
 | tup xs=>obtain ⟨z,its,r,ob,e,c⟩:=x; exact ⟨z,its,r,ob,k _ _ (.inl rfl) e,c⟩
 | dK aH=>obtain ⟨z,y,vs,r,ob,es,ep,e,c⟩:=x; exact ⟨z,y,vs,r,ob,es,ep,k _ _ (.inl rfl) e,c⟩
 | dT aH=>
   obtain ⟨z,y,xs,r,ob,es,ep,e,c⟩:=x
   exact ⟨z,y,xs,Paired.Ll r λp q z=>⟨z.1,ht _ _ z.2.1,z.2.2⟩,ob,es,ep,k _ _ (.inl rfl) e,c⟩
 | set S n=>obtain ⟨ob,es,ep,t,e,c⟩:=x; exact ⟨ob,es,ep,t,k _ _ (.inl rfl) e,c⟩
 | ins C dx fs=>
   obtain ⟨d,z,ne,e,mA,⟨od,es,ep,e2,c⟩,r⟩:=x
   exact ⟨ho _ d,z,ne,k _ _ (.inl rfl) e,mA,⟨od,es,ep,k _ _ (.inr d) e2,c⟩,r⟩
 | own y=>obtain ⟨ob,e⟩:=x; exact ⟨ob,k _ _ (.inl rfl) e⟩
 | xd fs=>obtain ⟨mA,⟨od,es,ep,e,c⟩,r⟩:=x; exact ⟨mA,⟨od,es,ep,k _ _ (.inl rfl) e,c⟩,r⟩
 | RR lo hi=>obtain ⟨t,u,v,e⟩:=x; exact ⟨t,u,v,k _ _ (.inl rfl) e⟩
 | rJ ob u ih=>obtain ⟨e,q⟩:=x; exact ⟨k _ _ (.inl rfl) e,ih q⟩
 | lam p q=>obtain ⟨ps,e,t,r⟩:=x; exact ⟨ps,k _ _ (.inl rfl) e,t,r.imp id λ⟨c,e1,e2⟩=>⟨c,e1,hc c q e2⟩⟩
 | code q=>obtain ⟨c,o,vs,t,z,e,r⟩:=x; cases z; exact ⟨_,o,vs,t,rfl,k _ _ (.inl rfl) e,r⟩
 | Lk ps=>
   have e:h.get? a=some { cls:=.none,data:=.fields ps }:=x
   show h'.get? a=some { cls:=.none,data:=.fields ps }
   exact k a _ (.inl rfl) e
 | met f y=>
   have e:h.get? a=some (PySem.W.methodObj (.ref f) (.ref y)):=x
   show h'.get? a=some (PySem.W.methodObj (.ref f) (.ref y))
   exact k a _ (.inl rfl) e
 | ext φ=>obtain ⟨p,⟨o,e⟩,st⟩:=x; exact ⟨st _ _ p λo q=>k _ _ (.inl rfl) q,⟨o,k _ _ (.inl rfl) e⟩,st⟩
theorem lI.lt (x:lI P w H h) (e:H a=some o):a < h.objs.size:=(x a o e).lt
theorem lI.fresh (x:lI P w H h) (e:h.objs.size<=a):H a=none:=by
 cases q:H a with
 | none=>rfl
 | some u=>exact absurd (Zi (x.lt q) e) (ZU _)
theorem lI.kept (x:lI P w H h) (k:∀ b u,h.get? b=some u->h'.get? b=some u):lI P w H h':=λa o e=>
 (x a o e).rK (λb u _ q=>k b u q) (λ_ q=>q) (λ_ _ q=>q) λ_ _ q=>q
theorem lI.laid (x:lI P w H h) (k:∀ b u,h.get? b=some u->h'.get? b=some u) (hp:h.objs.size<=a) (new:cw P w (upd H a o) h' a o):lI P w (upd H a o) h':=λb u e=>by
 have hn:=x.fresh hp
 by_cases hb:b=a
 .subst hb; rw [bC] at e; cases e; exact new
 .rw [aI hb] at e
  exact (x b u e).rK (λc v _ q=>k c v q) (λc q=>by rw [aI (aN q hn)]; exact q) (λc xs q=>q.new hn) λc _ q=>by rw [aI (aN q hn)]; exact q
end
def Rd (H:Hp) (a:Addr) (u:HO):Prop:=H a=some u \/ ∃ o,H a=some (.rJ o u)
theorem Rd.ok {P:Program} {w:World} {H:Hp} {h:Heap} {a:Addr} {u:HO} (r:Rd H a u) (x:lI P w H h):cw P w H h a u:=by
 rcases r with r | ⟨o,r⟩
 .exact x a u r
 .obtain ⟨_,q⟩:=x a _ r
  exact q
def Ot:Option HO->Prop
 | some (.lst _)=>True
 | some (.dK _)=>True
 | some (.dT _)=>True
 | some (.set _ _)=>True
 | some (.ins _ _ _)=>True
 | some (.ext _)=>True
 | _=>False
section
variable {P:Program} {w:World} {H:Hp} {h h':Heap} {x e:Addr} {o':HO}
theorem lI.write (ok:lI P w H h) (mu:Ot (H x)) (he:e=x \/ H e=some (.own x)) (k:∀ b u,b≠e->h.get? b=some u->h'.get? b=some u) (Bw:∃ u,h'.get? e=some u)
  (new:cw P w (upd H x o') h' x o'):lI P w (upd H x o') h':=λb u q=>by
 have Ou:∀ c y,H c=some (.own y)->c≠x:=λc y r z=>by subst z; rw [r] at mu; exact mu
 have VW:∀ c xs,H c=some (.tup xs)->c≠x:=λc xs r z=>by subst z; rw [r] at mu; exact mu
 by_cases hb:b=x
 .subst hb; rw [bC] at q; cases q; exact new
 .rw [aI hb] at q
  by_cases Lm:b=e
  .have q':H b=some (.own x):=by
    rcases he with z | z
    .exact absurd (Lm.trans z) hb
    .rw [Lm]; exact z
   rw [q] at q'; cases q'
   obtain ⟨v,hv⟩:=Bw
   exact ⟨v,by rw [Lm]; exact hv⟩
  .refine (ok b u q).rK (λc v hc r=>k c v ?_ r) (λc r=>by rw [aI (Ou c b r)]; exact r) (λc xs r=>r.ne λz=>by
    subst z
    rcases r with r | ⟨ob,r⟩ <;> rw [r] at mu <;> exact mu) λc y r=>by rw [aI λz=>by subst z; rw [r] at mu; exact mu]; exact r
   rcases hc with rfl | hc
   .exact Lm
   .rintro rfl
    rcases he with z | z
    .exact Ou c b hc z
    .rw [hc] at z; cases z; exact hb rfl
end
structure Un (fs ex:List Addr) (H H':Hp) (h h':Heap):Prop where
 keep:∀ b o,h.get? b=some o->H b=none->b∉fs->b∉ex->h'.get? b=some o
 slot:∀ b o,h.get? b=some o->H b=none->b∈fs->b∉ex->∃ sl,h'.get? b=some { o with slots:=sl }
 free:∀ b o,h.get? b=some o->H b=none->b∉ex->H' b=none
 there:∀ b o,h.get? b=some o->b∉ex->∃ o',h'.get? b=some o'
 pR:∀ b xs,H b=some (.tup xs)->H' b=some (.tup xs)
 rL:∀ b o u,H b=some (.rJ o u)->H' b=some (.rJ o u)
 tM:∀ b ps,H b=some (.Lk ps)->∃ more,H' b=some (.Lk (ps ++ more))
section
variable {fs VX ex YH:List Addr} {H H1 H2:Hp} {h h1 h2 h':Heap} {a x e:Addr} {o:HO}
theorem Un.any (u:Un fs ex H H1 h h1) {b:Addr} {ob:Obj} (q:h.get? b=some ob) (n:H b=none) (hx:b∉ex):∃ sl,h1.get? b=some { ob with slots:=sl }:=by
 by_cases hb:b∈fs
 .exact u.slot b ob q n hb hx
 .exact ⟨ob.slots,u.keep b ob q n hb hx⟩
theorem Un.kept (k:∀ b u,h.get? b=some u->h'.get? b=some u):Un fs ex H H h h':=
 ⟨λb ob q _ _ _=>k b ob q,λb ob q _ _ _=>⟨ob.slots,k b ob q⟩,λ_ _ _ n _=>n,λb ob q _=>⟨ob,k b ob q⟩,λ_ _ q=>q,λ_ _ _ q=>q,λ_ ps q=>⟨#[],by rw [q]; simp⟩⟩
theorem Un.refl:Un fs ex H H h h:=Un.kept λ_ _ q=>q
theorem Un.laid (k:∀ b u,h.get? b=some u->h'.get? b=some u) (hp:h.objs.size<=a) (hn:H a=none):Un fs ex H (upd H a o) h h' where
 keep:=λb u q _ _ _=>k b u q
 slot:=λb u q _ _ _=>⟨u.slots,k b u q⟩
 free:=λb u q n _=>by rw [aI (Zs (Zi (Zf q) hp))]; exact n
 there:=λb u q _=>⟨u,k b u q⟩
 pR:=λb xs q=>by rw [aI (aN q hn)]; exact q
 rL:=λb u xs q=>by rw [aI (aN q hn)]; exact q
 tM:=λb ps q=>⟨#[],by rw [aI (aN q hn),q]; simp⟩
theorem Un.write (mu:Ot (H x)) (he:e=x \/ H e=some (.own x)) (k:∀ b u,b≠e->h.get? b=some u->h'.get? b=some u) (Bw:∃ u,h'.get? e=some u):Un fs ex H (upd H x o) h h':=by
 have hx:∀ b,H b=none->b≠x:=λb n z=>by subst z; rw [n] at mu; exact mu
 have hb:∀ b,H b=none->b≠e:=λb n z=>by
  subst z
  rcases he with r | r
  .exact hx b n r
  .rw [n] at r; cases r
 have hm:∀ b u,H b=some u->¬ Ot (some u)->b≠x:=λb u q nm z=>by subst z; rw [q] at mu; exact nm mu
 refine ⟨λb u q n _ _=>k b u (hb b n) q,λb u q n _ _=>⟨u.slots,k b u (hb b n) q⟩,λb u q n _=>by rw [aI (hx b n)]; exact n,λb u q _=>?_,
  λb xs q=>by rw [aI (hm b _ q λz=>z)]; exact q,λb u xs q=>by rw [aI (hm b _ q λz=>z)]; exact q,λb ps q=>⟨#[],by rw [aI (hm b _ q λz=>z),q]; simp⟩⟩
 by_cases Lm:b=e
 .subst Lm; exact Bw
 .exact ⟨u,k b u Lm q⟩
end
def Rg (h:Heap) (H:Hp):List Addr:=(List.range h.objs.size).filter λa=>(H a).isSome
def rM (h:Heap) (H:Hp):Heap:=PySem.W.hideAll h (Rg h H)
theorem sv (h:Heap) (H:Hp):(rM h H).objs.size=h.objs.size:=PySem.W.hideAll_size _ _
theorem mQ {h:Heap} {H:Hp} {b:Addr} {o:Obj} (e:h.get? b=some o) (n:H b=none):(rM h H).get? b=some o:=
 PySem.W.hideAll_get _ e λhm=>by
  have q:(H b).isSome=true:=(aaR.mp hm).2
  rw [n] at q; simp at q
theorem Ab {h:Heap} {H:Hp} {b:Addr} {o:Obj} (e:(rM h H).get? b=some o):h.get? b=some o /\ H b=none:=by
 have e':h.get? b=some o:=PySem.W.of_hideAll (Rg h H) e
 refine ⟨e',?_⟩
 cases q:H b with
 | none=>rfl
 | some x=>
   have hm:b∈Rg h H:=aaR.mpr ⟨abf.mpr (Zf e'),by simp [q]⟩
   have z:(rM h H).get? b=none:=PySem.W.hideAll_none (Rg h H) hm
   rw [z] at e; cases e
def Gz (g h:Heap) (L:Addr):List (Addr×Obj):=(List.range h.objs.size).filterMap λa=>if a=L \/ (g.get? a).isSome=true then none else (h.get? a).map λo=>(a,o)
def rest (g h:Heap) (L d:Addr):List (Addr×Obj):=(Gz g h L).filter λp=>decide (p.1≠d)
structure Mod (K:PySem.W.Frag) (mg:Str->Option Value) (base:Heap):Prop where
 Rh:K.In base
 glob:base.Ns mainGlobals mg
 blt:∃ mb,base.Ns builtinsNs mb /\ ∀ x:Str,x≠"__name__"->mb x=bootBuiltins x
 nolimit:base.NoLimit
structure Cx where
 prog:Program
 w:World
 K:PySem.W.Frag
 mg:Str->Option Value
 base:Heap
 A:Around
 N:List Str
 fE:Shared
 Bx:Hp
 env:Env
 outer:List Env
 stack:List Env
 ex:List Addr
 fn:Str->Bool
 calm:Bool
 pn:List (Addr×Obj)
 xe:Value->Shared->Prop
def lJ (l:List Env):List Addr:=l.filterMap (·.frame)
abbrev Cx.fs (X:Cx):List Addr:=lJ X.outer
def Ov (sc:Scope) (x:Str):Prop:=sc.names.lookup x=some .local \/ sc.names.lookup x=some .cell \/ sc.names.lookup x=some .free
def Loc (sc:Scope) (x:Str):Prop:=sc.names.lookup x=some .local \/ sc.names.lookup x=some .cell
def Look (env:Env) (h:Heap) (m:Str->Option Value) (x:Str) (u:Value):Prop:=
 (env.kindOf x=some .local /\ m x=some u) \/ ((env.kindOf x=some .cell \/ env.kindOf x=some .free) /\ ∃ c,env.cells.lookup x=some c /\ h.IsCell c (some u))
structure Cx.Ok (X:Cx):Prop where
 mod:Mod X.K X.mg X.base
 kind:X.env.scope.kind=.function
 glob:X.env.globals=mainGlobals
 blt:X.env.builtins=builtinsNs
 above:X.fE.heap.objs.size<=X.env.locals
 inj:∀ x y c,X.env.cells.lookup x=some c->X.env.cells.lookup y=some c->x=y
 has:∀ x,(X.env.kindOf x=some .cell \/ X.env.kindOf x=some .free)->∃ c,X.env.cells.lookup x=some c
 Ln:∀ x c,X.fn x=true->X.env.cells.lookup x=some c->X.fE.heap.objs.size<=c
 hd:X.calm=true->X.A.handled=none
 frames:X.A.frames=some X.stack
 Ow:X.stack=X.outer \/ (X.stack=X.env :: X.outer /\ X.env.frame=some X.env.locals)
 RS:∀ b∈X.ex,b≠X.env.locals /\ ∀ x c,X.env.cells.lookup x=some c->c≠b
 bs:∀ b o,X.base.get? b=some o->X.fE.heap.get? b=some o /\ X.Bx b=none
 Ac:X.base.objs.size<=X.fE.heap.objs.size
 By:∀ b o,X.base.get? b=some o->b∉X.ex
 CU:∀ b∈X.ex,b∉X.fs
 mR:X.fE.heap.FunFrames X.base X.outer
 JM:∀ b∈X.fs,X.Bx b=none
structure Inv (X:Cx) (pins:List (Addr×Obj)) (σ:List (Option V)) (H:Hp) (s:Shared):Prop where
 ok:X.Ok
 os:s.os=X.fE.os
 bare:AllBare s.gens
 base:Un X.fs X.ex X.Bx H X.fE.heap s.heap
 loc:∃ m,s.heap.Ns X.env.locals m /\ ∀ (i:Nat) (x:Str) (v:V),X.N[i]?=some x->σ[i]?=some (some v)->Ov X.env.scope x->∃ u,RelV v u /\ Look X.env s.heap m x u
 cell:∀ x c,X.env.cells.lookup x=some c->∃ v,s.heap.IsCell c v
 free:H X.env.locals=none
 jS:∀ x c,X.env.cells.lookup x=some c->H c=none
 pin:∀ p∈X.pn ++ pins,s.heap.get? p.1=some p.2 /\ H p.1=none /\ p.1≠X.env.locals /\ p.1∉X.fs /\ ∀ v,p.2.data≠.cell v
 cf:lI X.prog X.w H s.heap
 len:σ.length=X.N.length
section
variable {X:Cx} {pins:List (Addr×Obj)} {σ:List (Option V)} {H H':Hp} {s:Shared} {h':Heap}
theorem Cx.Ok.Lo (ok:X.Ok) {b:Addr} {o:Obj} (e:X.base.get? b=some o):b∉X.fs:=λhb=>by
 have:=(ok.mR.mem hb).1
 rw [e] at this; cases this
theorem Inv.bs (I:Inv X pins σ H s):∀ b o,X.base.get? b=some o->s.heap.get? b=some o /\ H b=none:=λb o e=>
 ⟨I.base.keep b o (I.ok.bs b o e).1 (I.ok.bs b o e).2 (I.ok.Lo e) (I.ok.By b o e),I.base.free b o (I.ok.bs b o e).1 (I.ok.bs b o e).2 (I.ok.By b o e)⟩
theorem Inv.bk (I:Inv X pins σ H s):∀ b o,X.base.get? b=some o->s.heap.get? b=some o:=λb o e=>(I.bs b o e).1
theorem Inv.mod (I:Inv X pins σ H s):Mod X.K X.mg X.base:=I.ok.mod
theorem Inv.rE (I:Inv X pins σ H s):X.K.In s.heap:=I.ok.mod.Rh.keeps I.bk
theorem Inv.lt (I:Inv X pins σ H s):X.env.locals < s.heap.objs.size:=let ⟨_,hn,_⟩:=I.loc; hn.lt
theorem Inv.sz (I:Inv X pins σ H s):X.fE.heap.objs.size<=s.heap.objs.size:=ZQ I.ok.above (aak I.lt)
theorem Inv.Ox (I:Inv X pins σ H s) {a:Addr} (h:s.heap.objs.size<=a):a∉X.fs:=λhb=>by
 obtain ⟨_,o,ho,_⟩:=I.ok.mR.mem hb
 exact absurd (Zi (Zf ho) (ZQ I.sz h)) (ZU _)
theorem Inv.JN (I:Inv X pins σ H s):∀ x c,X.env.cells.lookup x=some c->c≠X.env.locals:=λx c e z=>by
 obtain ⟨v,o,ho,hd⟩:=I.cell x c e
 obtain ⟨m,⟨o',es,ep,CV,GA,_⟩,_⟩:=I.loc
 rw [z,CV] at ho; cases ho; rw [GA] at hd; cases hd
theorem Inv.mR (I:Inv X pins σ H s):s.heap.FunFrames X.base X.outer:=by
 have all:∀ (l:List Env),(∀ b∈lJ l,b∈X.fs)->X.fE.heap.FunFrames X.base l->s.heap.FunFrames X.base l:=by
  intro l
  induction l with
  | nil=>intro _ _; trivial
  | cons env r ih=>
    intro hs hl
    obtain ⟨hk,⟨L,o,hf,hn,ho,hd⟩,hr⟩:=hl
    have hL:L∈X.fs:=hs L (by unfold lJ; rw [List.filterMap_cons,hf]; exact List.mem_cons_self)
    obtain ⟨sl,e⟩:=I.base.slot L o ho (I.ok.JM L hL) hL λz=>I.ok.CU L z hL
    exact ⟨hk,⟨L,_,hf,hn,e,hd⟩,ih (λb hb=>hs b (by unfold lJ; rw [List.filterMap_cons,hf]; exact List.mem_cons_of_mem _ hb)) hr⟩
 exact all X.outer (λ_ hb=>hb) I.ok.mR
theorem Inv.stack (I:Inv X pins σ H s):s.heap.FunFrames X.base X.stack:=by
 rcases I.ok.Ow with e | ⟨e,hf⟩
 .rw [e]; exact I.mR
 .rw [e]
  obtain ⟨m,hn,_⟩:=I.loc
  refine .cons (by rw [I.ok.kind]; decide) hf hn ?_ I.mR
  exact Heap.get?_none_of_le (ZQ I.ok.Ac I.ok.above)
theorem Inv.lN (I:Inv X pins σ H s):∀ b∈lJ X.stack,b∈X.env.locals :: X.fs:=λb hb=>by
 rcases I.ok.Ow with e | ⟨e,hf⟩
 .rw [e] at hb; exact Y8 _ hb
 .rw [e] at hb
  unfold lJ at hb
  rw [List.filterMap_cons,hf] at hb
  exact hb
theorem Inv.tO (I:Inv X pins σ H s):∀ b∈lJ X.stack,H b=none:=λb hb=>by
 rcases Y6.mp (I.lN b hb) with e | hb
 .rw [e]; exact I.free
 .obtain ⟨_,o,ho,_⟩:=I.ok.mR.mem hb
  exact I.base.free b o ho (I.ok.JM b hb) λz=>I.ok.CU b z hb
theorem Inv.step {g':Array GenState} {t':Nat} {d':Drawn} {ch:List Addr} (I:Inv X pins σ H s)
  (Gd:∀ b∈ch,(b∈X.ex \/ X.fE.heap.objs.size<=b) /\ b≠X.env.locals /\ (∀ x c,X.env.cells.lookup x=some c->c≠b) /\ ∀ p∈X.pn ++ pins,p.1≠b)
  (keep:∀ b o,b≠X.env.locals->b∉X.fs->b∉ch->s.heap.get? b=some o->H b=none->h'.get? b=some o)
  (slot:∀ b o,b≠X.env.locals->b∈X.fs->b∉ch->s.heap.get? b=some o->H b=none->∃ sl,h'.get? b=some { o with slots:=sl }) (free:∀ b o,b∉ch->s.heap.get? b=some o->H b=none->H' b=none)
  (there:∀ b o,b∉ch->s.heap.get? b=some o->∃ o',h'.get? b=some o')
  (pR:∀ b xs,H b=some (.tup xs)->H' b=some (.tup xs)) (rL:∀ b o u,H b=some (.rJ o u)->H' b=some (.rJ o u)) (tM:∀ b ps,H b=some (.Lk ps)->∃ more,H' b=some (.Lk (ps ++ more)))
  (ns:∀ m,s.heap.Ns X.env.locals m->h'.Ns X.env.locals m) (cf:lI X.prog X.w H' h') (hg:AllBare g'):
  Inv X pins σ H' { s with heap:=h',gens:=g',drawn:=d',toks:=t' }:=by
 have UE:∀ b o,X.fE.heap.get? b=some o->b≠X.env.locals:=λb o e=>Zs (Zi (Zf e) I.ok.above)
 have Ri:∀ b o,X.fE.heap.get? b=some o->b∉X.ex->b∉ch:=λb o e hx hb=>by
  rcases (Gd b hb).1 with z | z
  .exact hx z
  .exact absurd (Zi (Zf e) z) (ZU _)
 have cellK:∀ x c,X.env.cells.lookup x=some c->∀ v,s.heap.IsCell c v->h'.IsCell c v:=λx c e v ⟨o,ho,hd⟩=>by
  have Oy:c∉ch:=λz=>(Gd c z).2.2.1 x c e rfl
  by_cases hc:c∈X.fs
  .obtain ⟨sl,q⟩:=slot c o (I.JN x c e) hc Oy ho (I.jS x c e)
   exact ⟨_,q,hd⟩
  .exact ⟨o,keep c o (I.JN x c e) hc Oy ho (I.jS x c e),hd⟩
 refine ⟨I.ok,I.os,hg,⟨λb o e n hb hx=>?_,λb o e n hb hx=>?_,λb o e n hx=>?_,λb o e hx=>?_,λb xs e=>pR b xs (I.base.pR b xs e),λb o xs e=>rL b o xs (I.base.rL b o xs e),λb ps e=>?_⟩,?_,λx c e=>?_,?_,λx c e=>?_,λp hp=>?_,cf,I.len⟩
 .exact keep b o (UE b o e) hb (Ri b o e hx) (I.base.keep b o e n hb hx) (I.base.free b o e n hx)
 .obtain ⟨sl,e1⟩:=I.base.slot b o e n hb hx
  obtain ⟨VY,e2⟩:=slot b _ (UE b o e) hb (Ri b o e hx) e1 (I.base.free b o e n hx)
  exact ⟨VY,e2⟩
 .obtain ⟨o',e1⟩:=I.base.there b o e hx
  exact free b o' (Ri b o e hx) e1 (I.base.free b o e n hx)
 .obtain ⟨o',e1⟩:=I.base.there b o e hx
  exact there b o' (Ri b o e hx) e1
 .obtain ⟨m1,e1⟩:=I.base.tM b ps e
  obtain ⟨m2,e2⟩:=tM b _ e1
  exact ⟨m1 ++ m2,by rw [e2,Array.append_assoc]⟩
 .obtain ⟨m,hn,hl⟩:=I.loc
  refine ⟨m,ns m hn,λi x v e1 e2 e3=>?_⟩
  obtain ⟨u,r,l⟩:=hl i x v e1 e2 e3
  refine ⟨u,r,?_⟩
  rcases l with l | ⟨k,c,e,z⟩
  .exact .inl l
  .exact .inr ⟨k,c,e,cellK x c e _ z⟩
 .obtain ⟨v,z⟩:=I.cell x c e
  exact ⟨v,cellK x c e v z⟩
 .obtain ⟨m,⟨o,_,_,ho,_⟩,_⟩:=I.loc
  exact free _ o (λz=>(Gd _ z).2.1 rfl) ho I.free
 .obtain ⟨v,o,ho,hd⟩:=I.cell x c e
  exact free c o (λz=>(Gd c z).2.2.1 x c e rfl) ho (I.jS x c e)
 .obtain ⟨e,n,ne,nf,d⟩:=I.pin p hp
  have Oy:p.1∉ch:=λz=>(Gd p.1 z).2.2.2 p hp rfl
  exact ⟨keep p.1 p.2 ne nf Oy e n,free p.1 p.2 Oy e n,ne,nf,d⟩
theorem Inv.un {t':Nat} (I:Inv X pins σ H s) (u:Un X.fs [] H H' s.heap h') (cf:lI X.prog X.w H' h'):Inv X pins σ H' { s with heap:=h',toks:=t' }:=by
 obtain ⟨m,⟨o,es,ep,ho,r⟩,_⟩:=id I.loc
 obtain ⟨sl,hL⟩:=u.any ho I.free (by simp)
 exact I.step (g':=s.gens) (d':=s.drawn) (ch:=[]) (λ_ z=>nomatch z) (λb o _ hb _ e n=>u.keep b o e n hb (by simp)) (λb o _ hb _ e n=>u.slot b o e n hb (by simp)) (λb o _ e n=>u.free b o e n (by simp)) (λb o _ e=>u.there b o e (by simp)) u.pR u.rL u.tM (λm' hm=>by
  obtain ⟨o',wa,RT,CV,r'⟩:=hm
  rw [ho] at CV; cases CV
  exact ⟨_,wa,RT,hL,r'⟩) cf I.bare
theorem Inv.call {g':Array GenState} {t':Nat} {d':Drawn} {ch:List Addr} (I:Inv X pins σ H s) (u:Un (lJ X.stack) ch H H' s.heap h') (cf:lI X.prog X.w H' h') (hg:AllBare g')
  (Gd:∀ b∈ch,(b∈X.ex \/ X.fE.heap.objs.size<=b) /\ b≠X.env.locals /\ (∀ x c,X.env.cells.lookup x=some c->c≠b) /\ ∀ p∈X.pn ++ pins,p.1≠b):
  Inv X pins σ H' { s with heap:=h',gens:=g',drawn:=d',toks:=t' }:=by
 obtain ⟨m,⟨o,es,ep,ho,r⟩,_⟩:=id I.loc
 obtain ⟨sl,hL⟩:=u.any ho I.free λz=>(Gd _ z).2.1 rfl
 exact I.step (ch:=ch) Gd (λb o hL hb hc e n=>u.keep b o e n (λz=>(Y6.mp (I.lN b z)).elim hL hb) hc) (λb o _ _ hc e n=>u.any e n hc) (λb o hc e n=>u.free b o e n hc) (λb o hc e=>u.there b o e hc) u.pR u.rL u.tM (λm' hm=>by
  obtain ⟨o',wa,RT,CV,r'⟩:=hm
  rw [ho] at CV; cases CV
  exact ⟨_,wa,RT,hL,r'⟩) cf hg
theorem Inv.turned {t':Nat} {it:Addr} (I:Inv X pins σ H s) (k:∀ b o,b≠it->s.heap.get? b=some o->h'.get? b=some o) (hn:H it=none) (hL:it≠X.env.locals)
  (h1:it∈X.ex \/ X.fE.heap.objs.size<=it) (h2:∀ x c,X.env.cells.lookup x=some c->c≠it) (h3:∀ p∈X.pn ++ pins,p.1≠it):Inv X pins σ H { s with heap:=h',toks:=t' }:=by
 have Oz:∀ b u,H b=some u->b≠it:=λb u e z=>by rw [z,hn] at e; cases e
 refine I.step (g':=s.gens) (d':=s.drawn) (ch:=[it]) (λb hb=>?_) (λb o _ _ hc e _=>k b o (λz=>hc (by simp [z])) e) (λb o _ _ hc e _=>⟨o.slots,k b o (λz=>hc (by simp [z])) e⟩) (λ_ _ _ _ n=>n)
  (λb o hc e=>⟨o,k b o (λz=>hc (by simp [z])) e⟩) (λ_ _ e=>e) (λ_ _ _ e=>e) (λb ps e=>⟨#[],by rw [e]; simp⟩) (λm hm=>?_) (λb u e=>?_) I.bare
 .have e:b=it:=by simpa using hb
  subst e
  exact ⟨h1,hL,h2,h3⟩
 .obtain ⟨o,es,ep,ho,r⟩:=hm
  exact ⟨o,es,ep,k _ o (abd hL) ho,r⟩
 .refine (I.cf b u e).rK (λc v hc q=>k c v ?_ q) (λ_ q=>q) (λ_ _ q=>q) λ_ _ q=>q
  rcases hc with z | z
  .rw [z]; exact Oz b u e
  .exact Oz c _ z
theorem Inv.tok (I:Inv X pins σ H s) (t:Nat):Inv X pins σ H { s with toks:=t }:=I.un (h':=s.heap) (t':=t) Un.refl I.cf
theorem Inv.kept {t':Nat} (I:Inv X pins σ H s) (k:∀ b u,s.heap.get? b=some u->h'.get? b=some u):Inv X pins σ H { s with heap:=h',toks:=t' }:=I.un (Un.kept k) (I.cf.kept k)
theorem Inv.laid {a:Addr} {o:HO} {t':Nat} (I:Inv X pins σ H s) (k:∀ b u,s.heap.get? b=some u->h'.get? b=some u) (hp:s.heap.objs.size<=a) (new:cw X.prog X.w (upd H a o) h' a o):
  Inv X pins σ (upd H a o) { s with heap:=h',toks:=t' }:=I.un (Un.laid k hp (I.cf.fresh hp)) (I.cf.laid k hp new)
theorem Inv.write {x e:Addr} {o:HO} {t':Nat} (I:Inv X pins σ H s) (mu:Ot (H x)) (he:e=x \/ H e=some (.own x)) (k:∀ b u,b≠e->s.heap.get? b=some u->h'.get? b=some u) (Bw:∃ u,h'.get? e=some u)
  (new:cw X.prog X.w (upd H x o) h' x o):Inv X pins σ (upd H x o) { s with heap:=h',toks:=t' }:=I.un (Un.write mu he k Bw) (I.cf.write mu he k Bw new)
theorem Inv.kZ {pins':List (Addr×Obj)} (I:Inv X pins σ H s) (h:∀ p∈pins',s.heap.get? p.1=some p.2 /\ H p.1=none /\ p.1≠X.env.locals /\ p.1∉X.fs /\ ∀ v,p.2.data≠.cell v):Inv X pins' σ H s:=
 ⟨I.ok,I.os,I.bare,I.base,I.loc,I.cell,I.free,I.jS,λp hp=>(ZC.mp hp).elim (λz=>I.pin p (ZX _ z)) (h p),I.cf,I.len⟩
theorem wb {N:List Str} (hN:N.Nodup) {i j:Nat} {x:Str} (a:N[i]?=some x) (b:N[j]?=some x):i=j:=by
 obtain ⟨h1,e1⟩:=Zd.mp a
 obtain ⟨h2,e2⟩:=Zd.mp b
 exact (List.getElem_inj hN).mp (e1.trans e2.symm)
theorem sy {M:Model} {A:Around} {E:Value->Shared->Prop} {i:Nat} {x:Str} {v:V} {u:Value} {Q:Unit->Shared->Prop} (I:Inv X pins σ H s) (hN:X.N.Nodup) (hi:X.N[i]?=some x) (hx:Loc X.env.scope x) (r:RelV v u)
  (h:∀ s',Inv X pins (σ.set i (some v)) H s'->(∃ a,Heap.SameBut a s.heap s'.heap /\ (a=X.env.locals \/ X.env.cells.lookup x=some a))->Q () s') (hf:X.fn x=true \/ X.env.scope.names.lookup x=some .local):wpAny M A (storeName X.env x u) Q E s:=by
 obtain ⟨m,hn,hl⟩:=id I.loc
 have RU:(X.env.scope.kind == .class || (X.env.scope.kind == .module && X.env.locals != X.env.globals))=false:=by rw [I.ok.kind]; rfl
 have OA:i < σ.length:=by rw [I.len]; exact (Zd.mp hi).1
 have JN:=I.JN
 have tracked:∀ {a:Addr} {h':Heap},(∃ o,s.heap.get? a=some o /\ H a=none)->Heap.SameBut a s.heap h'->lI X.prog X.w H h':=λ{a h'} ha hs b ob e=>by
  obtain ⟨_,_,JO⟩:=ha
  refine (I.cf b ob e).rK (λc w' hc q=>(hs.2 c ?_).trans q) (λ_ q=>q) (λ_ _ q=>q) λ_ _ q=>q
  rintro rfl
  rcases hc with rfl | hc
  .rw [JO] at e; cases e
  .rw [JO] at hc; cases hc
 rcases hx with hk | hk
 .refine wpAny_storeName_local hk hn (λh' VZ hs=>?_) RU
  obtain ⟨oL,_,_,JP,_⟩:=id hn
  refine h _ ⟨I.ok,I.os,I.bare,⟨λb o e n hb hx=>?_,λb o e n hb hx=>?_,I.base.free,λb o e hx=>?_,I.base.pR,I.base.rL,I.base.tM⟩,⟨_,VZ,λj y v' e1 e2 e3=>?_⟩,λy c e=>?_,I.free,I.jS,λp hp=>?_,tracked ⟨oL,JP,I.free⟩ hs,by simpa using I.len⟩ ⟨_,hs,.inl rfl⟩
  .exact (hs.2 b (Zs (Zi (Zf e) I.ok.above))).trans (I.base.keep b o e n hb hx)
  .obtain ⟨sl,e1⟩:=I.base.slot b o e n hb hx
   exact ⟨sl,(hs.2 b (Zs (Zi (Zf e) I.ok.above))).trans e1⟩
  .obtain ⟨o',e1⟩:=I.base.there b o e hx
   exact ⟨o',(hs.2 b (Zs (Zi (Zf e) I.ok.above))).trans e1⟩
  .by_cases hj:j=i
   .subst hj
    rw [hi] at e1; cases e1
    rw [ZJ OA] at e2
    cases e2
    exact ⟨u,r,.inl ⟨hk,by simp⟩⟩
   .rw [Zv (abd hj)] at e2
    obtain ⟨u',r',q⟩:=hl j y v' e1 e2 e3
    refine ⟨u',r',?_⟩
    rcases q with ⟨k,e⟩ | ⟨k,c,e,z⟩
    .refine .inl ⟨k,?_⟩
     have:y≠x:=λe=>hj (wb hN e1 (e ▸ hi))
     simp [this,e]
    .exact .inr ⟨k,c,e,z.sameBut hs (JN y c e)⟩
  .obtain ⟨w',z⟩:=I.cell y c e
   exact ⟨w',z.sameBut hs (JN y c e)⟩
  .obtain ⟨e,n,ne,nf,d⟩:=I.pin p hp
   exact ⟨(hs.2 p.1 ne).trans e,n,ne,nf,d⟩
 .have Lp:X.fn x=true:=by
   rcases hf with z | z
   .exact z
   .rw [z] at hk; cases hk
  obtain ⟨c,hc⟩:=I.ok.has x (.inl hk)
  obtain ⟨w',z⟩:=I.cell x c hc
  refine wpAny_storeName_cell I.ok.kind hk hc z (λh' NX hs=>?_)
  obtain ⟨oc,UG,RV⟩:=id z
  refine h { s with heap:=h' } ⟨I.ok,I.os,I.bare,⟨λb o e n hb hx=>?_,λb o e n hb hx=>?_,I.base.free,λb o e hx=>?_,I.base.pR,I.base.rL,I.base.tM⟩,⟨m,hn.sameBut hs (Ne.symm (JN x c hc)),λj y v' e1 e2 e3=>?_⟩,λy c' e=>?_,I.free,I.jS,λp hp=>?_,tracked ⟨oc,UG,I.jS x c hc⟩ hs,by simpa using I.len⟩ ⟨c,hs,.inr hc⟩
  .exact (hs.2 b (Zs (Zi (Zf e) (I.ok.Ln x c Lp hc)))).trans (I.base.keep b o e n hb hx)
  .obtain ⟨sl,e1⟩:=I.base.slot b o e n hb hx
   exact ⟨sl,(hs.2 b (Zs (Zi (Zf e) (I.ok.Ln x c Lp hc)))).trans e1⟩
  .obtain ⟨o',e1⟩:=I.base.there b o e hx
   exact ⟨o',(hs.2 b (Zs (Zi (Zf e) (I.ok.Ln x c Lp hc)))).trans e1⟩
  .by_cases hj:j=i
   .subst hj
    rw [hi] at e1; cases e1
    rw [ZJ OA] at e2
    cases e2
    exact ⟨u,r,.inr ⟨.inl hk,c,hc,NX⟩⟩
   .rw [Zv (abd hj)] at e2
    obtain ⟨u',r',q⟩:=hl j y v' e1 e2 e3
    refine ⟨u',r',?_⟩
    rcases q with q | ⟨k,c',e,z'⟩
    .exact .inl q
    .refine .inr ⟨k,c',e,z'.sameBut hs ?_⟩
     rintro rfl
     exact hj (wb hN e1 (I.ok.inj _ _ _ e hc ▸ hi))
  .by_cases Lq:c'=c
   .subst Lq; exact ⟨_,NX⟩
   .obtain ⟨w2,z2⟩:=I.cell y c' e
    exact ⟨w2,z2.sameBut hs Lq⟩
  .obtain ⟨e,n,ne,nf,d⟩:=I.pin p hp
   refine ⟨(hs.2 p.1 ?_).trans e,n,ne,nf,d⟩
   intro q
   rw [q,UG] at e
   have q':oc=p.2:=ZV e
   exact d w' (by rw [<- q']; exact RV)
theorem mS {M:Model} {A:Around} {E:Value->Shared->Prop} {i:Nat} {x:Str} {v:V} {u:Value} {Q:Unit->Shared->Prop} (I:Inv X pins σ H s) (hN:X.N.Nodup) (hi:X.N[i]?=some x) (hx:Loc X.env.scope x) (r:RelV v u)
  (h:∀ s',Inv X pins (σ.set i (some v)) H s'->Q () s') (hf:X.fn x=true \/ X.env.scope.names.lookup x=some .local):wpAny M A (storeName X.env x u) Q E s:=
 sy I hN hi hx r (λs' I' _=>h s' I') hf
theorem Inv.OB {s':Shared} {ch:List Addr} (I:Inv X pins σ H s) (ho:s'.os=s.os) (u:Un (lJ X.stack) ch H H' s.heap s'.heap) (cf:lI X.prog X.w H' s'.heap) (hg:AllBare s'.gens)
  (Gd:∀ b∈ch,(b∈X.ex \/ X.fE.heap.objs.size<=b) /\ b≠X.env.locals /\ (∀ x c,X.env.cells.lookup x=some c->c≠b) /\ ∀ p∈X.pn ++ pins,p.1≠b):Inv X pins σ H' s':=by
 obtain ⟨h',g',d',t',o'⟩:=s'
 have e:o'=s.os:=ho
 subst e
 exact I.call (g':=g') (t':=t') (d':=d') u cf hg Gd
end
abbrev XK:=Value->Option Addr->Hp->Prop
abbrev St:=List (Option V)
abbrev VK:=V->Hp->Prop
abbrev TE:=St->Hp->VK->Prop
abbrev TT:=St->Hp->(Bool->Hp->Prop)->Prop
abbrev TA:=St->Hp->(List V->Hp->Prop)->Prop
structure Ends where
 nx:St->Hp->Prop
 rt:VK
 bk:St->Hp->Prop:=λ_ _=>False
 ct:St->Hp->Prop:=λ_ _=>False
abbrev TS:=Ends->St->Hp->Prop
def EP (X:Cx) (pins:List (Addr×Obj)) (σ:St) (Q:VK) (u:Value) (s':Shared):Prop:=∃ v H',Inv X pins σ H' s' /\ RelV v u /\ Q v H'
def TP (X:Cx) (pins:List (Addr×Obj)) (σ:St) (Q:Bool->Hp->Prop) (b:Bool) (s':Shared):Prop:=∃ H',Inv X pins σ H' s' /\ Q b H'
def AP (X:Cx) (pins:List (Addr×Obj)) (σ:St) (Q:List V->Hp->Prop) (us:List Value) (s':Shared):Prop:=∃ vs H',Inv X pins σ H' s' /\ bj vs us /\ Q vs H'
def SP (X:Cx) (pins:List (Addr×Obj)) (D:Ends) (f:Flow) (s':Shared):Prop:=
 match f with
 | .next=>∃ cX H',Inv X pins cX H' s' /\ D.nx cX H'
 | .brk=>∃ cX H',Inv X pins cX H' s' /\ D.bk cX H'
 | .cont=>∃ cX H',Inv X pins cX H' s' /\ D.ct cX H'
 | .ret u=>∃ v cX H',Inv X pins cX H' s' /\ RelV v u /\ D.rt v H'
def PE (X:Cx) (e:Expr) (t:TE):Prop:=
 ∀ (pins:List (Addr×Obj)) (s:Shared) (σ:St) (H:Hp) (Q:VK),Inv X pins σ H s->t σ H Q->wpAny (model X.prog X.w) X.A (eval e X.env) (EP X pins σ Q) X.xe s
def PT (X:Cx) (e:Expr) (t:TT):Prop:=
 ∀ (pins:List (Addr×Obj)) (s:Shared) (σ:St) (H:Hp) (Q:Bool->Hp->Prop),Inv X pins σ H s->t σ H Q->wpAny (model X.prog X.w) X.A (isTrue e X.env (eval e X.env)) (TP X pins σ Q) X.xe s
def PW (X:Cx) (e:Expr) (t:TT):Prop:=
 ∀ (whole:Sem Value) (pins:List (Addr×Obj)) (s:Shared) (σ:St) (H:Hp) (Q:Bool->Hp->Prop),Inv X pins σ H s->t σ H Q->wpAny (model X.prog X.w) X.A (isTrue e X.env whole) (TP X pins σ Q) X.xe s
theorem PW.pt {X:Cx} {e:Expr} {t:TT} (h:PW X e t):PT X e t:=h _
def PA (X:Cx) (es:List Expr) (t:TA):Prop:=
 ∀ (pos:Pos) (pins:List (Addr×Obj)) (s:Shared) (σ:St) (H:Hp) (Q:List V->Hp->Prop),Inv X pins σ H s->t σ H Q->wpAny (model X.prog X.w) X.A (spliced (backTo pos (starEach es X.env))) (AP X pins σ Q) X.xe s
def PS (X:Cx) (st:Stmt) (t:TS):Prop:=
 ∀ (pins:List (Addr×Obj)) (s:Shared) (σ:St) (H:Hp) (D:Ends),Inv X pins σ H s->t D σ H->wpAny (model X.prog X.w) X.A (exec st X.env) (SP X pins D) X.xe s
def jk (X:Cx) (st:List Stmt) (t:TS):Prop:=
 ∀ (pins:List (Addr×Obj)) (s:Shared) (σ:St) (H:Hp) (D:Ends),Inv X pins σ H s->t D σ H->wpAny (model X.prog X.w) X.A (execs st X.env) (SP X pins D) X.xe s
theorem d6 {α:Type} {t:Sem α} {Q Q':α->Shared->Prop} {M:Model} {A:Around} {E:Value->Shared->Prop} {s:Shared} (h:wpAny M A t Q E s) (hQ:∀ a s,Q a s->Q' a s):wpAny M A t Q' E s:=ZM h hQ λ_ _ x=>x
section
variable {X:Cx}
def pT (i:Nat):TE:=λσ H Q=>∃ v,σ[i]?=some (some v) /\ Q v H
def tC (v:V):TE:=λ_ H Q=>Q v H
theorem Lr {i:Nat} {x:Str} {pos:Pos} (hN:X.N[i]?=some x) (hv:Ov X.env.scope x) (hd:(x == ("__debug__":Str))=false:=by decide) (oY:(x == ("__classdict__":Str))=false:=by decide):PE X (.Name x pos) (pT i):=by
 intro pins s σ H Q I h
 obtain ⟨v,e,h⟩:=h
 obtain ⟨m,hn,hl⟩:=I.loc
 obtain ⟨u,r,l⟩:=hl i x v hN e hv
 have fin:EP X pins σ Q u s:=⟨v,H,I,r,h⟩
 rcases l with ⟨hk,hm⟩ | ⟨hk,c,hc,Ad⟩
 .exact wpAny_Name (wpAny_loadName_local I.ok.kind hk hn hm fin) hd
 .rcases hk with hk | hk
  .exact wpAny_Name (wpAny_loadName_cell I.ok.kind hk hc Ad fin) hd
  .exact wpAny_Name (wpAny_loadName_free I.ok.kind hk hc Ad fin oY) hd
theorem aK {i j pos}:PE X (.Constant (.int i) j pos) (tC (.int i)):=λ_ _ _ H _ I h=>wpAny_Constant_int ⟨.int i,H,I.tok _,⟨_,rfl⟩,h⟩
theorem oF {b j pos}:PE X (.Constant (.bool b) j pos) (tC (.bl b)):=λ_ _ _ H _ I h=>Constant_bool ⟨.bl b,H,I,rfl,h⟩
theorem yu {x j pos}:PE X (.Constant (.str x) j pos) (tC (.str x)):=λ_ _ _ H _ I h=>Calls.Constant_str ⟨.str x,H,I.tok _,⟨_,rfl⟩,h⟩
def Gl (X:Cx) (x:Str):Prop:=X.env.kindOf x=some .globalImplicit
theorem Ae {E:Value->Shared->Prop} {pins:List (Addr×Obj)} {s:Shared} {σ:St} {H:Hp} {x:Str} {u:Value} {pos:Pos} {Q:Value->Shared->Prop} (I:Inv X pins σ H s) (hg:Gl X x) (hm:X.mg x=some u) (h:Q u s)
  (hd:(x == ("__debug__":Str))=false:=by decide):wpAny (model X.prog X.w) X.A (eval (.Name x pos) X.env) Q E s:=
 Calls.Name_function_global I.ok.kind hg (Calls.loadGlobal_global (by rw [I.ok.glob]; exact I.mod.glob.keeps I.bk) hm h) hd
theorem iF {E:Value->Shared->Prop} {pins:List (Addr×Obj)} {s:Shared} {σ:St} {H:Hp} {x:Str} {u:Value} {pos:Pos} {Q:Value->Shared->Prop} (I:Inv X pins σ H s) (hg:Gl X x) (hm:X.mg x=none) (hv:bootBuiltins x=some u) (h:Q u s)
  (hn:x≠"__name__":=by decide) (hd:(x == ("__debug__":Str))=false:=by decide):wpAny (model X.prog X.w) X.A (eval (.Name x pos) X.env) Q E s:=by
 obtain ⟨mb,h1,h2⟩:=I.mod.blt
 exact Calls.Name_function_global I.ok.kind hg (Calls.loadGlobal_builtin (by rw [I.ok.glob]; exact I.mod.glob.keeps I.bk) hm (by rw [I.ok.blt]; exact h1.keeps I.bk) ((h2 x hn).trans hv) h) hd
theorem GB {x:Str} {v:V} {u:Value} {pos:Pos} (hg:Gl X x) (hm:X.mg x=some u) (r:RelV v u) (hd:(x == ("__debug__":Str))=false:=by decide):PE X (.Name x pos) (tC v):=
 λ_ _ _ H _ I h=>Ae I hg hm ⟨v,H,I,r,h⟩ hd
theorem mT {x:Str} {v:V} {u:Value} {pos:Pos} (hg:Gl X x) (hm:X.mg x=none) (hv:bootBuiltins x=some u) (r:RelV v u) (hn:x≠"__name__":=by decide) (hd:(x == ("__debug__":Str))=false:=by decide):PE X (.Name x pos) (tC v):=
 λ_ _ _ H _ I h=>iF I hg hm hv ⟨v,H,I,r,h⟩ hn hd
variable {a b:Expr} {ta tb:TE} {pos:Pos}
def tB (t:TE):TT:=λσ H Q=>t σ H λx H1=>∃ c,x=.bl c /\ Q c H1
variable {tA Rj:TT} {rest:List Expr}
def RW (t u:TT):TT:=λσ H Q=>t σ H λc H1=>if c=true then u σ H1 Q else Q false H1
def V0 (t u:TT):TT:=λσ H Q=>t σ H λc H1=>if c=true then Q true H1 else u σ H1 Q
def RX (t:TT):TT:=λσ H Q=>t σ H λc H1=>Q (!c) H1
theorem pw_and1 (ha:PT X a tA):PW X (.BoolOp .And [a] pos) tA:=by
 intro wh pins s σ H Q I h
 refine isTrue_and (d6 (ha pins s σ H Q I h) λc s1 e=>?_)
 cases c with
 | true=>exact isTrue_and_nil e
 | false=>exact e
theorem pw_or1 (ha:PT X a tA):PW X (.BoolOp .Or [a] pos) tA:=by
 intro wh pins s σ H Q I h
 refine isTrue_or (d6 (ha pins s σ H Q I h) λc s1 e=>?_)
 cases c with
 | false=>exact isTrue_or_nil e
 | true=>exact e
theorem pw_and (ha:PT X a tA) (hb:PW X (.BoolOp .And (b :: rest) pos) Rj):PW X (.BoolOp .And (a :: b :: rest) pos) (RW tA Rj):=by
 intro wh pins s σ H Q I h
 refine isTrue_and (d6 (ha pins s σ H _ I h) λc s1 ⟨H1,I1,q1⟩=>?_)
 cases c with
 | true=>exact hb wh pins s1 σ H1 Q I1 q1
 | false=>exact ⟨H1,I1,q1⟩
theorem pw_or (ha:PT X a tA) (hb:PW X (.BoolOp .Or (b :: rest) pos) Rj):PW X (.BoolOp .Or (a :: b :: rest) pos) (V0 tA Rj):=by
 intro wh pins s σ H Q I h
 refine isTrue_or (d6 (ha pins s σ H _ I h) λc s1 ⟨H1,I1,q1⟩=>?_)
 cases c with
 | true=>exact ⟨H1,I1,q1⟩
 | false=>exact hb wh pins s1 σ H1 Q I1 q1
theorem Lu (ha:PT X a tA):PT X (.UnaryOp .Not a pos) (RX tA):=by
 intro pins s σ H Q I h
 exact isTrue_not (ha pins s σ H (λc H1=>Q (!c) H1) I h)
def OC (ta tb:TE):TE:=λσ H Q=>ta σ H λx H1=>∃ c,x=.bl c /\ if c=true then tb σ H1 Q else Q (.bl false) H1
def OD (ta:TE):TE:=λσ H Q=>ta σ H λx H1=>∃ c,x=.bl c /\ Q (.bl (!c)) H1
theorem CW {op} {t:TE} (h:PE X a t):PE X (.BoolOp op [a] pos) t:=λpins s σ H Q I hw=>BoolOp_one (h pins s σ H Q I hw)
theorem Lv (ha:PE X a ta) (hb:PE X (.BoolOp .And (b :: rest) pos) tb):PE X (.BoolOp .And (a :: b :: rest) pos) (OC ta tb):=by
 intro pins s σ H Q I h
 refine BoolOp_and (d6 (ha pins s σ H _ I h) λv s1 ⟨x,H1,I1,r1,q1⟩=>?_)
 obtain ⟨c,rfl,q1⟩:=q1
 cases r1
 refine abt ?_
 cases c with
 | true=>exact hb pins s1 σ H1 Q I1 q1
 | false=>exact ⟨.bl false,H1,I1,rfl,q1⟩
theorem Lw (ha:PE X a ta):PE X (.UnaryOp .Not a pos) (OD ta):=by
 intro pins s σ H Q I h
 refine UnaryOp_ (d6 (ha pins s σ H _ I h) λv s1 ⟨x,H1,I1,r1,q1⟩=>?_)
 obtain ⟨c,rfl,q1⟩:=q1
 cases r1
 exact not_of (abt ⟨.bl (!c),H1,I1,rfl,q1⟩)
end
def iW (K:PySem.W.Frag) (H:Hp) (a:Addr) (xs:List V):Prop:=
 Rd H a (.lst xs) \/
  ∃ (o:Obj) (its:Array Value) (n:Nat),K.lookup a=some o /\ o.cls=.type "list" /\ o.dict=none /\ o.data=.seq its n /\ its.size<=sizeLine /\ bj xs its.toList
def iX (K:PySem.W.Frag) (H:Hp) (a:Addr) (xs:List V):Prop:=
 Rd H a (.tup xs) \/
  ∃ (o:Obj) (its:Array Value) (n:Nat),K.lookup a=some o /\ o.cls=.type "tuple" /\ o.data=.seq its n /\ its.size<=sizeLine /\ bj xs its.toList
def RY:Value->Option V
 | .none=>some .gu
 | .bool b=>some (.bl b)
 | .int i _=>some (.int i)
 | .str x _=>some (.str x)
 | .bytes b _=>some (.Om b)
 | .float b _=>some (.NW b)
 | .ref a=>some (.ref a)
 | .type n=>some (.ty n)
 | _=>none
theorem RelV.abs {x:V} {u:Value} (r:RelV x u):RY u=some x:=by
 cases x with
 | gu=>cases r; rfl
 | bl _=>cases r; rfl
 | int _=>obtain ⟨t,rfl⟩:=r; rfl
 | str _=>obtain ⟨t,rfl⟩:=r; rfl
 | Om _=>obtain ⟨t,rfl⟩:=r; rfl
 | NW _=>obtain ⟨t,rfl⟩:=r; rfl
 | ref _=>cases r; rfl
 | ty _=>cases r; rfl
theorem RelV.inj {x y:V} {u:Value} (r:RelV x u) (q:RelV y u):x=y:=ZV (r.abs.symm.trans q.abs)
theorem bj.inj:∀ {xs ys:List V} {us:List Value},bj xs us->bj ys us->xs=ys
 | _,_,_,.nil,.nil=>rfl
 | _,_,_,.cons r t,.cons r' t'=>by rw [r.inj r',bj.inj t t']
section
variable {X:Cx} {pins:List (Addr×Obj)} {σ:St} {H:Hp} {s:Shared} {a:Addr} {xs ys:List V}
theorem iW.of {K:PySem.W.Frag} (h:H a=some (.lst xs)):iW K H a xs:=.inl (.inl h)
theorem Inv.list (I:Inv X pins σ H s) (h:iW X.K H a xs):∃ its:List Value,bj xs its /\ PlainL s.heap a its.toArray /\ xs.length<=sizeLine:=by
 rcases h with h | ⟨o,its,n,hk,hc,hd,hs,hz,r⟩
 .obtain ⟨z,its,n,r,e⟩:=h.ok I.cf
  exact ⟨its,r,⟨_,n,e,rfl,rfl,rfl⟩,z⟩
 .refine ⟨its.toList,r,⟨o,n,I.rE a o hk,hc,hd,by simpa using hs⟩,?_⟩
  have e:=r.length
  simp only [ZP] at e
  omega
theorem Inv.tuple (I:Inv X pins σ H s) (h:iX X.K H a xs):∃ its:List Value,bj xs its /\ IsTup s.heap a its.toArray /\ xs.length<=sizeLine:=by
 rcases h with h | ⟨o,its,n,hk,hc,hs,hz,r⟩
 .obtain ⟨z,its,r,p⟩:=h.ok I.cf
  exact ⟨its,r,p,z⟩
 .refine ⟨its.toList,r,⟨o,I.rE a o hk,hc,n,by simpa using hs⟩,?_⟩
  have e:=r.length
  simp only [ZP] at e
  omega
theorem Inv.wc (I:Inv X pins σ H s) (h:iW X.K H a xs) (h':iW X.K H a ys):xs=ys:=by
 obtain ⟨its,r,⟨o,n,e,_,_,d⟩,_⟩:=I.list h
 obtain ⟨its',r',⟨o',n',e',_,_,d'⟩,_⟩:=I.list h'
 rw [e] at e'; cases e'
 rw [d] at d'
 injection d' with d1 _
 have:its=its':=by simpa using congrArg Array.toList d1
 subst this
 exact r.inj r'
theorem Inv.nQ (I:Inv X pins σ H s) (h:iX X.K H a xs) (h':iX X.K H a ys):xs=ys:=by
 obtain ⟨its,r,⟨o,e,_,n,d⟩,_⟩:=I.tuple h
 obtain ⟨its',r',⟨o',e',_,n',d'⟩,_⟩:=I.tuple h'
 rw [e] at e'; cases e'
 rw [d] at d'
 injection d' with d1 _
 have:its=its':=by simpa using congrArg Array.toList d1
 subst this
 exact r.inj r'
end
abbrev Cx.rN (X:Cx) (E:Value->Shared->Prop):Cx:={ X with xe:=E }
abbrev Cx.CY (X:Cx):Cx:=X.rN λ_ _=>False
theorem Cx.Ok.rN {X:Cx} (ok:X.Ok) (E:Value->Shared->Prop):(X.rN E).Ok:=
 ⟨ok.mod,ok.kind,ok.glob,ok.blt,ok.above,ok.inj,ok.has,ok.Ln,ok.hd,ok.frames,ok.Ow,ok.RS,ok.bs,ok.Ac,ok.By,ok.CU,ok.mR,ok.JM⟩
theorem Cx.Ok.j9 {X:Cx} {E:Value->Shared->Prop} (ok:(X.rN E).Ok):X.Ok:=
 ⟨ok.mod,ok.kind,ok.glob,ok.blt,ok.above,ok.inj,ok.has,ok.Ln,ok.hd,ok.frames,ok.Ow,ok.RS,ok.bs,ok.Ac,ok.By,ok.CU,ok.mR,ok.JM⟩
section
variable {X:Cx} {pins:List (Addr×Obj)} {σ:St} {H:Hp} {s:Shared} {E:Value->Shared->Prop}
theorem Inv.rN (I:Inv X pins σ H s) (E:Value->Shared->Prop):Inv (X.rN E) pins σ H s:=⟨I.ok.rN E,I.os,I.bare,I.base,I.loc,I.cell,I.free,I.jS,I.pin,I.cf,I.len⟩
theorem Inv.j9 (I:Inv (X.rN E) pins σ H s):Inv X pins σ H s:=⟨I.ok.j9,I.os,I.bare,I.base,I.loc,I.cell,I.free,I.jS,I.pin,I.cf,I.len⟩
theorem SP.j9 {D:Ends} {f:Flow} {s':Shared} (h:SP (X.rN E) pins D f s'):SP X pins D f s':=by
 cases f with
 | next=>obtain ⟨cX,H',I,q⟩:=h; exact ⟨cX,H',I.j9,q⟩
 | brk=>obtain ⟨cX,H',I,q⟩:=h; exact ⟨cX,H',I.j9,q⟩
 | cont=>obtain ⟨cX,H',I,q⟩:=h; exact ⟨cX,H',I.j9,q⟩
 | ret u=>obtain ⟨v,cX,H',I,r,q⟩:=h; exact ⟨v,cX,H',I.j9,r,q⟩
theorem jk.CY {st:List Stmt} {t:TS} (h:jk X.CY st t):jk X st t:=λpins s σ H D I hw=>
 ZM (h pins s σ H D (I.rN _) hw) (λ_ _ q=>q.j9) λ_ _ z=>False.elim z
end
section
variable {X:Cx} {st:Stmt} {rest:List Stmt} {t u:TS} {e:Expr} {te:TE} {pos:Pos}
def OE:TS:=λD σ H=>D.nx σ H
def RZ (t u:TS):TS:=λD σ H=>t { D with nx:=u D } σ H
theorem Af:jk X [] OE:=λ_ _ σ H _ I h=>acj ⟨σ,H,I,h⟩
theorem ka (h1:PS X st t) (h2:jk X rest u):jk X (st :: rest) (RZ t u):=by
 intro pins s σ H D I h
 refine wpAny_execs_cons (d6 (h1 pins s σ H { D with nx:=u D } I h) λf s1 q=>?_)
 cases f with
 | next=>
   obtain ⟨cX,H',I',q⟩:=q
   exact h2 pins s1 cX H' D I' q
 | ret v=>exact q
 | brk=>exact q
 | cont=>exact q
theorem GC (h1:PS X st t):jk X [st] t:=by
 intro pins s σ H D I h
 refine wpAny_execs_cons (d6 (h1 pins s σ H D I h) λf s1 q=>?_)
 cases f with
 | next=>exact acj q
 | ret v=>exact q
 | brk=>exact q
 | cont=>exact q
theorem Inv.quiet {pins:List (Addr×Obj)} {σ:St} {H:Hp} {s:Shared} (I:Inv X pins σ H s):interactive X.env=false:=by simp [interactive,I.ok.kind]
def sC (te:TE):TS:=λD σ H=>te σ H λ_ H1=>D.nx σ H1
theorem dM (he:PE X e te) (hs:swapsWith e none pos.line X.env=pure false:=by rfl):PS X (.Expr e pos) (sC te):=by
 intro pins s σ H D I h
 exact wpAny_Expr_any (d6 (he pins s σ H _ I h) λv s1 ⟨x,H1,I1,r1,q1⟩=>⟨σ,H1,I1,q1⟩) I.quiet hs
def R4 (te:TE):TS:=λD σ H=>te σ H D.rt
theorem pU (he:PE X e te):PS X (.Return (some e) pos) (R4 te):=by
 intro pins s σ H D I h
 exact wpAny_Return_some (d6 (he pins s σ H _ I h) λv s1 ⟨x,H1,I1,r1,q1⟩=>⟨x,σ,H1,I1,r1,q1⟩)
def R5 (c:TT) (t u:TS):TS:=λD σ H=>c σ H λb H1=>if b=true then t D σ H1 else u D σ H1
theorem JQ {c:Expr} {a b:List Stmt} {tc:TT} (hc:PT X c tc) (ha:jk X a t) (hb:jk X b u):PS X (.If c a b pos) (R5 tc t u):=by
 intro pins s σ H D I h
 refine wpAny_If (d6 (hc pins s σ H _ I h) λd s1 ⟨H1,I1,q1⟩=>?_)
 cases d with
 | true=>exact ha pins s1 σ H1 D I1 q1
 | false=>exact hb pins s1 σ H1 D I1 q1
def Lx:TS:=λ_ _ _=>False
theorem CZ:PS X st Lx:=λ_ _ _ _ _ _ h=>h.elim
end
abbrev TG:=V->St->Hp->(St->Hp->Prop)->Prop
abbrev GD:=List V->St->Hp->(St->Hp->Prop)->Prop
def PG (X:Cx) (target:Expr) (t:TG):Prop:=
 ∀ (pins:List (Addr×Obj)) (s:Shared) (σ:St) (H:Hp) (v:V) (u:Value) (Q:St->Hp->Prop),Inv X pins σ H s->RelV v u->t v σ H Q->
   wpAny (model X.prog X.w) X.A (assign target X.env u) (λ_ s'=>∃ cX H',Inv X pins cX H' s' /\ Q cX H') X.xe s
def C0 (X:Cx) (ts:List Expr) (t:GD):Prop:=
 ∀ (pins:List (Addr×Obj)) (s:Shared) (σ:St) (H:Hp) (vs:List V) (us:List Value) (Q:St->Hp->Prop),Inv X pins σ H s->bj vs us->t vs σ H Q->
   wpAny (model X.prog X.w) X.A (assignInOrder ((assignEach ts X.env).map (·.2)) us) (λ_ s'=>∃ cX H',Inv X pins cX H' s' /\ Q cX H') X.xe s
section
variable {X:Cx} {pos:Pos}
def iY (i:Nat):TG:=λv σ H Q=>Q (σ.set i (some v)) H
theorem aJ {i:Nat} {x:Str} (hN:X.N.Nodup) (hi:X.N[i]?=some x) (hx:Loc X.env.scope x) (hf:X.fn x=true \/ X.env.scope.names.lookup x=some .local:=by first | exact .inl rfl | exact .inr rfl | assumption):PG X (.Name x pos) (iY i):=by
 intro pins s σ H v u Q I r h
 exact wpAny_assign_Name (mS I hN hi hx r (λs' I'=>⟨_,H,I',h⟩) hf)
def R7:GD:=λvs σ H Q=>vs=[] /\ Q σ H
def OF (t:TG) (u:GD):GD:=λvs σ H Q=>∃ v r,vs=v :: r /\ t v σ H λcX H'=>u r cX H' Q
theorem GF:C0 X [] R7:=by
 intro pins s σ H vs us Q I r h
 obtain ⟨e,h⟩:=h
 subst e
 cases r
 exact assignInOrder_nil ⟨σ,H,I,h⟩
theorem C1 {e:Expr} {es:List Expr} {t:TG} {u:GD} (h1:PG X e t) (h2:C0 X es u)
  (hs:(assignEach (e :: es) X.env).map (·.2)=assign e X.env :: (assignEach es X.env).map (·.2):=by rfl):C0 X (e :: es) (OF t u):=by
 intro pins s σ H vs us Q I r h
 obtain ⟨v,vr,e1,h⟩:=h
 subst e1
 cases r with
 | cons r rr=>
   rw [hs]
   refine assignInOrder_cons (d6 (h1 pins s σ H _ _ _ I r h) λ_ s1 ⟨Ly,H1,I1,q1⟩=>?_)
   exact h2 pins s1 Ly H1 _ _ Q I1 rr q1
def R8 (K:PySem.W.Frag) (n:Nat) (t:GD):TG:=λv σ H Q=>∃ a xs,v=.ref a /\ iX K H a xs /\ xs.length=n /\ t xs σ H Q
theorem Lz {es:List Expr} {k:Nat} {t:GD} {n:Nat} (hc:X.calm=true) (h:C0 X es t)
  (hn:(assignEach es X.env).length=n:=by rfl) (OG:(assignEach es X.env).findIdx? (·.1)=none:=by rfl):PG X (.Tuple es k pos) (R8 X.K n t):=by
 intro pins s σ H v u Q I r hw
 obtain ⟨a,xs,e1,hq,hl,hw⟩:=hw
 subst e1
 cases r
 obtain ⟨its,rv,ht,hz⟩:=I.tuple hq
 refine assign_Tuple_tuple (I.ok.hd hc) ht (by simp [hn,<- hl,rv.length]) OG λh' hx=>?_
 have I1:Inv X pins σ H { s with heap:=h' }:=I.kept (t':=s.toks) λb o e=>hx b o (Zs (Zf e)) e
 exact h pins _ σ H xs _ Q I1 (by simpa using rv) hw
def pW (te:TE) (g:TG):TS:=λD σ H=>te σ H λx H1=>g x σ H1 D.nx
theorem fc {i:Nat} {x:Str} {e:Expr} {te:TE} {pos':Pos} (hN:X.N.Nodup) (hi:X.N[i]?=some x) (hx:Loc X.env.scope x) (he:PE X e te) (hs:swapsWith e (some (.Name x pos')) pos.line X.env=pure false:=by rfl) (hf:X.fn x=true \/ X.env.scope.names.lookup x=some .local:=by first | exact .inl rfl | exact .inr rfl | assumption):
  PS X (.Assign [.Name x pos'] e pos) (pW te (iY i)):=by
 intro pins s σ H D I h
 refine wpAny_Assign_Name (d6 (he pins s σ H _ I h) λv s1 ⟨y,H1,I1,r1,q1⟩=>?_) hs
 exact mS I1 hN hi hx r1 (λs2 I2=>⟨_,H1,I2,q1⟩) hf
def OH (i j:Nat) (ta:TA):TS:=λD σ H=>ta σ H λvs H1=>∃ v w,vs=[v,w] /\ D.nx ((σ.set i (some v)).set j (some w)) H1
theorem LA {i j:Nat} {x y:Str} {a b:Expr} {ta:TA} {px py pt:Pos} {kt k2 pt2} (hc:X.calm=true) (hN:X.N.Nodup) (hi:X.N[i]?=some x) (hj:X.N[j]?=some y) (g7:i≠j)
  (hx:X.env.scope.names.lookup x=some .local) (hy:X.env.scope.names.lookup y=some .local) (ha:PA X [a,b] ta)
  (hw:swappedStores [.Tuple [.Name x px,.Name y py] kt pt] (.Tuple [a,b] k2 pt2) X.env=pure (some [x,y]))
  (hs:swapsWithSole [.Tuple [.Name x px,.Name y py] kt pt] (.Tuple [a,b] k2 pt2) pos.line X.env=pure false:=by rfl):
  PS X (.Assign [.Tuple [.Name x px,.Name y py] kt pt] (.Tuple [a,b] k2 pt2) pos) (OH i j ta):=by
 intro pins s σ H D I h
 rw [exec_Assign_arm]
 refine Y3 (acf ?_)
 rw [hs]
 refine Y3 (Zc ?_)
 rw [Zj (by decide)]
 refine Y3 (Tuple_ (d6 (ha _ pins s σ H _ I h) λus s1 ⟨vs,H1,I1,r1,q1⟩=>?_))
 obtain ⟨v,w,e1,q1⟩:=q1
 subst e1
 obtain ⟨u1,u2,rfl,rv,yw⟩:∃ u1 u2,us=[u1,u2] /\ RelV v u1 /\ RelV w u2:=by
  cases r1 with
  | cons p q=>
    cases q with
    | cons p' q'=>
      cases q'
      exact ⟨_,_,rfl,p,p'⟩
 refine Z3 ?_ (by show 2<=sizeLine; decide)
 have I2:Inv X pins σ H1 { s1 with heap:=s1.heap.push { cls:=.type "tuple",data:=.seq [u1,u2].toArray } }:=I1.kept (t':=s1.toks) λb o e=>Y5 _ e
 rw [hw]
 refine Y3 (Zc ?_)
 show wpAny (model X.prog X.w) X.A (do rule "assign.swapped-stores"; let items <- unpackItems (.ref s1.heap.objs.size) 2 none; assignInOrder [λv=>bindName X.env y v,λv=>bindName X.env x v] items.reverse; pure Flow.next) _ _ _
 refine Y3 (abl (Y3 (unpackItems_tuple (items:=#[u1,u2]) (I.ok.hd hc) (IsTup.new s1.heap _) λh' R9=>?_)))
 have I3:=I2.kept (h':=h') (t':=s1.toks) λb o e=>R9 b o (Zs (Zf e)) e
 show wpAny _ _ (assignInOrder [λv=>bindName X.env y v,λv=>bindName X.env x v] [u2,u1] >>= λ_=>pure Flow.next) _ _ _
 refine Y3 (assignInOrder_cons (wpAny_bindName (mS I3 hN hj (.inl hy) yw (λs2 I4=>?_) (.inr hy))))
 refine assignInOrder_cons (wpAny_bindName (mS I4 hN hi (.inl hx) rv (λs3 I5=>assignInOrder_nil (Zc ?_)) (.inr hx)))
 rw [List.set_comm _ _ (abd g7)] at I5
 exact ⟨_,H1,I5,q1⟩
end
section
variable {X:Cx} {pos:Pos}
def LB (c:TT) (tb:TS):TS:=λD σ H=>∃ W:Nat->St->Hp->Prop,(∃ m,W m σ H) /\ ∀ m σ H,W m σ H->
 c σ H λb H1=>if b=true then ∃ N:St->Hp->Prop,(∀ cX H',N cX H'->∃ m',m' < m /\ W m' cX H') /\ tb { D with nx:=N,ct:=N,bk:=D.nx } σ H1 else D.nx σ H1
theorem C2 {c:Expr} {body:List Stmt} {tc:TT} {tb:TS} (hp:PassesOwn (model X.prog X.w) X.A X.env X.xe) (hc:PT X c tc) (hb:jk X body tb):PS X (.While c body [] pos) (LB tc tb):=by
 intro pins s σ H D I h
 obtain ⟨W,⟨m0,w0⟩,turn⟩:=h
 refine wpAny_While (codeAny_whileLoop (λn s'=>∃ cX H',Inv X pins cX H' s' /\ W n cX H') ?_ m0 ⟨σ,H,I,w0⟩)
 rintro n s1 ⟨Ly,H1,I1,w1⟩
 refine aa1 hp (d6 (hc pins s1 Ly H1 _ I1 (turn n Ly H1 w1)) λb s2 ⟨H2,I2,q2⟩=>?_)
 cases b with
 | true=>
   obtain ⟨N,hN,q2⟩:=q2
   rw [Zk rfl]
   refine aa1 hp (d6 (hb pins s2 Ly H2 _ I2 q2) λf s3 q3=>?_)
   cases f with
   | next=>
     obtain ⟨C3,H3,I3,n3⟩:=q3
     obtain ⟨m',hm,w3⟩:=hN C3 H3 n3
     exact ⟨m',hm,C3,H3,I3,w3⟩
   | cont=>
     obtain ⟨C3,H3,I3,n3⟩:=q3
     obtain ⟨m',hm,w3⟩:=hN C3 H3 n3
     exact ⟨m',hm,C3,H3,I3,w3⟩
   | brk=>exact q3
   | ret v=>exact q3
 | false=>
   rw [Zj Zt]
   exact acj ⟨Ly,H2,I2,q2⟩
end
structure It where
 go:Nat->Hp->Prop
 OI:Nat->Hp->V->Hp->Prop
 stop:Nat->Hp->Prop
def j0 (X:Cx) (pins:List (Addr×Obj)) (H:Hp) (b:Addr):Prop:=
 H b=none /\ b≠X.env.locals /\ b∉X.fs /\ (b∈X.ex \/ X.fE.heap.objs.size<=b) /\ (∀ x c,X.env.cells.lookup x=some c->c≠b) /\ ∀ p∈X.pn ++ pins,p.1≠b
theorem Inv.oZ {X:Cx} {pins:List (Addr×Obj)} {σ:St} {H H':Hp} {s:Shared} {b:Addr} (I:Inv X pins σ H s) (hb:s.heap.objs.size<=b) (hn:H' b=none):j0 X pins H' b:=by
 refine ⟨hn,aa2 (Zi I.lt hb),I.Ox hb,.inr (ZQ I.sz hb),λx c e z=>?_,λp hp z=>?_⟩
 .obtain ⟨v,q⟩:=I.cell x c e
  exact absurd (Zi q.lt (by rw [z]; exact hb)) (ZU _)
 .exact absurd (Zi (Zf (I.pin p hp).1) (by rw [z]; exact hb)) (ZU _)
structure Turn (P:Program) (w:World) (K:PySem.W.Frag) (tg:Expr) (J:It) (fp:List Addr) (it:Addr) (tn:Nat->Heap->Prop):Prop where
 mem:it∈fp
 obj:∀ i h,tn i h->∀ b∈fp,∃ o,h.get? b=some o /\ ∀ v,o.data≠.cell v
 keep:∀ i h h',tn i h->(∀ b∈fp,∀ o,h.get? b=some o->h'.get? b=some o)->tn i h'
 item:∀ (X:Cx),X.prog=P->X.w=w->X.K=K->X.calm=true->∀ (i:Nat) (pins:List (Addr×Obj)) (s:Shared) (σ:St) (H:Hp) (E:Value->Shared->Prop),Inv X pins σ H s->(∀ b∈fp,j0 X pins H b)->tn i s.heap->J.go i H->
  wpAny (model P w) X.A (pyNext (.ref it)) (λr s1=>∃ u,r=some u /\
   wpAny (model P w) X.A (letOwnedTupleGo tg (.ref it) u) (λ_ s2=>∃ x H',Inv X pins σ H' s2 /\ RelV x u /\ J.OI i H x H' /\ tn (i + 1) s2.heap /\ ∀ b∈fp,H' b=none) E s1) E s
 done:∀ (X:Cx),X.prog=P->X.w=w->X.K=K->X.calm=true->∀ (i:Nat) (pins:List (Addr×Obj)) (s:Shared) (σ:St) (H:Hp) (E:Value->Shared->Prop),Inv X pins σ H s->(∀ b∈fp,j0 X pins H b)->tn i s.heap->J.stop i H->
  wpAny (model P w) X.A (pyNext (.ref it)) (λr s1=>r=none /\ Inv X pins σ H s1) E s
 self:∀ (A:Around) (i:Nat) (s:Shared) (Q:Value->Shared->Prop) (E:Value->Shared->Prop),tn i s.heap->Q (.ref it) s->wpAny (model P w) A (pyIter (.ref it)) Q E s
abbrev TI:=St->Hp->(It->Hp->Prop)->Prop
def Rk (X:Cx) (pins:List (Addr×Obj)) (σ:St) (tg:Expr) (R:It->Hp->Prop) (Ge:Value) (s2:Shared):Prop:=
 ∃ (it:Addr) (fp:List Addr) (tn:Nat->Heap->Prop) (J:It) (H':Hp),Ge=.ref it /\ Inv X pins σ H' s2 /\ Turn X.prog X.w X.K tg J fp it tn /\ tn 0 s2.heap /\ (∀ b∈fp,j0 X pins H' b) /\ R J H'
def PI (X:Cx) (tg iter:Expr) (wi:TI):Prop:=
 ∀ (pins:List (Addr×Obj)) (s:Shared) (σ:St) (H:Hp) (R:It->Hp->Prop),Inv X pins σ H s->wi σ H R->
   wpAny (model X.prog X.w) X.A (eval iter X.env) (λv s1=>wpAny (model X.prog X.w) X.A (pyIter v) (Rk X pins σ tg R) X.xe s1) X.xe s
theorem C4 {M:Model} {A:Around} {E:Value->Shared->Prop} {s:Shared} {tg:Expr} {it:Addr} {u:Value} {o:Obj} {n:String} {vs:Array Value} {Q:Unit->Shared->Prop} (ho:s.heap.get? it=some o) (hc:o.cls=.type n) (hd:o.data=.fields vs)
  (hn:["enumerate","zip","dict_itemiterator","dict_reverseitemiterator","odict_iterator","itertools.zip_longest","itertools.pairwise"].contains n=false) (hQ:Q () s):wpAny M A (letOwnedTupleGo tg (.ref it) u) Q E s:=by
 unfold letOwnedTupleGo
 cases tg <;> first
  | exact Zc hQ
  | (cases u <;> first
    | exact Zc hQ
    | (refine Y3 (wpAny_load ho ?_)
       rw [hc,hd]
       show wpAny M A (if (["enumerate","zip","dict_itemiterator","dict_reverseitemiterator","odict_iterator","itertools.zip_longest","itertools.pairwise"].contains n && vs[0]? == some (rawInt _))=true then _ else _) Q E s
       rw [Zj (by intro h; rw [hn,acu] at h; cases h)]
       exact Zc hQ))
def UH (K:PySem.W.Frag) (a:Addr):It:=
 ⟨λi H=>∃ xs x,iW K H a xs /\ xs[i]?=some x,λi H x H'=>H'=H /\ ∀ xs,iW K H a xs->xs[i]?=some x,λi H=>∃ xs,iW K H a xs /\ xs.length<=i⟩
def UI (K:PySem.W.Frag) (a:Addr):It:=
 ⟨λi H=>∃ xs x,iX K H a xs /\ xs[i]?=some x,λi H x H'=>H'=H /\ ∀ xs,iX K H a xs->xs[i]?=some x,λi H=>∃ xs,iX K H a xs /\ xs.length<=i⟩
def OJ (lo:Int) (n:Nat):It:=⟨λi _=>i < n,λi H x H'=>H'=H /\ x=.int (lo + i),λi _=>n<=i⟩
theorem Bz {P:Program} {w:World} {K:PySem.W.Frag} {tg:Expr} (a it:Addr):Turn P w K tg (UH K a) [it] it (λi h=>h.IsListIter it a i) where
 mem:=by simp
 obj:=λi h st b hb=>by
  have e:b=it:=by simpa using hb
  subst e
  obtain ⟨o,e,c,d⟩:=st
  exact ⟨o,e,λv z=>by rw [d] at z; cases z⟩
 keep:=λi h h' st k=>st.at λo e=>k it (by simp) o e
 item:=by
  intro X hP hw hK hc i pins s σ H E I hf st hg
  subst hP hw hK
  obtain ⟨xs,x,hq,hx⟩:=hg
  obtain ⟨its,rv,p,hz⟩:=I.list hq
  obtain ⟨u,hu,ru⟩:=rv.get hx
  obtain ⟨f0,f1,f2,f3,f4,f5⟩:=hf it (by simp)
  refine wpAny_pyNext_list_item st p.isList (x:=u) (by simpa using hu) λh' cm sb=>?_
  have I1:Inv X pins σ H { s with heap:=h' }:=I.turned (t':=s.toks) (λb o hb e=>(sb.2 b hb).trans e) f0 f1 f3 f4 f5
  obtain ⟨o,e,c,d⟩:=id cm
  exact ⟨u,rfl,C4 (s:={ s with heap:=h' }) e c d (by decide) ⟨x,H,I1,ru,⟨rfl,λys hy=>by rw [I.wc hy hq]; exact hx⟩,cm,λb hb=>(hf b hb).1⟩⟩
 done:=by
  intro X hP hw hK hc i pins s σ H E I hf st hg
  subst hP hw hK
  obtain ⟨xs,hq,hx⟩:=hg
  obtain ⟨its,rv,p,hz⟩:=I.list hq
  obtain ⟨f0,f1,f2,f3,f4,f5⟩:=hf it (by simp)
  have hl:=rv.length
  exact wpAny_pyNext_list_end (I.ok.hd hc) st p.isList (by simp; omega) λh' eb=>⟨rfl,I.turned (t':=s.toks) (λb o hb e=>eb b o hb e) f0 f1 f3 f4 f5⟩
 self:=λ_ _ _ _ _ st h=>wpAny_pyIter_listiter st h
theorem yx {P:Program} {w:World} {K:PySem.W.Frag} {tg:Expr} (a it:Addr):Turn P w K tg (UI K a) [it] it (λi h=>h.IsTupleIter it a i) where
 mem:=by simp
 obj:=λi h st b hb=>by
  have e:b=it:=by simpa using hb
  subst e
  obtain ⟨o,e,c,d⟩:=st
  exact ⟨o,e,λv z=>by rw [d] at z; cases z⟩
 keep:=λi h h' st k=>st.at λo e=>k it (by simp) o e
 item:=by
  intro X hP hw hK hc i pins s σ H E I hf st hg
  subst hP hw hK
  obtain ⟨xs,x,hq,hx⟩:=hg
  obtain ⟨its,rv,p,hz⟩:=I.tuple hq
  obtain ⟨u,hu,ru⟩:=rv.get hx
  obtain ⟨f0,f1,f2,f3,f4,f5⟩:=hf it (by simp)
  refine wpAny_pyNext_tuple_item st (show s.heap.IsTuple a its.toArray from p) (x:=u) (by simpa using hu) λh' cm sb=>?_
  have I1:Inv X pins σ H { s with heap:=h' }:=I.turned (t':=s.toks) (λb o hb e=>(sb.2 b hb).trans e) f0 f1 f3 f4 f5
  obtain ⟨o,e,c,d⟩:=id cm
  exact ⟨u,rfl,C4 (s:={ s with heap:=h' }) e c d (by decide) ⟨x,H,I1,ru,⟨rfl,λys hy=>by rw [I.nQ hy hq]; exact hx⟩,cm,λb hb=>(hf b hb).1⟩⟩
 done:=by
  intro X hP hw hK hc i pins s σ H E I hf st hg
  subst hP hw hK
  obtain ⟨xs,hq,hx⟩:=hg
  obtain ⟨its,rv,p,hz⟩:=I.tuple hq
  obtain ⟨f0,f1,f2,f3,f4,f5⟩:=hf it (by simp)
  have hl:=rv.length
  exact wpAny_pyNext_tuple_end (I.ok.hd hc) st (show s.heap.IsTuple a its.toArray from p) (by simp; omega) λh' eb=>⟨rfl,I.turned (t':=s.toks) (λb o hb e=>eb b o hb e) f0 f1 f3 f4 f5⟩
 self:=λ_ _ _ _ _ st h=>wpAny_pyIter_tupleiter st h
theorem yy {P:Program} {w:World} {K:PySem.W.Frag} {tg:Expr} (it:Addr) (lo:Int) (n:Nat):Turn P w K tg (OJ lo n) [it] it (λi h=>IsRangeIter h it (lo + (i:Nat) * 1) ((n:Int) - (i:Nat)) 1) where
 mem:=by simp
 obj:=λi h st b hb=>by
  have e:b=it:=by simpa using hb
  subst e
  exact ⟨_,st,λv z=>by
   have z':Data.fields _=Data.cell v:=z
   cases z'⟩
 keep:=λi h h' st k=>k it (by simp) _ st
 item:=by
  intro X hP hw hK hc i pins s σ H E I hf st hg
  subst hP hw hK
  obtain ⟨f0,f1,f2,f3,f4,f5⟩:=hf it (by simp)
  have W:=Walks.range (prog:=X.prog) (w:=X.w) (I.ok.hd hc) it lo 1 n
  refine W.item i s _ _ hg st λv h' tk hv cm kk=>?_
  obtain ⟨t,rfl⟩:=hv
  have I1:Inv X pins σ H { s with heap:=h',toks:=tk }:=I.turned (λb o hb e=>kk b o (by simpa using hb) e) f0 f1 f3 f4 f5
  refine ⟨_,rfl,C4 (s:={ s with heap:=h',toks:=tk }) (n:="range_iterator") cm rfl rfl (by decide) ⟨.int (lo + i),H,I1,⟨t,?_⟩,⟨rfl,rfl⟩,cm,λb hb=>(hf b hb).1⟩⟩
  rw [Int.mul_one]
 done:=by
  intro X hP hw hK hc i pins s σ H E I hf st hg
  subst hP hw hK
  obtain ⟨f0,f1,f2,f3,f4,f5⟩:=hf it (by simp)
  exact wpAny_pyNext_range_end (I.ok.hd hc) st (by have:n<=i:=hg; omega) λh' eb=>⟨rfl,I.turned (t':=s.toks) (λb o hb e=>eb b o hb e) f0 f1 f3 f4 f5⟩
 self:=λ_ _ _ _ _ st h=>wpAny_pyIter_rangeiter st h
section
variable {X:Cx} {tg:Expr}
theorem wg {pins:List (Addr×Obj)} {σ:St} {H:Hp} {s:Shared} {R:It->Hp->Prop} {E:Value->Shared->Prop} {lo hi:Int} {t u v:Tok} {tk:Nat} (I:Inv X pins σ H s) (h1: -(2 ^ 62)<=lo) (h2:lo < 2 ^ 62) (h3: -(2 ^ 62)<=hi) (h4:hi < 2 ^ 62)
  (q:R (OJ lo (hi - lo).toNat) H):wpAny (model X.prog X.w) X.A (pyIter (.ref s.heap.objs.size)) (Rk X pins σ tg R) E { s with heap:=s.heap.push { cls:=.type "range",data:=.fields #[.int lo t,.int hi u,.int 1 v] },toks:=tk }:=by
 refine wpAny_pyIter_range (IsRange.new ..) (small_one h1 h2 h3 h4) ?_
 have I1:Inv X pins σ H { s with heap:=s.heap.push { cls:=.type "range",data:=.fields #[.int lo t,.int hi u,.int 1 v] },toks:=tk }:=I.kept λb o e=>Y5 _ e
 refine ⟨(s.heap.push { cls:=.type "range",data:=.fields #[.int lo t,.int hi u,.int 1 v] }).objs.size,[(s.heap.push { cls:=.type "range",data:=.fields #[.int lo t,.int hi u,.int 1 v] }).objs.size],_,_,H,rfl,
  I1.kept (t':=tk) λb o e=>Y5 _ e,yy _ lo (hi - lo).toNat,?_,λb hb=>?_,q⟩
 .have e1:lo + ((0:Nat):Int) * 1=lo:=by simp
  have e2:(((hi - lo).toNat:Nat):Int) - ((0:Nat):Int)=Builtin.Range.rangeSize lo hi 1:=by rw [rangeSize_one]; split <;> omega
  show IsRangeIter _ _ (lo + ((0:Nat):Int) * 1) ((((hi - lo).toNat:Nat):Int) - ((0:Nat):Int)) 1
  rw [e1,e2]
  exact Zh _ rfl
 .have e:b=(s.heap.push { cls:=.type "range",data:=.fields #[.int lo t,.int hi u,.int 1 v] }).objs.size:=by simpa using hb
  subst e
  exact I1.oZ (Ze _) (I1.cf.fresh (Ze _))
def OK (ta:TA):TI:=λσ H R=>ta σ H λvs H1=>∃ j:Int,vs=[.int j] /\ -(2 ^ 62)<=j /\ j < 2 ^ 62 /\ R (OJ 0 j.toNat) H1
def OL (ta:TA):TI:=λσ H R=>ta σ H λvs H1=>∃ i j:Int,vs=[.int i,.int j] /\ (-(2 ^ 62)<=i /\ i < 2 ^ 62 /\ -(2 ^ 62)<=j /\ j < 2 ^ 62) /\ R (OJ i (j - i).toNat) H1
theorem BA {a:Expr} {ta:TA} {p pos:Pos} (hg:Gl X "range") (hm:X.mg "range"=none) (ha:PA X [a] ta) (hs:starEach [a] X.env=[(false,eval a X.env)]:=by rfl):PI X tg (.Call (.Name "range" p) [a] [] pos) (OK ta):=by
 intro pins s σ H R I h
 refine Call_ (iF I hg hm boot_range (aal (d6 (ha pos pins s σ H _ I h) λus s1 ⟨vs,H1,I1,r1,q1⟩=>?_) hs rfl))
 obtain ⟨j,e,q1,q2,q⟩:=q1
 subst e
 cases r1 with
 | cons r rr=>
   cases rr
   obtain ⟨t,rfl⟩:=r
   exact call_range_1 (wg I1 (by omega) (by omega) q1 q2 (by simpa using q))
theorem BC {a b:Expr} {ta:TA} {p pos:Pos} (hg:Gl X "range") (hm:X.mg "range"=none) (ha:PA X [a,b] ta) (hs:starEach [a,b] X.env=[(false,eval a X.env),(false,eval b X.env)]:=by rfl) (mN:starEach [b] X.env=[(false,eval b X.env)]:=by rfl):
  PI X tg (.Call (.Name "range" p) [a,b] [] pos) (OL ta):=by
 intro pins s σ H R I h
 refine Call_ (iF I hg hm boot_range (aal (d6 (ha pos pins s σ H _ I h) λus s1 ⟨vs,H1,I1,r1,q1⟩=>?_) (by rw [hs,mN]) (by rw [mN]; rfl)))
 obtain ⟨i,j,e,⟨q1,q2,q3,q4⟩,q⟩:=q1
 subst e
 cases r1 with
 | cons r rr=>
   cases rr with
   | cons r' rr=>
     cases rr
     obtain ⟨t,rfl⟩:=r
     obtain ⟨t',rfl⟩:=r'
     exact call_range_2 (wg I1 q1 q2 q3 q4 q)
def Sa (wi:TI) (g:TG) (tb:TS):TS:=λD σ H=>wi σ H λJ H1=>∃ W:Nat->Nat->St->Hp->Prop,(∃ m,W 0 m σ H1) /\ ∀ i m σ H,W i m σ H->
 (J.stop i H /\ D.nx σ H) \/ (J.go i H /\ ∃ N:St->Hp->Prop,(∀ cX H',N cX H'->∃ m',m' < m /\ W (i + 1) m' cX H') /\ ∀ x H',J.OI i H x H'->g x σ H' λV1 H2=>tb { D with nx:=N,ct:=N,bk:=D.nx } V1 H2)
def lO (fp:List Addr) (h:Heap):List (Addr×Obj):=fp.filterMap λb=>(h.get? b).map λo=>(b,o)
theorem fe {fp:List Addr} {h:Heap} {b:Addr} {o:Obj} (hb:b∈fp) (e:h.get? b=some o):(b,o)∈lO fp h:=List.mem_filterMap.mpr ⟨b,hb,by rw [e]; rfl⟩
theorem sD {fp:List Addr} {h:Heap} {p:Addr×Obj} (hp:p∈lO fp h):p.1∈fp /\ h.get? p.1=some p.2:=by
 obtain ⟨b,hb,e⟩:=List.mem_filterMap.mp hp
 cases q:h.get? b with
 | none=>rw [q] at e; cases e
 | some o=>
   rw [q] at e
   have e':(b,o)=p:=ZV e
   subst e'
   exact ⟨hb,q⟩
theorem Inv.pinned {pins:List (Addr×Obj)} {σ:St} {H:Hp} {s:Shared} {fp:List Addr} (I:Inv X pins σ H s) (hf:∀ b∈fp,j0 X pins H b) (ho:∀ b∈fp,∃ o,s.heap.get? b=some o /\ ∀ v,o.data≠.cell v):Inv X (pins ++ lO fp s.heap) σ H s:=
 I.kZ λp hp=>(ZC.mp hp).elim (λz=>I.pin p (Zg _ z)) λz=>by
  obtain ⟨hb,e⟩:=sD z
  obtain ⟨f0,f1,f2,_⟩:=hf p.1 hb
  obtain ⟨o,e',d⟩:=ho p.1 hb
  rw [e] at e'; cases e'
  exact ⟨e,f0,f1,f2,d⟩
theorem Inv.kb {pins pl:List (Addr×Obj)} {σ:St} {H:Hp} {s:Shared} (I:Inv X (pins ++ pl) σ H s):Inv X pins σ H s:=I.kZ λp hp=>I.pin p (Zg _ (ZX _ hp))
theorem LC {iter:Expr} {body:List Stmt} {wi:TI} {g:TG} {tb:TS} {pos:Pos} (hp:PassesOwn (model X.prog X.w) X.A X.env X.xe) (hc:X.calm=true) (hi:PI X tg iter wi) (hg:PG X tg g) (hb:jk X body tb)
  (hs:∀ x,foldedSetIterable iter X.env x=pure x:=by intro _; rfl):PS X (.For tg iter body [] pos) (Sa wi g tb):=by
 intro pins s σ H D I h
 refine wpAny_For (d6 (hi pins s σ H _ I h) λv s1 h1=>d6 h1 λGe s2 h2=>?_) hs
 obtain ⟨it,fp,tn,J,H2,e,I2,T,cR,f2,W,⟨m0,w0⟩,turn⟩:=h2
 subst e
 have yz:∀ {H':Hp},(∀ b∈fp,H' b=none)->∀ b∈fp,j0 X pins H' b:=λhn b hb=>⟨hn b hb,(f2 b hb).2⟩
 refine codeAny_forLoop_any (λn s'=>∃ i cX H',Inv X pins cX H' s' /\ tn i s'.heap /\ (∀ b∈fp,H' b=none) /\ W i n cX H') ?_ m0 ⟨0,σ,H2,I2,cR,λb hb=>(f2 b hb).1,w0⟩
 rintro n s3 ⟨i,C3,H3,I3,C5,UJ,w3⟩
 rcases turn i n C3 H3 w3 with ⟨stop,qn⟩ | ⟨go,N,hN,step⟩
 .refine aa1 hp (d6 (T.done X rfl rfl rfl hc i pins s3 C3 H3 X.xe I3 (yz UJ) C5 stop) λr s4 ⟨hr,I4⟩=>?_)
  subst hr
  exact acj ⟨C3,H3,I4,qn⟩
 .refine aa1 hp (d6 (T.item X rfl rfl rfl hc i pins s3 C3 H3 X.xe I3 (yz UJ) C5 go) λr s4 ⟨u,hr,h4⟩=>?_)
  subst hr
  refine aa1 hp (d6 h4 λ_ s5 ⟨x,H5,I5,r5,y5,GH,Sb⟩=>?_)
  have Sd:=I5.pinned (yz Sb) (T.obj _ _ GH)
  refine aa1 hp (d6 (hg _ s5 C3 H5 x u _ Sd r5 (step x H5 y5)) λ_ s6 ⟨V2,H6,I6,q6⟩=>?_)
  refine aa1 hp (d6 (hb _ s6 V2 H6 _ I6 q6) λf s7 q7=>?_)
  have again:∀ {C6:St} {H7:Hp},Inv X (pins ++ lO fp s5.heap) C6 H7 s7->N C6 H7->∃ m,m < n /\ ∃ i cX H',Inv X pins cX H' s7 /\ tn i s7.heap /\ (∀ b∈fp,H' b=none) /\ W i m cX H':=λ{C6 H7} I7 n7=>by
   obtain ⟨m',hm,w7⟩:=hN C6 H7 n7
   refine ⟨m',hm,i + 1,C6,H7,I7.kb,T.keep _ _ _ GH λb hb o e=>(I7.pin (b,o) (Zg _ (Zg _ (fe hb e)))).1,λb hb=>?_,w7⟩
   obtain ⟨o,e,d⟩:=T.obj _ _ GH b hb
   exact (I7.pin (b,o) (Zg _ (Zg _ (fe hb e)))).2.1
  cases f with
  | next=>obtain ⟨C6,H7,I7,n7⟩:=q7; exact again I7 n7
  | cont=>obtain ⟨C6,H7,I7,n7⟩:=q7; exact again I7 n7
  | brk=>obtain ⟨C6,H7,I7,q7⟩:=q7; exact ⟨C6,H7,I7.kb,q7⟩
  | ret v=>obtain ⟨x7,C6,H7,I7,r7,q7⟩:=q7; exact ⟨x7,C6,H7,I7.kb,r7,q7⟩
end
abbrev R2:=V->V->Hp->VK->Prop
def iR (X:Cx) (f:Value->Value->Sem Value) (r:R2):Prop:=
 ∀ (pins:List (Addr×Obj)) (s:Shared) (σ:St) (H:Hp) (x y:V) (v u:Value) (Q:VK),Inv X pins σ H s->RelV x v->RelV y u->r x y H Q->
   wpAny (model X.prog X.w) X.A (f v u) (EP X pins σ Q) X.xe s
def Se (X:Cx) (f:Value->Sem Value) (r:V->Hp->VK->Prop):Prop:=
 ∀ (pins:List (Addr×Obj)) (s:Shared) (σ:St) (H:Hp) (x:V) (v:Value) (Q:VK),Inv X pins σ H s->RelV x v->r x H Q->
   wpAny (model X.prog X.w) X.A (f v) (EP X pins σ Q) X.xe s
def eD (X:Cx) (f:Value) (r:List V->Hp->VK->Prop):Prop:=
 ∀ (pins:List (Addr×Obj)) (s:Shared) (σ:St) (H:Hp) (xs:List V) (us:List Value) (Q:VK),Inv X pins σ H s->bj xs us->r xs H Q->
   wpAny (model X.prog X.w) X.A (call f us) (EP X pins σ Q) X.xe s
def Sf (X:Cx) (r:V->Hp->(Bool->Hp->Prop)->Prop):Prop:=
 ∀ (pins:List (Addr×Obj)) (s:Shared) (σ:St) (H:Hp) (x:V) (v:Value) (Q:Bool->Hp->Prop),Inv X pins σ H s->RelV x v->r x H Q->
   wpAny (model X.prog X.w) X.A (truthy v) (TP X pins σ Q) X.xe s
def JR (r:R2) (ta tb:TE):TE:=λσ H Q=>ta σ H λx H1=>tb σ H1 λy H2=>r x y H2 Q
def V3 (r:V->Hp->VK->Prop) (ta:TE):TE:=λσ H Q=>ta σ H λx H1=>r x H1 Q
def rI (C:Int->Int->Prop) (g:Int->Int->V):R2:=λx y H Q=>∃ i j,x=.int i /\ y=.int j /\ C i j /\ Q (g i j) H
def C7 (g:Int->Int->V):R2:=λx y H Q=>∃ i j,x=.int i /\ y=.int j /\ Q (g i j) H
def rU (g:Int->V):V->Hp->VK->Prop:=λx H Q=>∃ i,x=.int i /\ Q (g i) H
section
variable {X:Cx} {a b c:Expr} {ta tb tc:TE} {pos:Pos}
theorem LD (ha:PE X a ta) (hb:PE X b tb) {pins:List (Addr×Obj)} {s:Shared} {σ:St} {H:Hp} {R:V->V->Hp->Prop} (I:Inv X pins σ H s)
  (h:ta σ H λx H1=>tb σ H1 λy H2=>R x y H2) {Q:Value->Shared->Prop} {f:Value->Value->Sem Value}
  (hf:∀ v u s2 x y H2,Inv X pins σ H2 s2->RelV x v->RelV y u->R x y H2->wpAny (model X.prog X.w) X.A (f v u) Q X.xe s2):
  wpAny (model X.prog X.w) X.A (eval a X.env) (λv bE=>wpAny (model X.prog X.w) X.A (eval b X.env) (λu lP=>wpAny (model X.prog X.w) X.A (f v u) Q X.xe lP) X.xe bE) X.xe s:=by
 refine d6 (ha pins s σ H _ I h) λv s1 ⟨x,H1,I1,r1,q1⟩=>?_
 refine d6 (hb pins s1 σ H1 _ I1 q1) λu s2 ⟨y,H2,I2,r2,q2⟩=>?_
 exact hf v u s2 x y H2 I2 r1 r2 q2
theorem JS {op:Operator} {r:R2} (ho:iR X (binaryOp op) r) (ha:PE X a ta) (hb:PE X b tb):PE X (.BinOp a op b pos) (JR r ta tb):=by
 intro pins s σ H Q I h
 exact wpAny_BinOp (LD ha hb I h λv u s2 x y H2 I2 rx ry q=>ho pins s2 σ H2 x y v u Q I2 rx ry q)
theorem OM {op:UnaryOp} {r:V->Hp->VK->Prop} (ho:Se X (unaryOp op) r) (ha:PE X a ta):PE X (.UnaryOp op a pos) (V3 r ta):=by
 intro pins s σ H Q I h
 exact UnaryOp_ (d6 (ha pins s σ H _ I h) λv s1 ⟨x,H1,I1,r1,q1⟩=>ho pins s1 σ H1 x v Q I1 r1 q1)
theorem ON {f:Value->Value->Sem Value} {C:Int->Int->Prop} {g:Int->Int->Int}
  (rule:∀ (i j:Int) (t u:Tok) (s:Shared) (Q:Value->Shared->Prop) (E:Value->Shared->Prop),C i j->Q (.int (g i j) s.toks) { s with toks:=s.toks + 1 }->wpAny (model X.prog X.w) X.A (f (.int i t) (.int j u)) Q E s):
  iR X f (rI C λi j=>.int (g i j)):=by
 intro pins s σ H x y v u Q I rx ry h
 obtain ⟨i,j,rfl,rfl,hc,q⟩:=h
 obtain ⟨t,rfl⟩:=rx
 obtain ⟨t',rfl⟩:=ry
 exact rule i j t t' s _ _ hc ⟨.int (g i j),H,I.tok _,⟨_,rfl⟩,q⟩
theorem OP {f:Value->Value->Sem Value} {g:Int->Int->Int}
  (rule:∀ (i j:Int) (t u:Tok) (s:Shared) (Q:Value->Shared->Prop) (E:Value->Shared->Prop),Q (.int (g i j) s.toks) { s with toks:=s.toks + 1 }->wpAny (model X.prog X.w) X.A (f (.int i t) (.int j u)) Q E s):
  iR X f (C7 λi j=>.int (g i j)):=by
 intro pins s σ H x y v u Q I rx ry h
 obtain ⟨i,j,rfl,rfl,q⟩:=h
 obtain ⟨t,rfl⟩:=rx
 obtain ⟨t',rfl⟩:=ry
 exact rule i j t t' s _ _ ⟨.int (g i j),H,I.tok _,⟨_,rfl⟩,q⟩
theorem GI {f:Value->Value->Sem Value} {g:Int->Int->Bool}
  (rule:∀ (i j:Int) (t u:Tok) (s:Shared) (Q:Value->Shared->Prop) (E:Value->Shared->Prop),Q (.bool (g i j)) s->wpAny (model X.prog X.w) X.A (f (.int i t) (.int j u)) Q E s):
  iR X f (C7 λi j=>.bl (g i j)):=by
 intro pins s σ H x y v u Q I rx ry h
 obtain ⟨i,j,rfl,rfl,q⟩:=h
 obtain ⟨t,rfl⟩:=rx
 obtain ⟨t',rfl⟩:=ry
 exact rule i j t t' s _ _ ⟨.bl (g i j),H,I,rfl,q⟩
def LF (i j:Int):Prop:=0<=j /\ j<=1000000 /\ i.natAbs < 2 ^ 64
theorem yA (k:Nat):(0:Int)<=2 ^ k:=by
 rw [two_pow_cast]
 exact Int.natCast_nonneg _
theorem LG:iR X (binaryOp .Add) (C7 λi j=>.int (i + j)):=OP λ_ _ _ _ _ _ _ q=>add_int q
theorem cG:iR X (binaryOp .Sub) (C7 λi j=>.int (i - j)):=OP λ_ _ _ _ _ _ _ q=>sub_int q
theorem bI:iR X (binaryOp .Mod) (rI (λ_ j=>j≠0) λi j=>.int (i.fmod j)):=ON λ_ _ _ _ _ _ _ hc q=>mod_int' hc q
theorem yB:iR X (binaryOp .Pow) (rI LF λi j=>.int (i ^ j.toNat)):=ON λ_ _ _ _ _ _ _ hc q=>pow_int_small hc.1 hc.2.1 hc.2.2 q
theorem yC:iR X (binaryOp .RShift) (rI (λ_ j=>0<=j) λi j=>.int (i / 2 ^ j.toNat)):=ON λi j _ _ _ _ _ hc q=>
 rshift_int hc (by rw [Int.fdiv_eq_ediv_of_nonneg i (yA _)]; exact q)
theorem V4 {f:Value->Sem Value} {g:Int->Int}
  (rule:∀ (i:Int) (t:Tok) (s:Shared) (Q:Value->Shared->Prop) (E:Value->Shared->Prop),Q (.int (g i) s.toks) { s with toks:=s.toks + 1 }->wpAny (model X.prog X.w) X.A (f (.int i t)) Q E s):
  Se X f (rU λi=>.int (g i)):=by
 intro pins s σ H x v Q I rx h
 obtain ⟨i,rfl,q⟩:=h
 obtain ⟨t,rfl⟩:=rx
 exact rule i t s _ _ ⟨.int (g i),H,I.tok _,⟨_,rfl⟩,q⟩
theorem LH:Se X (unaryOp .USub) (rU λi=>.int (-i)):=V4 λ_ _ _ _ _ q=>neg_int q
end
section
variable {X:Cx} {a b c:Expr} {ta tb tc:TE} {pos:Pos}
theorem ke:iR X (compareOp .Lt) (C7 λi j=>.bl (decide (i < j))):=GI λ_ _ _ _ _ _ _ q=>lt_int q
theorem JT:iR X (compareOp .LtE) (C7 λi j=>.bl (decide (i<=j))):=GI λ_ _ _ _ _ _ _ q=>le_int q
theorem oG:iR X (compareOp .Gt) (C7 λi j=>.bl (decide (j < i))):=GI λ_ _ _ _ _ _ _ q=>gt_int q
theorem OQ:iR X (compareOp .GtE) (C7 λi j=>.bl (decide (j<=i))):=GI λ_ _ _ _ _ _ _ q=>ge_int q
theorem iR.or {f:Value->Value->Sem Value} {r r':R2} (h:iR X f r) (h':iR X f r'):iR X f (λx y H Q=>r x y H Q \/ r' x y H Q):=by
 intro pins s σ H x y v u Q I rx ry q
 rcases q with q | q
 .exact h pins s σ H x y v u Q I rx ry q
 .exact h' pins s σ H x y v u Q I rx ry q
theorem br (b:Expr) {op:CmpOp} (h:op≠.In:=by decide) (h2:op≠.NotIn:=by decide):behindInMarks op b=false:=by
 have e1:(op == CmpOp.In)=false:=by cases op <;> first | rfl | exact absurd rfl h
 have e2:(op == CmpOp.NotIn)=false:=by cases op <;> first | rfl | exact absurd rfl h2
 cases b <;> simp [behindInMarks,e1,e2]
theorem GJ {op:CmpOp} {r:R2} (ho:iR X (compareOp op) r) (ha:PE X a ta) (hb:PE X b tb) (hm:behindInMarks op b=false):PE X (.Compare a [op] [b] pos) (JR r ta tb):=by
 intro pins s σ H Q I h
 exact wpAny_Compare1 (LD ha hb I h λv u s2 x y H2 I2 rx ry q=>ho pins s2 σ H2 x y v u Q I2 rx ry q) hm
def OR (t:TE):TT:=λσ H Q=>t σ H λx H'=>∃ k,x=.bl k /\ Q k H'
theorem GK {op:CmpOp} {r:R2} (ho:iR X (compareOp op) r) (ha:PE X a ta) (hb:PE X b tb) (hm:behindInMarks op b=false):PT X (.Compare a [op] [b] pos) (OR (JR r ta tb)):=by
 intro pins s σ H Q I h
 refine wpAny_isTrue_Compare1 (d6 (ha pins s σ H _ I h) λv s1 ⟨x,H1,I1,r1,q1⟩=>d6 (hb pins s1 σ H1 _ I1 q1) λu s2 ⟨y,H2,I2,r2,q2⟩=>
  d6 (ho pins s2 σ H2 x y v u _ I2 r1 r2 q2) λc s3 ⟨z,H3,I3,r3,k,e,q3⟩=>?_) hm
 subst e
 cases r3
 exact abt ⟨H3,I3,q3⟩
def C8 (r r':R2) (ta tb tc:TE):TE:=λσ H Q=>ta σ H λx H1=>tb σ H1 λy H2=>r x y H2 λz H3=>∃ k,z=.bl k /\
 (if k=true then tc σ H3 λw' H4=>r' y w' H4 Q else Q (.bl false) H3)
theorem C9 {op LI:CmpOp} {r r':R2} (ho:iR X (compareOp op) r) (CV:iR X (compareOp LI) r') (ha:PE X a ta) (hb:PE X b tb) (hc:PE X c tc)
  (hm:lastMarks [op,LI] [b,c]=false:=by with_unfolding_all rfl):PE X (.Compare a [op,LI] [b,c] pos) (C8 r r' ta tb tc):=by
 intro pins s σ H Q I h
 refine Compare_chain (d6 (ha pins s σ H _ I h) λv s1 ⟨x,H1,I1,r1,q1⟩=>chain_link (d6 (hb pins s1 σ H1 _ I1 q1) λu s2 ⟨y,H2,I2,r2,q2⟩=>
  d6 (ho pins s2 σ H2 x y v u _ I2 r1 r2 q2) λd s3 ⟨z,H3,I3,r3,k,e,q3⟩=>?_)) hm
 subst e
 cases r3
 refine abt ?_
 cases k with
 | false=>exact ite_ff ⟨.bl false,H3,I3,rfl,q3⟩
 | true=>exact ite_tt (chain_last (d6 (hc pins s3 σ H3 _ I3 q3) λw' s4 ⟨z',H4,I4,r4,q4⟩=>CV pins s4 σ H4 y z' u w' Q I4 r2 r4 q4))
def OS (K:PySem.W.Frag) (x:V) (H:Hp) (k:Bool):Prop:=
 match x with
 | .gu=>k=false
 | .bl b=>k=b
 | .int i=>k=(i != 0)
 | .str y=>y.length<=sizeLine /\ k=((y.length:Int) != 0)
 | .Om y=>y.size<=sizeLine /\ k=((y.size:Int) != 0)
 | .ref p=>(∃ xs,iW K H p xs /\ k= !xs.isEmpty) \/ (∃ xs,iX K H p xs /\ k= !xs.isEmpty) \/ ∃ aH,H p=some (.dK aH) /\ k= !aH.isEmpty
 | _=>False
theorem yD {κ:Type} {aH:List (κ×V)} {vs:List (κ×Value)} (r:KV aH vs):(!vs.isEmpty)= !aH.isEmpty:=by
 cases r <;> rfl
theorem pX {xs:List V} {its:List Value} (r:bj xs its):(!its.toArray.isEmpty)= !xs.isEmpty:=by
 cases r <;> simp
theorem nR:(sizeLine:Nat) < 2 ^ 63:=by rw [abx]; decide
theorem LJ:Sf X (λx H Q=>∃ k,OS X.K x H k /\ Q k H):=by
 intro pins s σ H x v Q I rx h
 obtain ⟨k,e,q⟩:=h
 have hl:=nR
 have hs:sizeLine=16777216:=abx
 cases x with
 | gu=>
   cases rx
   have e':k=false:=e
   subst e'
   exact truthy_none ⟨H,I,q⟩
 | bl b=>
   cases rx
   have e':k=b:=e
   subst e'
   exact abt ⟨H,I,q⟩
 | int i=>
   obtain ⟨t,rfl⟩:=rx
   have e':k=(i != 0):=e
   subst e'
   exact PySem.P.truthy_int ⟨H,I,q⟩
 | str y=>
   obtain ⟨t,rfl⟩:=rx
   obtain ⟨hy,e'⟩:y.length<=sizeLine /\ k=((y.length:Int) != 0):=e
   subst e'
   exact PySem.P.truthy_str (by omega) ⟨H,I.tok _,q⟩
 | Om y=>
   obtain ⟨t,rfl⟩:=rx
   obtain ⟨hy,e'⟩:y.size<=sizeLine /\ k=((y.size:Int) != 0):=e
   subst e'
   exact PySem.W.truthy_bytes (by omega) ⟨H,I.tok _,q⟩
 | ref p=>
   cases rx
   have e':(∃ xs,iW X.K H p xs /\ k= !xs.isEmpty) \/ (∃ xs,iX X.K H p xs /\ k= !xs.isEmpty) \/ ∃ aH,H p=some (.dK aH) /\ k= !aH.isEmpty:=e
   rcases e' with ⟨xs,hx,e'⟩ | ⟨xs,hx,e'⟩ | ⟨aH,hx,e'⟩
   .subst e'
    obtain ⟨its,r,pl,hz⟩:=I.list hx
    have hlen:=r.length
    exact wpAny_truthy_list pl.isList (by simp only [Zm]; omega) ⟨H,I.tok _,by rw [pX r]; exact q⟩
   .subst e'
    obtain ⟨its,r,pl,hz⟩:=I.tuple hx
    have hlen:=r.length
    exact truthy_tuple pl (by simp only [Zm]; omega) ⟨H,I.tok _,by rw [pX r]; exact q⟩
   .subst e'
    obtain ⟨hz,hS,vs,r,m⟩:aH.length<=sizeLine /\ (p == sysModules)=false /\ ∃ vs,KV aH vs /\ s.heap.DictOf (cW X.prog X.w) p vs:=I.cf p _ hx
    have hlen:aH.length=vs.length:=Paired.length r
    exact wpAny_truthy_dict hS m (by omega) ⟨H,I.tok _,by rw [yD r]; exact q⟩
 | _=>exact (show False from e).elim
theorem Dc (ha:PE X a ta) (he:∀ whole,isTrue a X.env whole=(do let v <- whole; standAt a.pos; holding [v] (truthy v))):
  PT X a (λσ H Q=>ta σ H λx H'=>∃ k,OS X.K x H' k /\ Q k H'):=by
 intro pins s σ H Q I h
 exact isTrue_plain (d6 (ha pins s σ H _ I h) λv s1 ⟨x,H1,I1,r1,q1⟩=>LJ pins s1 σ H1 x v Q I1 r1 q1) (he _)
theorem yE:iR X (binaryOp .Add) (λx y H Q=>∃ i j,x=.str i /\ y=.str j /\ i.length + j.length<=sizeLine /\ Q (.str (i ++ j)) H):=by
 intro pins s σ H x y v u Q I rx ry h
 obtain ⟨i,j,rfl,rfl,hz,q⟩:=h
 obtain ⟨t,rfl⟩:=rx
 obtain ⟨t',rfl⟩:=ry
 exact add_str (λt' tk=>⟨.str (i ++ j),H,I.tok _,⟨_,rfl⟩,q⟩) hz
theorem vals1 {x:V} {us:List Value} (r:bj [x] us):∃ u,us=[u] /\ RelV x u:=by
 cases r with
 | cons r1 r2=>cases r2; exact ⟨_,rfl,r1⟩
theorem vals2 {x y:V} {us:List Value} (r:bj [x,y] us):∃ u w',us=[u,w'] /\ RelV x u /\ RelV y w':=by
 cases r with
 | cons r1 r2=>
   cases r2 with
   | cons r3 r4=>cases r4; exact ⟨_,_,rfl,r1,r3⟩
theorem iZ:eD X (.builtin "abs") (λxs H Q=>∃ i,xs=[.int i] /\ Q (.int (if i < 0 then -i else i)) H):=by
 intro pins s σ H xs us Q I r h
 obtain ⟨i,rfl,q⟩:=h
 obtain ⟨u,rfl,t,rfl⟩:=vals1 r
 exact call_abs_int λu tk=>⟨.int (if i < 0 then -i else i),H,I.tok _,⟨_,rfl⟩,q⟩
theorem sE (hc:X.calm=true):eD X (.builtin "max") (λxs H Q=>∃ i j,xs=[.int i,.int j] /\ Q (.int (if j > i then j else i)) H):=by
 intro pins s σ H xs us Q I r h
 obtain ⟨i,j,rfl,q⟩:=h
 obtain ⟨u,w',rfl,⟨t,rfl⟩,⟨t',rfl⟩⟩:=vals2 r
 refine max_two_ints (I.ok.hd hc) λh' tk k=>⟨_,H,I.kept k,?_,q⟩
 by_cases hj:j > i
 .rw [Zk hj,Zk hj]; exact ⟨_,rfl⟩
 .rw [Zj hj,Zj hj]; exact ⟨_,rfl⟩
theorem sF (hc:X.calm=true):eD X (.builtin "min") (λxs H Q=>∃ i j,xs=[.int i,.int j] /\ Q (.int (if j < i then j else i)) H):=by
 intro pins s σ H xs us Q I r h
 obtain ⟨i,j,rfl,q⟩:=h
 obtain ⟨u,w',rfl,⟨t,rfl⟩,⟨t',rfl⟩⟩:=vals2 r
 refine min_two_ints (I.ok.hd hc) λh' tk k=>⟨_,H,I.kept k,?_,q⟩
 by_cases hj:j < i
 .rw [Zk hj,Zk hj]; exact ⟨_,rfl⟩
 .rw [Zj hj,Zj hj]; exact ⟨_,rfl⟩
theorem sG:eD X (.type "int") (λxs H Q=>(∃ i,xs=[.int i] /\ Q (.int i) H) \/ ∃ k,xs=[.bl k] /\ Q (.int (if k then 1 else 0)) H):=by
 intro pins s σ H xs us Q I r h
 rcases h with ⟨i,rfl,q⟩ | ⟨k,rfl,q⟩
 .obtain ⟨u,rfl,t,rfl⟩:=vals1 r
  exact call_int_int ⟨.int i,H,I,⟨_,rfl⟩,q⟩
 .obtain ⟨u,rfl,r1⟩:=vals1 r
  cases r1
  exact call_int_bool ⟨.int (if k then 1 else 0),H,I.tok _,⟨_,rfl⟩,q⟩
end
structure LK (h:Heap) (x dx C:Addr) (mA:Str->Option Value):Prop where
 obj:h.get? x=some (PySem.W.instObj C dx)
 ns:h.Ns1 dx mA
 ne:dx≠x
set_option tactic.hygienic true in
theorem BD {h:Heap} {dx:Addr} {mA:Str->Option Value} (n:h.Ns1 dx mA):∃ od,h.get? dx=some od /\ ∀ name,PySem.W.lookIn name od=some (mA name):=by
 obtain ⟨o,es,ep,ho,hd,hk,_,hm⟩:=n
 refine ⟨o,ho,λname=>?_⟩
 have e:=hm name
 unfold nsFind findBy at e
 rw [<- Array.find?_toList] at e
 unfold PySem.W.lookIn
 rw [hd]
 dsimp only
 split
 .rename_i y q
  rw [q] at e
  exact aam some e
 .rename_i q
  rw [q] at e
  have a:es.toList.any (·.refKey)=false:=by
   rw [List.any_eq_false]
   intro y hy
   obtain ⟨z,t,Sg⟩:=hk y (Array.mem_toList_iff.mp hy)
   simp [DictEntry.refKey,Sg]
  have a':¬ es.toList.any (·.refKey)=true:=by rw [a]; exact Zt
  rw [Zj a']
  exact aam some e
theorem LK.look {h:Heap} {x dx C:Addr} {mA:Str->Option Value} (I:LK h x dx C mA):∃ od,PySem.W.InstAt h x (PySem.W.instObj C dx) C (some od) /\ ∀ name,PySem.W.lookIn name od=some (mA name):=
 let ⟨od,ho,hl⟩:=BD I.ns
 ⟨od,⟨I.obj,rfl,rfl,ho⟩,hl⟩
section
variable {prog:Program} {w:World} {A:Around} {E:Value->Shared->Prop} {s:Shared} {K:PySem.W.Frag} {x dx C f:Addr} {mA:Str->Option Value} {name:Str} {v:Value}
end
theorem nP.some_of {v:V} {o:Option Value} (r:nP (some v) o):∃ u,o=some u /\ RelV v u:=by
 cases o with
 | none=>exact (show False from r).elim
 | some u=>exact ⟨u,rfl,r⟩
section
variable {P:Program} {w:World} {H H':Hp} {h h':Heap} {a C dx:Addr} {fs VX:List (Str×V)}
theorem GL (cf:lI P w H h) (e:H a=some (.ins C dx fs)):∃ mA,LK h a dx C mA /\ (∀ f,nP (fs.lookup f) (mA f)) /\ PySem.Within mA (fs.map (·.1)) /\ fs.length<=1000 /\ H dx=some (.own a):=by
 obtain ⟨d,z,ne,ob,mA,n,r,q⟩:=(show cw P w H h a (.ins C dx fs) from cf a _ e)
 exact ⟨mA,⟨ob,n,ne⟩,r,q,z,d⟩
end
structure Sh (K:PySem.W.Frag) (C:Addr):Prop where
 pg:PySem.W.plainGet K C Str.empty=true
 hd:PySem.W.hasDictIn K C=true
 po:PySem.W.plainOver K C=true
 sa:PySem.W.findIn K (.ref C) "__setattr__"=some (some (.builtin "object.__setattr__"))
theorem Sh.get {K:PySem.W.Frag} {C:Addr} (c:Sh K C) (f:Str):PySem.W.plainGet K C f=true:=c.pg
section
variable {X:Cx} {pins:List (Addr×Obj)} {σ:St} {H:Hp} {s:Shared} {a C dx:Addr} {fs:List (Str×V)} {f:Str} {v:V} {A:Around} {E:Value->Shared->Prop}
end
section
variable {X:Cx} {o e value:Expr} {f:Str} {pos pos' jl:Pos} {ta tv:TE}
end
section
variable {X:Cx} {pins:List (Addr×Obj)} {σ:St} {H:Hp} {s:Shared} {A:Around} {E:Value->Shared->Prop} {Q:Value->Shared->Prop} {c:Value} {b:Bool}
inductive nS (K:PySem.W.Frag) (H:Hp):V->Value->Prop where
 | gu:nS K H .gu (.type "NoneType")
 | bl (x:Bool):nS K H (.bl x) (.type "bool")
 | int (i:Int):nS K H (.int i) (.type "int")
 | str (x:Str):nS K H (.str x) (.type "str")
 | NW (x:UInt64):nS K H (.NW x) (.type "float")
 | lst {a:Addr} {xs:List V} (e:H a=some (.lst xs)):nS K H (.ref a) (.type "list")
 | rJ {a:Addr} {o:Obj} {xs:List V} (e:H a=some (.rJ o (.lst xs))):nS K H (.ref a) (.type "list")
 | tup {a:Addr} {xs:List V} (e:H a=some (.tup xs)):nS K H (.ref a) (.type "tuple")
 | dK {a:Addr} {aH:List (Key×V)} (e:H a=some (.dK aH)):nS K H (.ref a) (.type "dict")
 | dT {a:Addr} {aH:List (List Key×V)} (e:H a=some (.dT aH)):nS K H (.ref a) (.type "dict")
 | ins {a C dx:Addr} {fs:List (Str×V)} (e:H a=some (.ins C dx fs)) (cl:Sh K C) (ha:PySem.W.findIn K (.ref C) "__class__"=some (some (.builtin "object.__class__")))
   (hn:PySem.W.specialIn K (.builtin "object.__class__") "__get__"=some (some (.builtin "getset_descriptor.__get__"))) (UK:PySem.W.takesIn K (.builtin "object.__class__")=some true)
   (hm:PySem.W.mroIn K C (.type "object")=some true):nS K H (.ref a) (.ref C)
theorem BE {x:V} {u t:Value} (I:Inv X pins σ H s) (rx:RelV x u) (ty:nS X.K H x t) (e:PySem.W.kitOne X.K t c=some b) (h:∀ tk,Q (.bool b) { s with toks:=tk }):
  wpAny (model X.prog X.w) A (call (.builtin "isinstance") [u,c]) Q E s:=by
 cases ty with
 | gu=>cases (show u=Value.none from rx); exact Z6 PySem.W.kitx_none I.rE True.intro e (λz=>nomatch z) h
 | bl y=>cases (show u=Value.bool y from rx); exact Z6 PySem.W.kitx_bool I.rE True.intro e (λz=>nomatch z) h
 | int i=>obtain ⟨t,q⟩:=(show ∃ t,u=Value.int i t from rx); cases q; exact Z6 PySem.W.kitx_int I.rE True.intro e (λz=>nomatch z) h
 | str y=>obtain ⟨t,q⟩:=(show ∃ t,u=Value.str y t from rx); cases q; exact Z6 PySem.W.kitx_str I.rE True.intro e (λz=>nomatch z) h
 | NW y=>obtain ⟨t,q⟩:=(show ∃ t,u=Value.float y t from rx); cases q; exact Z6 PySem.W.kitx_float I.rE True.intro e (λz=>nomatch z) h
 | @lst a xs ea=>
   cases (show u=Value.ref a from rx)
   obtain ⟨_,_,n,_,h1⟩:=(show cw X.prog X.w H s.heap a (.lst xs) from I.cf a _ ea)
   exact Z6 acE I.rE ⟨_,h1,rfl⟩ e (λz=>nomatch z) h
 | @rJ a ob xs ea=>
   cases (show u=Value.ref a from rx)
   obtain ⟨_,_,_,n,_,h1⟩:=(show cw X.prog X.w H s.heap a (.rJ ob (.lst xs)) from I.cf a _ ea)
   exact Z6 acE I.rE ⟨_,h1,rfl⟩ e (λz=>nomatch z) h
 | @tup a xs ea=>
   cases (show u=Value.ref a from rx)
   obtain ⟨_,_,_,p⟩:=(show cw X.prog X.w H s.heap a (.tup xs) from I.cf a _ ea)
   obtain ⟨o,h1,h2,_⟩:=p
   exact Z6 PySem.W.kitx_tuple I.rE ⟨o,h1,h2⟩ e (λz=>nomatch z) h
 | @dK a aH ea=>
   cases (show u=Value.ref a from rx)
   obtain ⟨_,_,vs,_,p⟩:=(show cw X.prog X.w H s.heap a (.dK aH) from I.cf a _ ea)
   obtain ⟨o,es,ep,h1,h2,_⟩:=p
   exact Z6 PySem.W.kitx_dict I.rE ⟨o,h1,h2.1⟩ e (λz=>nomatch z) h
 | @dT a aH ea=>
   cases (show u=Value.ref a from rx)
   obtain ⟨_,_,xs,_,o,es,ep,h1,h2,_⟩:=(show cw X.prog X.w H s.heap a (.dT aH) from I.cf a _ ea)
   exact Z6 PySem.W.kitx_dict I.rE ⟨o,h1,h2.1⟩ e (λz=>nomatch z) h
 | @ins a C dx fs ea cl ha hn UK hm=>
   cases (show u=Value.ref a from rx)
   obtain ⟨mA,O,_⟩:=GL I.cf ea
   obtain ⟨od,J,_⟩:=O.look
   exact Z6 (PySem.W.kitx_own (cl.get _) cl.hd ha hn UK hm) I.rE J e (λz=>nomatch z) h
end
structure cJ (k:Nat) (A:Around):Prop where
 hd:A.handled=none
 dp:A.depth + 3 * k + 5 < recursionLimit
 un:A.units + 16 * k + 200 < cLine
theorem cJ.mono {j k:Nat} {A:Around} (r:cJ k A) (h:j<=k):cJ j A:=⟨r.hd,by have:=r.dp; omega,by have:=r.un; omega⟩
theorem cJ.deeper {k:Nat} {A:Around} (r:cJ (k + 1) A) (env:Env):cJ k (A.deeper env):=
 ⟨r.hd,by have:=r.dp; show A.depth + 1 + 3 * k + 5 < _; omega,by have:=r.un; show A.units + 3 + 16 * k + 200 < _; omega⟩
theorem cJ.in1 {k:Nat} {A:Around} (r:cJ (k + 1) A):cJ k A.in1:=
 ⟨r.hd,by have:=r.dp; show A.depth + 3 * k + 5 < _; omega,by have:=r.un; show A.units + 1 + 16 * k + 200 < _; omega⟩
theorem cJ.depth {k:Nat} {A:Around} (r:cJ k A):A.depth < recursionLimit:=by have:=r.dp; omega
theorem cJ.units {k:Nat} {A:Around} (r:cJ k A):A.units + 64 < cLine:=by have:=r.un; omega
def BF:TA:=λ_ H Q=>Q [] H
def pY (ta:TE) (tr:TA):TA:=λσ H Q=>ta σ H λx H1=>tr σ H1 λxs H2=>Q (x :: xs) H2
section
variable {X:Cx} {e:Expr} {es:List Expr} {te:TE} {t:TA} {pos:Pos}
theorem cZ:PA X [] BF:=λ_ _ _ _ H Q I h=>Calls.spliced_nil ⟨[],H,I,.nil,h⟩
theorem bQ (ha:PE X e te) (hr:PA X es t) (hs:starEach (e :: es) X.env=(false,eval e X.env) :: starEach es X.env:=by rfl):PA X (e :: es) (pY te t):=by
 intro pos pins s σ H Q I h
 rw [hs]
 show wpAny _ _ (spliced ((false,eval e X.env) :: backTo pos (starEach es X.env))) _ _ s
 refine abT (d6 (ha pins s σ H _ I h) λu s1 ⟨x,H1,I1,r1,q1⟩=>?_)
 exact d6 (hr pos pins s1 σ H1 _ I1 q1) λus s2 ⟨xs,H2,I2,r2,q2⟩=>⟨x :: xs,H2,I2,.cons r1 r2,q2⟩
def Si (t:TA):TE:=λσ H Q=>t σ H λxs H1=>xs.length<=sizeLine /\ ∀ p,H1 p=none->Q (.ref p) (upd H1 p (.tup xs))
def Sj (t:TA):TE:=λσ H Q=>t σ H λxs H1=>xs.length<=sizeLine /\ ∀ p,H1 p=none->Q (.ref p) (upd H1 p (.lst xs))
theorem Dd {x1} (h:PA X es t):PE X (.Tuple es x1 pos) (Si t):=by
 intro pins s σ H Q I hq
 refine wpAny_Tuple_spliced (d6 (h pos pins s σ H _ I hq) λus s1 ⟨xs,H1,I1,r,z,q⟩=>⟨by rw [<- r.length]; exact z,?_⟩)
 have hf:H1 s1.heap.objs.size=none:=I1.cf.fresh (Ze _)
 refine ⟨.ref s1.heap.objs.size,upd H1 s1.heap.objs.size (.tup xs),I1.laid (t':=s1.toks) (λb u e=>Y5 _ e) (Ze _) ?_,rfl,q _ hf⟩
 exact ⟨z,us,r,⟨_,Zh _ rfl,rfl,_,rfl⟩⟩
theorem LL (h:PA X es t):PE X (.List es pos) (Sj t):=by
 intro pins s σ H Q I hq
 refine wpAny_List_spliced (d6 (h pos pins s σ H _ I hq) λus s1 ⟨xs,H1,I1,r,z,q⟩=>⟨by rw [<- r.length]; exact z,?_⟩)
 have hf:H1 s1.heap.objs.size=none:=I1.cf.fresh (Ze _)
 refine ⟨.ref s1.heap.objs.size,upd H1 s1.heap.objs.size (.lst xs),I1.laid (t':=s1.toks) (λb u e=>Y5 _ e) (Ze _) ?_,rfl,q _ hf⟩
 exact ⟨z,us,0,r,Zh _ rfl⟩
end
abbrev Sp:=List V->Hp->VK->XK->Prop
abbrev Gf:=List Env->Hp->Shared->XK->Value->Shared->Prop
structure De (P:Program) (w:World) (K:PySem.W.Frag) (mg:Str->Option Value) (base:Heap) (A:Around) (outer:List Env) (s:Shared) (H:Hp):Prop where
 frames:A.frames=some outer
 mod:Mod K mg base
 bs:∀ b o,base.get? b=some o->s.heap.get? b=some o /\ H b=none
 Ac:base.objs.size<=s.heap.objs.size
 mR:s.heap.FunFrames base outer
 JM:∀ b∈lJ outer,H b=none
 cf:lI P w H s.heap
 bare:AllBare s.gens
def CE (outer:List Env) (P:Program) (w:World) (H:Hp) (s:Shared) (Q:VK) (u:Value) (s':Shared):Prop:=
 ∃ v H',s'.os=s.os /\ AllBare s'.gens /\ Un (lJ outer) [] H H' s.heap s'.heap /\ lI P w H' s'.heap /\ RelV v u /\ Q v H'
def CR (CX:Gf) (outer:List Env) (P:Program) (w:World) (H:Hp) (s:Shared) (Q:VK) (E:XK) (r:Result) (s':Shared):Prop:=
 match r with
 | .ok (.ret u)=>CE outer P w H s Q u s'
 | .ok _=>False
 | .error e=>CX outer H s E e s'
structure lQ (P:Program) (w:World) (K:PySem.W.Frag) (mg:Str->Option Value) (base:Heap) (CX:Gf) (k:Nat) (f:Addr) (fd:FuncData) (ps:List Str) (sp:Sp):Prop where
 len:∀ vs H Q E,sp vs H Q E->vs.length=ps.length
 run:∀ (A:Around) (outer:List Env) (s:Shared) (H:Hp) (args:Args) (us:List Value) (vs:List V) (Q:VK) (E:XK),cJ k A->De P w K mg base A outer s H->BindsTo s fd args (ps.zip us)->bj vs us->sp vs H Q E->
  codeAny (model P w) A (.call (.ref f) args) (CR CX outer P w H s Q E) s
section
variable {X:Cx} {pins:List (Addr×Obj)} {σ:St} {H:Hp} {s s':Shared}
theorem Inv.Sk (I:Inv X pins σ H s):De X.prog X.w X.K X.mg X.base X.A X.stack s H:=
 ⟨I.ok.frames,I.ok.mod,I.bs,ZQ I.ok.Ac I.sz,I.stack,I.tO,I.cf,I.bare⟩
theorem Inv.after {Q:VK} {u:Value} (I:Inv X pins σ H s) (h:CE X.stack X.prog X.w H s Q u s'):EP X pins σ Q u s':=by
 obtain ⟨v,H',os,bare,un,cf,r,q⟩:=h
 obtain ⟨hh,g,d,t,Sl⟩:=s'
 obtain rfl:Sl=s.os:=os
 exact ⟨v,H',I.call (h':=hh) (g':=g) (d':=d) (t':=t) (ch:=[]) un cf bare (λb z=>absurd z (by simp)),r,q⟩
end
def JU (sp:Sp) (JV:List V) (E:XK) (t:TA):TE:=λσ H Q=>t σ H λvs H1=>sp (vs ++ JV) H1 Q E
def Binds (K:PySem.W.Frag) (fd:FuncData) (ps:List Str) (ds:List Value):Prop:=
 ∀ (s:Shared) (us:List Value),K.In s.heap->(us ++ ds).length=ps.length->BindsTo s fd ⟨us,[]⟩ (ps.zip (us ++ ds))
theorem Binds.all {K:PySem.W.Frag} {fd:FuncData} {ps:List Str} (h:∀ us:List Value,us.length=ps.length->bindArgs fd ⟨us,[]⟩=pure (ps.zip us)):Binds K fd ps []:=λs us _ hl=>by
 rw [Z7] at hl ⊢
 exact .of_eq (h us hl)
def yF (CX:Gf) (X:Cx) (E:XK):Prop:=∀ (pins:List (Addr×Obj)) (σ:St) (H:Hp) (s:Shared) (e:Value) (s':Shared),Inv X pins σ H s->CX X.stack H s E e s'->X.xe e s'
section
variable {X:Cx} {CX:Gf} {k:Nat} {f C:Addr} {fd:FuncData} {ps:List Str} {sp:Sp} {JV:List V} {ds:List Value} {E:XK} {x m:Str} {p pos apos:Pos} {e o:Expr} {es:List Expr} {ta:TE} {t:TA}
theorem LM {pins:List (Addr×Obj)} {σ:St} {H:Hp} {s:Shared} {Q:VK} {us:List Value} {vs:List V} (F:lQ X.prog X.w X.K X.mg X.base CX k f fd ps sp) (hr:cJ k X.A) (hb:Binds X.K fd ps ds) (hd:bj JV ds) (hx:yF CX X E)
  (I:Inv X pins σ H s) (r:bj vs us) (h:sp (vs ++ JV) H Q E):wpAny (model X.prog X.w) X.A (call (.ref f) us) (EP X pins σ Q) X.xe s:=by
 have r2:bj (vs ++ JV) (us ++ ds):=r.append hd
 have hl:(us ++ ds).length=ps.length:=by rw [<- r2.length]; exact F.len _ _ _ _ h
 refine wpAny_call (aa3 (F.run X.A X.stack s H ⟨us,[]⟩ (us ++ ds) (vs ++ JV) Q E hr I.Sk (hb s us I.rE hl) r2 h) λr s' hq=>?_)
 cases r with
 | error e=>exact hx pins σ H s e s' I hq
 | ok fl=>
   cases fl with
   | ret u=>exact I.after hq
   | next=>exact False.elim hq
   | brk=>exact False.elim hq
   | cont=>exact False.elim hq
theorem GN (F:lQ X.prog X.w X.K X.mg X.base CX k f fd ps sp) (hr:cJ k X.A) (hg:Gl X x) (hm:X.mg x=some (.ref f)) (hk:PySem.W.keepIn X.K (.ref f)=true) (hb:Binds X.K fd ps ds) (hd:bj JV ds) (hx:yF CX X E)
  (ha:PA X (e :: es) t) (mU:(x == ("__debug__":Str))=false:=by decide) (he:starEach (e :: es) X.env=(false,eval e X.env) :: starEach es X.env:=by rfl) (i4:(backTo pos (starEach es X.env)).any (·.1)=false:=by rfl):
  PE X (.Call (.Name x p) (e :: es) [] pos) (JU sp JV E t):=by
 intro pins s σ H Q I h
 refine abm (Ae I hg hm ?_ mU)
 refine PySem.W.callWith_K (h₀:=X.base) I.ok.mod.Rh hk (d6 (ha pos pins s σ H _ I h) λus s1 ⟨vs,H1,I1,r,q⟩=>⟨I1.rE,?_⟩) he i4
 exact LM F hr hb hd hx I1 r q
end
section
variable {X:Cx} {CX:Gf} {k:Nat} {f C:Addr} {fd:FuncData} {ps ks:List Str} {sp:Sp} {E:XK} {x m:Str} {p pos apos V5:Pos} {e o:Expr} {es:List Expr} {kws:List Keyword} {te ta:TE} {t tk:TA} {nm:Option Str}
variable {g:List Value->List Value->List Value} {gV:List V->List V->List V}
end
structure az (N P:List Str) (sc:Scope):Prop where
 kind:sc.kind=.function
 co:sc.isCoroutine=false
 gen:sc.isGenerator=false
 nd:N.Nodup
 pre:N.take P.length=P
 par:∀ x∈P,sc.names.lookup x=some .local \/ sc.names.lookup x=some .cell
 LN:∀ y∈sc.names,y.2≠.free
theorem sH {kindOf:Str->Option NameKind} {x:Str}:∀ {binds:List (Str×Value)} {m:Str->Option Value},(∀ v,(x,v)∉binds)->bindL kindOf binds m x=m x
 | [],_,_=>rfl
 | (n,v) :: r,m,h=>by
   unfold bindL
   rw [sH λw hw=>h w (Y8 _ hw)]
   split
   .have:x≠n:=by rintro rfl; exact h v Zb
    simp [this]
   .rfl
theorem sI {kindOf:Str->Option NameKind} {x:Str}:∀ {binds:List (Str×Value)} {m:Str->Option Value},(∀ v,(x,v)∉binds)->bindC kindOf binds m x=m x
 | [],_,_=>rfl
 | (n,v) :: r,m,h=>by
   unfold bindC
   rw [sI λw hw=>h w (Y8 _ hw)]
   split
   .rfl
   .have:x≠n:=by rintro rfl; exact h v Zb
    simp [this]
theorem sJ {kindOf:Str->Option NameKind} {x:Str} {v:Value}:∀ {P:List Str} {vs:List Value} {i:Nat} {m:Str->Option Value},P.Nodup->P[i]?=some x->vs[i]?=some v->kindOf x=some .local->
  bindL kindOf (P.zip vs) m x=some v
 | [],_,_,_,_,h,_,_=>by simp at h
 | _ :: _,[],_,_,_,_,h,_=>by simp at h
 | p :: P,w :: vs,0,m,nd,h1,h2,hk=>by
   simp at h1 h2; subst h1; subst h2
   show bindL kindOf ((p,w) :: P.zip vs) m p=_
   unfold bindL
   rw [sH λv hv=>(ack.mp nd).1 (abo hv).1,Zk hk]
   simp
 | p :: P,w :: vs,i + 1,m,nd,h1,h2,hk=>by
   show bindL kindOf ((p,w) :: P.zip vs) m x=_
   unfold bindL
   exact sJ (i:=i) (List.nodup_cons.mp nd).2 (by simpa using h1) (by simpa using h2) hk
theorem sL {kindOf:Str->Option NameKind} {x:Str} {v:Value}:∀ {P:List Str} {vs:List Value} {i:Nat} {m:Str->Option Value},P.Nodup->P[i]?=some x->vs[i]?=some v->kindOf x≠some .local->
  bindC kindOf (P.zip vs) m x=some v
 | [],_,_,_,_,h,_,_=>by simp at h
 | _ :: _,[],_,_,_,_,h,_=>by simp at h
 | p :: P,w :: vs,0,m,nd,h1,h2,hk=>by
   simp at h1 h2; subst h1; subst h2
   show bindC kindOf ((p,w) :: P.zip vs) m p=_
   unfold bindC
   rw [sI λv hv=>(ack.mp nd).1 (abo hv).1,Zj hk]
   simp
 | p :: P,w :: vs,i + 1,m,nd,h1,h2,hk=>by
   show bindC kindOf ((p,w) :: P.zip vs) m x=_
   unfold bindC
   exact sL (i:=i) (List.nodup_cons.mp nd).2 (by simpa using h1) (by simpa using h2) hk
def start (N:List Str) (vs:List V):St:=vs.map some ++ List.replicate (N.length - vs.length) none
def o3 (CX:Gf) (P:Program) (w:World) (K:PySem.W.Frag) (mg:Str->Option Value) (base:Heap) (N:List Str) (qual:Str) (scope:Scope) (f:Addr) (cd:Value) (A:Around) (outer:List Env) (s:Shared) (H:Hp) (E:XK):Cx where
 prog:=P
 w:=w
 K:=K
 mg:=mg
 base:=base
 A:=A.deeper (envOfC qual scope s.heap.objs.size f cd)
 N:=N
 fE:=s
 Bx:=H
 env:=envOfC qual scope s.heap.objs.size f cd
 outer:=outer
 stack:=envOfC qual scope s.heap.objs.size f cd :: outer
 ex:=[]
 calm:=true
 fn:=λ_=>true
 pn:=[]
 xe:=λe s'=>wpAny (model P w) (A.deeper (envOfC qual scope s.heap.objs.size f cd)) (leaving (envOfC qual scope s.heap.objs.size f cd) e) (λ_ GO=>CX outer H s E e GO) (λe' GO=>CX outer H s E e' GO) s'
theorem wj {sc:Scope} {n:Nat} {x:Str} (h:sc.names.lookup x=some .cell):∃ c,(cellsFrom n sc.names []).lookup x=some c:=by
 have q:=PySem.W.cellsFrom_some sc.names n [] (.inl h)
 exact Option.isSome_iff_exists.mp q
theorem BG {CX:Gf} {P:Program} {w:World} {K:PySem.W.Frag} {mg:Str->Option Value} {base:Heap} {N ps:List Str} {qual:Str} {scope:Scope} {f:Addr} {cd:Value} {A:Around} {outer:List Env} {s s1:Shared} {H:Hp} {E:XK} {us:List Value} {vs:List V}
  (S:az N ps scope) (hd:A.handled=none) (e0:De P w K mg base A outer s H) (hl:vs.length=ps.length) (r:bj vs us)
  (x:InCallC s s.heap.objs.size (bindL (envOfC qual scope s.heap.objs.size f cd).kindOf (ps.zip us) λ_=>none) (cellsFrom (s.heap.objs.size + 1) scope.names []) (bindC (envOfC qual scope s.heap.objs.size f cd).kindOf (ps.zip us) λ_=>none) s1):
  Inv (o3 CX P w K mg base N qual scope f cd A outer s H E) [] (start N vs) H s1:=by
 have i4:ps.length<=N.length:=by have:=aam List.length S.pre; rw [ZH] at this; omega
 obtain ⟨h1,tk,rfl,hk⟩:=x.done
 have GP:∀ b:Addr,b∉(o3 CX P w K mg base N qual scope f cd A outer s H E).ex:=λb z=>absurd (show b∈([]:List Addr) from z) (by simp)
 refine ⟨⟨e0.mod,S.kind,rfl,rfl,Ze _,λy z c h1 h2=>?_,λy hy=>?_,λy c _ h=>?_,λ_=>hd,Around.frames_deeper e0.frames,.inr ⟨rfl,rfl⟩,λb z=>absurd z (GP b),e0.bs,e0.Ac,λb _ _=>GP b,λb z=>absurd z (GP b),e0.mR,e0.JM⟩,
  rfl,e0.bare,Un.kept hk,⟨_,x.toInCall.ns,λi y v h1 h2 h3=>?_⟩,λy c h=>⟨_,x.cell y c h⟩,e0.cf.fresh (Ze _),λy c h=>?_,λp hp=>absurd (show p∈([]:List (Addr×Obj)) from hp) (by simp),e0.cf.kept hk,?_⟩
 .exact name_of_addr x.apart (aav h1) (aav h2)
 .have hy:scope.names.lookup y=some .cell \/ scope.names.lookup y=some .free:=hy
  rcases hy with hy | hy
  .exact wj hy
  .exact absurd rfl (S.LN _ (aav hy))
 .exact aak (x.above y c (aav h))
 .have hi:i < vs.length:=by
   unfold start at h2
   by_cases hi:i < vs.length
   .exact hi
   .rw [List.getElem?_append_right (by simpa using hi)] at h2
    rw [List.getElem?_replicate] at h2
    split at h2 <;> cases h2
  have ha:vs[i]?=some v:=by
   unfold start at h2
   rw [List.getElem?_append_left (by simpa using hi),List.getElem?_map] at h2
   cases e:vs[i]? with
   | none=>rw [e] at h2; cases h2
   | some a=>rw [e] at h2; cases h2; rfl
  obtain ⟨u,hu,rv⟩:=r.get ha
  have hp:ps[i]?=some y:=by
   rw [<- S.pre,List.getElem?_take_of_lt (by omega)]; exact h1
  have UL:ps.Nodup:=by rw [<- S.pre]; exact S.nd.sublist (acG _ _)
  refine ⟨u,rv,?_⟩
  rcases S.par y (Zq hp) with k | k
  .exact .inl ⟨k,sJ UL hp hu k⟩
  .obtain ⟨c,e⟩:=wj (n:=s.heap.objs.size + 1) k
   refine .inr ⟨.inl k,c,e,?_⟩
   have q:=x.cell y c e
   rw [sL UL hp hu (by show scope.names.lookup y≠_; rw [k]; decide)] at q
   exact q
 .exact e0.cf.fresh (aak (x.above y c (aav h)))
 .unfold start
  show _=N.length
  rw [Zz,Y7,List.length_replicate]
  omega
theorem JW {CX:Gf} {P:Program} {w:World} {K:PySem.W.Frag} {mg:Str->Option Value} {base:Heap} {k:Nat} {f:Addr} {name qual:Str} {params:Arguments} {body:List Stmt} {scope:Scope} {dV kV doc pm cH ct oc:Value} {an od:Option Addr}
  {Dg:Array (Option Value)} {N ps:List Str} {sp:Sp} (lk:K.lookup f=some ⟨oc,od,.func (PySem.W.fnOf name qual params body scope dV kV doc pm an cH ct),Dg⟩) (oY:PySem.W.codeIn K cH qual=true) (S:az N ps scope)
  (len:∀ vs H Q E,sp vs H Q E->vs.length=ps.length)
  (kf:∀ (A:Around) (outer:List Env) (s:Shared) (H:Hp) (vs:List V) (Q:VK) (E:XK),cJ k (A.deeper (envOfC qual scope s.heap.objs.size f cH))->sp vs H Q E->
   ∃ t,jk (o3 CX P w K mg base N qual scope f cH A outer s H E) body t /\ t { nx:=λ_ H'=>Q .gu H',rt:=Q } (start N vs) H):
  lQ P w K mg base CX (k + 1) f (PySem.W.fnOf name qual params body scope dV kV doc pm an cH ct) ps sp:=by
 refine ⟨len,λA outer s H args us vs Q E hr e0 hb r Ag=>?_⟩
 have hl:=len _ _ _ _ Ag
 have KX:K.In s.heap:=e0.mod.Rh.keeps λb o e=>(e0.bs b o e).1
 have lim:s.heap.NoLimit:=e0.mod.nolimit.keeps λb o e=>(e0.bs b o e).1
 have OT:∀ y∈ps.zip us,scope.names.lookup y.1=some .local \/ (scope.names.lookup y.1=some .cell /\ ((cellsFrom (s.heap.objs.size + 1) scope.names []).lookup y.1).isSome=true):=λ⟨n,v⟩ hy=>by
  rcases S.par n (abo hy).1 with q | q
  .exact .inl q
  .exact .inr ⟨q,PySem.W.cellsFrom_some _ _ _ (.inl q)⟩
 refine codeAny_call_function hr.depth (KX _ _ lk) rfl S.co S.gen rfl (PySem.W.codeRec_of KX oY) (hb _ _ _ _ ?_)
 refine wpAny_newFunctionEnv_cells S.kind OT λenv he s1 x=>?_
 subst he
 refine ⟨lim.keeps x.toInCall.keep,codeAny_func ?_⟩
 obtain ⟨t,ht,hq⟩:=kf A outer s H vs Q E (hr.deeper _) Ag
 have I:Inv (o3 CX P w K mg base N qual scope f cH A outer s H E) [] (start N vs) H s1:=BG S hr.hd e0 hl r x
 refine ZM (ht [] s1 (start N vs) H _ I hq) (λfl s' hs=>?_) λe s' hs=>hs
 have fin:∀ {cX:St} {H':Hp} {v:V} {u:Value},Inv (o3 CX P w K mg base N qual scope f cH A outer s H E) [] cX H' s'->RelV v u->Q v H'->CE outer P w H s Q u s':=
  λ{cX H' v u} J rv q=>⟨v,H',J.os,J.bare,J.base,J.cf,rv,q⟩
 cases fl with
 | ret u=>
   obtain ⟨v,cX,H',J,rv,q⟩:=hs
   exact fin J rv q
 | next=>
   obtain ⟨cX,H',J,q⟩:=hs
   exact fin (v:=V.gu) (u:=Value.none) J rfl q
 | brk=>
   obtain ⟨_,_,_,q⟩:=hs
   exact False.elim q
 | cont=>
   obtain ⟨_,_,_,q⟩:=hs
   exact False.elim q
section
variable {X:Cx} {x:Str} {p pos:Pos} {e:Expr} {es:List Expr} {t:TA} {id T:String} {r:List V->Hp->VK->Prop}
def OU (r:List V->Hp->VK->Prop) (t:TA):TE:=λσ H Q=>t σ H λvs H1=>r vs H1 Q
theorem pZ (hc:eD X (.builtin id) r) (hg:Gl X x) (hm:X.mg x=none) (hv:bootBuiltins x=some (.builtin id)) (ha:PA X (e :: es) t) (hn:x≠"__name__":=by decide) (mU:(x == ("__debug__":Str))=false:=by decide)
  (he:starEach (e :: es) X.env=(false,eval e X.env) :: starEach es X.env:=by rfl) (i4:(backTo pos (starEach es X.env)).any (·.1)=false:=by rfl):PE X (.Call (.Name x p) (e :: es) [] pos) (OU r t):=by
 intro pins s σ H Q I h
 refine abm (iF I hg hm hv ?_ hn mU)
 exact PyProof.Rows.callWith_builtin1 (d6 (ha pos pins s σ H _ I h) λus s1 ⟨vs,H1,I1,r1,q1⟩=>hc pins s1 σ H1 vs us Q I1 r1 q1) he i4
theorem k7 (hc:eD X (.type T) r) (hg:Gl X x) (hm:X.mg x=none) (hv:bootBuiltins x=some (.type T)) (ha:PA X (e :: es) t) (hn:x≠"__name__":=by decide) (mU:(x == ("__debug__":Str))=false:=by decide)
  (he:starEach (e :: es) X.env=(false,eval e X.env) :: starEach es X.env:=by rfl) (i4:(backTo pos (starEach es X.env)).any (·.1)=false:=by rfl):PE X (.Call (.Name x p) (e :: es) [] pos) (OU r t):=by
 intro pins s σ H Q I h
 refine abm (iF I hg hm hv ?_ hn mU)
 exact aal (d6 (ha pos pins s σ H _ I h) λus s1 ⟨vs,H1,I1,r1,q1⟩=>hc pins s1 σ H1 vs us Q I1 r1 q1) he i4
end
end L2
namespace HT
open PySem PyProof.Rows
section
open PySem.SeqAt
open PySem.AutoSeq1 (wpAny_loadPart')
open PySem.MeetsSeq PySem.MeetsSeq2 PySem.MeetsSeq3
end
section
variable {prog:Program} {w:World} {A:Around} {E:Value->Shared->Prop} {s:Shared}
theorem GQ {t b:Addr} {vs ws:List Value} {Q:Value->Shared->Prop} (ht:IsTup s.heap t vs.toArray) (hb:IsTup s.heap b ws.toArray) (hv:vs≠[])
  (h1:ws=[]->Q (.ref t) s) (h2:ws≠[]->Q (.ref s.heap.objs.size) { s with heap:=s.heap.push { cls:=.type "tuple",data:=.seq (vs ++ ws).toArray } })
  (hsz:vs.length + ws.length<=sizeLine):wpAny (model prog w) A (binaryOp .Add (.ref t) (.ref b)) Q E s:=by
 obtain ⟨⟨cls,dd,data,sl⟩,ho,hc,n,hd⟩:=id ht
 obtain ⟨⟨V6,UM,data2,Rl⟩,nO,GR,n2,hd2⟩:=id hb
 simp only at hc hd GR hd2
 subst hc hd GR hd2
 have e:vs.toArray ++ ws.toArray=(vs ++ ws).toArray:=by simp
 by_cases hw:ws=[]
 .exact concat_meets ⟨_,ho,rfl⟩ ⟨_,nO,rfl⟩ noFill_tuple_add seq_tuple_add ab1 abV (abN _ _)
   (tuple_addW1 t b vs.toArray ws.toArray n n2 dd UM sl Rl (by simpa using hv) (by simp [hw])) ⟨ho,nO,h1 hw⟩
 .refine concat_meets ⟨_,ho,rfl⟩ ⟨_,nO,rfl⟩ noFill_tuple_add seq_tuple_add ab1 abV (abN _ _)
   (tuple_addW2 t b vs.toArray ws.toArray n n2 dd UM sl Rl (by simpa using hv) (by simpa using hw) (by rw [List.size_toArray,List.size_toArray]; exact hsz)) ⟨ho,nO,?_⟩
  rw [e]
  exact h2 hw
def p0 (n d:Nat):Option Int->Nat
 | none=>d
 | some v=>if v < 0 then (v + (n:Int)).toNat else min v.toNat n
theorem GS (n d k:Nat):p0 n d (some (k:Int))=min k n:=by
 show (if (k:Int) < 0 then ((k:Int) + (n:Int)).toNat else min (k:Int).toNat n)=min k n
 rw [Zj (by omega),ZD]
end
end HT
namespace L2
open PySem PySem.Spec PyProof.Rows
abbrev TO:=St->Hp->(Option Int->Hp->Prop)->Prop
def PO (X:Cx) (e:Option Expr) (t:TO):Prop:=
 ∀ (pins:List (Addr×Obj)) (s:Shared) (σ:St) (H:Hp) (Q:Option Int->Hp->Prop),Inv X pins σ H s->t σ H Q->
   wpAny (model X.prog X.w) X.A (evalPart e X.env) (λu s'=>∃ o H',Inv X pins σ H' s' /\ IsPart u o /\ Q o H') X.xe s
def GU:TO:=λ_ H Q=>Q none H
def OV (t:TE):TO:=λσ H Q=>t σ H λx H1=>∃ i,x=.int i /\ Q (some i) H1
theorem intsAre_of {ns:List Int}:∀ {us:List Value},bj (ns.map V.int) us->IntsAre us ns:=by
 induction ns with
 | nil=>intro us r; rw [ab2] at r; cases r; exact .nil
 | cons n ns ih=>
   intro us r
   rw [Zn] at r
   cases r with
   | cons r1 r2=>
     obtain ⟨t,e⟩:=r1
     subst e
     exact .cons n t (ih r2)
section
variable {X:Cx} {e:Expr} {te:TE} {lo hi:Option Expr} {tl th:TO} {pos p2:Pos}
theorem GV:PO X none GU:=by
 intro pins s σ H Q I h
 rw [evalPart_none]
 exact Zc ⟨none,H,I,.none,h⟩
theorem GW (h:PE X e te):PO X (some e) (OV te):=by
 intro pins s σ H Q I hw
 rw [evalPart_some]
 refine d6 (h pins s σ H _ I hw) λu s1 ⟨x,H1,I1,r1,q1⟩=>?_
 obtain ⟨i,rfl,q⟩:=q1
 obtain ⟨t,rfl⟩:=r1
 exact ⟨some i,H1,I1,.int i t,q⟩
def UN (X:Cx) (r:V->Option Int->Option Int->Hp->VK->Prop):Prop:=
 ∀ (pins:List (Addr×Obj)) (s:Shared) (σ:St) (H:Hp) (x:V) (v vl vu:Value) (lo hi:Option Int) (sl:Addr) (Q:VK),Inv X pins σ H s->RelV x v->s.heap.IsSliceOf sl vl vu .none->IsPart vl lo->IsPart vu hi->r x lo hi H Q->
   ∃ T id,typeLookup (.type T) "__getitem__"=pure (some (.builtin id)) /\ s.TypeIs v T /\ wpAny (model X.prog X.w) X.A (getItem v (.ref sl)) (EP X pins σ Q) X.xe s
def V7 (r:V->Option Int->Option Int->Hp->VK->Prop) (te:TE) (tl th:TO):TE:=λσ H Q=>te σ H λx H1=>tl σ H1 λl H2=>th σ H2 λu H3=>r x l u H3 Q
theorem Dh {r:V->Option Int->Option Int->Hp->VK->Prop} (hr:UN X r) (he:PE X e te) (hl:PO X lo tl) (hu:PO X hi th):PE X (.Subscript e (.Slice lo hi none p2) pos) (V7 r te tl th):=by
 intro pins s σ H Q I h
 refine Subscript_ (d6 (he pins s σ H _ I h) λv s1 ⟨x,H1,I1,r1,q1⟩=>?_)
 refine wpAny_Slice (d6 (hl pins s1 σ H1 _ I1 q1) λvl s2 ⟨l,H2,I2,pl,q2⟩=>d6 (hu pins s2 σ H2 _ I2 q2) λvu s3 ⟨u,H3,I3,pu,q3⟩=>?_)
 rw [evalPart_none]
 refine Zc ?_
 have I4:Inv X pins σ H3 { s3 with heap:=s3.heap.push { cls:=.type "slice",data:=.fields #[vl,vu,.none] } }:=I3.kept (t':=s3.toks) λb ob q=>Y5 _ q
 obtain ⟨T,id,hT,ht,hg⟩:=hr pins { s3 with heap:=s3.heap.push { cls:=.type "slice",data:=.fields #[vl,vu,.none] } } σ H3 x v vl vu l u s3.heap.objs.size Q I4 r1 (Heap.IsSliceOf.new ..) pl pu q3
 show wpAny (model X.prog X.w) X.A (subscriptTail e (.Slice lo hi none p2) v (.ref s3.heap.objs.size)) (EP X pins σ Q) X.xe { s3 with heap:=s3.heap.push { cls:=.type "slice",data:=.fields #[vl,vu,.none] } }
 exact tail_any (ops:=[.ref s3.heap.objs.size,v]) ht hT hg (by with_unfolding_all rfl)
def Di (xs:List V) (lo hi:Option Int):List V:=(xs.drop (HT.p0 xs.length 0 lo)).take (HT.p0 xs.length xs.length hi - HT.p0 xs.length 0 lo)
theorem wm (xs:List V) (lo hi:Option Int):(Di xs lo hi).length<=xs.length:=by
 unfold Di
 rw [ZH,abE]
 omega
def JX (K:PySem.W.Frag):R2:=λx y H Q=>∃ a b xs ys,x=.ref a /\ y=.ref b /\ iX K H a xs /\ iX K H b ys /\ xs≠[] /\ xs.length + ys.length<=sizeLine /\
 (ys=[]->Q (.ref a) H) /\ (ys≠[]->∀ p,H p=none->Q (.ref p) (upd H p (.tup (xs ++ ys))))
theorem bj.pq {xs:List V} {us:List Value} (r:bj xs us):us=[]↔xs=[]:=by
 cases r with
 | nil=>simp
 | cons _ _=>simp
theorem GX:iR X (binaryOp .Add) (JX X.K):=by
 intro pins s σ H x y v u Q I rx ry h
 obtain ⟨a,b,xs,ys,rfl,rfl,ha,hb,hx,hz,q1,q2⟩:=h
 cases rx
 cases ry
 obtain ⟨its,r1,p1,_⟩:=I.tuple ha
 obtain ⟨rO,r2,p2,_⟩:=I.tuple hb
 refine HT.GQ p1 p2 (λz=>hx (r1.pq.mp z)) (λz=>⟨.ref a,H,I,rfl,q1 (r2.pq.mp z)⟩) (λz=>?_) (by rw [<- r1.length,<- r2.length]; exact hz)
 refine ⟨.ref s.heap.objs.size,_,I.laid (t':=s.toks) (o:=.tup (xs ++ ys)) (λb ob q=>Y5 _ q) (Ze _) ?_,rfl,q2 (λw=>z (r2.pq.mpr w)) _ (I.cf.fresh (Ze _))⟩
 exact ⟨by rw [Zz]; exact hz,_,r1.append r2,IsTup.new _ _⟩
end
def GY (n:Nat) (i:Int):Option Nat:=if 0<=i then (if i < n then some i.toNat else none) else if -(n:Int)<=i then some (i + n).toNat else none
def o4 {α:Type} (xs:List α) (i:Int):Option α:=(GY xs.length i).bind λj=>xs[j]?
theorem GZ {n:Nat} {i:Int} {j:Nat} (h:GY n i=some j):seqIndex? i n=some j /\ j < n /\ -(n:Int)<=i /\ i < n:=by
 unfold GY at h
 by_cases h0:0<=i
 .rw [Zk h0] at h
  by_cases h1:i < n
  .rw [Zk h1] at h
   have e:i.toNat=j:=ZV h
   exact ⟨by rw [seqIndex_of h0 h1,e],by omega,by omega,h1⟩
  .rw [Zj h1] at h; cases h
 .rw [Zj h0] at h
  by_cases h1: -(n:Int)<=i
  .rw [Zk h1] at h
   have e:(i + n).toNat=j:=ZV h
   exact ⟨by rw [seqIndex_neg (by omega) h1,e],by omega,h1,by omega⟩
  .rw [Zj h1] at h; cases h
theorem tP {α:Type} {xs:List α} {i:Int} {v:α} (h:o4 xs i=some v):∃ j,seqIndex? i xs.length=some j /\ xs[j]?=some v /\ j < xs.length /\ -(xs.length:Int)<=i /\ i < xs.length:=by
 unfold o4 at h
 cases e:GY xs.length i with
 | none=>rw [e] at h; cases h
 | some j=>
   rw [e] at h
   obtain ⟨h1,h2,h3,h4⟩:=GZ e
   exact ⟨j,h1,h,h2,h3,h4⟩
theorem d8 {α:Type} {xs:List α} {j:Nat} {v:α} (h:xs[j]?=some v):o4 xs (j:Int)=some v:=by
 have hj:j < xs.length:=(Zd.mp h).1
 have e:GY xs.length (j:Int)=some j:=by
  unfold GY
  rw [Zk (by omega),Zk (by omega)]; simp
 unfold o4; rw [e]; exact h
def Ah (b:Expr):Prop:=∀ o i,subscripted b false o i=operate [o,i] (getItem o i)
def G0 (X:Cx) (r:R2):Prop:=
 ∀ (value slice:Expr) (pins:List (Addr×Obj)) (s:Shared) (σ:St) (H:Hp) (x y:V) (v u:Value) (Q:VK),Inv X pins σ H s->RelV x v->RelV y u->r x y H Q->
   subscripted slice false v u=operate [v,u] (getItem v u)->wpAny (model X.prog X.w) X.A (subscriptTail value slice v u) (EP X pins σ Q) X.xe s
def Rm (X:Cx) (id:String) (r:V->List V->Hp->VK->Prop):Prop:=
 ∀ (pins:List (Addr×Obj)) (s:Shared) (σ:St) (H:Hp) (x:V) (xs:List V) (v:Value) (us:List Value) (Q:VK),Inv X pins σ H s->RelV x v->bj xs us->r x xs H Q->
   wpAny (model X.prog X.w) X.A (call (.builtin id) (v :: us)) (EP X pins σ Q) X.xe s
section
variable {X:Cx} {a b:Expr} {ta tb:TE} {pos:Pos}
theorem G0.or {r r':R2} (h:G0 X r) (h':G0 X r'):G0 X (λx y H Q=>r x y H Q \/ r' x y H Q):=by
 intro value slice pins s σ H x y v u Q I rx ry q hs
 rcases q with q | q
 .exact h value slice pins s σ H x y v u Q I rx ry q hs
 .exact h' value slice pins s σ H x y v u Q I rx ry q hs
theorem Dj {r:R2} (hr:G0 X r) (ha:PE X a ta) (hb:PE X b tb) (hs:Ah b):PE X (.Subscript a b pos) (JR r ta tb):=by
 intro pins s σ H Q I h
 exact Subscript_ (LD ha hb I h λv u s2 x y H2 I2 rx ry q=>hr a b pins s2 σ H2 x y v u Q I2 rx ry q (hs _ _))
def OW (K:PySem.W.Frag):R2:=λx y H Q=>∃ p xs i v,x=.ref p /\ y=.int i /\ iW K H p xs /\ o4 xs i=some v /\ Q v H
def OX (K:PySem.W.Frag):R2:=λx y H Q=>∃ p xs i v,x=.ref p /\ y=.int i /\ iX K H p xs /\ o4 xs i=some v /\ Q v H
def OY:R2:=λx y H Q=>∃ z i c,x=.str z /\ y=.int i /\ z.length<=sizeLine /\ o4 z.cps.toList i=some c /\ Q (.str ⟨#[c]⟩) H
theorem G1:G0 X (OW X.K):=by
 intro value slice pins s σ H x y v u Q I rx ry h hs
 obtain ⟨p,xs,i,z,rfl,rfl,hq,he,q⟩:=h
 cases rx
 obtain ⟨t,rfl⟩:=ry
 obtain ⟨its,r,pl,hz⟩:=I.list hq
 obtain ⟨j,h1,h2,h3,h4,h5⟩:=tP he
 obtain ⟨w,ew,yw⟩:=r.get h2
 have hl:=r.length
 have hn:=nR
 have fin:EP X pins σ Q w s:=⟨z,H,I,yw,q⟩
 by_cases h0:0<=i
 .have hj:i.toNat=j:=by
   rw [seqIndex_of h0 h5] at h1
   exact ZV h1
  exact item_listR pl.isList h0 (by omega) (by rw [hj]; simpa using ew) fin hs
 .have hj:(i + (its.toArray.size:Int)).toNat=j:=by
   rw [seqIndex_neg (by omega) h4] at h1
   rw [Zm,<- hl]
   exact ZV h1
  exact subscriptTail_builtinR (x:=w) pl.isList.typeIs slot_list_getitem.lookup
   (wpAny_getItem_list_neg (Q:=λr s'=>r=w /\ EP X pins σ Q r s') pl.isList (by omega) (by rw [List.size_toArray] <;> omega) (by omega) (by rw [hj]; simpa using ew) ⟨rfl,fin⟩) hs
theorem LP:G0 X (OX X.K):=by
 intro value slice pins s σ H x y v u Q I rx ry h hs
 obtain ⟨p,xs,i,z,rfl,rfl,hq,he,q⟩:=h
 cases rx
 obtain ⟨t,rfl⟩:=ry
 obtain ⟨its,r,pl,hz⟩:=I.tuple hq
 obtain ⟨j,h1,h2,h3,h4,h5⟩:=tP he
 obtain ⟨w,ew,yw⟩:=r.get h2
 have hl:=r.length
 have hn:=nR
 have fin:EP X pins σ Q w s:=⟨z,H,I,yw,q⟩
 exact subscriptTail_builtinR (x:=w) pl.typeIs slot_tuple_getitem.lookup
  (getItem_tuple (j:=j) (Q:=λr s'=>r=w /\ EP X pins σ Q r s') pl (by omega) (by omega) (by rw [List.size_toArray,<- hl]; exact h1) (by simpa using ew) ⟨rfl,fin⟩) hs
theorem LQ:G0 X OY:=by
 intro value slice pins s σ H x y v u Q I rx ry h hs
 obtain ⟨z,i,c,rfl,rfl,hz,he,q⟩:=h
 obtain ⟨t,rfl⟩:=rx
 obtain ⟨t',rfl⟩:=ry
 obtain ⟨j,h1,h2,h3,h4,h5⟩:=tP he
 have hl:z.cps.toList.length=z.length:=by simp [Str.length]
 rw [hl] at h1 h4 h5
 have hn:=nR
 exact tail_any (typeIs_str s z t) slot_str_getitem.lookup (getItem_str (c:=c) (by
  have e1:decide (i < -(2 ^ 63:Int))=false:=Zr (by omega)
  have e2:decide (i >=2 ^ 63)=false:=Zr (by omega)
  rw [e1,e2,Bool.or_false]) (by rw [h1]; simpa using h2) ⟨.str ⟨#[c]⟩,H,I.tok _,⟨_,rfl⟩,q⟩) hs
def Rn (K:PySem.W.Frag):R2:=λx y H Q=>OW K x y H Q \/ OX K x y H Q \/ OY x y H Q
theorem yG:G0 X (Rn X.K):=G1.or (LP.or LQ)
theorem tQ (lo hi:Option Int) (n:Nat):(sliceBounds lo hi none n).1=((HT.p0 n 0 lo:Nat):Int) /\ (sliceBounds lo hi none n).2.1=((HT.p0 n n hi:Nat):Int) /\ (sliceBounds lo hi none n).2.2=1:=by
 refine ⟨?_,?_,rfl⟩
 .cases lo with
  | none=>simp [sliceBounds,HT.p0]
  | some i=>
    simp only [sliceBounds,HT.p0,Option.getD_none,show (1:Int) > 0 by decide,aaW]
    by_cases h:i < 0
    .simp only [h,aaW] <;> omega
    .simp only [h,aaN] <;> omega
 .cases hi with
  | none=>simp [sliceBounds,HT.p0]
  | some i=>
    simp only [sliceBounds,HT.p0,Option.getD_none,show (1:Int) > 0 by decide,aaW]
    by_cases h:i < 0
    .simp only [h,aaW] <;> omega
    .simp only [h,aaN] <;> omega
theorem rP (its:List Value) (lo hi:Option Int):slicePick its.toArray lo hi none=((its.drop (HT.p0 its.length 0 lo)).take (HT.p0 its.length its.length hi - HT.p0 its.length 0 lo)).toArray:=by
 obtain ⟨h1,h2,h3⟩:=tQ lo hi its.toArray.size
 unfold slicePick
 rw [h1,h2,h3]
 simp only [sliceRange_one,pick_run,Zm] <;> rfl
def Sm (K:PySem.W.Frag):V->Option Int->Option Int->Hp->VK->Prop:=λx lo hi H Q=>∃ a xs,x=.ref a /\ iW K H a xs /\ ∀ p,H p=none->Q (.ref p) (upd H p (.lst (Di xs lo hi)))
theorem G4:UN X (Sm X.K):=by
 intro pins s σ H x v vl vu lo hi sl Q I rx hs pl pu h
 obtain ⟨a,xs,rfl,hx,q⟩:=h
 cases rx
 obtain ⟨its,r,ht,hz⟩:=I.list hx
 have hlen:=r.length
 refine ⟨"list",_,slot_list_getitem.lookup,ht.isList.typeIs,?_⟩
 refine wpAny_getItem_list_slice ht.isList hs pl pu .none (by simp) ?_ (by rw [Zm] <;> omega)
 rw [rP,<- hlen]
 refine ⟨.ref s.heap.objs.size,_,I.laid (t':=s.toks) (o:=.lst (Di xs lo hi)) (λb ob q=>Y5 _ q) (Ze _) ?_,rfl,q _ (I.cf.fresh (Ze _))⟩
 exact ⟨ZQ (wm xs lo hi) hz,_,0,(r.drop (HT.p0 xs.length 0 lo)).take (HT.p0 xs.length xs.length hi - HT.p0 xs.length 0 lo),Zh _ rfl⟩
def jT:V->Bool
 | .gu=>true
 | .bl _=>true
 | .int _=>true
 | .str _=>true
 | _=>false
def Gg:V->V->Bool
 | .gu,.gu=>true
 | .bl a,.bl b=>a == b
 | .bl a,.int b=>(if a then 1 else 0) == b
 | .int a,.bl b=>a == (if b then 1 else 0)
 | .int a,.int b=>a == b
 | .str a,.str b=>a == b
 | _,_=>false
theorem LR {A:Around} {s:Shared} {y x:V} {u v:Value} (ry:RelV y u) (rx:RelV x v) (fy:jT y=true) (fx:jT x=true):SeqAt.EqAt A s u v (Gg y x):=by
 cases y with
 | gu=>
   cases ry
   cases x with
   | gu=>cases rx; exact SeqAt.EqAt.same _
   | bl b=>cases rx; exact SeqAt.EqAt.none_bool b
   | int b=>obtain ⟨t,rfl⟩:=rx; exact SeqAt.EqAt.none_int b t
   | str b=>obtain ⟨t,rfl⟩:=rx; exact SeqAt.EqAt.none_str b t
   | _=>exact absurd (show false=true from fx) Zt
 | bl a=>
   cases ry
   cases x with
   | gu=>cases rx; exact SeqAt.EqAt.bool_none a
   | bl b=>cases rx; exact SeqAt.EqAt.bool_bool a b
   | int b=>obtain ⟨t,rfl⟩:=rx; exact SeqAt.EqAt.bool_int a b t
   | str b=>obtain ⟨t,rfl⟩:=rx; exact SeqAt.EqAt.bool_str a b t
   | _=>exact absurd (show false=true from fx) Zt
 | int a=>
   obtain ⟨t',rfl⟩:=ry
   cases x with
   | gu=>cases rx; exact SeqAt.EqAt.int_none a t'
   | bl b=>cases rx; exact SeqAt.EqAt.int_bool a t' b
   | int b=>obtain ⟨t,rfl⟩:=rx; exact SeqAt.EqAt.int_int a t' b t
   | str b=>obtain ⟨t,rfl⟩:=rx; exact SeqAt.EqAt.int_str a t' b t
   | _=>exact absurd (show false=true from fx) Zt
 | str a=>
   obtain ⟨t',rfl⟩:=ry
   cases x with
   | gu=>cases rx; exact SeqAt.EqAt.str_none a t'
   | bl b=>cases rx; exact SeqAt.EqAt.str_bool a t' b
   | int b=>obtain ⟨t,rfl⟩:=rx; exact SeqAt.EqAt.str_int a t' b t
   | str b=>obtain ⟨t,rfl⟩:=rx; exact SeqAt.EqAt.str_str a t' b t
   | _=>exact absurd (show false=true from fx) Zt
 | _=>exact absurd (show false=true from fy) Zt
def yH (x:V) (u:Value):Bool:=match u with
 | .none=>Gg .gu x
 | .bool b=>Gg (.bl b) x
 | .int i _=>Gg (.int i) x
 | .str z _=>Gg (.str z) x
 | _=>false
theorem Dk {x y:V} {u:Value} (r:RelV y u) (f:jT y=true):yH x u=Gg y x:=by
 cases y with
 | gu=>cases r; rfl
 | bl b=>cases r; rfl
 | int i=>obtain ⟨t,rfl⟩:=r; rfl
 | str z=>obtain ⟨t,rfl⟩:=r; rfl
 | _=>exact absurd (show false=true from f) Zt
theorem mV {x:V}:∀ {xs:List V} {us:List Value},bj xs us->xs.all jT=true->us.any (yH x)=xs.any λy=>Gg y x
 | _,_,.nil,_=>rfl
 | y :: xs,u :: us,.cons r t,f=>by
   rw [acg,ZE] at f
   rw [abO,abO,Dk r f.1,mV t f.2]
theorem kg {A:Around} {s:Shared} {x:V} {v:Value} (rx:RelV x v) (fx:jT x=true):∀ {xs:List V} {us:List Value},bj xs us->xs.all jT=true->∀ u∈us,SeqAt.EqAt A s u v (yH x u)
 | _,_,.nil,_=>λu hu=>by cases hu
 | y :: xs,u :: us,.cons r t,f=>λu' hu=>by
   rw [acg,ZE] at f
   rcases Y6.mp hu with rfl | hu
   .rw [Dk r f.1]; exact LR r rx f.1 fx
   .exact kg rx fx t f.2 u' hu
def LU (x:V) (xs:List V):Bool:=xs.any λy=>Gg y x
def NY (K:PySem.W.Frag) (neg:Bool):R2:=λx y H Q=>∃ p xs,y=.ref p /\ (iW K H p xs \/ iX K H p xs) /\ jT x=true /\ xs.all jT=true /\ Q (.bl (if neg then !LU x xs else LU x xs)) H
theorem BH:iR X (compareOp .In) (NY X.K false):=by
 intro pins s σ H x y v u Q I rx ry h
 obtain ⟨p,xs,rfl,hq,fx,fs,q⟩:=h
 cases ry
 rcases hq with hq | hq
 .obtain ⟨its,r,pl,hz⟩:=I.list hq
  refine SeqAt.in_listAt (yH x) pl.isList (λw hw=>kg rx fx r fs w (by simpa using hw)) ⟨.bl _,H,I,rfl,?_⟩
  rw [show its.toArray.any (yH x)=its.any (yH x) by simp,mV r fs]
  exact q
 .obtain ⟨its,r,pl,hz⟩:=I.tuple hq
  refine SeqAt.in_tupleAt (yH x) pl (λw hw=>kg rx fx r fs w (by simpa using hw)) ⟨.bl _,H,I,rfl,?_⟩
  rw [show its.toArray.any (yH x)=its.any (yH x) by simp,mV r fs]
  exact q
theorem tR:iR X (compareOp .NotIn) (NY X.K true):=by
 intro pins s σ H x y v u Q I rx ry h
 obtain ⟨p,xs,rfl,hq,fx,fs,q⟩:=h
 cases ry
 rcases hq with hq | hq
 .obtain ⟨its,r,pl,hz⟩:=I.list hq
  refine SeqAt.notIn_listAt (yH x) pl.isList (λw hw=>kg rx fx r fs w (by simpa using hw)) ⟨.bl _,H,I,rfl,?_⟩
  rw [show its.toArray.any (yH x)=its.any (yH x) by simp,mV r fs]
  exact q
 .obtain ⟨its,r,pl,hz⟩:=I.tuple hq
  refine SeqAt.notIn_tupleAt (yH x) pl (λw hw=>kg rx fx r fs w (by simpa using hw)) ⟨.bl _,H,I,rfl,?_⟩
  rw [show its.toArray.any (yH x)=its.any (yH x) by simp,mV r fs]
  exact q
theorem tV:eD X (.builtin "len") (λxs H Q=>∃ p ys,xs=[.ref p] /\ (iW X.K H p ys \/ iX X.K H p ys) /\ Q (.int ys.length) H):=by
 intro pins s σ H xs us Q I r h
 obtain ⟨p,ys,rfl,hq,q⟩:=h
 obtain ⟨u,rfl,rx⟩:=vals1 r
 cases rx
 have hn:=nR
 rcases hq with hq | hq
 .obtain ⟨its,r',pl,hz⟩:=I.list hq
  have hlen:=r'.length
  exact Calls.call_len_list pl.isList (by simp only [Zm] <;> omega) ⟨.int ys.length,H,I.tok _,⟨s.toks + 1,by rw [Zm,hlen]⟩,q⟩
 .obtain ⟨its,r',pl,hz⟩:=I.tuple hq
  have hlen:=r'.length
  exact len_tuple pl (by simp only [Zm] <;> omega) ⟨.int ys.length,H,I.tok _,⟨s.toks + 1,by rw [Zm,hlen]⟩,q⟩
theorem tW:eD X (.builtin "len") (λxs H Q=>∃ z,xs=[.str z] /\ z.length<=sizeLine /\ Q (.int z.length) H):=by
 intro pins s σ H xs us Q I r h
 obtain ⟨z,rfl,hz,q⟩:=h
 obtain ⟨u,rfl,t,rfl⟩:=vals1 r
 have hn:=nR
 exact len_str (by omega) ⟨.int z.length,H,I.tok _,⟨_,rfl⟩,q⟩
theorem eD.or {f:Value} {r r':List V->Hp->VK->Prop} (h:eD X f r) (h':eD X f r'):eD X f (λxs H Q=>r xs H Q \/ r' xs H Q):=by
 intro pins s σ H xs us Q I rs q
 rcases q with q | q
 .exact h pins s σ H xs us Q I rs q
 .exact h' pins s σ H xs us Q I rs q
theorem jm:eD X (.type "list") (λxs H Q=>∃ p ys,xs=[.ref p] /\ (iW X.K H p ys \/ iX X.K H p ys) /\ ∀ l,H l=none->Q (.ref l) (upd H l (.lst ys))):=by
 intro pins s σ H xs us Q I r h
 obtain ⟨p,ys,rfl,hq,q⟩:=h
 obtain ⟨u,rfl,rx⟩:=vals1 r
 cases rx
 have fin:∀ (its:List Value),bj ys its->ys.length<=sizeLine->∀ (h':Heap) (c':Nat),(∀ b o',s.heap.get? b=some o'->h'.get? b=some o')->
   h'.get? s.heap.objs.size=some { cls:=.type "list",dict:=none,data:=.seq its.toArray c',slots:=#[] }->EP X pins σ Q (.ref s.heap.objs.size) { s with heap:=h' }:=λits r' hz h' c' kp e=>
  ⟨.ref s.heap.objs.size,_,I.laid (t':=s.toks) kp (Ze _) (show cw X.prog X.w _ h' _ (.lst ys) from ⟨hz,its,c',r',e⟩),rfl,q _ (I.cf.fresh (Ze _))⟩
 rcases hq with hq | hq
 .obtain ⟨its,r',pl,hz⟩:=I.list hq
  have hlen:=r'.length
  obtain ⟨o,ho,hc,n,hd⟩:=pl.isList
  exact call_list_seq p (.inl rfl) ho hc hd (λh' c' kp e=>fin its r' hz h' c' kp e) (by simp only [Zm] <;> omega)
 .obtain ⟨its,r',pl,hz⟩:=I.tuple hq
  have hlen:=r'.length
  obtain ⟨o,ho,hc,n,hd⟩:=pl
  exact call_list_seq p (.inr rfl) ho hc hd (λh' c' kp e=>fin its r' hz h' c' kp e) (by simp only [Zm] <;> omega)
theorem lK:eD X (.type "tuple") (λxs H Q=>∃ p ys,xs=[.ref p] /\ ((iW X.K H p ys /\ ∀ l,H l=none->Q (.ref l) (upd H l (.tup ys))) \/ (iX X.K H p ys /\ Q (.ref p) H))):=by
 intro pins s σ H xs us Q I r h
 obtain ⟨p,ys,rfl,h⟩:=h
 obtain ⟨u,rfl,rx⟩:=vals1 r
 cases rx
 rcases h with ⟨hq,q⟩ | ⟨hq,q⟩
 .obtain ⟨its,r',pl,hz⟩:=I.list hq
  have hlen:=r'.length
  refine call_tuple_list pl.isList (λh' kp=>?_) (by simp only [Zm] <;> omega)
  have I1:Inv X pins σ H { s with heap:=h' }:=I.kept (t':=s.toks) kp
  have I2:Inv X pins σ (upd H h'.objs.size (.tup ys)) { s with heap:=h'.push { cls:=.type "tuple",data:=.seq its.toArray } }:=
   I1.laid (t':=s.toks) (λb o e=>Y5 _ e) (Ze _) (show cw X.prog X.w _ _ _ (.tup ys) from ⟨hz,its,r',IsTup.new _ _⟩)
  exact ⟨.ref h'.objs.size,_,I2,rfl,q _ (I1.cf.fresh (Ze _))⟩
 .obtain ⟨its,r',pl,hz⟩:=I.tuple hq
  exact call_tuple_same pl ⟨.ref p,H,I,rfl,q⟩
def Sn (K:PySem.W.Frag) (T:String) (x:V) (H:Hp):Prop:=match x with
 | .str _=>T="str"
 | .int _=>T="int"
 | .ref p=>(T="list" /\ ∃ xs,iW K H p xs) \/ (T="tuple" /\ ∃ o,K.lookup p=some o /\ o.cls=.type "tuple" /\ o.dict=none) \/
   (T="dict" /\ ((∃ aH,H p=some (.dK aH)) \/ ∃ aH,H p=some (.dT aH))) \/ (T="set" /\ ∃ S n,H p=some (.set S n))
 | _=>False
theorem Dl {pins:List (Addr×Obj)} {σ:St} {H:Hp} {s:Shared} {T:String} {x:V} {v:Value} (I:Inv X pins σ H s) (r:RelV x v) (ty:Sn X.K T x H):
  s.TypeIs v T /\ ∀ a,v=.ref a->∃ ob,s.heap.get? a=some ob /\ ob.dict=none:=by
 cases x with
 | str z=>
   obtain ⟨t,rfl⟩:=r
   cases (show T="str" from ty)
   exact ⟨typeIs_str s z t,λ_ e=>nomatch e⟩
 | int i=>
   obtain ⟨t,rfl⟩:=r
   cases (show T="int" from ty)
   exact ⟨typeIs_int s i t,λ_ e=>nomatch e⟩
 | ref p=>
   cases r
   rcases ty with ⟨rfl,xs,hq⟩ | ⟨rfl,o,hk,hc,hd⟩ | ⟨rfl,hk⟩ | ⟨rfl,S,n,hk⟩
   .obtain ⟨its,_,pl,_⟩:=I.list hq
    refine ⟨pl.isList.typeIs,λa e=>?_⟩
    cases e
    obtain ⟨o,n,e,c,hd,_⟩:=pl
    exact ⟨o,e,hd⟩
   .refine ⟨⟨o,I.rE p o hk,hc⟩,λa e=>?_⟩
    cases e
    exact ⟨o,I.rE _ o hk,hd⟩
   .have z:∃ o,s.heap.get? p=some o /\ o.ExactDict:=by
     rcases hk with ⟨aH,hk⟩ | ⟨aH,hk⟩
     .obtain ⟨_,_,_,_,o,_,_,e,ex,_⟩:=I.cf p _ hk
      exact ⟨o,e,ex⟩
     .obtain ⟨_,_,_,_,o,_,_,e,ex,_⟩:=I.cf p _ hk
      exact ⟨o,e,ex⟩
    obtain ⟨o,e,ex⟩:=z
    refine ⟨⟨o,e,ex.1⟩,λa e2=>?_⟩
    cases e2
    exact ⟨o,e,ex.2.1⟩
   .obtain ⟨o,_,_,_,e,ex,_⟩:=I.cf p _ hk
    refine ⟨⟨o,e,ex.1⟩,λa e2=>?_⟩
    cases e2
    exact ⟨o,e,ex.2.1⟩
 | _=>exact False.elim ty
def OZ (K:PySem.W.Frag) (T:String) (r:V->List V->Hp->VK->Prop) (to:TE):TE:=λσ H Q=>to σ H λx H1=>Sn K T x H1 /\ r x [] H1 Q
def O0 (K:PySem.W.Frag) (T:String) (r:V->List V->Hp->VK->Prop) (to:TE) (t:TA):TE:=λσ H Q=>to σ H λx H1=>Sn K T x H1 /\ t σ H1 λxs H2=>r x xs H2 Q
variable {o e:Expr} {es:List Expr} {to:TE} {t:TA} {name:Str} {apos gf:Pos} {T id:String} {r:V->List V->Hp->VK->Prop}
theorem LV (pa:PlainAttrs T) (slot:Slot T name id) (So:typeOf (.builtin id)=pure (.type "method_descriptor")) (hm:Rm X id r) (ho:PE X o to)
  (p5:attributeBase o name X.env (eval o X.env)=eval o X.env:=by rfl) (p6:(apos.endLine == gf.line)=true:=by rfl):PE X (.Call (.Attribute o name apos) [] [] gf) (OZ X.K T r to):=by
 intro pins s σ H Q I h
 refine wpAny_Call_method0_late p5 p6 (d6 (ho pins s σ H _ I h) λv s1 ⟨x,H1,I1,r1,ty,q1⟩=>?_)
 obtain ⟨h1,h2⟩:=Dl I1 r1 ty
 exact ⟨T,id,pa,slot,So,h1,h2,ab3 rfl (PySem.evalArgs_none (hm pins s1 σ H1 x [] v [] Q I1 r1 .nil q1))⟩
theorem kh (pa:PlainAttrs T) (slot:Slot T name id) (So:typeOf (.builtin id)=pure (.type "method_descriptor")) (hm:Rm X id r) (ho:PE X o to) (ha:PA X (e :: es) t)
  (p5:attributeBase o name X.env (eval o X.env)=eval o X.env:=by rfl)
  (Sq:((backTo gf (starEach (e :: es) X.env)).all (λx=> !x.1) && (backToKw gf (keywordEach [] X.env)).all (λx=>x.1.isSome)
   && decide ((e :: es).length + ([]:List Keyword).length + (if ([]:List Keyword).isEmpty then 0 else 1) < 30))=true:=by rfl)
  (p6:(apos.endLine == gf.line)=true:=by rfl) (hs:starEach (e :: es) X.env=(false,eval e X.env) :: starEach es X.env:=by rfl) (LW:(backTo gf (starEach es X.env)).any (·.1)=false:=by rfl):
  PE X (.Call (.Attribute o name apos) (e :: es) [] gf) (O0 X.K T r to t):=by
 intro pins s σ H Q I h
 refine wpAny_Call_method_late p5 Sq p6 rfl (d6 (ho pins s σ H _ I h) λv s1 ⟨x,H1,I1,r1,ty,q1⟩=>?_)
 obtain ⟨h1,h2⟩:=Dl I1 r1 ty
 refine ⟨T,id,pa,slot,So,h1,h2,?_⟩
 have hA:=ha gf pins s1 σ H1 _ I1 q1
 rw [hs] at hA ⊢
 refine ab3 (by show (false || (backTo gf (starEach es X.env)).any (·.1))=false; rw [LW] <;> rfl) (Calls.evalArgs_plain ?_)
 exact d6 hA λus s2 ⟨vs,H2,I2,r2,q2⟩=>hm pins s2 σ H2 x vs v us Q I2 r1 r2 q2
/- xs.append(e),list.index on a module's tuple .. are Rm facts of 06m -/
end
def Sr (X:Cx) (id:String) (r:V->List V->Hp->VK->Prop):Prop:=
 ∀ (pins:List (Addr×Obj)) (s:Shared) (σ:St) (H:Hp) (x:V) (xs:List V) (v:Value) (us:List Value) (Q:VK),Inv X pins σ H s->RelV x v->bj xs us->r x xs H Q->
   wpAny (model X.prog X.w) X.A (call (.builtin id) (v :: us)) (EP X pins σ Q) X.xe s
theorem bj.one:∀ {x:V} {us:List Value},bj [x] us->∃ u,us=[u] /\ RelV x u
 | _,_,.cons r .nil=>⟨_,rfl,r⟩
section
variable {X:Cx} {pins:List (Addr×Obj)} {σ:St} {H:Hp} {s:Shared} {l b:Addr} {xs ys zs:List V}
theorem Inv.LX {its its':List Value} {n:Nat} {f:Array Value->Array Value} {t':Nat} (I:Inv X pins σ H s) (hH:H l=some (.lst xs))
  (e:s.heap.get? l=some { cls:=.type "list",data:=.seq its.toArray n }) (hf:f its.toArray=its'.toArray) (hv:bj ys its') (hz:ys.length<=sizeLine):
  Inv X pins σ (upd H l (.lst ys)) { s with heap:=s.heap.update l (Obj.mapSeq f),toks:=t' }:=by
 have q:=PySem.IsL.update e f
 rw [hf] at q
 refine I.write (x:=l) (e:=l) (by rw [hH]; exact trivial) (.inl rfl) (λb' u hb hu=>(aaH s.heap (Obj.mapSeq f) (abd hb)).trans hu) ⟨_,q⟩ ?_
 exact ⟨hz,its',_,hv,q⟩
theorem Inv.Ss {its:List Value} {t':Nat} (I:Inv X pins σ H s) (hv:bj ys its) (hz:ys.length<=sizeLine):
  Inv X pins σ (upd H s.heap.objs.size (.lst ys)) { s with heap:=s.heap.push { cls:=.type "list",data:=.seq its.toArray },toks:=t' }:=
 I.laid (λ_ _ q=>Y5 _ q) (Ze _) ⟨hz,its,0,hv,Zh _ rfl⟩
theorem Inv.fresh (I:Inv X pins σ H s):H s.heap.objs.size=none:=I.cf.fresh (Ze _)
theorem Inv.G5 (I:Inv X pins σ H s) (hH:H l=some (.lst xs)):xs.length<=sizeLine /\ ∃ (its:List Value) (n:Nat),bj xs its /\ xs.length=its.length /\ s.heap.get? l=some { cls:=.type "list",data:=.seq its.toArray n }:=by
 obtain ⟨z,its,n,r,e⟩:=I.cf l _ hH
 exact ⟨z,its,n,r,r.length,e⟩
theorem Dm {n:Nat} (h:n<=sizeLine):Builtin.List.listTooLong n=false:=by
 unfold Builtin.List.listTooLong
 exact Zr (by omega)
end
section
variable {X:Cx}
def tX:V->List V->Hp->VK->Prop:=λx vs H Q=>∃ l xs y,x=.ref l /\ vs=[y] /\ H l=some (.lst xs) /\ xs.length < sizeLine /\ Q .gu (upd H l (.lst (xs ++ [y])))
theorem fP:Sr X "list.append" tX:=by
 intro pins s σ H x vs v us Q I rx rv h
 obtain ⟨l,xs,y,rfl,rfl,hH,hz,q⟩:=h
 cases rx
 obtain ⟨u,rfl,ru⟩:=rv.one
 obtain ⟨z,its,n,r,hl,e⟩:=I.G5 hH
 refine call_meets ZZ ⟨_,e,rfl⟩ F.entry_list_append (F.args_list_append_2 _ _) (PySem.list_append l its.toArray n u (by rw [Zm]; omega)) ⟨e,?_⟩
 refine ⟨.gu,_,I.LX (its':=its ++ [u]) hH e (by simp) (r.append (.cons ru .nil)) ?_,rfl,q⟩
 rw [Zz,List.length_singleton]
 omega
def Ai:V->List V->Hp->VK->Prop:=λx vs H Q=>∃ l b xs zs,x=.ref l /\ vs=[.ref b] /\ H l=some (.lst xs) /\ H b=some (.lst zs) /\ xs.length + zs.length<=sizeLine /\ Q .gu (upd H l (.lst (xs ++ zs)))
theorem nT:Sr X "list.extend" Ai:=by
 intro pins s σ H x vs v us Q I rx rv h
 obtain ⟨l,b,xs,zs,rfl,rfl,hH,hB,hz,q⟩:=h
 cases rx
 obtain ⟨u,rfl,ru⟩:=rv.one
 cases ru
 obtain ⟨z,its,n,r,hl,e⟩:=I.G5 hH
 obtain ⟨z2,rO,n2,r2,LY,e2⟩:=I.G5 hB
 have hsz:its.toArray.size + rO.toArray.size<=sizeLine:=by rw [Zm,Zm]; omega
 have O1:¬ (!its.toArray.isEmpty && Builtin.List.listTooLong (its.toArray.size + rO.toArray.size))=true:=by
  rw [Dm hsz,Bool.and_false]
  exact Zt
 refine call_meets ab4 ⟨_,e,rfl⟩ F.entry_list_extend (F.args_list_extend_2 _ _)
  (AutoSeq1.list_extend_list_list_0 l its.toArray n b rO.toArray n2 O1 (by rw [Zm]; omega) (by omega)) ⟨e,e2,?_⟩
 refine ⟨.gu,_,I.LX (its':=its ++ rO) hH e (by simp) (r.append r2) ?_,rfl,q⟩
 rw [Zz]
 omega
end
section
variable {prog:Program} {w:World} {A:Around} {E:Value->Shared->Prop} {s:Shared}
end
section
variable {X:Cx}
end
end L2
namespace UO
open PySem PySem.W PySem.Calls PyProof.Rows
theorem o5 {P:Params} {h:Heap}:∀ (ns:List Int) (vs:List Value),WellAll P h vs (ns.map WData.int)->IntsAre vs ns:=by
 intro ns
 induction ns with
 | nil=>
   intro vs w
   rw [ab2] at w
   cases w
   exact .nil
 | cons n ns ih=>
   intro vs w
   rw [Zn] at w
   cases w with
   | cons a b=>
     cases a
     exact .cons _ _ (ih _ b)
theorem BI {l:OpenLaw} {n:Nat} (hn:l.most=some n) {P:Params} {h:Heap} {args:List WData} {vals:List Value}
  (G6:l.row.toRowW.claim.pre args=true) (Su:WellAll P h vals args):
  ∃ a vs ns,vals=[Value.ref a] /\ args=[WData.list (ns.map WData.int)] /\ h.get? a=some { cls:=.type "list",data:=.seq vs.toArray } /\ IntsAre vs ns /\ ns.length<=n:=by
 have hsh:WShape.hasAll [] args [.list .int]=true:=(pre_splitW G6).1
 have hc:l.pre.holds [] { args:=args }=true:=(pre_splitW G6).2
 obtain ⟨d,r,rfl,h1,h2⟩:=hasAllW_cons hsh
 obtain rfl:=hasAllW_nil h2
 obtain ⟨xs,rfl,h3⟩:=hasW_list h1
 obtain ⟨ns,rfl⟩:=items_int h3
 have hlen:ns.length<=n:=by
  unfold OpenLaw.pre at hc
  have h4:(WTm.not (.lt (.lit (.int (n:Int))) (.len (.arg 0)))).holds [] { args:=[.list (ns.map .int)] }=true:=by
   have h4:=(holds_andW hc).1
   rw [hn] at h4
   exact h4
  have h5:=condW_of h4 (w_not (w_lt w_lit (w_len_list (w_arg rfl))))
  rw [Y7] at h5
  refine acd λq=>?_
  have q':(n:Int) < ((ns.length:Nat):Int):=by omega
  first
   | (rw [Zu q'] at h5; exact absurd h5 (by decide))
   | (simp at h5; omega)
 cases Su with
 | cons w1 w2=>
   cases w2
   cases w1 with
   | list ho BJ=>exact ⟨_,_,ns,rfl,rfl,ho,o5 ns _ BJ,hlen⟩
theorem BK (l:OpenLaw) (args:List WData):l.row.toRowW.claim.post args (.bool true) args=true:=
 postW_of (r:=l.row.toRowW) (X:=(true == true))
  (show WShape.has [] (.bool true) .bool=true by first | rfl | decide | simp [WShape.has,WShape.arms,WShape.armsAll])
  (show (WTm.eq .res (.lit (.bool true))).value [] { args:=args,res:=some (.bool true),after:=args }=some (.bool (true == true)) from w_eq_bool (w_res rfl) w_lit) rfl
theorem wq {l:OpenLaw} {n:Nat} {q:Program} {loose:List Str} {XP:(Str->Option Value)->Heap->Prop} {YP:World->Heap->Prop} {d:DefRec}
  (hn:l.most=some n) (O2:d.params.defaults=[])
  (call:∀ (w:World) (fE bE:Shared) (mg mb:Str->Option Value) (fa:Addr) (o:Obj) (pm cd doc:Value) (a:Addr) (vs:List Value) (ns:List Int),
   Ground q loose [] XP w fE mg mb bE.heap->YP w bE.heap->
   bE.heap.get? fa=some o->o.data=.func (docDef d.name d.params d.body d.scope pm cd doc)->bE.heap.CodeRec cd d.name->mg d.name=some (.ref fa)->
   bE.heap.get? a=some { cls:=.type "list",data:=.seq vs.toArray }->IntsAre vs ns->ns.length<=n->bE.gens=#[]->
   codeAny (model l.prog w) callerA (.call (.ref fa) ⟨[.ref a],[]⟩) (λr s'=>r=.ok (.ret (.bool true)) /\ OldK bE.heap s'.heap /\ s'.os=bE.os /\ AllBare s'.gens) bE):
  WalkO q loose XP YP l.row.toRowW d [] (λf vs=>PySem.call f vs):=by
 intro w fE bE mg mb G Y fa o pm cd doc dV kV ho hd oY hD O3 hg args vals as G6 V8 YI Su Ro
 obtain rfl:dV=.none:=Dflts.none hD O2
 obtain rfl:kV=.none:=Dflts.noKw hD
 obtain ⟨a,vs,ns,rfl,rfl,Dp,hints,hlen⟩:=BI hn G6 Su
 refine enter_call (aa3 (call w fE bE mg mb fa o pm cd doc a vs ns G Y ho (fd_plain hd) oY O3 Dp hints hlen hg) λr s' hq=>?_)
 obtain ⟨rfl,h2,h3,h4⟩:=hq
 exact ⟨.inl ⟨.bool true,.bool true,[],rfl,λ_=>rfl,.bool true,BK l _,λ_=>⟨List.Pairwise.nil,λ_ hm=>(nomatch hm)⟩⟩,h2,h3,h4⟩
section
variable {prog:Program} {w:World} {A:Around} {E:Value->Shared->Prop} {s:Shared} {K:Frag}
end
end UO
namespace L2
open PySem PySem.Spec PyProof.Rows
theorem sM:∀ {vs:List Value} {ns:List Int},IntsAre vs ns->bj (ns.map V.int) vs
 | _,_,.nil=>.nil
 | _,_,.cons n t h=>.cons ⟨t,rfl⟩ (sM h)
def yi (K:PySem.W.Frag) (H:Hp) (a:Addr) (xs:List V):Prop:=
 Rd H a (.lst xs) \/ ∃ (its:List Value) (n:Nat),K.lookup a=some { cls:=.type "list",data:=.seq its.toArray n } /\ its.length<=sizeLine /\ bj xs its
abbrev o6:Gf:=λ_ _ _ _ _ _=>False
abbrev E0:XK:=λ_ _ _=>False
theorem O4 {X:Cx}:yF o6 X E0:=λ_ _ _ _ _ _ _ h=>h.elim
structure Dq (K:PySem.W.Frag) (x qual:Str) (st:Stmt) (f:Addr) (fd:FuncData):Prop where
 ex:∃ (oc:Value) (od:Option Addr) (kV doc pm:Value) (an:Option Addr) (cH ct:Value) (Dg:Array (Option Value)),
  fd=PySem.W.fnOf x qual (eW st) (cA st) (ai st) .none kV doc pm an cH ct /\ K.lookup f=some ⟨oc,od,.func fd,Dg⟩ /\ PySem.W.codeIn K cH qual=true
 kp:PySem.W.keepIn K (.ref f)=true
section
variable {P:Program} {w:World} {K:PySem.W.Frag} {mg:Str->Option Value} {base:Heap}
theorem Dq.ok {x qual:Str} {st:Stmt} {f:Addr} {fd:FuncData} {N ps:List Str} {k:Nat} {sp:Sp} (F:Dq K x qual st f fd) (S:az N ps (ai st)) (len:∀ vs H Q E,sp vs H Q E->vs.length=ps.length)
  (kf:∀ (cH:Value) (A:Around) (outer:List Env) (s:Shared) (H:Hp) (vs:List V) (Q:VK) (E:XK),cJ k (A.deeper (envOfC qual (ai st) s.heap.objs.size f cH))->sp vs H Q E->
   ∃ t,jk (o3 o6 P w K mg base N qual (ai st) f cH A outer s H E).CY (cA st) t /\ t { nx:=λ_ H'=>Q .gu H',rt:=Q } (start N vs) H):lQ P w K mg base o6 (k + 1) f fd ps sp:=by
 obtain ⟨oc,od,kV,doc,pm,an,cH,ct,Dg,rfl,lk,oY⟩:=F.ex
 refine JW lk oY S len λA outer s H vs Q E hr Ag=>?_
 obtain ⟨t,h,q⟩:=kf cH A outer s H vs Q E hr Ag
 exact ⟨t,h.CY,q⟩
theorem Dq.binds {x qual:Str} {st:Stmt} {f:Addr} {fd:FuncData} {ps:List Str} (F:Dq K x qual st f fd)
  (h:∀ (kV doc pm:Value) (an:Option Addr) (cH ct:Value) (us:List Value),us.length=ps.length->bindArgs (PySem.W.fnOf x qual (eW st) (cA st) (ai st) .none kV doc pm an cH ct) ⟨us,[]⟩=pure (ps.zip us)):Binds K fd ps []:=by
 obtain ⟨oc,od,kV,doc,pm,an,cH,ct,Dg,rfl,lk,oY⟩:=F.ex
 exact .all (h kV doc pm an cH ct)
theorem dN {x qual:Str} {st:Stmt} {f:Addr} {oc:Value} {od an:Option Addr} {Dg:Array (Option Value)} {kV doc pm cH ct:Value} (l:K.lookup f=some ⟨oc,od,.func (PySem.W.fnOf x qual (eW st) (cA st) (ai st) .none kV doc pm an cH ct),Dg⟩)
  (c:PySem.W.codeIn K cH qual=true) (k:PySem.W.keepIn K (.ref f)=true):Dq K x qual st f (PySem.W.fnOf x qual (eW st) (cA st) (ai st) .none kV doc pm an cH ct):=⟨⟨oc,od,kV,doc,pm,an,cH,ct,Dg,rfl,l,c⟩,k⟩
end
def G7:Option NameKind->Bool
 | some .local=>true
 | some .cell=>true
 | some .free=>true
 | _=>false
theorem LZ {sc:Scope} {x:Str} (h:G7 (sc.names.lookup x)=true):Ov sc x:=by
 unfold Ov
 cases e:sc.names.lookup x with
 | none=>rw [e] at h; cases h
 | some k=>
   rw [e] at h
   cases k <;> first | exact .inl rfl | exact .inr (.inl rfl) | exact .inr (.inr rfl) | cases h
section
variable {X:Cx}
theorem pv (i:Nat) {x:Str} {pos:Pos} (hN:X.N[i]?=some x:=by rfl) (hv:G7 (X.env.scope.names.lookup x)=true:=by rfl) (hd:(x == ("__debug__":Str))=false:=by decide)
  (oY:(x == ("__classdict__":Str))=false:=by decide):PE X (.Name x pos) (pT i):=Lr hN (LZ hv) hd oY
end
def aA (H H':Hp):Prop:=∀ b o,H b=some o->H' b=some o
theorem aA.refl (H:Hp):aA H H:=λ_ _ h=>h
theorem aA.trans {H H1 H2:Hp} (a:aA H H1) (b:aA H1 H2):aA H H2:=λc o h=>b c o (a c o h)
theorem aA.free {H H':Hp} (e:aA H H') {l:Addr} (h:H' l=Option.none):H l=Option.none:=by
 cases q:H l with
 | none=>rfl
 | some o=>
   rw [e l o q] at h
   cases h
section
variable {κ:Type} [DecidableEq κ]
def mW (aH:List (κ×V)) (k:κ):Option V:=(aH.find? λkv=>decide (kv.1=k)).map (·.2)
def putK (aH:List (κ×V)) (k:κ) (v:V):List (κ×V):=
 if (aH.any λkv=>decide (kv.1=k))=true then aH.map (λkv=>if kv.1=k then (kv.1,v) else kv) else aH ++ [(k,v)]
theorem mX {p:κ×V} {r:List (κ×V)} {k:κ} (e:p.1=k):mW (p :: r) k=some p.2:=by simp [mW,aaS,e]
theorem mY {p:κ×V} {r:List (κ×V)} {k:κ} (e:¬ p.1=k):mW (p :: r) k=mW r k:=by simp [mW,aaS,e]
theorem p8 (k:κ):∀ aH:List (κ×V),(aH.any λkv=>decide (kv.1=k))=(mW aH k).isSome
 | []=>rfl
 | p :: r=>by
   rw [abO]
   by_cases e:p.1=k
   .simp only [mX e,Zu e,Bool.true_or,Option.isSome_some]
   .rw [mY e,Zr e,Bool.false_or]; exact p8 k r
theorem oH (aH:List (κ×V)) (k:κ) (v:V):(putK aH k v).length<=aH.length + 1:=by
 unfold putK
 split
 .rw [Y7]; omega
 .rw [Zz,Zp,aaq]; omega
theorem nP.BL {o:Option V} {u:Option Value} (r:nP o u):o.isSome=u.isSome:=by
 cases o with
 | none=>cases u with
   | none=>rfl
   | some _=>exact (show False from r).elim
 | some _=>cases u with
   | none=>exact (show False from r).elim
   | some _=>rfl
theorem nP.getD {o:Option V} {u:Option Value} {d:V} {d':Value} (r:nP o u) (rd:RelV d d'):RelV (o.getD d) (u.getD d'):=by
 cases o with
 | none=>cases u with
   | none=>exact rd
   | some _=>exact (show False from r).elim
 | some _=>cases u with
   | none=>exact (show False from r).elim
   | some _=>exact r
theorem KV.val {aH:List (κ×V)} {vs:List (κ×Value)} (r:KV aH vs) (k:κ):nP (mW aH k) (valueAt vs k):=by
 unfold KV at r
 induction r with
 | nil=>exact True.intro
 | @cons p q ps qs h t ih=>
   obtain ⟨h1,h2⟩:=h
   by_cases e:p.1=k
   .have e':q.1=k:=h1.symm.trans e
    have b:valueAt (q :: qs) k=some q.2:=by simp [valueAt,aaS,e']
    rw [mX e,b]; exact h2
   .have e':¬ q.1=k:=λz=>e (h1.trans z)
    have b:valueAt (q :: qs) k=valueAt qs k:=by simp [valueAt,aaS,e']
    rw [mY e,b]; exact ih
theorem KV.any {aH:List (κ×V)} {vs:List (κ×Value)} (r:KV aH vs) (k:κ):(aH.any λkv=>decide (kv.1=k))=vs.any λkv=>decide (kv.1=k):=by
 unfold KV at r
 induction r with
 | nil=>rfl
 | cons h t ih=>rw [abO,abO,ih,h.1]
theorem KV.L3 {aH:List (κ×V)} {vs:List (κ×Value)} (r:KV aH vs) (k:κ) {y:V} {u:Value} (ry:RelV y u):
  KV (aH.map λkv=>if kv.1=k then (kv.1,y) else kv) (vs.map λkv=>if kv.1=k then (kv.1,u) else kv):=by
 unfold KV at r ⊢
 induction r with
 | nil=>exact .nil
 | @cons p q ps qs h t ih=>
   rw [Zn,Zn]
   refine .cons ?_ ih
   obtain ⟨h1,h2⟩:=h
   by_cases e:p.1=k
   .rw [Zk e,Zk (h1.symm.trans e)]; exact ⟨h1,ry⟩
   .rw [Zj e,Zj (λz=>e (h1.trans z))]; exact ⟨h1,h2⟩
theorem KV.put {aH:List (κ×V)} {vs:List (κ×Value)} (r:KV aH vs) (k:κ) {y:V} {u:Value} (ry:RelV y u):KV (putK aH k y) (stored vs k u):=by
 unfold putK stored
 rw [r.any k]
 by_cases e:(vs.any λkv=>decide (kv.1=k))=true
 .rw [Zk e,Zk e]; exact r.L3 k ry
 .rw [Zj e,Zj e]; exact Paired.snoc r ⟨rfl,ry⟩
theorem KV.length {aH:List (κ×V)} {vs:List (κ×Value)} (r:KV aH vs):aH.length=vs.length:=Paired.length r
end
theorem Aj {P:Program} {w:World} {k:Key} {u:Value} (r:RelV (kV k) u):(cW P w).is k u=true:=by
 cases k with
 | inl i=>obtain ⟨t,e⟩:=(show ∃ t,u=Value.int i t from r); subst e; exact v8 P w i t
 | inr x=>obtain ⟨t,e⟩:=(show ∃ t,u=Value.str x t from r); subst e; exact v9 P w x t
theorem sN {P:Program} {w:World}:∀ {ks:List Key} {us:List Value},bj (ks.map kV) us->ItemsAre (cW P w) ks us
 | [],_,r=>by rw [ab2] at r; cases r; exact .nil
 | k :: ks,_,r=>by
   rw [Zn] at r
   cases r with
   | cons h t=>exact .cons (Aj h) (sN t)
abbrev KT (H:Hp):List (List Key×V)->List (List Key×Addr×Value)->Prop:=Paired λp q=>p.1=q.1 /\ cV H q.2.1 (p.1.map kV) /\ RelV p.2 q.2.2
theorem KT.val {H:Hp} {aH:List (List Key×V)} {xs:List (List Key×Addr×Value)} (r:KT H aH xs) (k:List Key):nP (mW aH k) ((atKey xs k).map (·.2)):=by
 induction r with
 | nil=>exact True.intro
 | @cons p q ps qs h t ih=>
   obtain ⟨h1,_,h2⟩:=h
   by_cases e:p.1=k
   .have e':q.1=k:=h1.symm.trans e
    have b:atKey (q :: qs) k=some q.2:=by simp [atKey,aaS,e']
    rw [mX e,b]; exact h2
   .have e':¬ q.1=k:=λz=>e (h1.trans z)
    have b:atKey (q :: qs) k=atKey qs k:=by simp [atKey,aaS,e']
    rw [mY e,b]; exact ih
theorem KT.L3 {H:Hp} {aH:List (List Key×V)} {xs:List (List Key×Addr×Value)} (r:KT H aH xs) (k:List Key) {y:V} {u:Value} (ry:RelV y u):
  KT H (aH.map λkv=>if kv.1=k then (kv.1,y) else kv) (xs.map (putAt k u)):=by
 induction r with
 | nil=>exact .nil
 | @cons p q ps qs h t ih=>
   rw [Zn,Zn]
   refine .cons ?_ ih
   obtain ⟨h1,h2,h3⟩:=h
   unfold putAt
   by_cases e:p.1=k
   .rw [Zk e,Zk (h1.symm.trans e)]; exact ⟨h1,h2,ry⟩
   .rw [Zj e,Zj (λz=>e (h1.trans z))]; exact ⟨h1,h2,h3⟩
theorem KT.put {H:Hp} {aH:List (List Key×V)} {xs:List (List Key×Addr×Value)} (r:KT H aH xs) (k:List Key) {b:Addr} {y:V} {u:Value} (hb:cV H b (k.map kV)) (ry:RelV y u):
  KT H (putK aH k y) (storedH xs k b u):=by
 have e:(aH.any λkv=>decide (kv.1=k))=(atKey xs k).isSome:=by
  rw [p8,(r.val k).BL,Option.isSome_map]
 unfold putK storedH
 rw [e]
 by_cases q:(atKey xs k).isSome=true
 .rw [Zk q,Zk q]; exact r.L3 k ry
 .rw [Zj q,Zj q]; exact Paired.snoc r ⟨rfl,hb,ry⟩
theorem KT.keeps {H H':Hp} {aH:List (List Key×V)} {xs:List (List Key×Addr×Value)} (r:KT H aH xs) (ht:∀ b ys,cV H b ys->cV H' b ys):KT H' aH xs:=
 Paired.Ll r λ_ _ z=>⟨z.1,ht _ _ z.2.1,z.2.2⟩
section
variable {P:Program} {w:World} {H:Hp} {h:Heap} {a:Addr}
theorem JY {u:HO} (ok:lI P w H h) (e:Rd H a u):cw P w H h a u:=e.ok ok
theorem wt {aH:List (Key×V)} (ok:lI P w H h) (e:Rd H a (.dK aH)):aH.length<=sizeLine /\ (a == sysModules)=false /\ ∃ vs,KV aH vs /\ h.DictOf (cW P w) a vs:=
 show cw P w H h a (.dK aH) from JY ok e
theorem O5 {aH:List (Key×V)} (ok:lI P w H h) (e:H a=some (.dK aH)):aH.length<=sizeLine /\ (a == sysModules)=false /\ ∃ vs,KV aH vs /\ h.DictOf (cW P w) a vs:=wt ok (.inl e)
theorem p9 {ks:List Key} (ok:lI P w H h) (e:cV H a (ks.map kV)):(tupleKind (cW P w)).is h ks a:=by
 obtain ⟨_,its,r,o,h1,h2,n,h3⟩:=(show cw P w H h a (.tup (ks.map kV)) from Rd.ok e ok)
 exact ⟨o,its.toArray,n,h1,h2,h3,by simpa using sN r⟩
theorem wu {aH:List (List Key×V)} (ok:lI P w H h) (e:Rd H a (.dT aH)):aH.length<=sizeLine /\ (a == sysModules)=false /\
  ∃ xs,KT H aH xs /\ h.DictOfH (tupleKind (cW P w)) a xs:=by
 obtain ⟨z,y,xs,r,o,es,ep,h1,h2,h3,h4,h5⟩:=(show cw P w H h a (.dT aH) from JY ok e)
 refine ⟨z,y,xs,r,o,es,ep,h1,h2,h3,h4,λx hx=>?_,h5⟩
 have all:∀ {l:List (List Key×V)} {m:List (List Key×Addr×Value)},KT H l m->∀ x∈m,(tupleKind (cW P w)).is h x.1 x.2.1:=by
  intro l m q
  induction q with
  | nil=>intro x hx; exact nomatch hx
  | @cons p q ps qs hq t ih=>
    intro x hx
    rcases Y6.mp hx with e | hx
    .subst e
     exact p9 ok (by rw [<- hq.1]; exact hq.2.1)
    .exact ih x hx
 exact all r x hx
theorem JZ {aH:List (List Key×V)} (ok:lI P w H h) (e:H a=some (.dT aH)):aH.length<=sizeLine /\ (a == sysModules)=false /\
  ∃ xs,KT H aH xs /\ h.DictOfH (tupleKind (cW P w)) a xs:=wu ok (.inl e)
end
def tY (H:Hp) (a:Addr) (y:V) (r:Option V):Prop:=
 (∃ aH k,Rd H a (.dK aH) /\ y=kV k /\ r=mW aH k) \/ ∃ aH k b,Rd H a (.dT aH) /\ y=.ref b /\ cV H b (k.map kV) /\ r=mW aH k
def Dr (H:Hp) (a:Addr) (y v:V) (H':Hp):Prop:=
 (∃ aH k,H a=some (.dK aH) /\ y=kV k /\ aH.length < sizeLine /\ H'=upd H a (.dK (putK aH k v))) \/
 ∃ aH k b,H a=some (.dT aH) /\ y=.ref b /\ cV H b (k.map kV) /\ aH.length < sizeLine /\ H'=upd H a (.dT (putK aH k v))
theorem tY.t {H:Hp} {a b:Addr} {aH:List (List Key×V)} {k:List Key} (e:H a=some (.dT aH)) (eb:cV H b (k.map kV)):tY H a (.ref b) (mW aH k):=.inr ⟨aH,k,b,.inl e,rfl,eb,rfl⟩
theorem Dr.t {H:Hp} {a b:Addr} {aH:List (List Key×V)} {k:List Key} {v:V} (e:H a=some (.dT aH)) (eb:cV H b (k.map kV)) (hl:aH.length < sizeLine):
  Dr H a (.ref b) v (upd H a (.dT (putK aH k v))):=.inr ⟨aH,k,b,e,rfl,eb,hl,rfl⟩
section
variable {X:Cx} {pins:List (Addr×Obj)} {σ:St} {H:Hp} {s:Shared} {a:Addr} {y v:V} {u r:Value} {o:Option V} {A:Around} {E:Value->Shared->Prop}
theorem Inv.UP (I:Inv X pins σ H s):sysModules < s.heap.objs.size:=by
 have h:mainGlobals < s.heap.objs.size:=(I.mod.glob.keeps I.bk).lt
 exact aco (by decide) h
theorem BM {Q:Value->Shared->Prop} (hu:A.units + 1 < cLine) (I:Inv X pins σ H s) (g:tY H a y (some v)) (ry:RelV y u) (h:∀ w' s',Inv X pins σ H s'->RelV v w'->Q w' s'):
  wpAny (model X.prog X.w) A (getItem (.ref a) u) Q E s:=by
 rcases g with ⟨aH,k,e,ey,l⟩ | ⟨aH,k,b,e,ey,eb,l⟩
 .subst ey
  obtain ⟨z,hd,vs,rel,dd⟩:=wt I.cf e
  obtain ⟨w',hw,yw⟩:=nP.some_of (v:=v) (o:=valueAt vs k) (by rw [l]; exact rel.val k)
  exact wpAny_getItem_of (Aj ry) dd.mapOf hw (h w' _ (I.tok _) yw)
 .subst ey
  cases (show u=Value.ref b from ry)
  obtain ⟨z,hd,xs,rel,dd⟩:=wu I.cf e
  obtain ⟨w',hw,yw⟩:=nP.some_of (v:=v) (o:=(atKey xs k).map (·.2)) (by rw [l]; exact rel.val k)
  obtain ⟨p,hp,Rp⟩:=ab0.mp hw
  refine wpAny_getItem_heap (tupleKind_room_in1 hu) (p9 I.cf eb) dd hp ?_
  rw [Rp]
  exact h w' _ (I.tok _) yw
theorem tZ {h':Heap} {t':Nat} {ob:HO} (I:Inv X pins σ H s) (mu:Ot (H a)) (hs:Heap.SameBut a s.heap h') (he:∃ q,h'.get? a=some q) (new:cw X.prog X.w (upd H a ob) h' a ob):
  Inv X pins σ (upd H a ob) { s with heap:=h',toks:=t' }:=
 I.write (x:=a) (e:=a) mu (.inl rfl) (λb q hb z=>(hs.2 b hb).trans z) he new
theorem L4 {P:Program} {w:World} {H':Hp} {h':Heap} {aH:List (Key×V)} {vs:List (Key×Value)} (z:aH.length<=sizeLine) (hd:(a == sysModules)=false) (rel:KV aH vs) (dd:h'.DictOf (cW P w) a vs):
  cw P w H' h' a (.dK aH):=⟨z,hd,vs,rel,dd⟩
theorem BN {H':Hp} {Q:Unit->Shared->Prop} (hu:A.units + 1 < cLine) (I:Inv X pins σ H s) (g:Dr H a y v H') (ry:RelV y u) (rv:RelV v r) (h:∀ s',Inv X pins σ H' s'->Q () s'):
  wpAny (model X.prog X.w) A (setItem (.ref a) u r) Q E s:=by
 rcases g with ⟨aH,k,e,ey,l,eH⟩ | ⟨aH,k,b,e,ey,eb,l,eH⟩
 .subst ey eH
  obtain ⟨z,hd,vs,rel,dd⟩:=O5 I.cf e
  have hz:vs.length<=sizeLine:=by rw [<- rel.length]; exact z
  have hl:(putK aH k v).length<=sizeLine:=by have:=oH aH k v; omega
  refine wpAny_setItem_pairs (hsz:=hz) (Aj ry) dd λh' NZ hs=>h _ ?_
  have he:∃ q,h'.get? a=some q:=let ⟨q,_,_,hq,_⟩:=NZ; ⟨q,hq⟩
  exact tZ I (by rw [e]; exact True.intro) hs he (L4 hl hd (rel.put k rv) NZ)
 .subst ey eH
  cases (show u=Value.ref b from ry)
  obtain ⟨z,hd,xs,rel,dd⟩:=JZ I.cf e
  have hz:xs.length<=sizeLine:=by rw [<- Paired.length rel]; exact z
  have hl:(putK aH k v).length<=sizeLine:=by have:=oH aH k v; omega
  refine wpAny_setItem_heap (hsz:=hz) (tupleKind_room_in1 hu) (p9 I.cf eb) dd λh' NZ hs=>h _ ?_
  obtain ⟨q,es,ep,hq,h2,h3,h4,_,h5⟩:=NZ
  refine tZ I (by rw [e]; exact True.intro) hs ⟨q,hq⟩ ⟨hl,hd,_,(rel.put k eb rv).keeps λc ys ec=>?_,q,es,ep,hq,h2,h3,h4,h5⟩
  exact ec.dT e
end
section
variable {X:Cx} {pins:List (Addr×Obj)} {σ:St} {H:Hp} {s:Shared} {a:Addr} {aH:List (Key×V)} {k:Key} {u:Value} {A:Around} {E:Value->Shared->Prop}
end
def L5 (i:Expr):Prop:=∀ ov iv,subscripted i false ov iv=operate [ov,iv] (getItem ov iv)
theorem G8 {prog:Program} {w:World} {A:Around} {E:Value->Shared->Prop} {s:Shared} {env:Env} {value slice:Expr} {pos:Pos} {T id:String} {Q:Value->Shared->Prop}
  (hl:typeLookup (.type T) "__getitem__"=pure (some (.builtin id))) (hs:L5 slice)
  (h:wpAny (model prog w) A (eval value env) (λo bE=>wpAny (model prog w) A (eval slice env) (λi lP=>lP.TypeIs o T /\ wpAny (model prog w) A (getItem o i) Q E lP) E bE) E s):
  wpAny (model prog w) A (eval (.Subscript value slice pos) env) Q E s:=by
 refine Subscript_ (ZM h (λo bE nU=>ZM nU (λi lP t6=>?_) λ_ _ x=>x) λ_ _ x=>x)
 obtain ⟨hT,t6⟩:=t6
 unfold subscriptTail
 refine Y3 ?_
 rw [getitemInPython_of_ne hT.not_modules]
 refine Y3 (wpAny_specialOf hT hl ?_)
 have fin:wpAny (model prog w) A (subscripted slice false o i) (λr nV=>wpAny (model prog w) A (letTemporaryGo value o r >>= λ_=>pure r) Q E nV) E lP:=by
  rw [hs o i]
  exact wpAny_operating (ZM t6 (λr nV L6=>Y3 (wpAny_letTemporaryGo (Zc L6))) λ_ _ x=>x)
 first
  | exact Zc (Y3 fin)
  | exact Y3 (Zc (Y3 fin))
  | exact Y3 fin
theorem wx {X:Cx} {pins:List (Addr×Obj)} {σ:St} {H:Hp} {s:Shared} {a:Addr} {y:V} {o:Option V} (I:Inv X pins σ H s) (g:tY H a y o):s.TypeIs (.ref a) "dict":=by
 rcases g with ⟨aH,k,e,_,_⟩ | ⟨aH,k,b,e,_,_,_⟩
 .obtain ⟨_,_,vs,_,dd⟩:=wt I.cf e
  exact dd.typeIs
 .obtain ⟨_,_,xs,_,dd⟩:=wu I.cf e
  exact dd.typeIs
def O6 (td ty:TE):TE:=λσ H Q=>td σ H λx H1=>ty σ H1 λy H2=>∃ a v,x=.ref a /\ tY H2 a y (some v) /\ Q v H2
def J0 (td ty tv:TE):TS:=λD σ H=>tv σ H λv H1=>td σ H1 λx H2=>ty σ H2 λy H3=>∃ a H4,x=.ref a /\ Dr H3 a y v H4 /\ D.nx σ H4
section
variable {X:Cx} {o i e value:Expr} {pos pos' jl:Pos} {td ty tv:TE}
theorem G9 (hu:X.A.units + 1 < cLine) (ho:PE X o td) (hi:PE X i ty) (hs:L5 i):PE X (.Subscript o i pos) (O6 td ty):=by
 intro pins s σ H Q I h
 refine G8 PySem.F.slot_dict_getitem.lookup hs (d6 (ho pins s σ H _ I h) λu s1 ⟨x,H1,I1,rx,q1⟩=>d6 (hi pins s1 σ H1 _ I1 q1) λiv s2 ⟨y,H2,I2,ry,a,v,ex,g,q2⟩=>?_)
 subst ex
 obtain rfl:u=Value.ref a:=rx
 exact ⟨wx I2 g,BM hu I2 g ry λw' s3 I3 yw=>⟨v,H2,I3,yw,q2⟩⟩
theorem Ak (hu:X.A.units + 1 < cLine) (ho:PE X o td) (hi:PE X i ty) (hv:PE X value tv) (hs:swapsWith value (some (.Subscript o i pos')) pos.line X.env=pure false):
  PS X (.Assign [.Subscript o i pos'] value pos) (J0 td ty tv):=by
 intro pins s σ H D I h
 refine wpAny_Assign_Subscript (d6 (hv pins s σ H _ I h) λr s1 ⟨v,H1,I1,rv,q1⟩=>d6 (ho pins s1 σ H1 _ I1 q1) λu s2 ⟨x,H2,I2,rx,q2⟩=>d6 (hi pins s2 σ H2 _ I2 q2) λiv s3 ⟨y,H3,I3,ry,a,H4,ex,g,q3⟩=>?_) hs
 subst ex
 obtain rfl:u=Value.ref a:=rx
 exact BN hu I3 g ry rv λs4 I4=>⟨σ,H4,I4,q3⟩
end
theorem Ds {P:Program} {w:World} {H:Hp} (h:Heap) (hb:sysModules < h.objs.size):cw P w H (h.push { cls:=.type "dict",data:=.dict #[] }) h.objs.size (.dT []):=
 ⟨aah _,abc.mpr (abd (Zs hb)),[],.nil,_,#[],0,Zh _ rfl,⟨rfl,rfl,rfl⟩,rfl,rfl,List.nodup_nil⟩
section
variable {X:Cx} {pos:Pos}
end
def yI:List (TE×TE)->St->Hp->(List (V×V)->Hp->Prop)->Prop
 | [],_,H,Q=>Q [] H
 | (tk,tv) :: r,σ,H,Q=>tk σ H λx H1=>tv σ H1 λy H2=>yI r σ H2 λps H3=>Q ((x,y) :: ps) H3
abbrev VV:List (V×V)->List (Value×Value)->Prop:=Paired λp q=>RelV p.1 q.1 /\ RelV p.2 q.2
def Rq (X:Cx) (pos:Pos) (keys:List (Option Expr)) (values:List Expr) (Rr:List (TE×TE)):Prop:=
 ∀ (pins:List (Addr×Obj)) (s:Shared) (σ:St) (H:Hp) (Q:List (V×V)->Hp->Prop),Inv X pins σ H s->yI Rr σ H Q->
   wpAny (model X.prog X.w) X.A (evalPairs (pairTrees keys values X.env pos)) (λvs s'=>∃ ps H',Inv X pins σ H' s' /\ VV ps vs /\ Q ps H') X.xe s
theorem Ha {X:Cx} {pos:Pos}:Rq X pos [] [] []:=λpins s σ H Q I h=>pairTrees_nil_walk ⟨[],H,I,.nil,h⟩
theorem Du {X:Cx} {pos:Pos} {k v:Expr} {ks:List (Option Expr)} {vs:List Expr} {tk tv:TE} {Rr:List (TE×TE)} (hk:PE X k tk) (hv:PE X v tv) (hr:Rq X pos ks vs Rr):
  Rq X pos (some k :: ks) (v :: vs) ((tk,tv) :: Rr):=λpins s σ H Q I h=>
 pairTrees_cons_walk (d6 (hk pins s σ H _ I h) λu s1 ⟨x,H1,I1,rx,q1⟩=>d6 (hv pins s1 σ H1 _ I1 q1) λw2 s2 ⟨y,H2,I2,ry,q2⟩=>
  d6 (hr pins s2 σ H2 _ I2 q2) λws s3 ⟨ps,H3,I3,rel,q3⟩=>⟨(x,y) :: ps,H3,I3,.cons ⟨rx,ry⟩ rel,q3⟩)
structure M2 (X:Cx) (o:Expr) (m:Str) (apos:Pos) (e f:Expr) (gf:Pos):Prop where
 base:attributeBase o m X.env (eval o X.env)=eval o X.env
 V9:((backTo gf (starEach [e,f] X.env)).all (λx=> !x.1) && (backToKw gf (keywordEach [] X.env)).all (λx=>x.1.isSome)
  && decide (([e,f]:List Expr).length + ([]:List Keyword).length + (if ([]:List Keyword).isEmpty then 0 else 1) < 30))=true
 line:(apos.endLine == gf.line)=true
 trees:backTo gf (starEach [e,f] X.env)=[(false,eval e X.env),(false,eval f X.env)]
def J1 (H:Hp) (a:Addr):Prop:=(∃ aH,Rd H a (.dK aH)) \/ ∃ aH,Rd H a (.dT aH)
theorem L7 {X:Cx} {pins:List (Addr×Obj)} {σ:St} {H:Hp} {s:Shared} {a:Addr} (I:Inv X pins σ H s) (d:J1 H a):
  s.TypeIs (.ref a) "dict" /\ (∀ b,Value.ref a=.ref b->∃ ob,s.heap.get? b=some ob /\ ob.dict=none) /\ (a == sysModules)=false:=by
 rcases d with ⟨aH,e⟩ | ⟨aH,e⟩
 .obtain ⟨_,hd,vs,_,dd⟩:=wt I.cf e
  refine ⟨dd.typeIs,λb q=>?_,hd⟩
  cases q
  obtain ⟨ob,_,_,h1,h2,_⟩:=dd
  exact ⟨ob,h1,h2.2.1⟩
 .obtain ⟨_,hd,xs,_,dd⟩:=wu I.cf e
  refine ⟨dd.typeIs,λb q=>?_,hd⟩
  cases q
  obtain ⟨ob,_,_,h1,h2,_⟩:=dd
  exact ⟨ob,h1,h2.2.1⟩
section
variable {X:Cx} {pins:List (Addr×Obj)} {σ:St} {H:Hp} {s:Shared} {a:Addr} {y d:V} {u r:Value} {o:Option V} {A:Around} {E:Value->Shared->Prop}
theorem L8 {Q:Value->Shared->Prop} (hu:A.units + 1 < cLine) (I:Inv X pins σ H s) (g:tY H a y o) (ry:RelV y u) (rd:RelV d r) (h:∀ w' s',Inv X pins σ H s'->RelV (o.getD d) w'->Q w' s'):
  wpAny (model X.prog X.w) A (call (.builtin "dict.get") [.ref a,u,r]) Q E s:=by
 rcases g with ⟨aH,k,e,ey,l⟩ | ⟨aH,k,b,e,ey,eb,l⟩
 .subst ey
  obtain ⟨z,hd,vs,rel,dd⟩:=wt I.cf e
  refine call_meetsIn ab9 dd.typeIs PySem.F.entry_dict_get (PySem.F.args_dict_get_3 _ _ _) (meets_dict_get_default (cW X.prog X.w) a (Aj ry) hd r) ⟨_,dd.mapOf,h _ _ (I.tok _) ?_⟩
  rw [l]
  exact (rel.val k).getD rd
 .subst ey
  cases (show u=Value.ref b from ry)
  obtain ⟨z,hd,xs,rel,dd⟩:=wu I.cf e
  refine call_meetsIn ab9 dd.typeIs PySem.F.entry_dict_get (PySem.F.args_dict_get_3 _ _ _) (meetsH_dict_get_default (tupleKind (cW X.prog X.w)) a b hd r) ⟨tupleKind_room_in1 hu,k,xs,p9 I.cf eb,dd,h _ _ (I.tok _) ?_⟩
  rw [l]
  exact (rel.val k).getD rd
end
def L9 (td ty tx:TE):TE:=λσ H Q=>td σ H λx H1=>∃ a,x=.ref a /\ J1 H1 a /\ ty σ H1 λy H2=>tx σ H2 λz H3=>∃ o,tY H3 a y o /\ Q (o.getD z) H3
section
variable {X:Cx} {o e f:Expr} {apos gf:Pos} {td ty tx:TE}
theorem Dv (hu:X.A.units + 1 < cLine) (ho:PE X o td) (he:PE X e ty) (hf:PE X f tx) (m:M2 X o "get" apos e f gf):PE X (.Call (.Attribute o "get" apos) [e,f] [] gf) (L9 td ty tx):=by
 intro pins s σ H Q I h
 refine wpAny_Call_method m.base m.V9 m.line PySem.F.plainAttrs_dict ab9 PySem.F.type_dict_get (d6 (ho pins s σ H _ I h) λu s1 ⟨x,H1,I1,rx,a,ex,d,q1⟩=>?_)
 subst ex
 obtain rfl:u=Value.ref a:=rx
 obtain ⟨t1,t2,_⟩:=L7 I1 d
 refine ⟨t1,t2,?_⟩
 rw [m.trees]
 refine ab3 rfl (Calls.evalArgs_plain (abT (d6 (he pins s1 σ H1 _ I1 q1) λiv s2 ⟨y,H2,I2,ry,q2⟩=>
  abT (d6 (hf pins s2 σ H2 _ I2 q2) λfv s3 ⟨z,H3,I3,rz,ov,g,q3⟩=>Calls.spliced_nil ?_))))
 exact L8 hu I3 g ry rz λw' s4 I4 yw=>⟨_,H3,I4,yw,q3⟩
end
end L2
set_option maxHeartbeats 4000000
namespace L2
open PySem PySem.Spec PyProof.Rows
section
variable {X:Cx}
theorem aM:iR X (binaryOp .Mult) (rI IntMulOk λi j=>.int (i * j)):=ON λ_ _ _ _ _ _ _ hc q=>mul_int q hc
def Al (i j:Int):Prop:=j≠0 /\ Builtin.divisionGoesByPylong i j=false
theorem aT:iR X (binaryOp .FloorDiv) (rI Al λi j=>.int (i.fdiv j)):=ON λ_ _ _ _ _ _ _ hc q=>floordiv_int hc.1 q (.inl hc.2)
theorem sO {i j:Int} (h:Builtin.Int.intBits j<=9000):Builtin.divisionGoesByPylong i j=false:=by
 refine PyProof.noPylong_of_log2 ?_
 unfold Builtin.Int.intBits at h
 by_cases hj:j=0
 .subst hj; decide +kernel
 .rw [if_neg (by simpa using hj)] at h
  omega
theorem mul_right {i j:Int} (h1: -(2 ^ 64) < j) (h2:j < 2 ^ 64):IntMulOk i j:=.of_right (intBits_le_64 h1 h2)
theorem mul_left {i j:Int} (h1: -(2 ^ 64) < i) (h2:i < 2 ^ 64):IntMulOk i j:=.of_left (intBits_le_64 h1 h2)
def UQ (K:PySem.W.Frag) (H:Hp) (x:V) (t:String):Prop:=
 nS K H x (.type t) \/ (∃ a xs,x=.ref a /\ iX K H a xs /\ t="tuple") \/ (∃ a xs,x=.ref a /\ iW K H a xs /\ t="list")
def Sv (K:PySem.W.Frag):List V->Hp->VK->Prop:=λxs H Q=>∃ x n t b,xs=[x,.ty n] /\ UQ K H x t /\ PySem.W.kitOne K (.type t) (.type n)=some b /\ Q (.bl b) H
theorem Dw:eD X (.builtin "isinstance") (Sv X.K):=by
 intro pins s σ H xs us Q I r h
 obtain ⟨x,n,t,b,rfl,ty,e,q⟩:=h
 obtain ⟨u1,u2,rfl,r1,r2⟩:∃ u1 u2,us=[u1,u2] /\ RelV x u1 /\ RelV (.ty n) u2:=by
  cases r with
  | cons p q=>cases q with
    | cons p' q'=>cases q'; exact ⟨_,_,rfl,p,p'⟩
 cases (show u2=Value.type n from r2)
 have fin:∀ tk,EP X pins σ Q (.bool b) { s with toks:=tk }:=λtk=>⟨.bl b,H,I.tok _,rfl,q⟩
 rcases ty with ty | ⟨a,ys,rfl,hq,rfl⟩ | ⟨a,ys,rfl,hq,rfl⟩
 .exact BE I r1 ty e fin
 .cases (show u1=Value.ref a from r1)
  obtain ⟨its,_,p,_⟩:=I.tuple hq
  obtain ⟨o,h1,h2,_⟩:=p
  exact Z6 PySem.W.kitx_tuple I.rE ⟨o,h1,h2⟩ e (λz=>nomatch z) fin
 .cases (show u1=Value.ref a from r1)
  obtain ⟨its,_,p,_⟩:=I.list hq
  obtain ⟨o,n,h1,h2,_⟩:=p
  exact Z6 acE I.rE ⟨o,h1,h2⟩ e (λz=>nomatch z) fin
theorem Dx {K:PySem.W.Frag} {t:String}:PySem.W.kitOne K (.type t) (.type t)=some true:=by
 unfold PySem.W.kitOne
 rw [Zk (by simp)]
def Dn (P:Program) (w:World) (K:PySem.W.Frag) (mg:Str->Option Value) (base:Heap) (k:Nat) (x:Str) (ps:List Str) (sp:Sp):Prop:=
 ∃ f fd,lQ P w K mg base o6 k f fd ps sp /\ mg x=some (.ref f) /\ PySem.W.keepIn K (.ref f)=true /\ Binds K fd ps []
theorem qc {k kk:Nat} {x:Str} {ps:List Str} {sp:Sp} {e:Expr} {es:List Expr} {t:TA} {p pos:Pos} (D:Dn X.prog X.w X.K X.mg X.base k x ps sp) (hr:cJ kk X.A) (hk:k<=kk) (ha:PA X (e :: es) t) (hg:Gl X x:=by rfl)
  (mU:(x == ("__debug__":Str))=false:=by decide) (he:starEach (e :: es) X.env=(false,eval e X.env) :: starEach es X.env:=by rfl) (i4:(backTo pos (starEach es X.env)).any (·.1)=false:=by rfl):
  PE X (.Call (.Name x p) (e :: es) [] pos) (JU sp [] E0 t):=by
 obtain ⟨f,fd,F,m,kp,b⟩:=D
 exact GN F (hr.mono hk) hg m kp b .nil O4 ha mU he i4
structure Bs (mg:Str->Option Value):Prop where
 len:mg "len"=none
 range:mg "range"=none
 isinstance:mg "isinstance"=none
 max:mg "max"=none
 min:mg "min"=none
 int:mg "int"=none
 bool:mg "bool"=none
 tuple:mg "tuple"=none
 list:mg "list"=none
 abs:mg "abs"=none
 str:mg "str"=none
 sum:mg "sum"=none
 sorted:mg "sorted"=none
 reversed:mg "reversed"=none
 enumerate:mg "enumerate"=none
 set:mg "set"=none
 all:mg "all"=none
 zip:mg "zip"=none
 any:mg "any"=none
def Df (K:PySem.W.Frag) (mg:Str->Option Value) (x:Str) (st:Stmt) (ps:List Str):Prop:=∃ f fd,Dq K x x st f fd /\ mg x=some (.ref f) /\ Binds K fd ps []
theorem Df.ok {P:Program} {w:World} {K:PySem.W.Frag} {mg:Str->Option Value} {base:Heap} {x:Str} {st:Stmt} {N ps:List Str} {k:Nat} {sp:Sp} (F:Df K mg x st ps) (S:az N ps (ai st)) (len:∀ vs H Q E,sp vs H Q E->vs.length=ps.length)
  (kf:∀ (f:Addr) (cH:Value) (A:Around) (outer:List Env) (s:Shared) (H:Hp) (vs:List V) (Q:VK) (E:XK),cJ k (A.deeper (envOfC x (ai st) s.heap.objs.size f cH))->sp vs H Q E->
   ∃ t,jk (o3 o6 P w K mg base N x (ai st) f cH A outer s H E).CY (cA st) t /\ t { nx:=λ_ H'=>Q .gu H',rt:=Q } (start N vs) H):Dn P w K mg base (k + 1) x ps sp:=by
 obtain ⟨f,fd,F,m,b⟩:=F
 exact ⟨f,fd,F.ok S len (kf f),m,F.kp,b⟩
def Cn (mg:Str->Option Value) (x:Str) (v:V):Prop:=∃ u,mg x=some u /\ RelV v u
theorem ki {x:Str} {v:V} {pos:Pos} (c:Cn X.mg x v) (hg:Gl X x:=by rfl) (hd:(x == ("__debug__":Str))=false:=by decide):PE X (.Name x pos) (tC v):=by
 obtain ⟨u,m,r⟩:=c
 exact GB hg m r hd
end
theorem cx {H:Hp} {p:Addr} (h:H p=none) (o:HO):aA H (upd H p o):=λb u q=>by rw [aI (aN q h)]; exact q
theorem small {n:Nat} (h:n<=100000):n<=sizeLine:=ZQ h (by decide)
theorem yJ {n:Nat} (h:n<=100000):n < sizeLine:=aaa h (by decide)
section
variable {X:Cx}
def J4:V->List V->Hp->VK->Prop:=λx vs H Q=>∃ i:Int,x=.int i /\ vs=[] /\ Q (.int (Builtin.Int.intBits i:Nat)) H
theorem He:Rm X "int.bit_length" J4:=by
 intro pins s σ H x vs v us Q I rx rv h
 obtain ⟨i,rfl,rfl,q⟩:=h
 obtain ⟨t,rfl⟩:=rx
 cases rv
 exact call_int_bit_length ⟨.int _,H,I.tok _,⟨_,rfl⟩,q⟩
theorem Hf {o:Expr} {to:TE} {apos gf:Pos} (ho:PE X o to) (p5:attributeBase o "bit_length" X.env (eval o X.env)=eval o X.env:=by rfl) (p6:(apos.endLine == gf.line)=true:=by rfl):
  PE X (.Call (.Attribute o "bit_length" apos) [] [] gf) (OZ X.K "int" J4 to):=LV PySem.F.plainAttrs_int PySem.F.slot_int_bit_length PySem.F.type_int_bit_length He ho p5 p6
end
theorem aA.upd {H H':Hp} {l:Addr} (s:aA H H') (h:H l=none) (o:HO):aA H (upd H' l o):=λb u q=>by rw [aI (aN q h)]; exact s b u q
theorem yK:bootBuiltins "int"=some (.type "int"):=by decide +kernel
theorem Hg:bootBuiltins "bool"=some (.type "bool"):=by decide +kernel
theorem mZ:bootBuiltins "tuple"=some (.type "tuple"):=by decide +kernel
theorem pw:bootBuiltins "list"=some (.type "list"):=by decide +kernel
theorem df:bootBuiltins "len"=some (.builtin "len"):=by decide +kernel
theorem nW:bootBuiltins "abs"=some (.builtin "abs"):=by decide +kernel
theorem Dy:bootBuiltins "max"=some (.builtin "max"):=by decide +kernel
theorem Dz:bootBuiltins "min"=some (.builtin "min"):=by decide +kernel
theorem rQ:bootBuiltins "isinstance"=some (.builtin "isinstance"):=by decide +kernel
section
variable {X:Cx}
end
section
variable {X:Cx}
end
section
variable {X:Cx}
theorem lR {scope:Scope} {env:Env} (h:∀ y∈scope.names,y.2=.free->∃ c,env.cells.lookup y.1=some c):
  ∃ cl:List (Str×Addr),closureFor scope env=pure cl /\ (∀ n c,cl.lookup n=some c->env.cells.lookup n=some c) /\ ∀ n,(n,NameKind.free)∈scope.names->∃ c,cl.lookup n=some c:=by
 have go:∀ (l:List (Str×NameKind)) (cs:List (Str×Addr)),(∀ y∈l,y.2=.free->∃ c,env.cells.lookup y.1=some c)->(∀ n c,cs.lookup n=some c->env.cells.lookup n=some c)->
   ∃ cl:List (Str×Addr),(forIn l cs λx r=>(match x with | (name,kind)=>if (kind == NameKind.free)=true then (do let a <- cellOf env name; pure (ForInStep.yield ((name,a) :: r))) else pure (ForInStep.yield r):Sem (ForInStep (List (Str×Addr)))))=(pure cl:Sem _) /\
     (∀ n c,cl.lookup n=some c->env.cells.lookup n=some c) /\ (∀ n,(n,NameKind.free)∈l->∃ c,cl.lookup n=some c) /\ ∀ n c,cs.lookup n=some c->∃ c',cl.lookup n=some c':=by
  intro l
  induction l with
  | nil=>intro cs _ hc; exact ⟨cs,rfl,hc,λn hn=>by simp at hn,λn c e=>⟨c,e⟩⟩
  | cons y r ih=>
    intro cs hl hc
    obtain ⟨name,kind⟩:=y
    by_cases hk:kind=.free
    .subst hk
     obtain ⟨c,e⟩:=hl (name,.free) Zb rfl
     have NX:∀ n d,((name,c) :: cs).lookup n=some d->env.cells.lookup n=some d:=by
      intro n d q
      rw [ZR] at q
      cases hb:n == name with
      | true=>rw [hb] at q; cases q; rw [eq_of_beq hb]; exact e
      | false=>rw [hb] at q; exact hc n d q
     obtain ⟨cl,h1,h2,h3,h4⟩:=ih ((name,c) :: cs) (λy hy=>hl y (Y8 _ hy)) NX
     refine ⟨cl,?_,h2,λn hn=>?_,λn d q=>?_⟩
     .rw [List.forIn_cons]
      have ec:cellOf env name=pure c:=by unfold cellOf; rw [e]
      simp only [acY,aaW,ec,pure_bind]
      exact h1
     .rcases Y6.mp hn with z | z
      .cases z
       exact h4 name c (by rw [ZR]; simp)
      .exact h3 n z
     .by_cases hb:n == name
      .exact h4 n c (by rw [ZR,hb])
      .exact h4 n d (by rw [ZR]; simp only [hb]; exact q)
    .obtain ⟨cl,h1,h2,h3,h4⟩:=ih cs (λy hy=>hl y (Y8 _ hy)) hc
     refine ⟨cl,?_,h2,λn hn=>?_,h4⟩
     .rw [List.forIn_cons]
      have eb:(kind == NameKind.free)=false:=by simpa using hk
      simp only [eb,ZN,aaN,pure_bind]
      exact h1
     .rcases Y6.mp hn with z | z
      .cases z; exact absurd rfl hk
      .exact h3 n z
 obtain ⟨cl,h1,h2,h3,_⟩:=go scope.names [] h (λn c e=>by simp at e)
 refine ⟨cl,?_,h2,h3⟩
 simp only [closureFor]
 rw [h1]
 rfl
def cu (X:Cx) (scope:Scope) (N':List Str) (cl:List (Str×Addr)) (C:Addr) (s2:Shared) (H2:Hp) (fp:List Addr) (pins:List (Addr×Obj)):Cx:=
 { X with N:=N',fE:=s2,Bx:=H2,env:=compEnvC scope cl C X.env,outer:=X.stack,stack:=X.stack,ex:=fp,fn:=λ_=>false,pn:=X.pn ++ pins,xe:=λ_ _=>False }
def rR (ix:List Nat) (σ:St):St:=ix.map λj=>(σ[j]?).join
section
variable {scope:Scope} {x:Str} {ix:List Nat} {N':List Str} {cl:List (Str×Addr)} {C:Addr} {s2 s3:Shared} {H2:Hp} {fp:List Addr} {pins:List (Addr×Obj)} {σ:St}
theorem DA {j:Nat} {v:V} (h:(rR ix σ)[j]?=some (some v)):∃ i,ix[j]?=some i /\ σ[i]?=some (some v):=by
 unfold rR at h
 rw [Zl] at h
 cases e:ix[j]? with
 | none=>rw [e] at h; cases h
 | some i=>
   rw [e] at h
   have h':(σ[i]?).join=some v:=ZV h
   refine ⟨i,rfl,?_⟩
   cases q:σ[i]? with
   | none=>rw [q] at h'; cases h'
   | some w=>rw [q] at h'; rw [show w=some v from h']
abbrev Am (its:List Value) (n:Nat):Obj:={ cls:=.type "list",data:=.seq its.toArray n }
theorem Inv.J5 {X:Cx} {pins:List (Addr×Obj)} {σ:St} {H:Hp} {s:Shared} {D:Addr} {ys:List V} {its:List Value} {n:Nat} (I:Inv X pins σ H s) (hD:H D=none) (hs:X.fE.heap.objs.size<=D) (hl:D≠X.env.locals) (hc:∀ x c,X.env.cells.lookup x=some c->c≠D)
  (hp:∀ p∈X.pn ++ pins,p.1≠D) (e:s.heap.get? D=some (Am its n)) (r:bj ys its) (hz:ys.length<=sizeLine):Inv X pins σ (upd H D (.lst ys)) s:=by
 have h:=I.step (H':=upd H D (.lst ys)) (h':=s.heap) (g':=s.gens) (t':=s.toks) (d':=s.drawn) (ch:=[D]) (λb hb=>by
   have e:b=D:=by simpa using hb
   subst e
   exact ⟨.inr hs,hl,hc,hp⟩)
  (λb o _ _ _ q _=>q) (λb o _ _ _ q _=>⟨o.slots,q⟩) (λb o hb _ q=>by rw [aI (by simpa using hb)]; exact q) (λb o _ q=>⟨o,q⟩)
  (λb xs q=>by rw [aI (aN q hD)]; exact q) (λb o u q=>by rw [aI (aN q hD)]; exact q) (λb ps q=>⟨#[],by rw [aI (aN q hD),acw]; exact q⟩) (λm hm=>hm) (λb u q=>?_) I.bare
 .exact h
 .by_cases hb:b=D
  .subst hb
   rw [bC] at q; cases q
   exact ⟨hz,its,n,r,e⟩
  .rw [aI hb] at q
   exact (I.cf b u q).rK (λ_ _ _ z=>z) (λc z=>by rw [aI (aN z hD)]; exact z) λc xs z=>z.new hD
theorem BO (I0:Inv X pins σ H2 s2) (hC:s2.heap.objs.size<=C) {D:Addr} (hD:s2.heap.objs.size<=D) (hf:∀ b∈fp,j0 X pins H2 b) {cX:St} {H:Hp} {s1:Shared} {ys:List V} {its:List Value} {n:Nat} {more:List (Addr×Obj)}
  (I:Inv (cu X scope N' cl C s2 H2 fp pins) ((D,Am its n) :: more) cX H s1) (r:bj ys its) (hz:ys.length<=sizeLine) {h':Heap} (hs:Heap.SameBut C s1.heap h') (J6:D≠C):
  Inv X pins σ (upd H D (.lst ys)) { s1 with heap:=h' }:=by
 have nC:∀ b o,s2.heap.get? b=some o->b≠C:=λb o e=>Zs (Zi (Zf e) hC)
 have B:Un (lJ X.stack) fp H2 H s2.heap s1.heap:=I.base
 have fC:H C=none:=I.free
 have pD:=I.pin (D,Am its n) (Zg _ Zb)
 have u:Un (lJ X.stack) fp H2 H s2.heap h':=⟨λb o e n hb hx=>(hs.2 b (nC b o e)).trans (B.keep b o e n hb hx),λb o e n hb hx=>by
   obtain ⟨sl,q⟩:=B.slot b o e n hb hx
   exact ⟨sl,(hs.2 b (nC b o e)).trans q⟩,B.free,λb o e hx=>by
   obtain ⟨o',q⟩:=B.there b o e hx
   exact ⟨o',(hs.2 b (nC b o e)).trans q⟩,B.pR,B.rL,B.tM⟩
 have cf:lI X.prog X.w H h':=λb o e=>(I.cf b o e).rK (λc v hc q=>(hs.2 c (by
   rintro rfl
   rcases hc with z | z
   .subst z; rw [fC] at e; cases e
   .rw [fC] at z; cases z)).trans q) (λ_ q=>q) λ_ _ q=>q
 have I1:Inv X pins σ H { s1 with heap:=h' }:=I0.OB (s':={ s1 with heap:=h' }) (ch:=fp) I.os u cf I.bare λb hb=>⟨(hf b hb).2.2.2.1,(hf b hb).2.1,(hf b hb).2.2.2.2.1,(hf b hb).2.2.2.2.2⟩
 refine I1.J5 (its:=its) (n:=n) pD.2.1 (ZQ I0.sz hD) (aa2 (Zi I0.lt hD)) (λa c e z=>?_) (λp hp z=>?_) ((hs.2 D J6).trans pD.1) r hz
 .obtain ⟨v,q⟩:=I0.cell a c e
  exact absurd (Zi q.lt (by rw [z]; exact hD)) (ZU _)
 .exact absurd (Zi (Zf (I0.pin p hp).1) (by rw [z]; exact hD)) (ZU _)
end
section
variable {scope:Scope} {x:Str} {ix:List Nat} {N':List Str} {elt iter:Expr} {px pos:Pos} {wi:TI} {te:TE}
end
def Hh (sc scope:Scope):List (Str×NameKind):=scope.names.map λ(n,k)=>if (k == .free && sc.kind == .function && sc.names.lookup n == some .cell) then (n,.cell) else (n,k)
theorem lookup_mem {n:Str} {k:NameKind}:∀ {l:List (Str×NameKind)},l.lookup n=some k->(n,k)∈l
 | [],h=>by simp at h
 | (a,b) :: r,h=>by
   rw [ZR] at h
   cases e:n == a with
   | true=>rw [e] at h; cases h; rw [eq_of_beq e]; exact Zb
   | false=>rw [e] at h; exact Y8 _ (lookup_mem h)
section
variable {scope:Scope} {x:Str} {elt iter:Expr} {px pos:Pos} {wi:TI} {te:TE}
end
end
section
variable {X:Cx} {pins:List (Addr×Obj)} {σ:St} {H:Hp} {s:Shared}
end
section
variable {X:Cx}
end
abbrev iS:=Int×Int
def dF (q:iS):PyData:=.tuple [.int q.1,.int q.2]
def dP (l:List iS):PyData:=.list (l.map dF)
theorem DB {α:Type} {xs:List α} {v:α} (h:xs[xs.length - 1]?=some v):o4 xs (-1)=some v:=by
 have hl:0 < xs.length:=by
  have:=(Zd.mp h).1
  omega
 have e:GY xs.length (-1)=some (xs.length - 1):=by
  unfold GY
  rw [Zj (by decide),Zk (by omega)]
  congr 1
  omega
 unfold o4
 rw [e]
 exact h
abbrev D:=PyData
abbrev DS:=List (Option D)
def bX:List (Addr×List V):=[(149,[.int (0),.int (1)]),(169,[.int (1),.int (1)])]
def bY:List (Addr×Pos×Str):=[(206,⟨130,44,130,70⟩,"by_falling_ratio.<locals>.<lambda>"),(218,⟨145,28,145,65⟩,"in_order.<locals>.<lambda>")]
theorem aA.kj {H H':Hp} {a:Addr} {xs:List V} (s:aA H H') (h:cV H a xs):cV H' a xs:=by
 rcases h with h | ⟨ob,h⟩
 .exact .inl (s _ _ h)
 .exact .inr ⟨ob,s _ _ h⟩
def wo (H:Hp) (A:List Addr):Hp:=λa=>if a∈A then none else H a
section
variable {K:PySem.W.Frag} {H H':Hp} {A A':List Addr} {a l p r:Addr} {o:HO}
theorem bp (h:a∉A):wo H A a=H a:=by unfold wo; rw [if_neg h]
theorem jU (h:a∈A):wo H A a=none:=by unfold wo; rw [if_pos h]
theorem fU (h:wo H A a=some o):a∉A /\ H a=some o:=by
 unfold wo at h
 split at h
 .cases h
 .exact ⟨by assumption,h⟩
theorem cB:aA (wo H A) H:=λ_ _ h=>(fU h).2
theorem bR (s:aA H H'):aA (wo H A) (wo H' A):=λb u h=>by
 obtain ⟨h1,h2⟩:=fU h
 rw [bp h1]; exact s b u h2
theorem iG (h:∀ a∈A',a∈A):aA (wo H A) (wo H A'):=λb u q=>by
 obtain ⟨h1,h2⟩:=fU q
 rw [bp λz=>h1 (h b z)]; exact h2
theorem qd:wo H []=H:=by funext a; exact bp (by simp)
theorem DC (h:p∉A):wo (upd H p o) A=upd (wo H A) p o:=by
 funext a
 by_cases e:a=p
 .subst e; rw [bp h,bC,bC]
 .rw [aI e]
  by_cases z:a∈A
  .rw [jU z,jU z]
  .rw [bp z,bp z,aI e]
theorem DD (h:l∈A):wo (upd H l o) A=wo H A:=by
 funext a
 by_cases z:a∈A
 .rw [jU z,jU z]
 .rw [bp z,bp z,aI]
  intro e; subst e; exact z h
theorem wy (h:H r=none):wo (upd H r o) (r :: A)=wo H A:=by
 funext a
 by_cases e:a=r
 .subst e
  rw [jU (by simp)]
  by_cases z:a∈A
  .rw [jU z]
  .rw [bp z,h]
 .by_cases z:a∈A
  .rw [jU (by simp [z]),jU z]
  .rw [bp (by simp [e,z]),bp z,aI e]
theorem An (s:aA H H') (h:H r=none):aA (wo H A) (wo H' (r :: A)):=λb u q=>by
 obtain ⟨h1,h2⟩:=fU q
 rw [bp (by simp only [Y6,ac9]; exact ⟨aN h2 h,h1⟩)]
 exact s b u h2
def DE:HO->Prop
 | .lst _=>True
 | .dT _=>True
 | _=>False
def Ls (A:List Addr) (H:Hp):Prop:=(∀ a∈A,∃ o,H a=some o /\ DE o) /\ (∀ p xs,(p,xs)∈bX->cV H p xs) /\ ∀ p y q,(p,y,q)∈bY->H p=some (.lam y q)
theorem Ls.same (h:Ls A H) (s:aA H H'):Ls A H':=⟨λa ha=>let ⟨o,e,q⟩:=h.1 a ha; ⟨o,s _ _ e,q⟩,λp xs m=>s.kj (h.2.1 p xs m),λp y q m=>s _ _ (h.2.2 p y q m)⟩
theorem cV.apart {xs:List V} (t:cV H p xs) (e:H l=some o) (w:DE o):p≠l:=λz=>by
 subst z
 rcases t with t | ⟨ob,t⟩ <;> rw [e] at t <;> cases t <;> exact w
theorem cV.wo {xs:List V} (t:cV H p xs) (n:p∉A):cV (L2.wo H A) p xs:=by
 rcases t with t | ⟨ob,t⟩
 .exact .inl (by rw [bp n]; exact t)
 .exact .inr ⟨ob,by rw [bp n]; exact t⟩
theorem Ls.free (h:Ls A H) (n:H p=none):p∉A:=λz=>by
 obtain ⟨ys,e,_⟩:=h.1 p z
 rw [n] at e; cases e
end
def m7:Key->D:=Sum.elim .int .str
mutual
inductive HD (K:PySem.W.Frag) (H:Hp):V->D->Prop
 | gu:HD K H .gu .none
 | bl (b:Bool):HD K H (.bl b) (.bool b)
 | int (i:Int):HD K H (.int i) (.int i)
 | str (x:Str):HD K H (.str x) (.str x)
 | lst {a:Addr} {xs:List V} {ds:List D}:yi K H a xs->cg K H xs ds->HD K H (.ref a) (.list ds)
 | tup {a:Addr} {xs:List V} {ds:List D}:cV H a xs->cg K H xs ds->HD K H (.ref a) (.tuple ds)
 | rF {a:Addr} {aH:List (List Key×V)} {kds:List (D×D)}:H a=some (.dT aH)->kds.map (·.1)=aH.map (λp=>PyData.tuple (p.1.map m7))->cg K H (aH.map (·.2)) (kds.map (·.2))->HD K H (.ref a) (.dict kds)
 | fn {f c:Addr} {q:Str}:H c=some (.code q)->HD K H (.ref f) (.dict [(.list [],.tuple [.int (f:Nat),.int (c:Nat),.str q])])
inductive cg (K:PySem.W.Frag) (H:Hp):List V->List D->Prop
 | nil:cg K H [] []
 | cons {x:V} {xs:List V} {d:D} {ds:List D}:HD K H x d->cg K H xs ds->cg K H (x :: xs) (d :: ds)
end
theorem aA.rd {H H':Hp} {a:Addr} {u:HO} (s:aA H H') (h:Rd H a u):Rd H' a u:=by
 rcases h with h | ⟨o,h⟩
 .exact .inl (s _ _ h)
 .exact .inr ⟨o,s _ _ h⟩
theorem yi.of {K:PySem.W.Frag} {H:Hp} {a:Addr} {xs:List V} (h:H a=some (.lst xs)):yi K H a xs:=.inl (.inl h)
theorem yi.sq {K:PySem.W.Frag} {H:Hp} {a:Addr} {xs:List V} (h:yi K H a xs):iW K H a xs:=by
 rcases h with h | ⟨its,n,h1,h2,h3⟩
 .exact .inl h
 .exact .inr ⟨_,its.toArray,n,h1,rfl,rfl,rfl,by rw [List.size_toArray]; exact h2,by simpa using h3⟩
theorem yi.same {K:PySem.W.Frag} {H H':Hp} {a:Addr} {xs:List V} (s:aA H H') (h:yi K H a xs):yi K H' a xs:=by
 rcases h with h | h
 .exact .inl (s.rd h)
 .exact .inr h
theorem Inv.UR {X:Cx} {pins:List (Addr×Obj)} {σ:St} {H:Hp} {s:Shared} {a:Addr} {xs:List V} (I:Inv X pins σ H s) (h:yi X.K H a xs):xs.length<=sizeLine /\ ∃ (its:List Value) (n:Nat),bj xs its /\ s.heap.get? a=some { cls:=.type "list",data:=.seq its.toArray n }:=by
 rcases h with h | ⟨its,n,h1,h2,h3⟩
 .exact h.ok I.cf
 .exact ⟨by rw [h3.length]; exact h2,its,n,h3,I.rE a _ h1⟩
theorem HD.same {K:PySem.W.Frag} {H H':Hp} (e:aA H H') {x:V} {d:D} (h:HD K H x d):HD K H' x d:=
 HD.rec (motive_1:=λx d _=>HD K H' x d) (motive_2:=λx d _=>cg K H' x d) .gu .bl .int .str (λhq _ i=>.lst (hq.same e) i) (λhq _ i=>.tup (e.kj hq) i) (λhq k _ i=>.rF (e _ _ hq) k i) (λh=>.fn (e _ _ h)) .nil (λ_ _ i j=>.cons i j) h
theorem cg.same {K:PySem.W.Frag} {H H':Hp} (e:aA H H') {x:List V} {d:List D} (h:cg K H x d):cg K H' x d:=
 cg.rec (motive_1:=λx d _=>HD K H' x d) (motive_2:=λx d _=>cg K H' x d) .gu .bl .int .str (λhq _ i=>.lst (hq.same e) i) (λhq _ i=>.tup (e.kj hq) i) (λhq k _ i=>.rF (e _ _ hq) k i) (λh=>.fn (e _ _ h)) .nil (λ_ _ i j=>.cons i j) h
section
variable {X:Cx} {pins:List (Addr×Obj)} {σ:St} {H:Hp} {s:Shared}
theorem ff {d:D} (h:SeqAt.shaped d=true):d.canLay0=true:=by
 unfold SeqAt.shaped at h
 rw [ZE] at h
 exact h.1
theorem Ma (I:Inv X pins σ H s) {a:Addr} {xs:List V} {ds:List D} {u:Value} (hq:yi X.K H a xs) (r:RelV (.ref a) u) (h:∀ {us},bj xs us->∃ as,ReadsAll s.heap us ds as):∃ as,Reads s.heap u (.list ds) as:=by
 cases (show u=Value.ref a from r)
 obtain ⟨its,rv,⟨o,n,h1,h2,_,h3⟩,_⟩:=I.list hq.sq
 obtain ⟨as,q⟩:=h rv
 exact ⟨_,.list h1 h2 h3 (by simpa using q)⟩
theorem Mb (I:Inv X pins σ H s) {a:Addr} {xs:List V} {ds:List D} {u:Value} (hq:cV H a xs) (r:RelV (.ref a) u) (h:∀ {us},bj xs us->∃ as,ReadsAll s.heap us ds as):∃ as,Reads s.heap u (.tuple ds) as:=by
 cases (show u=Value.ref a from r)
 obtain ⟨its,rv,⟨o,h1,h2,n,h3⟩,_⟩:=I.tuple (.inl hq)
 obtain ⟨as,q⟩:=h rv
 exact ⟨_,.tuple h1 h2 h3 (by simpa using q)⟩
theorem HD.reads (I:Inv X pins σ H s) {x:V} {d:D} (h:HD X.K H x d):∀ {u:Value},RelV x u->PyData.canLay0 d=true->∃ as,Reads s.heap u d as:=
 HD.rec (motive_1:=λx d _=>∀ {u},RelV x u->d.canLay0=true->∃ as,Reads s.heap u d as) (motive_2:=λx d _=>∀ {u},bj x u->PyData.canLayAll0 d=true->∃ as,ReadsAll s.heap u d as)
  (λ{u} r _=>by cases (show u=Value.none from r); exact ⟨_,.none⟩) (λb {u} r _=>by cases (show u=Value.bool b from r); exact ⟨_,.bool b⟩) (λi {u} r _=>by obtain ⟨t,rfl⟩:=r; exact ⟨_,.int i t⟩) (λi {u} r _=>by obtain ⟨t,rfl⟩:=r; exact ⟨_,.str i t⟩)
  (λ{_ _ _} hq _ i {_} r c=>Ma I hq r λrv=>i rv (by rw [PyData.canLay0] at c; exact c)) (λ{_ _ _} hq _ i {_} r c=>Mb I hq r λrv=>i rv (by rw [PyData.canLay0] at c; exact c)) (λ{_ _ _} _ _ _ _ {_} _ c=>by rw [PyData.canLay0] at c; cases c) (λ{_ _ _} _ {_} _ c=>by rw [PyData.canLay0] at c; cases c)
  (λ{_} r _=>by cases r; exact ⟨_,.nil⟩) (λ{_ _ _ _} _ _ i j {_} r c=>by
   rw [PyData.canLayAll0,ZE] at c
   cases r with
   | cons r rs=>
     obtain ⟨as,q⟩:=i r c.1
     obtain ⟨bs,qs⟩:=j rs c.2
     exact ⟨_,.cons q qs⟩) h
end
theorem cg.len {K:PySem.W.Frag} {H:Hp}:∀ {xs:List V} {ds:List D},cg K H xs ds->xs.length=ds.length
 | _,_,.nil=>rfl
 | _,_,.cons _ t=>by rw [Zp,Zp,cg.len t]
theorem cg.get {K:PySem.W.Frag} {H:Hp}:∀ {xs:List V} {ds:List D} {i:Nat} {d:D},cg K H xs ds->ds[i]?=some d->∃ x,xs[i]?=some x /\ HD K H x d
 | _,_,_,_,.nil,e=>by simp at e
 | _,_,0,_,.cons r _,e=>by simp at e; subst e; exact ⟨_,rfl,r⟩
 | _,_,i + 1,y,.cons _ t,e=>by
   obtain ⟨u,h1,h2⟩:=cg.get (i:=i) (d:=y) t (by simpa using e)
   exact ⟨u,by simpa using h1,h2⟩
theorem cg.app {K:PySem.W.Frag} {H:Hp}:∀ {xs US:List V} {ds Sw:List D},cg K H xs ds->cg K H US Sw->cg K H (xs ++ US) (ds ++ Sw)
 | _,_,_,_,.nil,s=>s
 | _,_,_,_,.cons r t,s=>.cons r (cg.app t s)
theorem cg.DF {K:PySem.W.Frag} {H:Hp}:∀ {xs:List V} {ds:List D} (n:Nat),cg K H xs ds->cg K H (xs.take n) (ds.take n)
 | _,_,0,_=>.nil
 | _,_,_ + 1,.nil=>.nil
 | _,_,n + 1,.cons r t=>.cons r (cg.DF n t)
theorem cg.DG {K:PySem.W.Frag} {H:Hp}:∀ {xs:List V} {ds:List D} (n:Nat),cg K H xs ds->cg K H (xs.drop n) (ds.drop n)
 | _,_,0,r=>r
 | _,_,_ + 1,.nil=>.nil
 | _,_,n + 1,.cons _ t=>cg.DG n t
theorem cg.ints {K:PySem.W.Frag} {H:Hp}:∀ ns:List Int,cg K H (ns.map V.int) (ns.map PyData.int)
 | []=>.nil
 | n :: ns=>.cons (.int n) (cg.ints ns)
theorem m8 {H:Hp} {A:List Addr} {a:Addr} {xs:List V} (h:cV H a xs) (al:Ls A H):cV (wo H A) a xs:=by
 rcases h with h | ⟨ob,h⟩
 .refine .inl ?_
  rw [bp λz=>?_]; exact h
  obtain ⟨o,e,q⟩:=al.1 a z
  rw [h] at e; cases e; exact q
 .refine .inr ⟨ob,?_⟩
  rw [bp λz=>?_]; exact h
  obtain ⟨o,e,q⟩:=al.1 a z
  rw [h] at e; cases e; exact q
mutual
def yj:D->Bool
 | .list _=>false
 | .dict _=>false
 | .tuple ds=>nX ds
 | _=>true
def nX:List D->Bool
 | []=>true
 | d :: ds=>yj d && nX ds
end
theorem HD.off {K:PySem.W.Frag} {H:Hp} {A:List Addr} (al:Ls A H) {x:V} {d:D} (h:HD K H x d):yj d=true->HD K (wo H A) x d:=
 HD.rec (motive_1:=λx d _=>yj d=true->HD K (wo H A) x d) (motive_2:=λx d _=>nX d=true->cg K (wo H A) x d) (λ_=>.gu) (λb _=>.bl b) (λb _=>.int b) (λb _=>.str b) (λ_ _ _ f=>by rw [yj] at f; cases f) (λhq _ i f=>.tup (m8 hq al) (i (by rw [yj] at f; exact f))) (λ_ _ _ _ f=>by rw [yj] at f; cases f) (λ_ f=>by rw [yj] at f; cases f) (λ_=>.nil) (λ_ _ i j f=>by rw [nX,ZE] at f; exact .cons (i f.1) (j f.2)) h
theorem cg.off {K:PySem.W.Frag} {H:Hp} {A:List Addr} (al:Ls A H) {x:List V} {d:List D} (h:cg K H x d):nX d=true->cg K (wo H A) x d:=
 cg.rec (motive_1:=λx d _=>yj d=true->HD K (wo H A) x d) (motive_2:=λx d _=>nX d=true->cg K (wo H A) x d) (λ_=>.gu) (λb _=>.bl b) (λb _=>.int b) (λb _=>.str b) (λ_ _ _ f=>by rw [yj] at f; cases f) (λhq _ i f=>.tup (m8 hq al) (i (by rw [yj] at f; exact f))) (λ_ _ _ _ f=>by rw [yj] at f; cases f) (λ_ f=>by rw [yj] at f; cases f) (λ_=>.nil) (λ_ _ i j f=>by rw [nX,ZE] at f; exact .cons (i f.1) (j f.2)) h
inductive yL (K:PySem.W.Frag) (H:Hp):HO->D->Prop
 | lst {ys:List V} {ds:List D}:cg K H ys ds->yL K H (.lst ys) (.list ds)
 | rF {aH:List (List Key×V)} {kds:List (D×D)}:kds.map (·.1)=aH.map (λp=>PyData.tuple (p.1.map m7))->cg K H (aH.map (·.2)) (kds.map (·.2))->yL K H (.dT aH) (.dict kds)
theorem yL.same {K:PySem.W.Frag} {H H':Hp} {o:HO} {d:D} (s:aA H H') (h:yL K H o d):yL K H' o d:=by
 cases h with
 | lst q=>exact .lst (q.same s)
 | rF k q=>exact .rF k (q.same s)
theorem yL.own {K:PySem.W.Frag} {H:Hp} {o:HO} {d:D} (h:yL K H o d):DE o:=by cases h <;> trivial
theorem yL.hd {K:PySem.W.Frag} {H:Hp} {o:HO} {d:D} {l:Addr} (h:yL K H o d) (e:H l=some o):HD K H (.ref l) d:=by
 cases h with
 | lst q=>exact .lst (.of e) q
 | rF k q=>exact .rF e k q
def BP:List (D×D)->Bool
 | (.list [],_) :: _=>true
 | _=>false
def gK (K:PySem.W.Frag) (A:List Addr) (H:Hp) (v:V) (d:D):Prop:=HD K (wo H A) v d \/ ∃ l o,v=.ref l /\ H l=some o /\ yL K (wo H A) o d
section
variable {K:PySem.W.Frag} {H H':Hp} {A A':List Addr} {v:V} {d:D}
theorem gK.of (h:HD K (wo H A) v d):gK K A H v d:=.inl h
theorem gK.same (s:aA H H') (h:gK K A H v d):gK K A H' v d:=by
 rcases h with h | ⟨l,o,rfl,e,q⟩
 .exact .inl (h.same (bR s))
 .exact .inr ⟨l,o,rfl,s _ _ e,q.same (bR s)⟩
theorem gK.Hi (h:gK K A H v d):HD K H v d:=by
 rcases h with h | ⟨l,o,rfl,e,q⟩
 .exact h.same cB
 .exact (q.same cB).hd e
theorem gK.list {ds:List D} (h:gK K A H v (.list ds)):∃ l ys,v=.ref l /\ yi K H l ys /\ cg K (wo H A) ys ds:=by
 rcases h with h | ⟨l,o,rfl,e,q⟩
 .cases h with
  | lst hq h=>exact ⟨_,_,rfl,hq.same cB,h⟩
 .cases q with
  | lst q=>exact ⟨l,_,rfl,.of e,q⟩
theorem gK.O7 {ds:List D} (h:gK K A H v (.tuple ds)):∃ l ys,v=.ref l /\ cV H l ys /\ cg K (wo H A) ys ds:=by
 rcases h with h | ⟨l,o,rfl,e,q⟩
 .cases h with
  | tup hq h=>exact ⟨_,_,rfl,cB.kj hq,h⟩
 .cases q
theorem gK.tuple {ds:List D} (h:gK K A H v (.tuple ds)):∃ l ys,v=.ref l /\ iX K H l ys /\ cg K (wo H A) ys ds:=
 let ⟨l,ys,a,b,c⟩:=h.O7; ⟨l,ys,a,.inl b,c⟩
theorem gK.dict {kds:List (D×D)} (h:gK K A H v (.dict kds)) (hf:BP kds=false):∃ l aH,v=.ref l /\ H l=some (.dT aH) /\ kds.map (·.1)=aH.map (λp=>PyData.tuple (p.1.map m7)) /\ cg K (wo H A) (aH.map (·.2)) (kds.map (·.2)):=by
 rcases h with h | ⟨l,o,rfl,e,q⟩
 .cases h with
  | rF hq k h=>exact ⟨_,_,rfl,cB _ _ hq,k,h⟩
  | fn hq=>cases hf
 .cases q with
  | rF k q=>exact ⟨l,_,rfl,e,k,q⟩
theorem gK.fz {ds:List D} (h:gK K A H v (.tuple ds)):HD K (wo H A) v (.tuple ds):=by
 rcases h with h | ⟨l,o,rfl,e,q⟩
 .exact h
 .cases q
theorem gK.int {i:Int} (h:gK K A H v (.int i)):v=.int i:=by
 rcases h with h | ⟨l,o,rfl,e,q⟩
 .cases h; rfl
 .cases q
theorem gK.bool {b:Bool} (h:gK K A H v (.bool b)):v=.bl b:=by
 rcases h with h | ⟨l,o,rfl,e,q⟩
 .cases h; rfl
 .cases q
theorem gK.str {b:Str} (h:gK K A H v (.str b)):v=.str b:=by
 rcases h with h | ⟨l,o,rfl,e,q⟩
 .cases h; rfl
 .cases q
theorem gK.gu (h:gK K A H v .none):v=.gu:=by
 rcases h with h | ⟨l,o,rfl,e,q⟩
 .cases h; rfl
 .cases q
end
structure Rel (K:PySem.W.Frag) (O:List Nat) (U A0:List Addr) (σ:St) (δ:DS) (H:Hp):Prop where
 len:σ.length=δ.length
 fz:∀ (i:Nat) d,i∉O->δ[i]?=some (some d)->∃ v,σ[i]?=some (some v) /\ HD K (wo H (U ++ A0)) v d
 ow:∀ (i:Nat) d,i∈O->δ[i]?=some (some d)->∃ l o,σ[i]?=some (some (.ref l)) /\ l∈U /\ H l=some o /\ yL K (wo H (U ++ A0)) o d
 inj:∀ (i j:Nat) d e l,i∈O->j∈O->i≠j->δ[i]?=some (some d)->δ[j]?=some (some e)->σ[i]?=some (some (.ref l))->σ[j]?=some (some (.ref l))->False
 al:Ls (U ++ A0) H
section
variable {K:PySem.W.Frag} {O:List Nat} {U A0:List Addr} {σ:St} {δ:DS} {H H':Hp}
theorem Rel.same (R:Rel K O U A0 σ δ H) (s:aA H H'):Rel K O U A0 σ δ H' where
 len:=R.len
 fz:=λi d hi e=>let ⟨v,a,b⟩:=R.fz i d hi e; ⟨v,a,b.same (bR s)⟩
 ow:=λi d hi e=>let ⟨l,o,a,c,f,g⟩:=R.ow i d hi e; ⟨l,o,a,c,s _ _ f,g.same (bR s)⟩
 inj:=R.inj
 al:=R.al.same s
theorem Rel.Sx (R:Rel K O U A0 σ δ H) (i:Nat) (d:D) (hi:i∈O) (e:δ[i]?=some (some d)):(∃ l ys ds,σ[i]?=some (some (.ref l)) /\ d=.list ds /\ l∈U /\ H l=some (.lst ys) /\ cg K (wo H (U ++ A0)) ys ds) \/ ∃ kds,d=.dict kds:=by
 obtain ⟨l,o,a,c,f,g⟩:=R.ow i d hi e
 cases g with
 | lst q=>exact .inl ⟨l,_,_,a,rfl,c,f,q⟩
 | rF k q=>exact .inr ⟨_,rfl⟩
theorem Rel.at (R:Rel K O U A0 σ δ H) {i:Nat} {d:D} (e:δ[i]?=some (some d)):∃ v,σ[i]?=some (some v) /\ gK K (U ++ A0) H v d:=by
 by_cases hi:i∈O
 .obtain ⟨l,o,a,c,f,g⟩:=R.ow i d hi e
  exact ⟨_,a,.inr ⟨l,o,rfl,f,g⟩⟩
 .obtain ⟨v,a,b⟩:=R.fz i d hi e
  exact ⟨v,a,.inl b⟩
theorem Rel.set (R:Rel K O U A0 σ δ H) {i:Nat} {v:V} {d:D} (hi:i∉O) (h:HD K (wo H (U ++ A0)) v d):Rel K O U A0 (σ.set i (some v)) (δ.set i (some d)) H where
 len:=by rw [aad,aad]; exact R.len
 fz:=λj e hj q=>by
  by_cases g7:i=j
  .subst g7
   have hl:i < δ.length:=by have:=(Zd.mp q).1; rwa [aad] at this
   rw [ZJ hl] at q
   cases q
   exact ⟨v,ZJ (by rw [R.len]; exact hl),h⟩
  .rw [Zv g7] at q ⊢
   exact R.fz j e hj q
 ow:=λj e hj q=>by
  have g7:i≠j:=λz=>hi (z ▸ hj)
  rw [Zv g7] at q ⊢
  exact R.ow j e hj q
 inj:=λj k d e l hj hk J7 q1 q2 e1 e2=>by
  have g7:i≠j:=λz=>hi (z ▸ hj)
  have J8:i≠k:=λz=>hi (z ▸ hk)
  rw [Zv g7] at q1 e1
  rw [Zv J8] at q2 e2
  exact R.inj j k d e l hj hk J7 q1 q2 e1 e2
 al:=R.al
theorem Rel.O8 (R:Rel K O U A0 σ δ H) (s:aA H H') {i:Nat} {r:Addr} {ob:HO} {db:D} (hr:H r=none) (h:H' r=some ob) (q:yL K (wo H' (r :: (U ++ A0))) ob db) (hi:i∈O):
  Rel K O (r :: U) A0 (σ.set i (some (.ref r))) (δ.set i (some db)) H' where
 len:=by rw [aad,aad]; exact R.len
 fz:=λj e hj q=>by
  have g7:i≠j:=λz=>hj (z ▸ hi)
  rw [Zv g7] at q ⊢
  obtain ⟨v,a,b⟩:=R.fz j e hj q
  exact ⟨v,a,b.same (An s hr)⟩
 ow:=λj e hj w=>by
  by_cases g7:i=j
  .subst g7
   have hl:i < δ.length:=by have:=(Zd.mp w).1; rwa [aad] at this
   rw [ZJ hl] at w
   cases w
   exact ⟨r,ob,ZJ (by rw [R.len]; exact hl),by simp,h,q⟩
  .rw [Zv g7] at w ⊢
   obtain ⟨l,o,a,c,f,g⟩:=R.ow j e hj w
   exact ⟨l,o,a,by simp [c],s _ _ f,g.same (An s hr)⟩
 inj:=λj k d e l hj hk J7 q1 q2 e1 e2=>by
  have O9:∀ {x:D},(δ.set i (some db))[i]?=some (some x)->i < δ.length:=λw=>by have:=(Zd.mp w).1; rwa [aad] at this
  by_cases g7:i=j
  .subst g7
   have J8:i≠k:=J7
   rw [ZJ (by rw [R.len]; exact O9 q1)] at e1
   rw [Zv J8] at q2 e2
   cases e1
   obtain ⟨l,o,a,c,f,g⟩:=R.ow k e hk q2
   rw [a] at e2; cases e2
   rw [hr] at f; cases f
  .by_cases J8:i=k
   .subst J8
    rw [ZJ (by rw [R.len]; exact O9 q2)] at e2
    rw [Zv g7] at q1 e1
    cases e2
    obtain ⟨l,o,a,c,f,g⟩:=R.ow j d hj q1
    rw [a] at e1; cases e1
    rw [hr] at f; cases f
   .rw [Zv g7] at q1 e1
    rw [Zv J8] at q2 e2
    exact R.inj j k d e l hj hk J7 q1 q2 e1 e2
 al:=⟨λa ha=>by
  rcases ZC.mp ha with z | z
  .rcases Y6.mp z with z | z
   .subst z; exact ⟨ob,h,q.own⟩
   .exact (R.al.same s).1 a (ZX _ z)
  .exact (R.al.same s).1 a (Zg _ z),(R.al.same s).2⟩
theorem Rel.Sy (R:Rel K O U A0 σ δ H) (s:aA H H') {i:Nat} {r:Addr} {ys:List V} {ds:List D} (hr:H r=none) (h:H' r=some (.lst ys)) (q:cg K (wo H' (r :: (U ++ A0))) ys ds) (hi:i∈O):
  Rel K O (r :: U) A0 (σ.set i (some (.ref r))) (δ.set i (some (.list ds))) H':=R.O8 s hr h (.lst q) hi
theorem Rel.Pa (R:Rel K O U A0 σ δ H) {i:Nat} {l:Addr} {ob:HO} {db:D} (hi:i∈O) (hl:σ[i]?=some (some (.ref l))) (hU:l∈U) (q:yL K (wo H (U ++ A0)) ob db) (hd:∃ d,δ[i]?=some (some d)):
  Rel K O U A0 σ (δ.set i (some db)) (upd H l ob):=by
 have hw:wo (upd H l ob) (U ++ A0)=wo H (U ++ A0):=DD (ZX _ hU)
 obtain ⟨d0,hd⟩:=hd
 have hlen:i < δ.length:=(Zd.mp hd).1
 exact {
  len:=by rw [aad]; exact R.len
  fz:=λj e hj w=>by
   have g7:i≠j:=λz=>hj (z ▸ hi)
   rw [Zv g7] at w
   rw [hw]
   exact R.fz j e hj w
  ow:=λj e hj w=>by
   rw [hw]
   by_cases g7:i=j
   .subst g7
    rw [ZJ hlen] at w
    cases w
    exact ⟨l,ob,hl,hU,bC,q⟩
   .rw [Zv g7] at w
    obtain ⟨l',o',a,c,f,g⟩:=R.ow j e hj w
    have ik:l'≠l:=by
     intro z; subst z
     exact R.inj i j d0 e _ hi hj g7 hd w hl a
    exact ⟨l',o',a,c,by rw [aI ik]; exact f,g⟩
  inj:=λj k d e l hj hk J7 q1 q2 e1 e2=>by
   have f:∀ {m:Nat} {x:D},(δ.set i (some db))[m]?=some (some x)->∃ y,δ[m]?=some (some y):=by
    intro m x w
    by_cases UT:i=m
    .subst UT; exact ⟨d0,hd⟩
    .rw [Zv UT] at w; exact ⟨x,w⟩
   obtain ⟨y1,w1⟩:=f q1
   obtain ⟨y2,w2⟩:=f q2
   exact R.inj j k y1 y2 l hj hk J7 w1 w2 e1 e2
  al:=⟨λa ha=>by
   by_cases e:a=l
   .subst e; exact ⟨ob,bC,q.own⟩
   .rw [aI e]; exact R.al.1 a ha,λp xs m=>
    let ⟨_,e,w⟩:=R.al.1 l (ZX _ hU)
    (R.al.2.1 p xs m).ne ((R.al.2.1 p xs m).apart e w),λp y q m=>by
    obtain ⟨_,e,w⟩:=R.al.1 l (ZX _ hU)
    rw [aI λz=>?_]
    .exact R.al.2.2 p y q m
    .have t:=R.al.2.2 p y q m
     rw [z,e] at t; cases t; exact w⟩ }
theorem Rel.put (R:Rel K O U A0 σ δ H) {i:Nat} {l:Addr} {ys:List V} {ds:List D} (hi:i∈O) (hl:σ[i]?=some (some (.ref l))) (hU:l∈U) (q:cg K (wo H (U ++ A0)) ys ds) (hd:∃ d,δ[i]?=some (some d)):
  Rel K O U A0 σ (δ.set i (some (.list ds))) (upd H l (.lst ys)):=R.Pa hi hl hU (.lst q) hd
end
structure Fx (H0:Hp) (A0 U:List Addr) (H:Hp):Prop where
 same:aA H0 H
 new:∀ a∈U,H0 a=none
 old:Ls A0 H0
section
variable {K:PySem.W.Frag} {O:List Nat} {U U' A0:List Addr} {σ:St} {δ:DS} {H0 H H':Hp}
theorem Fx.grow (F:Fx H0 A0 U H) (s:aA H H'):Fx H0 A0 U H':=⟨F.same.trans s,F.new,F.old⟩
theorem Fx.more (F:Fx H0 A0 U H) (s:aA H H') {r:Addr} (hr:H r=none):Fx H0 A0 (r :: U) H':=⟨F.same.trans s,λa ha=>by
 rcases Y6.mp ha with z | z
 .subst z; exact F.same.free hr
 .exact F.new a z,F.old⟩
theorem Fx.put (F:Fx H0 A0 U H) {l:Addr} (hl:l∈U) (o:HO):Fx H0 A0 U (upd H l o):=⟨F.same.upd (F.new l hl) o,F.new,F.old⟩
theorem Fx.out (F:Fx H0 A0 U H) {l:Addr} (hl:l∈U):l∉A0:=λz=>by
 obtain ⟨ys,e,_⟩:=F.old.1 l z
 rw [F.new l hl] at e; cases e
theorem Fx.here (F:Fx H0 A0 U H):Fx (wo H U) A0 U H:=⟨cB,λ_ h=>jU h,λa ha=>by
 obtain ⟨ys,e,q⟩:=F.old.1 a ha
 refine ⟨ys,?_,q⟩
 rw [bp λz=>?_]
 .exact F.same _ _ e
 .exact F.out z ha,λp xs m=>(F.same.kj (F.old.2.1 p xs m)).wo λz=>(by
 rcases F.old.2.1 p xs m with t | ⟨ob,t⟩ <;> rw [F.new p z] at t <;> cases t),λp y q m=>by
 rw [bp λz=>?_]
 .exact F.same _ _ (F.old.2.2 p y q m)
 .have t:=F.old.2.2 p y q m
  rw [F.new p z] at t; cases t⟩
theorem Fx.trans (F:Fx H0 A0 U H) (G:Fx (wo H U) A0 U' H'):Fx H0 A0 U' H':=by
 have k:∀ a o,H0 a=some o->wo H U a=some o:=λa o e=>by
  rw [bp λz=>?_]
  .exact F.same _ _ e
  .rw [F.new a z] at e; cases e
 refine ⟨λa o e=>G.same _ _ (k a o e),λa ha=>?_,F.old⟩
 cases e:H0 a with
 | none=>rfl
 | some o=>
   have:=G.new a ha
   rw [k a o e] at this; cases this
theorem Fx.keeps (G:Fx (wo H U) A0 U' H'):aA (wo H (U ++ A0)) (wo H' (U' ++ A0)):=λb o e=>by
 obtain ⟨h1,h2⟩:=fU e
 simp only [ZC,ac9] at h1
 have h3:wo H U b=some o:=by rw [bp h1.1]; exact h2
 rw [bp]
 .exact G.same _ _ h3
 .simp only [ZC,ac9]
  refine ⟨λz=>?_,h1.2⟩
  rw [G.new b z] at h3; cases h3
end
def tE (K:PySem.W.Frag) (O:List Nat) (g:DS->Option D):TE:=λσ H Q=>∃ U A0 δ d,Rel K O U A0 σ δ H /\ g δ=some d /\ ∀ v H',aA H H'->HD K (wo H' (U ++ A0)) v d->Q v H'
theorem tE.e {K:PySem.W.Frag} {O:List Nat} {g:DS->Option D}  {σ:_} {H:_} {Q:_} {GG:Prop} (hh:tE K O g σ H Q) (kk:∀ U A0 δ d,(Rel K O U A0 σ δ H)->(g δ=some d)->(∀ v H',aA H H'->HD K (wo H' (U ++ A0)) v d->Q v H')->GG):GG:=by obtain ⟨U,A0,δ,d,x0,x1,x2⟩:=hh; exact kk U A0 δ d x0 x1 x2
def iT (K:PySem.W.Frag) (O:List Nat) (g:DS->Option D):TE:=λσ H Q=>∃ U A0 δ d,Rel K O U A0 σ δ H /\ g δ=some d /\ ∀ v H',aA H H'->gK K (U ++ A0) H' v d->Q v H'
theorem iT.e {K:PySem.W.Frag} {O:List Nat} {g:DS->Option D}  {σ:_} {H:_} {Q:_} {GG:Prop} (hh:iT K O g σ H Q) (kk:∀ U A0 δ d,(Rel K O U A0 σ δ H)->(g δ=some d)->(∀ v H',aA H H'->gK K (U ++ A0) H' v d->Q v H')->GG):GG:=by obtain ⟨U,A0,δ,d,x0,x1,x2⟩:=hh; exact kk U A0 δ d x0 x1 x2
def tN (K:PySem.W.Frag) (O:List Nat) (g:DS->Option (List D)):TE:=λσ H Q=>∃ U A0 δ ds,Rel K O U A0 σ δ H /\ g δ=some ds /\
 ∀ r ys H',aA H H'->H r=none->H' r=some (.lst ys)->cg K (wo H' (r :: (U ++ A0))) ys ds->Q (.ref r) H'
theorem tN.e {K:PySem.W.Frag} {O:List Nat} {g:DS->Option (List D)}  {σ:_} {H:_} {Q:_} {GG:Prop} (hh:tN K O g σ H Q) (kk:∀ U A0 δ ds,(Rel K O U A0 σ δ H)->(g δ=some ds)->(∀ r ys H',aA H H'->H r=none->H' r=some (.lst ys)->cg K (wo H' (r :: (U ++ A0))) ys ds->Q (.ref r) H')->GG):GG:=by obtain ⟨U,A0,δ,ds,x0,x1,x2⟩:=hh; exact kk U A0 δ ds x0 x1 x2
def tT (K:PySem.W.Frag) (O:List Nat) (g:DS->Option Bool):TT:=λσ H Q=>∃ U A0 δ b,Rel K O U A0 σ δ H /\ g δ=some b /\ ∀ H',aA H H'->Q b H'
theorem tT.e {K:PySem.W.Frag} {O:List Nat} {g:DS->Option Bool}  {σ:_} {H:_} {Q:_} {GG:Prop} (hh:tT K O g σ H Q) (kk:∀ U A0 δ b,(Rel K O U A0 σ δ H)->(g δ=some b)->(∀ H',aA H H'->Q b H')->GG):GG:=by obtain ⟨U,A0,δ,b,x0,x1,x2⟩:=hh; exact kk U A0 δ b x0 x1 x2
def vY (K:PySem.W.Frag) (O:List Nat) (g:DS->Option (List D)):TA:=λσ H Q=>∃ U A0 δ ds,Rel K O U A0 σ δ H /\ g δ=some ds /\ ∀ vs H',aA H H'->cg K (wo H' (U ++ A0)) vs ds->Q vs H'
theorem vY.e {K:PySem.W.Frag} {O:List Nat} {g:DS->Option (List D)}  {σ:_} {H:_} {Q:_} {GG:Prop} (hh:vY K O g σ H Q) (kk:∀ U A0 δ ds,(Rel K O U A0 σ δ H)->(g δ=some ds)->(∀ vs H',aA H H'->cg K (wo H' (U ++ A0)) vs ds->Q vs H')->GG):GG:=by obtain ⟨U,A0,δ,ds,x0,x1,x2⟩:=hh; exact kk U A0 δ ds x0 x1 x2
def qe (K:PySem.W.Frag) (A:List Addr) (H:Hp):List V->List D->Prop:=Paired (gK K A H)
def o7 (K:PySem.W.Frag) (O:List Nat) (g:DS->Option (List D)):TA:=λσ H Q=>∃ U A0 δ ds,Rel K O U A0 σ δ H /\ g δ=some ds /\ ∀ vs H',aA H H'->qe K (U ++ A0) H' vs ds->Q vs H'
theorem o7.e {K:PySem.W.Frag} {O:List Nat} {g:DS->Option (List D)}  {σ:_} {H:_} {Q:_} {GG:Prop} (hh:o7 K O g σ H Q) (kk:∀ U A0 δ ds,(Rel K O U A0 σ δ H)->(g δ=some ds)->(∀ vs H',aA H H'->qe K (U ++ A0) H' vs ds->Q vs H')->GG):GG:=by obtain ⟨U,A0,δ,ds,x0,x1,x2⟩:=hh; exact kk U A0 δ ds x0 x1 x2
inductive Res where
 | nx (δ:DS) | rt (d:D) | bk (δ:DS) | ct (δ:DS)
def Hj (K:PySem.W.Frag) (H0:Hp) (A0:List Addr) (v:V) (d:D) (H':Hp):Prop:=
 ∃ p r xs ys l ds,v=.ref p /\ aA H0 H' /\ H0 r=none /\ cV H' p (.ref r :: xs) /\ H' r=some (.lst ys) /\ cg K (wo H' (r :: A0)) xs ds /\ cg K (wo H' (r :: A0)) ys l /\ d=.tuple (.list l :: ds)
def lS (K:PySem.W.Frag) (fr:Bool) (H0:Hp) (A0:List Addr) (v:V) (d:D) (H':Hp):Prop:=
 if fr=true then (∃ r o,v=.ref r /\ aA H0 H' /\ H0 r=none /\ H' r=some o /\ yL K (wo H' (r :: A0)) o d) \/ Hj K H0 A0 v d H' else aA H0 H' /\ HD K (wo H' A0) v d
def Mc (K:PySem.W.Frag) (O:List Nat) (fr:Bool) (H0:Hp) (A0:List Addr) (E:Ends):Res->Prop
 | .nx δ=>∀ U σ H,Rel K O U A0 σ δ H->Fx H0 A0 U H->E.nx σ H
 | .bk δ=>∀ U σ H,Rel K O U A0 σ δ H->Fx H0 A0 U H->E.bk σ H
 | .ct δ=>∀ U σ H,Rel K O U A0 σ δ H->Fx H0 A0 U H->E.ct σ H
 | .rt d=>∀ v H,lS K fr H0 A0 v d H->E.rt v H
def tS (K:PySem.W.Frag) (O:List Nat) (fr:Bool) (g:DS->Option Res):TS:=λE σ H=>∃ H0 U A0 δ r,Rel K O U A0 σ δ H /\ Fx H0 A0 U H /\ g δ=some r /\ Mc K O fr H0 A0 E r
theorem tS.e {K:PySem.W.Frag} {O:List Nat} {fr:Bool} {g:DS->Option Res}  {E:_} {σ:_} {H:_} {GG:Prop} (hh:tS K O fr g E σ H) (kk:∀ H0 U A0 δ r,(Rel K O U A0 σ δ H)->(Fx H0 A0 U H)->(g δ=some r)->(Mc K O fr H0 A0 E r)->GG):GG:=by obtain ⟨H0,U,A0,δ,r,x0,x1,x2,x3⟩:=hh; exact kk H0 U A0 δ r x0 x1 x2 x3
def Walks (K:PySem.W.Frag) (A:List Addr) (H1:Hp) (J:It) (ds:List D):Prop:=∀ (A':List Addr) (i:Nat) (H:Hp),aA (wo H1 A) (wo H A')->Ls A' H->
 (∀ d,ds[i]?=some d->J.go i H /\ ∀ x H2,J.OI i H x H2->aA H H2 /\ HD K (wo H2 A') x d) /\ (i=ds.length->J.stop i H)
def tI (K:PySem.W.Frag) (O:List Nat) (g:DS->Option (List D)):TI:=λσ H R=>∃ U A0 δ ds,Rel K O U A0 σ δ H /\ g δ=some ds /\ ∀ J H1,aA H H1->Walks K (U ++ A0) H1 J ds->R J H1
theorem tI.e {K:PySem.W.Frag} {O:List Nat} {g:DS->Option (List D)}  {σ:_} {H:_} {R:_} {GG:Prop} (hh:tI K O g σ H R) (kk:∀ U A0 δ ds,(Rel K O U A0 σ δ H)->(g δ=some ds)->(∀ J H1,aA H H1->Walks K (U ++ A0) H1 J ds->R J H1)->GG):GG:=by obtain ⟨U,A0,δ,ds,x0,x1,x2⟩:=hh; exact kk U A0 δ ds x0 x1 x2
def tG (K:PySem.W.Frag) (O:List Nat) (g:D->DS->Option DS):TG:=λv σ H Q=>∃ U A0 δ d δ',Rel K O U A0 σ δ H /\ HD K (wo H (U ++ A0)) v d /\ g d δ=some δ' /\ ∀ cX,Rel K O U A0 cX δ' H->Q cX H
theorem tG.e {K:PySem.W.Frag} {O:List Nat} {g:D->DS->Option DS}  {v:_} {σ:_} {H:_} {Q:_} {GG:Prop} (hh:tG K O g v σ H Q) (kk:∀ U A0 δ d δ',(Rel K O U A0 σ δ H)->(HD K (wo H (U ++ A0)) v d)->(g d δ=some δ')->(∀ cX,Rel K O U A0 cX δ' H->Q cX H)->GG):GG:=by obtain ⟨U,A0,δ,d,δ',x0,x1,x2,x3⟩:=hh; exact kk U A0 δ d δ' x0 x1 x2 x3
section
variable {X:Cx}
theorem PE.mono {e:Expr} {t t':TE} (h:PE X e t) (m:∀ σ H Q,t' σ H Q->t σ H Q):PE X e t':=λpins s σ H Q I q=>h pins s σ H Q I (m σ H Q q)
theorem PT.mono {e:Expr} {t t':TT} (h:PT X e t) (m:∀ σ H Q,t' σ H Q->t σ H Q):PT X e t':=λpins s σ H Q I q=>h pins s σ H Q I (m σ H Q q)
theorem PW.mono {e:Expr} {t t':TT} (h:PW X e t) (m:∀ σ H Q,t' σ H Q->t σ H Q):PW X e t':=λw pins s σ H Q I q=>h w pins s σ H Q I (m σ H Q q)
theorem PA.mono {e:List Expr} {t t':TA} (h:PA X e t) (m:∀ σ H Q,t' σ H Q->t σ H Q):PA X e t':=λpos pins s σ H Q I q=>h pos pins s σ H Q I (m σ H Q q)
theorem PS.mono {e:Stmt} {t t':TS} (h:PS X e t) (m:∀ E σ H,t' E σ H->t E σ H):PS X e t':=λpins s σ H E I q=>h pins s σ H E I (m E σ H q)
theorem jk.mono {e:List Stmt} {t t':TS} (h:jk X e t) (m:∀ E σ H,t' E σ H->t E σ H):jk X e t':=λpins s σ H E I q=>h pins s σ H E I (m E σ H q)
theorem PI.mono {tg e:Expr} {t t':TI} (h:PI X tg e t) (m:∀ σ H R,t' σ H R->t σ H R):PI X tg e t':=λpins s σ H R I q=>h pins s σ H R I (m σ H R q)
theorem PG.mono {e:Expr} {t t':TG} (h:PG X e t) (m:∀ v σ H Q,t' v σ H Q->t v σ H Q):PG X e t':=λpins s σ H v u Q I r q=>h pins s σ H v u Q I r (m v σ H Q q)
theorem PO.mono {e:Option Expr} {t t':TO} (h:PO X e t) (m:∀ σ H Q,t' σ H Q->t σ H Q):PO X e t':=λpins s σ H Q I q=>h pins s σ H Q I (m σ H Q q)
end
def ae (i:Nat):DS->Option D:=λδ=>(δ[i]?).join
def gC (d:D):DS->Option D:=λ_=>some d
def bJ (g:DS->Option (List D)):DS->Option D:=λδ=>(g δ).map .list
theorem join_some {α:Type} {o:Option (Option α)} {d:α} (h:o.join=some d):o=some (some d):=by
 cases o with
 | none=>cases h
 | some p=>cases p with
   | none=>cases h
   | some q=>cases h; rfl
section
variable {X:Cx} {O:List Nat} {e:Expr} {g:DS->Option D}
theorem Md {i:Nat} (h:PE X e (pT i)) (hi:i∉O:=by decide):PE X e (tE X.K O (ae i)):=h.mono λσ H Q hh=>hh.e λU A0 δ d R ed q=>by
 obtain ⟨v,hv,hd⟩:=R.fz i d hi (join_some ed)
 exact ⟨v,hv,q v H (aA.refl H) hd⟩
theorem Me {i:Nat} (h:PE X e (pT i)):PE X e (iT X.K O (ae i)):=h.mono λσ H Q hh=>hh.e λU A0 δ d R ed q=>by
 obtain ⟨v,hv,hd⟩:=R.at (join_some ed)
 exact ⟨v,hv,q v H (aA.refl H) hd⟩
theorem Mf {v:V} {d:D} (h:PE X e (tC v)) (hd:∀ H,HD X.K H v d):PE X e (tE X.K O (gC d)):=h.mono λσ H Q hh=>hh.e λU A0 δ d' R ed q=>by
 cases ed
 exact q v H (aA.refl H) (hd _)
theorem aL {i:Int} (h:PE X e (tC (.int i))):PE X e (tE X.K O (gC (.int i))):=Mf h λ_=>.int i
theorem oJ {i:Bool} (h:PE X e (tC (.bl i))):PE X e (tE X.K O (gC (.bool i))):=Mf h λ_=>.bl i
theorem yM {i:Str} (h:PE X e (tC (.str i))):PE X e (tE X.K O (gC (.str i))):=Mf h λ_=>.str i
theorem PE.sh (h:PE X e (tE X.K O g)):PE X e (iT X.K O g):=h.mono λσ H Q hh=>hh.e λU A0 δ d R ed q=>⟨U,A0,δ,d,R,ed,λv H' s z=>q v H' s (.inl z)⟩
theorem J9 {K:PySem.W.Frag} {g:DS->Option (List D)} {σ:St} {H:Hp} {Q:VK}:tE K O (bJ g) σ H Q->tN K O g σ H Q:=λ⟨U,A0,δ,d,R,ed,q⟩=>by
 unfold bJ at ed
 cases eg:g δ with
 | none=>rw [eg] at ed; cases ed
 | some ds=>
   rw [eg] at ed; cases ed
   refine ⟨U,A0,δ,ds,R,eg,λr ys H' s hr h1 h2=>q _ H' s ?_⟩
   have hn:=R.al.free hr
   exact .lst (.of (by rw [bp hn]; exact h1)) (h2.same (iG λa ha=>Y8 _ ha))
theorem PE.nE {g:DS->Option (List D)} (h:PE X e (tN X.K O g)):PE X e (tE X.K O (bJ g)):=h.mono λ_ _ _=>J9
end
def g2 (f:D->D->Option D) (a b:DS->Option D):DS->Option D:=λδ=>(a δ).bind λx=>(b δ).bind λy=>f x y
def Hk (f:D->D->Option (List D)) (a b:DS->Option D):DS->Option (List D):=λδ=>(a δ).bind λx=>(b δ).bind λy=>f x y
def jn (K:PySem.W.Frag) (r:R2) (f:D->D->Option D):Prop:=∀ (A:List Addr) (H:Hp) (x y:V) (dx dy d:D) (Q:VK),Ls A H->gK K A H x dx->gK K A H y dy->f dx dy=some d->(∀ v H',aA H H'->HD K (wo H' A) v d->Q v H')->r x y H Q
def DH (K:PySem.W.Frag) (r:R2) (f:D->D->Option (List D)):Prop:=∀ (A:List Addr) (H:Hp) (x y:V) (dx dy:D) (ds:List D) (Q:VK),Ls A H->gK K A H x dx->gK K A H y dy->f dx dy=some ds->
 (∀ p ys,H p=none->cg K (wo H A) ys ds->Q (.ref p) (upd H p (.lst ys)))->r x y H Q
theorem wz {α β γ:Type} {a:Option α} {b:Option β} {f:α->β->Option γ} {d:γ} (h:(a.bind λx=>b.bind λy=>f x y)=some d):∃ x y,a=some x /\ b=some y /\ f x y=some d:=by
 cases a with
 | none=>cases h
 | some x=>cases b with
   | none=>cases h
   | some y=>exact ⟨x,y,rfl,rfl,h⟩
theorem bind1 {α β:Type} {a:Option α} {f:α->Option β} {d:β} (h:a.bind f=some d):∃ x,a=some x /\ f x=some d:=by
 cases a with
 | none=>cases h
 | some x=>exact ⟨x,rfl,h⟩
section
variable {X:Cx} {O:List Nat} {a b:Expr} {ga gb:DS->Option D} {pos:Pos} {r:R2}
theorem Ao {K:PySem.W.Frag} {f:D->D->Option D} (imp:jn K r f) {σ:St} {H:Hp} {Q:VK}:tE K O (g2 f ga gb) σ H Q->JR r (iT K O ga) (iT K O gb) σ H Q:=λ⟨U,A0,δ,d,R,ed,q⟩=>by
 obtain ⟨x,y,ex,ey,ef⟩:=wz ed
 exact ⟨U,A0,δ,x,R,ex,λv1 H1 s1 h1=>⟨U,A0,δ,y,R.same s1,ey,λv2 H2 s2 h2=>imp _ H2 v1 v2 x y d Q (R.same (s1.trans s2)).al (h1.same s2) h2 ef λv H' s h=>q v H' ((s1.trans s2).trans s) h⟩⟩
theorem sP {K:PySem.W.Frag} {A:List Addr} {H H2:Hp} {ds:List D} {Q:VK} (s:aA H H2) (q:∀ r ys H',aA H H'->H r=none->H' r=some (.lst ys)->cg K (wo H' (r :: A)) ys ds->Q (.ref r) H'):∀ p ys,H2 p=none->cg K (wo H2 A) ys ds->Q (.ref p) (upd H2 p (.lst ys)):=
 λp ys hp h=>q p ys _ (s.trans (cx hp _)) (s.free hp) bC (by rw [wy hp]; exact h)
theorem Pb {K:PySem.W.Frag} {f:D->D->Option (List D)} (imp:DH K r f) {σ:St} {H:Hp} {Q:VK}:tN K O (Hk f ga gb) σ H Q->JR r (iT K O ga) (iT K O gb) σ H Q:=λ⟨U,A0,δ,d,R,ed,q⟩=>by
 obtain ⟨x,y,ex,ey,ef⟩:=wz ed
 exact ⟨U,A0,δ,x,R,ex,λv1 H1 s1 h1=>⟨U,A0,δ,y,R.same s1,ey,λv2 H2 s2 h2=>imp _ H2 v1 v2 x y d Q (R.same (s1.trans s2)).al (h1.same s2) h2 ef (sP (s1.trans s2) q)⟩⟩
theorem ak {op:Operator} {f:D->D->Option D} (ho:iR X (binaryOp op) r) (imp:jn X.K r f) (ha:PE X a (iT X.K O ga)) (hb:PE X b (iT X.K O gb)):PE X (.BinOp a op b pos) (tE X.K O (g2 f ga gb)):=(JS ho ha hb).mono λ_ _ _=>Ao imp
theorem yN {op:Operator} {f:D->D->Option (List D)} (ho:iR X (binaryOp op) r) (imp:DH X.K r f) (ha:PE X a (iT X.K O ga)) (hb:PE X b (iT X.K O gb)):PE X (.BinOp a op b pos) (tN X.K O (Hk f ga gb)):=(JS ho ha hb).mono λ_ _ _=>Pb imp
theorem nY {op:CmpOp} {f:D->D->Option D} (ho:iR X (compareOp op) r) (imp:jn X.K r f) (ha:PE X a (iT X.K O ga)) (hb:PE X b (iT X.K O gb)) (hm:behindInMarks op b=false):PE X (.Compare a [op] [b] pos) (tE X.K O (g2 f ga gb)):=(GJ ho ha hb hm).mono λ_ _ _=>Ao imp
def gB (g:DS->Option D):DS->Option Bool:=λδ=>(g δ).bind λ| .bool b=>some b | _=>none
theorem Pc {K:PySem.W.Frag} {g:DS->Option D} {te:TE} (m:∀ σ H Q,tE K O g σ H Q->te σ H Q) {σ:St} {H:Hp} {Q:Bool->Hp->Prop}:tT K O (gB g) σ H Q->te σ H λx H'=>∃ k,x=.bl k /\ Q k H':=λ⟨U,A0,δ,b,R,ed,q⟩=>by
 obtain ⟨d,e1,e2⟩:=bind1 ed
 cases d with
 | bool c=>
   cases e2
   exact m σ H _ ⟨U,A0,δ,_,R,e1,λv H' s h=>by cases h; exact ⟨_,rfl,q H' s⟩⟩
 | _=>cases e2
theorem aX {op:CmpOp} {f:D->D->Option D} (ho:iR X (compareOp op) r) (imp:jn X.K r f) (ha:PE X a (iT X.K O ga)) (hb:PE X b (iT X.K O gb)) (hm:behindInMarks op b=false):PT X (.Compare a [op] [b] pos) (tT X.K O (gB (g2 f ga gb))):=(GK ho ha hb hm).mono λ_ _ _=>Pc λ_ _ _=>Ao imp
end
def dI (g:Int->Int->D):D->D->Option D
 | .int a,.int b=>some (g a b)
 | _,_=>none
open Classical in
def Ka (C:Int->Int->Prop) (g:Int->Int->D):D->D->Option D
 | .int a,.int b=>if C a b then some (g a b) else none
 | _,_=>none
open Classical in
theorem qf {C:Int->Int->Prop} {g:Int->Int->D} {a b:Int} (h:C a b):Ka C g (.int a) (.int b)=some (g a b):=by
 show (if C a b then some (g a b) else none)=_
 rw [Zk h]
theorem wA {g:Int->Int->D} {a b:Int}:dI g (.int a) (.int b)=some (g a b):=rfl
theorem dO {K:PySem.W.Frag} {g:Int->Int->Int}:jn K (C7 λi j=>.int (g i j)) (dI λi j=>.int (g i j)):=by
 intro A H x y dx dy d Q al hx hy e q
 unfold dI at e
 split at e
 .cases e
  exact ⟨_,_,hx.int,hy.int,q _ H (aA.refl H) (.int _)⟩
 .cases e
theorem cK {K:PySem.W.Frag} {g:Int->Int->Bool}:jn K (C7 λi j=>.bl (g i j)) (dI λi j=>.bool (g i j)):=by
 intro A H x y dx dy d Q al hx hy e q
 unfold dI at e
 split at e
 .cases e
  exact ⟨_,_,hx.int,hy.int,q _ H (aA.refl H) (.bl _)⟩
 .cases e
set_option tactic.hygienic true in
theorem ao {K:PySem.W.Frag} {C:Int->Int->Prop} {g:Int->Int->Int}:jn K (rI C λi j=>.int (g i j)) (Ka C λi j=>.int (g i j)):=by
 intro A H x y dx dy d Q al hx hy e q
 unfold Ka at e
 split at e
 .split at e
  .rename_i c
   cases e
   exact ⟨_,_,hx.int,hy.int,c,q _ H (aA.refl H) (.int _)⟩
  .cases e
 .cases e
abbrev cy:D->D->Option D:=dI λi j=>.int (i - j)
abbrev bh:D->D->Option D:=Ka IntMulOk λi j=>.int (i * j)
abbrev dQ:D->D->Option D:=Ka Al λi j=>.int (i.fdiv j)
abbrev c5:D->D->Option D:=Ka (λ_ j=>j≠0) λi j=>.int (i.fmod j)
abbrev wB:D->D->Option D:=Ka LF λi j=>.int (i ^ j.toNat)
abbrev rG:D->D->Option D:=dI λi j=>.bool (decide (i < j))
abbrev SA:D->D->Option D:=dI λi j=>.bool (decide (i<=j))
abbrev sQ:D->D->Option D:=dI λi j=>.bool (decide (j < i))
abbrev SD:D->D->Option D:=dI λi j=>.bool (decide (j<=i))
def rS:D->D->Option D
 | .int a,.int b=>some (.bool (decide (a=b)))
 | a,b=>if (SeqAt.shaped a && SeqAt.shaped b)=true then some (.bool (PyData.eqv a b)) else none
def BQ:D->D->Option D:=λa b=>(rS a b).bind λ| .bool c=>some (.bool (!c)) | _=>none
set_option tactic.hygienic true in
theorem Ap {a b d:D} (h:rS a b=some d):SeqAt.shaped a=true /\ SeqAt.shaped b=true /\ d=.bool (PyData.eqv a b):=by
 unfold rS at h
 split at h
 .cases h
  refine ⟨by simp [SeqAt.shaped,PyData.canLay0,PyData.depth],by simp [SeqAt.shaped,PyData.canLay0,PyData.depth],?_⟩
  rw [PyData.eqv]; rfl
 .split at h
  .rename_i c
   rw [ZE] at c
   cases h
   exact ⟨c.1,c.2,rfl⟩
  .cases h
def Hm (K:PySem.W.Frag) (neg:Bool):R2:=λx y H Q=>∃ d e,HD K H x d /\ HD K H y e /\ SeqAt.shaped d=true /\ SeqAt.shaped e=true /\ Q (.bl (if neg=true then !PyData.eqv d e else PyData.eqv d e)) H
section
variable {X:Cx}
theorem jo {k:Nat} (hr:cJ k X.A):iR X (compareOp .Eq) (Hm X.K false):=by
 intro pins s σ H x y v u Q I rx ry h
 obtain ⟨d,e,h1,h2,s1,s2,q⟩:=h
 obtain ⟨as,r1⟩:=h1.reads I rx (ff s1)
 obtain ⟨bs,r2⟩:=h2.reads I ry (ff s2)
 exact eq_dataH r1 r2 s1 s2 hr.units ⟨.bl _,H,I,rfl,q⟩
theorem lT {k:Nat} (hr:cJ k X.A):iR X (compareOp .NotEq) (Hm X.K true):=by
 intro pins s σ H x y v u Q I rx ry h
 obtain ⟨d,e,h1,h2,s1,s2,q⟩:=h
 obtain ⟨as,r1⟩:=h1.reads I rx (ff s1)
 obtain ⟨bs,r2⟩:=h2.reads I ry (ff s2)
 exact ne_dataH r1 r2 s1 s2 hr.units ⟨.bl _,H,I,rfl,q⟩
end
theorem imp_eq {K:PySem.W.Frag}:jn K (Hm K false) rS:=by
 intro A H x y dx dy d Q al hx hy e q
 obtain ⟨a,b,rfl⟩:=Ap e
 exact ⟨dx,dy,hx.Hi,hy.Hi,a,b,q _ H (aA.refl H) (.bl _)⟩
theorem lU {K:PySem.W.Frag}:jn K (Hm K true) BQ:=by
 intro A H x y dx dy d Q al hx hy e q
 obtain ⟨c,e1,e2⟩:=bind1 e
 obtain ⟨a,b,rfl⟩:=Ap e1
 cases e2
 exact ⟨dx,dy,hx.Hi,hy.Hi,a,b,q _ H (aA.refl H) (.bl _)⟩
def DI (K:PySem.W.Frag):R2:=λx y H Q=>∃ l b xs zs,x=.ref l /\ y=.ref b /\ yi K H l xs /\ yi K H b zs /\ xs.length + zs.length<=sizeLine /\ ∀ p,H p=none->Q (.ref p) (upd H p (.lst (xs ++ zs)))
theorem pz {X:Cx}:iR X (binaryOp .Add) (DI X.K):=by
 intro pins s σ H x y v u Q I rx ry h
 obtain ⟨l,b,xs,zs,rfl,rfl,hH,hB,hz,q⟩:=h
 cases rx
 cases ry
 obtain ⟨z,its,n,r,e⟩:=I.UR hH
 obtain ⟨z2,rO,n2,r2,e2⟩:=I.UR hB
 have hl:=r.length
 have LY:=r2.length
 refine PySem.P.add_list e e2 ?_ (by rw [Zm,Zm]; omega)
 have ea:its.toArray ++ rO.toArray=(its ++ rO).toArray:=by simp
 rw [ea]
 exact ⟨.ref _,_,I.Ss (t':=s.toks) (r.append r2) (by rw [Zz]; omega),rfl,q _ I.fresh⟩
def wC:D->D->Option (List D)
 | .list a,.list b=>if a.length + b.length<=100000 then some (a ++ b) else none
 | _,_=>none
set_option tactic.hygienic true in
theorem pA {K:PySem.W.Frag}:DH K (DI K) wC:=by
 intro A H x y dx dy ds Q al hx hy e q
 unfold wC at e
 split at e
 .split at e
  .rename_i hz
   cases e
   obtain ⟨l,xs,rfl,h1,h2⟩:=hx.list
   obtain ⟨b,zs,rfl,h3,h4⟩:=hy.list
   have:=h2.len
   have:=h4.len
   exact ⟨l,b,xs,zs,rfl,rfl,h1,h3,small (by omega),λp hp=>q p _ hp (h2.app h4)⟩
  .cases e
 .cases e
def DJ:D->D->Option D
 | .int a,.int b=>some (.int (a + b))
 | .str a,.str b=>if a.length + b.length<=100000 then some (.str (a ++ b)) else none
 | .list a,.list b=>if a.length + b.length<=100000 then some (.list (a ++ b)) else none
 | .tuple a,.tuple b=>if a.length + b.length<=100000 /\ a≠[] then some (.tuple (a ++ b)) else none
 | _,_=>none
def Aq (K:PySem.W.Frag):R2:=λx y H Q=>C7 (λi j=>.int (i + j)) x y H Q \/ (∃ i j,x=.str i /\ y=.str j /\ i.length + j.length<=sizeLine /\ Q (.str (i ++ j)) H) \/ DI K x y H Q \/ JX K x y H Q
theorem Hn {X:Cx}:iR X (binaryOp .Add) (Aq X.K):=LG.or (yE.or (pz.or GX))
theorem HD.SE {K:PySem.W.Frag} {A:List Addr} {H:Hp} {p:Addr} {ys:List V} {ds:List D} (al:Ls A H) (hp:H p=none) (h:cg K (wo H A) ys ds):HD K (wo (upd H p (.lst ys)) A) (.ref p) (.list ds):=by
 rw [DC (al.free hp)]
 have hn:wo H A p=none:=by
  by_cases z:p∈A
  .exact jU z
  .rw [bp z]; exact hp
 exact .lst (.of bC) (h.same (cx hn _))
theorem HD.wD {K:PySem.W.Frag} {A:List Addr} {H:Hp} {p:Addr} {ys:List V} {ds:List D} (al:Ls A H) (hp:H p=none) (h:cg K (wo H A) ys ds):HD K (wo (upd H p (.tup ys)) A) (.ref p) (.tuple ds):=by
 rw [DC (al.free hp)]
 have hn:wo H A p=none:=by
  by_cases z:p∈A
  .exact jU z
  .rw [bp z]; exact hp
 exact .tup (.inl bC) (h.same (cx hn _))
set_option tactic.hygienic true in
theorem Ho {K:PySem.W.Frag}:jn K (Aq K) DJ:=by
 intro A H x y dx dy d Q al hx hy e q
 unfold DJ at e
 split at e
 .cases e
  exact .inl ⟨_,_,hx.int,hy.int,q _ H (aA.refl H) (.int _)⟩
 .split at e
  .cases e
   exact .inr (.inl ⟨_,_,hx.str,hy.str,small (by assumption),q _ H (aA.refl H) (.str _)⟩)
  .cases e
 .split at e
  .rename_i hz
   cases e
   refine .inr (.inr (.inl (pA (K:=K) A H x y _ _ _ Q al hx hy (show (if _ then some _ else none)=some _ from Zk hz) λp ys hp h=>?_)))
   exact q _ _ (cx hp _) (HD.SE al hp h)
  .cases e
 .split at e
  .rename_i hz
   cases e
   have R9:=hx.fz
   obtain ⟨a,xs,rfl,h1,h2⟩:=hx.tuple
   obtain ⟨b,zs,rfl,h3,h4⟩:=hy.tuple
   have l2:=h2.len
   have l4:=h4.len
   refine .inr (.inr (.inr ⟨a,b,xs,zs,rfl,rfl,h1,h3,?_,small (by omega),λz=>?_,λz p hp=>?_⟩))
   .intro z; subst z; cases h2; exact hz.2 rfl
   .subst z; cases h4
    rw [Z7] at q
    exact q _ H (aA.refl H) R9
   .exact q _ _ (cx hp _) (HD.wD al hp (h2.app h4))
  .cases e
 .cases e
def aO:D->D->Option D
 | .list ds,.int i=>o4 ds i
 | .tuple ds,.int i=>o4 ds i
 | .str z,.int i=>if z.length<=100000 then (o4 z.cps.toList i).map λc=>.str ⟨#[c]⟩ else none
 | _,_=>none
theorem cg.o4 {K:PySem.W.Frag} {H:Hp} {xs:List V} {ds:List D} {i:Int} {d:D} (h:cg K H xs ds) (e:o4 ds i=some d):∃ v,L2.o4 xs i=some v /\ HD K H v d:=by
 unfold L2.o4 at e ⊢
 obtain ⟨j,e1,e2⟩:=bind1 e
 rw [h.len,e1]
 obtain ⟨x,hx,q⟩:=h.get e2
 exact ⟨x,hx,q⟩
set_option tactic.hygienic true in
theorem Mg {K:PySem.W.Frag}:jn K (Rn K) aO:=by
 intro A H x y dx dy d Q al hx hy e q
 unfold aO at e
 split at e
 .obtain ⟨l,xs,rfl,h1,h2⟩:=hx.list
  obtain ⟨v,e1,e2⟩:=h2.o4 e
  exact .inl ⟨l,xs,_,v,rfl,hy.int,h1.sq,e1,q _ H (aA.refl H) e2⟩
 .obtain ⟨l,xs,rfl,h1,h2⟩:=hx.tuple
  obtain ⟨v,e1,e2⟩:=h2.o4 e
  exact .inr (.inl ⟨l,xs,_,v,rfl,hy.int,h1,e1,q _ H (aA.refl H) e2⟩)
 .split at e
  .rename_i z i hz
   cases ec:L2.o4 z.cps.toList i with
   | none=>rw [ec] at e; cases e
   | some c=>
     rw [ec] at e; cases e
     exact .inr (.inr ⟨z,i,c,hx.str,hy.int,small hz,ec,q _ H (aA.refl H) (.str _)⟩)
  .cases e
 .cases e
section
variable {X:Cx} {O:List Nat} {a b:Expr} {ga gb:DS->Option D} {pos:Pos}
theorem ar (ha:PE X a (iT X.K O ga)) (hb:PE X b (iT X.K O gb)) (hs:Ah b:=by exact λ_ _=>rfl):PE X (.Subscript a b pos) (tE X.K O (g2 aO ga gb)):=(Dj yG ha hb hs).mono λ_ _ _=>Ao Mg
end
def g1 (f:D->Option D) (a:DS->Option D):DS->Option D:=λδ=>(a δ).bind f
def wF:D->Option D
 | .int a=>some (.int (-a))
 | _=>none
def Hq:D->Option D
 | .bool a=>some (.bool (!a))
 | _=>none
section
variable {X:Cx} {O:List Nat} {a b c:Expr} {ga gb:DS->Option D} {pos:Pos}
theorem t7 (ha:PE X a (iT X.K O ga)):PE X (.UnaryOp .USub a pos) (tE X.K O (g1 wF ga)):=(OM LH ha).mono λσ H Q hh=>hh.e λU A0 δ d R ed q=>by
 obtain ⟨x,e1,e2⟩:=bind1 ed
 cases x with
 | int i=>cases e2; exact ⟨U,A0,δ,_,R,e1,λv H' s h=>⟨i,h.int,q _ H' s (.int _)⟩⟩
 | _=>cases e2
theorem Mh (ha:PE X a (iT X.K O ga)):PE X (.UnaryOp .Not a pos) (tE X.K O (g1 Hq ga)):=(Lw ha).mono λσ H Q hh=>hh.e λU A0 δ d R ed q=>by
 obtain ⟨x,e1,e2⟩:=bind1 ed
 cases x with
 | bool i=>cases e2; exact ⟨U,A0,δ,_,R,e1,λv H' s h=>⟨i,h.bool,q _ H' s (.bl _)⟩⟩
 | _=>cases e2
def qg (a b:DS->Option D):DS->Option D:=λδ=>(gB a δ).bind λx=>if x=true then b δ else some (.bool false)
def SF (a b:DS->Option D):DS->Option D:=λδ=>(gB a δ).bind λx=>if x=true then some (.bool true) else b δ
theorem Hr {g:DS->Option D} {δ:DS} {b:Bool} (h:gB g δ=some b):g δ=some (.bool b):=by
 obtain ⟨d,e1,e2⟩:=bind1 h
 cases d with
 | bool c=>cases e2; exact e1
 | _=>cases e2
theorem DL {rest:List Expr} (ha:PE X a (tE X.K O ga)) (hb:PE X (.BoolOp .And (b :: rest) pos) (tE X.K O gb)):PE X (.BoolOp .And (a :: b :: rest) pos) (tE X.K O (qg ga gb)):=(Lv ha hb).mono λσ H Q hh=>hh.e λU A0 δ d R ed q=>by
 obtain ⟨x,e1,e2⟩:=bind1 ed
 refine ⟨U,A0,δ,_,R,Hr e1,λv H' s h=>?_⟩
 cases h
 refine ⟨x,rfl,?_⟩
 cases x with
 | true=>rw [Zk rfl] at e2 ⊢; exact ⟨U,A0,δ,d,R.same s,e2,λv H2 s2 h2=>q v H2 (s.trans s2) h2⟩
 | false=>rw [Zj Zt] at e2 ⊢; cases e2; exact q _ H' s (.bl _)
def lV (a b:DS->Option Bool):DS->Option Bool:=λδ=>(a δ).bind λx=>if x=true then b δ else some false
def Ar (a b:DS->Option Bool):DS->Option Bool:=λδ=>(a δ).bind λx=>if x=true then some true else b δ
def j4 (a:DS->Option Bool):DS->Option Bool:=λδ=>(a δ).map λx=> !x
variable {ta tb:DS->Option Bool} {rest:List Expr}
theorem m9 (ha:PT X a (tT X.K O ta)) (hb:PW X (.BoolOp .And (b :: rest) pos) (tT X.K O tb)):PW X (.BoolOp .And (a :: b :: rest) pos) (tT X.K O (lV ta tb)):=(pw_and ha hb).mono λσ H Q hh=>hh.e λU A0 δ d R ed q=>by
 obtain ⟨x,e1,e2⟩:=bind1 ed
 refine ⟨U,A0,δ,_,R,e1,λH' s=>?_⟩
 cases x with
 | true=>rw [Zk rfl] at e2 ⊢; exact ⟨U,A0,δ,d,R.same s,e2,λH2 s2=>q H2 (s.trans s2)⟩
 | false=>rw [Zj Zt] at e2 ⊢; cases e2; exact q H' s
theorem kl (ha:PT X a (tT X.K O ta)) (hb:PW X (.BoolOp .Or (b :: rest) pos) (tT X.K O tb)):PW X (.BoolOp .Or (a :: b :: rest) pos) (tT X.K O (Ar ta tb)):=(pw_or ha hb).mono λσ H Q hh=>hh.e λU A0 δ d R ed q=>by
 obtain ⟨x,e1,e2⟩:=bind1 ed
 refine ⟨U,A0,δ,_,R,e1,λH' s=>?_⟩
 cases x with
 | true=>rw [Zk rfl] at e2 ⊢; cases e2; exact q H' s
 | false=>rw [Zj Zt] at e2 ⊢; exact ⟨U,A0,δ,d,R.same s,e2,λH2 s2=>q H2 (s.trans s2)⟩
theorem fF (ha:PT X a (tT X.K O ta)):PT X (.UnaryOp .Not a pos) (tT X.K O (j4 ta)):=(Lu ha).mono λσ H Q hh=>hh.e λU A0 δ d R ed q=>by
 unfold j4 at ed
 cases e:ta δ with
 | none=>rw [e] at ed; cases ed
 | some x=>rw [e] at ed; cases ed; exact ⟨U,A0,δ,x,R,e,λH' s=>q H' s⟩
def Hs:D->Option Bool
 | .none=>some false
 | .bool b=>some b
 | .int i=>some (i != 0)
 | .str x=>if x.length<=100000 then some ((x.length:Int) != 0) else none
 | .list l=>some (!l.isEmpty)
 | .tuple l=>some (!l.isEmpty)
 | _=>none
def il (g:DS->Option D):DS->Option Bool:=λδ=>(g δ).bind Hs
theorem qh {K:PySem.W.Frag} {H:Hp} {xs:List V} {ds:List D} (h:cg K H xs ds):xs.isEmpty=ds.isEmpty:=by cases h <;> rfl
theorem cz (ha:PE X a (iT X.K O ga)) (he:∀ whole,isTrue a X.env whole=(do let v <- whole; standAt a.pos; holding [v] (truthy v)):=by exact λ_=>rfl):PT X a (tT X.K O (il ga)):=(Dc ha he).mono λσ H Q hh=>hh.e λU A0 δ k R ed q=>by
 obtain ⟨d,e1,e2⟩:=bind1 ed
 refine ⟨U,A0,δ,d,R,e1,λv H' s h=>⟨k,?_,q H' s⟩⟩
 cases d with
 | none=>cases e2; rw [h.gu]; exact rfl
 | bool b=>cases e2; rw [h.bool]; exact rfl
 | int i=>cases e2; rw [h.int]; exact rfl
 | str x=>
   rw [h.str]
   have e3:(if x.length<=100000 then some ((x.length:Int) != 0) else none)=some k:=e2
   split at e3
   .cases e3; exact ⟨small (by assumption),rfl⟩
   .cases e3
 | list l=>
   cases e2
   obtain ⟨p,xs,rfl,h1,h2⟩:=h.list
   exact .inl ⟨xs,h1.sq,by rw [qh h2]⟩
 | tuple l=>
   cases e2
   obtain ⟨p,xs,rfl,h1,h2⟩:=h.tuple
   exact .inr (.inl ⟨xs,h1,by rw [qh h2]⟩)
 | dict _=>cases e2
def SG (c:DS->Option Bool) (a b:DS->Option D):DS->Option D:=λδ=>(c δ).bind λx=>if x=true then a δ else b δ
end
def af:DS->Option (List D):=λ_=>some []
def aa (a:DS->Option D) (r:DS->Option (List D)):DS->Option (List D):=λδ=>(a δ).bind λx=>(r δ).bind λxs=>some (x :: xs)
def aQ (r:DS->Option (List D)):DS->Option D:=λδ=>(r δ).bind λxs=>if xs.length<=100000 then some (.tuple xs) else none
def gI (r:DS->Option (List D)):DS->Option (List D):=λδ=>(r δ).bind λxs=>if xs.length<=100000 then some xs else none
section
variable {X:Cx} {O:List Nat} {e:Expr} {es:List Expr} {ga:DS->Option D} {gr:DS->Option (List D)} {pos:Pos}
theorem ag:PA X [] (vY X.K O af):=cZ.mono λσ H Q hh=>hh.e λU A0 δ d R ed q=>by cases ed; exact q [] H (aA.refl H) .nil
theorem ab (ha:PE X e (tE X.K O ga)) (hr:PA X es (vY X.K O gr)) (hs:starEach (e :: es) X.env=(false,eval e X.env) :: starEach es X.env:=by rfl):PA X (e :: es) (vY X.K O (aa ga gr)):=(bQ ha hr hs).mono λσ H Q hh=>hh.e λU A0 δ ds R ed q=>by
 obtain ⟨x,xs,e1,e2,e3⟩:=wz ed
 cases e3
 exact ⟨U,A0,δ,x,R,e1,λv H1 s1 h1=>⟨U,A0,δ,xs,R.same s1,e2,λvs H2 s2 h2=>q _ H2 (s1.trans s2) (.cons (h1.same (bR s2)) h2)⟩⟩
theorem aC:PA X [] (o7 X.K O af):=cZ.mono λσ H Q hh=>hh.e λU A0 δ d R ed q=>by cases ed; exact q [] H (aA.refl H) .nil
theorem av (ha:PE X e (iT X.K O ga)) (hr:PA X es (o7 X.K O gr)) (hs:starEach (e :: es) X.env=(false,eval e X.env) :: starEach es X.env:=by rfl):PA X (e :: es) (o7 X.K O (aa ga gr)):=(bQ ha hr hs).mono λσ H Q hh=>hh.e λU A0 δ ds R ed q=>by
 obtain ⟨x,xs,e1,e2,e3⟩:=wz ed
 cases e3
 exact ⟨U,A0,δ,x,R,e1,λv H1 s1 h1=>⟨U,A0,δ,xs,R.same s1,e2,λvs H2 s2 h2=>q _ H2 (s1.trans s2) (.cons (h1.same s2) h2)⟩⟩
set_option tactic.hygienic true in
theorem bA {x1} (h:PA X es (vY X.K O gr)):PE X (.Tuple es x1 pos) (tE X.K O (aQ gr)):=(Dd h).mono λσ H Q hh=>hh.e λU A0 δ d R ed q=>by
 obtain ⟨xs,e1,e2⟩:=bind1 ed
 split at e2
 .rename_i hz
  cases e2
  refine ⟨U,A0,δ,xs,R,e1,λvs H' s h=>⟨by have:=h.len; exact small (by omega),λp hp=>q _ _ (s.trans (cx hp _)) (HD.wD (R.same s).al hp h)⟩⟩
 .cases e2
set_option tactic.hygienic true in
theorem gv (h:PA X es (vY X.K O gr)):PE X (.List es pos) (tN X.K O (gI gr)):=(LL h).mono λσ H Q hh=>hh.e λU A0 δ d R ed q=>by
 obtain ⟨xs,e1,e2⟩:=bind1 ed
 split at e2
 .rename_i hz
  cases e2
  refine ⟨U,A0,δ,d,R,e1,λvs H' s h=>⟨by have:=h.len; exact small (by omega),λp hp=>sP s q p vs hp h⟩⟩
 .cases e2
end
def iU (K:PySem.W.Frag) (n:Nat) (G:List D->Option D):Sp:=λvs H Q _=>vs.length=n /\ ∃ A ds d,Ls A H /\ cg K (wo H A) vs ds /\ G ds=some d /\ ∀ v H',aA H H'->HD K (wo H' A) v d->Q v H'
def wG (K:PySem.W.Frag) (n:Nat) (G:List D->Option (List D)):Sp:=λvs H Q _=>vs.length=n /\ ∃ A ds d,Ls A H /\ cg K (wo H A) vs ds /\ G ds=some d /\
 ∀ r ys H',aA H H'->H r=none->H' r=some (.lst ys)->cg K (wo H' (r :: A)) ys d->Q (.ref r) H'
def ay (G:List D->Option D) (n:Nat) (g:DS->Option (List D)):DS->Option D:=λδ=>(g δ).bind λds=>if ds.length=n then G ds else none
def c6 (G:List D->Option (List D)) (n:Nat) (g:DS->Option (List D)):DS->Option (List D):=λδ=>(g δ).bind λds=>if ds.length=n then G ds else none
def nc (G:List D->Option D) (n:Nat) (g:DS->Option (List D)):DS->Option D:=λδ=>(g δ).bind λds=>if ds.length=n then (G ds).bind λd=>if yj d=true then some d else none else none
section
variable {X:Cx} {O:List Nat} {e:Expr} {es:List Expr} {gr:DS->Option (List D)} {pos p:Pos} {n k kk:Nat} {x:Str} {ps:List Str}
theorem qe.Mi {K:PySem.W.Frag} {A:List Addr} {H:Hp}:∀ {vs:List V} {ds:List D},qe K A H vs ds->cg K H vs ds
 | _,_,.nil=>.nil
 | _,_,.cons h t=>.cons h.Hi (qe.Mi t)
set_option tactic.hygienic true in
theorem Ht {G:List D->Option D} (F:Dn X.prog X.w X.K X.mg X.base k x ps (iU X.K n G)) (hr:cJ kk X.A) (hk:k<=kk) (ha:PA X (e :: es) (vY X.K O gr)) (hg:Gl X x:=by rfl)
  (mU:(x == ("__debug__":Str))=false:=by decide) (he:starEach (e :: es) X.env=(false,eval e X.env) :: starEach es X.env:=by rfl) (i4:(backTo pos (starEach es X.env)).any (·.1)=false:=by rfl):
  PE X (.Call (.Name x p) (e :: es) [] pos) (tE X.K O (ay G n gr)):=(qc F hr hk ha hg mU he i4).mono λσ H Q hh=>hh.e λU A0 δ d R ed q=>by
 obtain ⟨ds,e1,e2⟩:=bind1 ed
 split at e2
 .rename_i hn
  refine ⟨U,A0,δ,ds,R,e1,λvs H' s h=>?_⟩
  show iU X.K n G (vs ++ []) H' Q E0
  rw [Z7]
  exact ⟨by rw [h.len]; exact hn,U ++ A0,ds,d,(R.same s).al,h,e2,λv H2 s2 h2=>q v H2 (s.trans s2) h2⟩
 .cases e2
set_option tactic.hygienic true in
theorem eJ {G:List D->Option (List D)} (F:Dn X.prog X.w X.K X.mg X.base k x ps (wG X.K n G)) (hr:cJ kk X.A) (hk:k<=kk) (ha:PA X (e :: es) (vY X.K O gr)) (hg:Gl X x:=by rfl)
  (mU:(x == ("__debug__":Str))=false:=by decide) (he:starEach (e :: es) X.env=(false,eval e X.env) :: starEach es X.env:=by rfl) (i4:(backTo pos (starEach es X.env)).any (·.1)=false:=by rfl):
  PE X (.Call (.Name x p) (e :: es) [] pos) (tN X.K O (c6 G n gr)):=(qc F hr hk ha hg mU he i4).mono λσ H Q hh=>hh.e λU A0 δ d R ed q=>by
 obtain ⟨ds,e1,e2⟩:=bind1 ed
 split at e2
 .rename_i hn
  refine ⟨U,A0,δ,ds,R,e1,λvs H' s h=>?_⟩
  show wG X.K n G (vs ++ []) H' Q E0
  rw [Z7]
  exact ⟨by rw [h.len]; exact hn,U ++ A0,ds,d,(R.same s).al,h,e2,λr ys H2 s2 h0 h1 h2=>q r ys H2 (s.trans s2) (s.free h0) h1 h2⟩
 .cases e2
set_option tactic.hygienic true in
theorem BR {G:List D->Option D} (F:Dn X.prog X.w X.K X.mg X.base k x ps (iU X.K n G)) (hr:cJ kk X.A) (hk:k<=kk) (ha:PA X (e :: es) (o7 X.K O gr)) (hg:Gl X x:=by rfl)
  (mU:(x == ("__debug__":Str))=false:=by decide) (he:starEach (e :: es) X.env=(false,eval e X.env) :: starEach es X.env:=by rfl) (i4:(backTo pos (starEach es X.env)).any (·.1)=false:=by rfl):
  PE X (.Call (.Name x p) (e :: es) [] pos) (tE X.K O (nc G n gr)):=(qc F hr hk ha hg mU he i4).mono λσ H Q hh=>hh.e λU A0 δ d R ed q=>by
 obtain ⟨ds,e1,e2⟩:=bind1 ed
 split at e2
 .rename_i hn
  obtain ⟨d',e3,e4⟩:=bind1 e2
  split at e4
  .rename_i hL
   cases e4
   refine ⟨U,A0,δ,ds,R,e1,λvs H' s h=>?_⟩
   show iU X.K n G (vs ++ []) H' Q E0
   rw [Z7]
   have h':=h.Mi
   refine ⟨by rw [h'.len]; exact hn,[],ds,d,⟨λ_ z=>by simp at z,(R.same s).al.2⟩,by rw [qd]; exact h',e3,λv H2 s2 h2=>q v H2 (s.trans s2) ?_⟩
   rw [qd] at h2
   exact h2.off (R.same (s.trans s2)).al hL
  .cases e4
 .cases e2
end
def rT (K:PySem.W.Frag) (r:List V->Hp->VK->Prop) (f:List D->Option D):Prop:=∀ (A:List Addr) (H:Hp) (vs:List V) (ds:List D) (d:D) (Q:VK),Ls A H->qe K A H vs ds->f ds=some d->(∀ v H',aA H H'->HD K (wo H' A) v d->Q v H')->r vs H Q
def DM (K:PySem.W.Frag) (r:List V->Hp->VK->Prop) (f:List D->Option (List D)):Prop:=∀ (A:List Addr) (H:Hp) (vs:List V) (ds:List D) (d:List D) (Q:VK),Ls A H->qe K A H vs ds->f ds=some d->
 (∀ p ys,H p=none->cg K (wo H A) ys d->Q (.ref p) (upd H p (.lst ys)))->r vs H Q
def d7 (f:List D->Option D) (g:DS->Option (List D)):DS->Option D:=λδ=>(g δ).bind f
def wH (f:List D->Option (List D)) (g:DS->Option (List D)):DS->Option (List D):=λδ=>(g δ).bind f
section
variable {X:Cx} {O:List Nat} {e:Expr} {es:List Expr} {gr:DS->Option (List D)} {pos p:Pos} {x:Str} {r:List V->Hp->VK->Prop} {id T:String}
theorem Kb {K:PySem.W.Frag} {f:List D->Option D} (imp:rT K r f) {σ:St} {H:Hp} {Q:VK}:tE K O (d7 f gr) σ H Q->OU r (o7 K O gr) σ H Q:=λ⟨U,A0,δ,d,R,ed,q⟩=>by
 obtain ⟨ds,e1,e2⟩:=bind1 ed
 exact ⟨U,A0,δ,ds,R,e1,λvs H' s h=>imp _ H' vs ds d Q (R.same s).al h e2 λv H2 s2 h2=>q v H2 (s.trans s2) h2⟩
theorem Pd {K:PySem.W.Frag} {f:List D->Option (List D)} (imp:DM K r f) {σ:St} {H:Hp} {Q:VK}:tN K O (wH f gr) σ H Q->OU r (o7 K O gr) σ H Q:=λ⟨U,A0,δ,d,R,ed,q⟩=>by
 obtain ⟨ds,e1,e2⟩:=bind1 ed
 exact ⟨U,A0,δ,ds,R,e1,λvs H' s h=>imp _ H' vs ds d Q (R.same s).al h e2 (sP s q)⟩
theorem aS {f:List D->Option D} (hc:eD X (.builtin id) r) (imp:rT X.K r f) (hg:Gl X x) (hm:X.mg x=none) (hv:bootBuiltins x=some (.builtin id)) (ha:PA X (e :: es) (o7 X.K O gr)) (hn:x≠"__name__":=by decide) (mU:(x == ("__debug__":Str))=false:=by decide)
  (he:starEach (e :: es) X.env=(false,eval e X.env) :: starEach es X.env:=by rfl) (i4:(backTo pos (starEach es X.env)).any (·.1)=false:=by rfl):PE X (.Call (.Name x p) (e :: es) [] pos) (tE X.K O (d7 f gr)):=
 (pZ hc hg hm hv ha hn mU he i4).mono λ_ _ _=>Kb imp
theorem k8 {f:List D->Option D} (hc:eD X (.type T) r) (imp:rT X.K r f) (hg:Gl X x) (hm:X.mg x=none) (hv:bootBuiltins x=some (.type T)) (ha:PA X (e :: es) (o7 X.K O gr)) (hn:x≠"__name__":=by decide) (mU:(x == ("__debug__":Str))=false:=by decide)
  (he:starEach (e :: es) X.env=(false,eval e X.env) :: starEach es X.env:=by rfl) (i4:(backTo pos (starEach es X.env)).any (·.1)=false:=by rfl):PE X (.Call (.Name x p) (e :: es) [] pos) (tE X.K O (d7 f gr)):=
 (k7 hc hg hm hv ha hn mU he i4).mono λ_ _ _=>Kb imp
theorem qk {f:List D->Option (List D)} (hc:eD X (.type T) r) (imp:DM X.K r f) (hg:Gl X x) (hm:X.mg x=none) (hv:bootBuiltins x=some (.type T)) (ha:PA X (e :: es) (o7 X.K O gr)) (hn:x≠"__name__":=by decide) (mU:(x == ("__debug__":Str))=false:=by decide)
  (he:starEach (e :: es) X.env=(false,eval e X.env) :: starEach es X.env:=by rfl) (i4:(backTo pos (starEach es X.env)).any (·.1)=false:=by rfl):PE X (.Call (.Name x p) (e :: es) [] pos) (tN X.K O (wH f gr)):=
 (k7 hc hg hm hv ha hn mU he i4).mono λ_ _ _=>Pd imp
end
theorem Gh {K:PySem.W.Frag} {A:List Addr} {H:Hp} {vs:List V} {d:D} (h:qe K A H vs [d]):∃ v,vs=[v] /\ gK K A H v d:=by
 unfold qe at h
 cases h with
 | cons a t=>cases t; exact ⟨_,rfl,a⟩
theorem UU {K:PySem.W.Frag} {A:List Addr} {H:Hp} {vs:List V} {d e:D} (h:qe K A H vs [d,e]):∃ v u,vs=[v,u] /\ gK K A H v d /\ gK K A H u e:=by
 unfold qe at h
 cases h with
 | cons a t=>cases t with
   | cons b t=>cases t; exact ⟨_,_,rfl,a,b⟩
def dh:List D->Option D
 | [.list l]=>some (.int l.length)
 | [.tuple l]=>some (.int l.length)
 | [.str z]=>if z.length<=100000 then some (.int z.length) else none
 | _=>none
theorem bB {X:Cx}:eD X (.builtin "len") (λxs H Q=>(∃ p ys,xs=[.ref p] /\ (iW X.K H p ys \/ iX X.K H p ys) /\ Q (.int ys.length) H) \/ ∃ z,xs=[.str z] /\ z.length<=sizeLine /\ Q (.int z.length) H):=tV.or tW
theorem cC {K:PySem.W.Frag}:rT K (λxs H Q=>(∃ p ys,xs=[.ref p] /\ (iW K H p ys \/ iX K H p ys) /\ Q (.int ys.length) H) \/ ∃ z,xs=[.str z] /\ z.length<=sizeLine /\ Q (.int z.length) H) dh:=by
 intro A H vs ds d Q al h e q
 unfold dh at e
 split at e
 .cases e
  obtain ⟨v,rfl,h1⟩:=Gh h
  clear h
  have h:=h1
  obtain ⟨p,xs,rfl,h1,h2⟩:=h.list
  refine .inl ⟨p,xs,rfl,.inl h1.sq,?_⟩
  rw [h2.len]
  exact q _ H (aA.refl H) (.int _)
 .cases e
  obtain ⟨v,rfl,h1⟩:=Gh h
  clear h
  have h:=h1
  obtain ⟨p,xs,rfl,h1,h2⟩:=h.tuple
  refine .inl ⟨p,xs,rfl,.inr h1,?_⟩
  rw [h2.len]
  exact q _ H (aA.refl H) (.int _)
 .split at e
  .cases e
   obtain ⟨v,rfl,h1⟩:=Gh h
   exact .inr ⟨_,by rw [h1.str],small (by assumption),q _ H (aA.refl H) (.int _)⟩
  .cases e
 .cases e
def ng:List D->Option D
 | [.int i]=>some (.int (if i < 0 then -i else i))
 | _=>none
theorem k9 {K:PySem.W.Frag}:rT K (λxs H Q=>∃ i,xs=[.int i] /\ Q (.int (if i < 0 then -i else i)) H) ng:=by
 intro A H vs ds d Q al h e q
 unfold ng at e
 split at e
 .cases e
  obtain ⟨v,rfl,h1⟩:=Gh h
  clear h
  have h:=h1
  exact ⟨_,by rw [h.int],q _ H (aA.refl H) (.int _)⟩
 .cases e
def oK:List D->Option D
 | [.int i,.int j]=>some (.int (if j > i then j else i))
 | _=>none
def ql:List D->Option D
 | [.int i,.int j]=>some (.int (if j < i then j else i))
 | _=>none
theorem As {K:PySem.W.Frag}:rT K (λxs H Q=>∃ i j,xs=[.int i,.int j] /\ Q (.int (if j > i then j else i)) H) oK:=by
 intro A H vs ds d Q al h e q
 unfold oK at e
 split at e
 .cases e
  obtain ⟨v,u,rfl,h1,h'⟩:=UU h
  clear h
  have h:=h1
  exact ⟨_,_,by rw [h.int,h'.int],q _ H (aA.refl H) (.int _)⟩
 .cases e
theorem Au {K:PySem.W.Frag}:rT K (λxs H Q=>∃ i j,xs=[.int i,.int j] /\ Q (.int (if j < i then j else i)) H) ql:=by
 intro A H vs ds d Q al h e q
 unfold ql at e
 split at e
 .cases e
  obtain ⟨v,u,rfl,h1,h'⟩:=UU h
  clear h
  have h:=h1
  exact ⟨_,_,by rw [h.int,h'.int],q _ H (aA.refl H) (.int _)⟩
 .cases e
def wI:List D->Option D
 | [.int i]=>some (.int i)
 | [.bool k]=>some (.int (if k then 1 else 0))
 | _=>none
theorem Av {K:PySem.W.Frag}:rT K (λxs H Q=>(∃ i,xs=[.int i] /\ Q (.int i) H) \/ ∃ k,xs=[.bl k] /\ Q (.int (if k then 1 else 0)) H) wI:=by
 intro A H vs ds d Q al h e q
 unfold wI at e
 split at e
 .cases e
  obtain ⟨v,rfl,h1⟩:=Gh h
  clear h
  have h:=h1
  exact .inl ⟨_,by rw [h.int],q _ H (aA.refl H) (.int _)⟩
 .cases e
  obtain ⟨v,rfl,h1⟩:=Gh h
  clear h
  have h:=h1
  exact .inr ⟨_,by rw [h.bool],q _ H (aA.refl H) (.int _)⟩
 .cases e
def lW:List D->Option (List D)
 | [.list l]=>some l
 | [.tuple l]=>some l
 | _=>none
theorem wJ {K:PySem.W.Frag}:DM K (λxs H Q=>∃ p ys,xs=[.ref p] /\ (iW K H p ys \/ iX K H p ys) /\ ∀ l,H l=none->Q (.ref l) (upd H l (.lst ys))) lW:=by
 intro A H vs ds d Q al h e q
 unfold lW at e
 split at e
 .cases e
  obtain ⟨v,rfl,h1⟩:=Gh h
  clear h
  have h:=h1
  obtain ⟨p,xs,rfl,h1,h2⟩:=h.list
  exact ⟨p,xs,rfl,.inl h1.sq,λl hl=>q l xs hl h2⟩
 .cases e
  obtain ⟨v,rfl,h1⟩:=Gh h
  clear h
  have h:=h1
  obtain ⟨p,xs,rfl,h1,h2⟩:=h.tuple
  exact ⟨p,xs,rfl,.inr h1,λl hl=>q l xs hl h2⟩
 .cases e
def km:List D->Option D
 | [.list l]=>some (.tuple l)
 | [.tuple l]=>some (.tuple l)
 | _=>none
theorem sR {K:PySem.W.Frag}:rT K (λxs H Q=>∃ p ys,xs=[.ref p] /\ ((iW K H p ys /\ ∀ l,H l=none->Q (.ref l) (upd H l (.tup ys))) \/ (iX K H p ys /\ Q (.ref p) H))) km:=by
 intro A H vs ds d Q al h e q
 unfold km at e
 split at e
 .cases e
  obtain ⟨v,rfl,h1⟩:=Gh h
  clear h
  have h:=h1
  obtain ⟨p,xs,rfl,h1,h2⟩:=h.list
  exact ⟨p,xs,rfl,.inl ⟨h1.sq,λl hl=>q _ _ (cx hl _) (HD.wD al hl h2)⟩⟩
 .cases e
  obtain ⟨v,rfl,h1⟩:=Gh h
  clear h
  have h:=h1
  have h':=h.fz
  obtain ⟨p,xs,rfl,h1,h2⟩:=h.tuple
  exact ⟨p,xs,rfl,.inr ⟨h1,q _ H (aA.refl H) h'⟩⟩
 .cases e
def tyName:D->String
 | .none=>"NoneType"
 | .bool _=>"bool"
 | .int _=>"int"
 | .str _=>"str"
 | .list _=>"list"
 | .tuple _=>"tuple"
 | .dict _=>"dict"
theorem Mj {K:PySem.W.Frag} {t n:String} {b:Bool} (h:(Value.type t == Value.type n)=false) (h2:PySem.W.kitMeta n=true) (h3:(fastBuiltinMro t).map (·.contains (Value.type n))=some b):PySem.W.kitOne K (.type t) (.type n)=some b:=by
 unfold PySem.W.kitOne PySem.W.kitCls
 rw [h,Zj (by decide)]
 show (if PySem.W.kitMeta n=true then PySem.W.subIn K (.type t) (.type n) else none)=some b
 rw [Zk h2]
 exact h3
def eK:List String:=["int","bool","str","list","tuple","NoneType"]
def yO (n:String):List D->Option D
 | [d]=>if tyName d∈eK /\ n∈eK then some (.bool (decide (tyName d=n) || (decide (tyName d="bool") && decide (n="int")))) else none
 | _=>none
theorem Hu {K:PySem.W.Frag} {t n:String} (ht:t∈eK) (hn:n∈eK):PySem.W.kitOne K (.type t) (.type n)=some (decide (t=n) || (decide (t="bool") && decide (n="int"))):=by
 by_cases h:t=n
 .subst h
  rw [Dx]; simp
 .have all:∀ t∈eK,∀ n∈eK,t≠n->(Value.type t == Value.type n)=false /\ PySem.W.kitMeta n=true /\ (fastBuiltinMro t).map (·.contains (Value.type n))=some (decide (t=n) || (decide (t="bool") && decide (n="int"))):=by decide +kernel
  obtain ⟨h1,h2,h3⟩:=all t ht n hn h
  exact Mj h1 h2 h3
theorem gK.ty {K:PySem.W.Frag} {A:List Addr} {H:Hp} {v:V} {d:D} (h:gK K A H v d) (hn:tyName d∈eK):UQ K H v (tyName d):=by
 cases d with
 | none=>rw [h.gu]; exact .inl .gu
 | bool b=>rw [h.bool]; exact .inl (.bl b)
 | int i=>rw [h.int]; exact .inl (.int i)
 | str x=>rw [h.str]; exact .inl (.str x)
 | list l=>obtain ⟨p,xs,rfl,h1,_⟩:=h.list; exact .inr (.inr ⟨p,xs,rfl,h1.sq,rfl⟩)
 | tuple l=>obtain ⟨p,xs,rfl,h1,_⟩:=h.tuple; exact .inr (.inl ⟨p,xs,rfl,h1,rfl⟩)
 | dict l=>simp [tyName,eK] at hn
section
variable {X:Cx} {O:List Nat} {e:Expr} {ga:DS->Option D} {pos p p2:Pos}
def t8 (n:String) (g:DS->Option D):DS->Option D:=λδ=>(g δ).bind λd=>yO n [d]
set_option tactic.hygienic true in
theorem qo {n:Str} (T:String) (hB:X.mg "isinstance"=none) (ha:PE X e (iT X.K O ga)) (ht:PE X (.Name n p2) (tC (.ty T))) (hg:Gl X "isinstance":=by rfl)
  (he:starEach [e,.Name n p2] X.env=(false,eval e X.env) :: starEach [.Name n p2] X.env:=by rfl) (Mk:starEach [.Name n p2] X.env=(false,eval (.Name n p2) X.env) :: starEach [] X.env:=by rfl) (i4:(backTo pos (starEach [.Name n p2] X.env)).any (·.1)=false:=by rfl):
  PE X (.Call (.Name "isinstance" p) [e,.Name n p2] [] pos) (tE X.K O (t8 T ga)):=
 (pZ Dw hg hB rQ (bQ ha (bQ ht cZ Mk) he) (by decide) (by decide) he i4).mono λσ H Q hh=>hh.e λU A0 δ d R ed q=>by
  obtain ⟨x,e1,e2⟩:=bind1 ed
  have e3:(if tyName x∈eK /\ T∈eK then some (PyData.bool (decide (tyName x=T) || (decide (tyName x="bool") && decide (T="int")))) else none)=some d:=e2
  split at e3
  .rename_i hz
   cases e3
   refine ⟨U,A0,δ,x,R,e1,λv H' s h=>?_⟩
   exact ⟨v,T,tyName x,_,rfl,h.ty hz.1,Hu hz.1 hz.2,q _ H' s (.bl _)⟩
  .cases e3
end
def kn (g:DS->Option D):DS->Option (Option Int):=λδ=>(g δ).bind λ| .int i=>some (some i) | _=>none
def t9:DS->Option (Option Int):=λ_=>some none
def N0 (K:PySem.W.Frag) (O:List Nat) (g:DS->Option (Option Int)):TO:=λσ H Q=>∃ U A0 δ d,Rel K O U A0 σ δ H /\ g δ=some d /\ ∀ H',aA H H'->Q d H'
theorem N0.e {K:PySem.W.Frag} {O:List Nat} {g:DS->Option (Option Int)}  {σ:_} {H:_} {Q:_} {GG:Prop} (hh:N0 K O g σ H Q) (kk:∀ U A0 δ d,(Rel K O U A0 σ δ H)->(g δ=some d)->(∀ H',aA H H'->Q d H')->GG):GG:=by obtain ⟨U,A0,δ,d,x0,x1,x2⟩:=hh; exact kk U A0 δ d x0 x1 x2
def cutD (xs:List D) (lo hi:Option Int):List D:=(xs.drop (HT.p0 xs.length 0 lo)).take (HT.p0 xs.length xs.length hi - HT.p0 xs.length 0 lo)
def BS (a:DS->Option D) (lo hi:DS->Option (Option Int)):DS->Option (List D):=λδ=>(a δ).bind λx=>(lo δ).bind λl=>(hi δ).bind λh=>match x with
 | .list ds=>some (cutD ds l h)
 | _=>none
section
variable {X:Cx} {O:List Nat} {e:Expr} {lo hi:Option Expr} {ga:DS->Option D} {gl gh:DS->Option (Option Int)} {pos p2:Pos}
theorem DN:PO X none (N0 X.K O t9):=GV.mono λσ H Q hh=>hh.e λU A0 δ d R ed q=>by cases ed; exact q H (aA.refl H)
theorem qp (h:PE X e (iT X.K O ga)):PO X (some e) (N0 X.K O (kn ga)):=(GW h).mono λσ H Q hh=>hh.e λU A0 δ d R ed q=>by
 obtain ⟨x,e1,e2⟩:=bind1 ed
 cases x with
 | int i=>cases e2; exact ⟨U,A0,δ,_,R,e1,λv H' s h=>⟨i,h.int,q H' s⟩⟩
 | _=>cases e2
theorem DO (ha:PE X e (iT X.K O ga)) (hl:PO X lo (N0 X.K O gl)) (hh:PO X hi (N0 X.K O gh)):PE X (.Subscript e (.Slice lo hi none p2) pos) (tN X.K O (BS ga gl gh)):=(Dh G4 ha hl hh).mono λσ H Q hh=>hh.e λU A0 δ d R ed q=>by
 obtain ⟨x,e1,e2⟩:=bind1 ed
 obtain ⟨l,e3,e4⟩:=bind1 e2
 obtain ⟨h,e5,e6⟩:=bind1 e4
 cases x with
 | list ds=>
   cases e6
   refine ⟨U,A0,δ,_,R,e1,λv H1 s1 h1=>⟨U,A0,δ,l,R.same s1,e3,λH2 s2=>⟨U,A0,δ,h,R.same (s1.trans s2),e5,λH3 s3=>?_⟩⟩⟩
   obtain ⟨p,xs,rfl,r1,r2⟩:=(h1.same (s2.trans s3)).list
   refine ⟨p,xs,rfl,r1.sq,λr hr=>sP ((s1.trans s2).trans s3) q r _ hr ?_⟩
   unfold Di cutD
   rw [r2.len]
   exact (r2.DG _).DF _
 | _=>cases e6
end
def aw (a b:DS->Option Res):DS->Option Res:=λδ=>(a δ).bind λ| .nx δ'=>b δ' | r=>some r
def cn:DS->Option Res:=λδ=>some (.nx δ)
def iV (c:DS->Option Bool) (a b:DS->Option Res):DS->Option Res:=λδ=>(c δ).bind λx=>if x=true then a δ else b δ
def aG (i:Nat) (g:DS->Option D):DS->Option Res:=λδ=>(g δ).bind λd=>some (.nx (δ.set i (some d)))
def jV (i:Nat) (g:DS->Option (List D)):DS->Option Res:=λδ=>(g δ).bind λd=>some (.nx (δ.set i (some (.list d))))
def bx (g:DS->Option D):DS->Option Res:=λδ=>(g δ).bind λd=>some (.rt d)
def qq (g:DS->Option D):DS->Option Res:=λδ=>(g δ).bind λ_=>some (.nx δ)
def SH (g:DS->Option D) (t:D->DS->Option DS):DS->Option Res:=λδ=>(g δ).bind λd=>(t d δ).bind λδ'=>some (.nx δ')
section
variable {X:Cx} {O:List Nat} {fr:Bool} {st:Stmt} {rest a b:List Stmt} {ga gb:DS->Option Res} {gc:DS->Option Bool} {ge:DS->Option D} {gl:DS->Option (List D)} {e c:Expr} {pos:Pos}
theorem aj (h1:PS X st (tS X.K O fr ga)) (h2:jk X rest (tS X.K O fr gb)):jk X (st :: rest) (tS X.K O fr (aw ga gb)):=(ka h1 h2).mono λE σ H hh=>hh.e λH0 U A0 δ r R F ed P=>by
 obtain ⟨r1,e1,e2⟩:=bind1 ed
 cases r1 with
 | nx δ'=>exact ⟨H0,U,A0,δ,.nx δ',R,F,e1,λU' cX H' R' F'=>⟨H0,U',A0,δ',r,R',F',e2,P⟩⟩
 | rt d=>cases e2; exact ⟨H0,U,A0,δ,_,R,F,e1,P⟩
 | bk d=>cases e2; exact ⟨H0,U,A0,δ,_,R,F,e1,P⟩
 | ct d=>cases e2; exact ⟨H0,U,A0,δ,_,R,F,e1,P⟩
theorem aq (h1:PS X st (tS X.K O fr ga)):jk X [st] (tS X.K O fr ga):=GC h1
theorem cL:jk X [] (tS X.K O fr cn):=Af.mono λE σ H hh=>hh.e λH0 U A0 δ r R F ed P=>by cases ed; exact P U σ H R F
theorem qr:PS X st (tS X.K O fr λ_=>none):=CZ.mono λE σ H hh=>hh.e λH0 U A0 δ r R F ed P=>by cases ed
theorem eE (hc:PT X c (tT X.K O gc)) (ha:jk X a (tS X.K O fr ga)) (hb:jk X b (tS X.K O fr gb)):PS X (.If c a b pos) (tS X.K O fr (iV gc ga gb)):=(JQ hc ha hb).mono λE σ H hh=>hh.e λH0 U A0 δ r R F ed P=>by
 obtain ⟨x,e1,e2⟩:=bind1 ed
 refine ⟨U,A0,δ,x,R,e1,λH' s=>?_⟩
 cases x with
 | true=>rw [Zk rfl] at e2 ⊢; exact ⟨H0,U,A0,δ,r,R.same s,F.grow s,e2,P⟩
 | false=>rw [Zj Zt] at e2 ⊢; exact ⟨H0,U,A0,δ,r,R.same s,F.grow s,e2,P⟩
theorem yP {i:Nat} (h:PS X st (pW (tE X.K O ge) (iY i))) (hi:i∉O:=by decide):PS X st (tS X.K O fr (aG i ge)):=h.mono λE σ H hh=>hh.e λH0 U A0 δ r R F ed P=>by
 obtain ⟨d,e1,e2⟩:=bind1 ed
 cases e2
 exact ⟨U,A0,δ,d,R,e1,λv H' s hv=>P U _ H' ((R.same s).set hi hv) (F.grow s)⟩
theorem fV {i:Nat} (h:PS X st (pW (tN X.K O gl) (iY i))) (hi:i∈O:=by decide):PS X st (tS X.K O fr (jV i gl)):=h.mono λE σ H hh=>hh.e λH0 U A0 δ r R F ed P=>by
 obtain ⟨d,e1,e2⟩:=bind1 ed
 cases e2
 exact ⟨U,A0,δ,d,R,e1,λr ys H' s hr h1 h2=>P (r :: U) _ H' (R.Sy s hr h1 h2 hi) (F.more s hr)⟩
theorem ua (h:PS X st (sC (tE X.K O ge))):PS X st (tS X.K O fr (qq ge)):=h.mono λE σ H hh=>hh.e λH0 U A0 δ r R F ed P=>by
 obtain ⟨d,e1,e2⟩:=bind1 ed
 cases e2
 exact ⟨U,A0,δ,d,R,e1,λv H' s hv=>P U σ H' (R.same s) (F.grow s)⟩
theorem aW (h:PE X e (tE X.K O ge)):PS X (.Return (some e) pos) (tS X.K O false (bx ge)):=(pU h).mono λE σ H hh=>hh.e λH0 U A0 δ r R F ed P=>by
 obtain ⟨d,e1,e2⟩:=bind1 ed
 cases e2
 refine ⟨U,A0,δ,d,R,e1,λv H' s hv=>P v H' ?_⟩
 unfold lS
 rw [Zj Zt]
 exact ⟨F.same.trans s,hv.same (iG λa ha=>Zg _ ha)⟩
theorem nh (h:PE X e (tN X.K O gl)):PS X (.Return (some e) pos) (tS X.K O true (bx (bJ gl))):=(pU h).mono λE σ H hh=>hh.e λH0 U A0 δ r R F ed P=>by
 obtain ⟨d,e1,e2⟩:=bind1 ed
 cases e2
 unfold bJ at e1
 cases eg:gl δ with
 | none=>rw [eg] at e1; cases e1
 | some l=>
   rw [eg] at e1; cases e1
   refine ⟨U,A0,δ,l,R,eg,λr ys H' s hr h1 h2=>P (.ref r) H' ?_⟩
   unfold lS
   rw [Zk rfl]
   refine .inl ⟨r,_,rfl,F.same.trans s,F.same.free hr,h1,.lst (h2.same (iG λa ha=>?_))⟩
   rcases Y6.mp ha with z | z
   .subst z; simp
   .exact Y8 _ (Zg _ z)
theorem fw {i:Nat} (h:PE X e (pT i)) (hi:i∈O:=by decide):PS X (.Return (some e) pos) (tS X.K O fr (bx (ae i))):=(pU h).mono λE σ H hh=>hh.e λH0 U A0 δ r R F ed P=>by
 obtain ⟨d,e1,e2⟩:=bind1 ed
 cases e2
 obtain ⟨l,o,hl,hU,h1,h2⟩:=R.ow i d hi (join_some e1)
 refine ⟨.ref l,hl,P (.ref l) H ?_⟩
 unfold lS
 split
 .refine .inl ⟨l,o,rfl,F.same,F.new l hU,h1,h2.same (iG λa ha=>?_)⟩
  rcases Y6.mp ha with z | z
  .subst z; exact ZX _ hU
  .exact Zg _ z
 .refine ⟨F.same,(h2.same (iG λa ha=>Zg _ ha)).hd ?_⟩
  rw [bp (F.out hU)]; exact h1
def rV (i:Nat) (g:DS->Option D):DS->Option Res:=λδ=>(ae i δ).bind λx=>(g δ).bind λd=>match x with
 | .list ds=>if ds.length < 100000 then some (.nx (δ.set i (some (.list (ds ++ [d]))))) else none
 | _=>none
set_option tactic.hygienic true in
theorem g4 {i:Nat} (h:PS X st (sC (O0 X.K "list" tX (pT i) (pY (tE X.K O ge) BF)))) (hi:i∈O:=by decide):PS X st (tS X.K O fr (rV i ge)):=h.mono λE σ H hh=>hh.e λH0 U A0 δ r R F ed P=>by
 obtain ⟨x,e1,e2⟩:=bind1 ed
 obtain ⟨d,e3,e4⟩:=bind1 e2
 rcases R.Sx i x hi (join_some e1) with ⟨l,ys,ds,hl,rfl,hU,h1,h2⟩ | ⟨kds,rfl⟩
 rotate_left
 ·(exfalso; simp_all; done)
 simp only at e4
 split at e4
 .rename_i hz
  cases e4
  refine ⟨.ref l,hl,.inl ⟨rfl,ys,iW.of h1⟩,U,A0,δ,d,R,e3,λv H' s hv=>?_⟩
  have Kc:=s _ _ h1
  have Gi:=h2.same (bR (A:=U ++ A0) s)
  have hlen:=h2.len
  refine ⟨l,ys,v,rfl,rfl,Kc,yJ (by omega),?_⟩
  exact P U σ _ ((R.same s).put hi hl hU (Gi.app (.cons hv .nil)) ⟨_,join_some e1⟩) ((F.grow s).put hU _)
 .cases e4
def SI (i:Nat):DS->Option Res:=λδ=>(ae i δ).bind λx=>match x with
 | .list ds=>if ds=[] then none else some (.nx (δ.set i (some (.list ds.dropLast))))
 | _=>none
def Ml (i:Nat) (gx ge:DS->Option D):DS->Option Res:=λδ=>(ge δ).bind λd=>(ae i δ).bind λx=>(gx δ).bind λk=>match x,k with
 | .list ds,.int n=>(GY ds.length n).bind λj=>some (.nx (δ.set i (some (.list (ds.set j d)))))
 | _,_=>none
def Pe (i:Nat) (f:Int->Int->Int) (ge:DS->Option D):DS->Option Res:=λδ=>(ae i δ).bind λx=>(ge δ).bind λy=>match x,y with
 | .int a,.int b=>some (.nx (δ.set i (some (.int (f a b)))))
 | _,_=>none
end
def ub (c:DS->Option Bool) (b:DS->Option Res):Nat->DS->Option Res
 | 0,_=>none
 | n + 1,δ=>(c δ).bind λx=>if x=true then (b δ).bind (λ| .nx δ'=>ub c b n δ' | .ct δ'=>ub c b n δ' | .bk δ'=>some (.nx δ') | .rt d=>some (.rt d)) else some (.nx δ)
theorem yQ {c:DS->Option Bool} {b:DS->Option Res}:∀ {n:Nat} {δ:DS} {r:Res},ub c b n δ=some r->ub c b (n + 1) δ=some r
 | 0,_,_,h=>by cases h
 | n + 1,δ,r,h=>by
   rw [ub] at h ⊢
   obtain ⟨x,e1,e2⟩:=bind1 h
   rw [e1,Za]
   cases x with
   | false=>exact e2
   | true=>
     rw [Zk rfl] at e2 ⊢
     obtain ⟨q,e3,e4⟩:=bind1 e2
     rw [e3,Za]
     cases q with
     | nx δ'=>exact yQ e4
     | ct δ'=>exact yQ e4
     | bk _=>exact e4
     | rt _=>exact e4
theorem DP {c:DS->Option Bool} {b:DS->Option Res} {n m:Nat} {δ:DS} {r:Res} (h:ub c b n δ=some r) (hm:n<=m):ub c b m δ=some r:=by
 induction hm with
 | refl=>exact h
 | step _ ih=>exact yQ ih
open Classical in
def eG (c:DS->Option Bool) (b:DS->Option Res):DS->Option Res:=λδ=>if h:∃ p:Nat×Res,ub c b p.1 δ=some p.2 then some (choose h).2 else none
set_option tactic.hygienic true in
theorem wK {c:DS->Option Bool} {b:DS->Option Res} {δ:DS} {r:Res} (h:eG c b δ=some r):∃ n,ub c b n δ=some r:=by
 unfold eG at h
 split at h
 .rename_i hp
  cases h
  exact ⟨_,Classical.choose_spec hp⟩
 .cases h
theorem BU {c:DS->Option Bool} {b:DS->Option Res} {n:Nat} {δ:DS} {r:Res} (h:ub c b n δ=some r):eG c b δ=some r:=by
 have hp:∃ p:Nat×Res,ub c b p.1 δ=some p.2:=⟨(n,r),h⟩
 unfold eG
 rw [dif_pos hp]
 have h2:=Classical.choose_spec hp
 have a1:=DP h (Nat.le_max_left n (Classical.choose hp).1)
 have a2:=DP h2 (Nat.le_max_right n (Classical.choose hp).1)
 rw [a1] at a2
 exact a2.symm
theorem BV {c:DS->Option Bool} {b:DS->Option Res} (W:Nat->DS->Prop) (r:DS->Res->Prop) (m:Nat) (δ:DS) (h:W m δ)
  (hs:∀ m δ,W m δ->(c δ=some false /\ r δ (.nx δ)) \/ (c δ=some true /\ ((∃ δ' m',(b δ=some (.nx δ') \/ b δ=some (.ct δ')) /\ m' < m /\ W m' δ' /\ ∀ q,r δ' q->r δ q) \/ (∃ δ',b δ=some (.bk δ') /\ r δ (.nx δ')) \/ ∃ d,b δ=some (.rt d) /\ r δ (.rt d)))):
  ∃ q,eG c b δ=some q /\ r δ q:=by
 suffices hh:∀ k m δ,m < k->W m δ->∃ n q,ub c b n δ=some q /\ r δ q by
  obtain ⟨n,q,e,hq⟩:=hh (m + 1) m δ (aar m) h
  exact ⟨q,BU e,hq⟩
 intro k
 induction k with
 | zero=>intro m δ hm; omega
 | succ k ih=>
   intro m δ hm hW
   rcases hs m δ hW with ⟨hc,hr⟩ | ⟨hc,⟨δ',m',hb,fg,Wa,imp⟩ | ⟨δ',hb,hr⟩ | ⟨d,hb,hr⟩⟩
   .exact ⟨1,_,by rw [ub,hc]; rfl,hr⟩
   .obtain ⟨n,q,e,hq⟩:=ih m' δ' (by omega) Wa
    refine ⟨n + 1,q,?_,imp q hq⟩
    rw [ub,hc,Za,Zk rfl]
    rcases hb with hb | hb <;> rw [hb,Za] <;> exact e
   .exact ⟨1,_,by rw [ub,hc,Za,Zk rfl,hb]; rfl,hr⟩
   .exact ⟨1,_,by rw [ub,hc,Za,Zk rfl,hb]; rfl,hr⟩
section
variable {X:Cx} {O:List Nat} {fr:Bool} {body:List Stmt} {gb:DS->Option Res} {gc:DS->Option Bool} {c:Expr} {pos:Pos}
theorem i5 (hp:PassesOwn (model X.prog X.w) X.A X.env X.xe) (hc:PT X c (tT X.K O gc)) (hb:jk X body (tS X.K O fr gb)):PS X (.While c body [] pos) (tS X.K O fr (eG gc gb)):=(C2 hp hc hb).mono λE σ H hh=>hh.e λH0 U A0 δ r R F ed P=>by
 obtain ⟨n,en⟩:=wK ed
 refine ⟨λm σ H=>∃ U δ,Rel X.K O U A0 σ δ H /\ Fx H0 A0 U H /\ ub gc gb m δ=some r,⟨n,U,δ,R,F,en⟩,?_⟩
 rintro m σ H ⟨U,δ,R,F,em⟩
 cases m with
 | zero=>cases em
 | succ m=>
   rw [ub] at em
   obtain ⟨x,e1,e2⟩:=bind1 em
   refine ⟨U,A0,δ,x,R,e1,λH' s=>?_⟩
   cases x with
   | false=>rw [Zj Zt] at e2 ⊢; cases e2; exact P U σ H' (R.same s) (F.grow s)
   | true=>
     rw [Zk rfl] at e2 ⊢
     obtain ⟨q,e3,e4⟩:=bind1 e2
     refine ⟨λcX H'=>∃ m',m' < m + 1 /\ ∃ U δ,Rel X.K O U A0 cX δ H' /\ Fx H0 A0 U H' /\ ub gc gb m' δ=some r,λ_ _ h=>h,H0,U,A0,δ,q,R.same s,F.grow s,e3,?_⟩
     cases q with
     | nx δ'=>exact λU' cX H' R' F'=>⟨m,aar m,U',δ',R',F',e4⟩
     | ct δ'=>exact λU' cX H' R' F'=>⟨m,aar m,U',δ',R',F',e4⟩
     | bk δ'=>cases e4; exact P
     | rt d=>cases e4; exact P
end
def aR (i:Nat):D->DS->Option DS:=λd δ=>some (δ.set i (some d))
def jW (n:Nat) (g:List D->DS->Option DS):D->DS->Option DS:=λd δ=>match d with
 | .tuple ds=>if ds.length=n then g ds δ else none
 | _=>none
def ko:List D->DS->Option DS:=λds δ=>if ds=[] then some δ else none
def c7 (t:D->DS->Option DS) (u:List D->DS->Option DS):List D->DS->Option DS:=λds δ=>match ds with
 | d :: r=>(t d δ).bind λδ'=>u r δ'
 | []=>none
def N1 (K:PySem.W.Frag) (O:List Nat) (g:List D->DS->Option DS):GD:=λvs σ H Q=>∃ U A0 δ ds δ',Rel K O U A0 σ δ H /\ cg K (wo H (U ++ A0)) vs ds /\ g ds δ=some δ' /\ ∀ cX,Rel K O U A0 cX δ' H->Q cX H
theorem N1.e {K:PySem.W.Frag} {O:List Nat} {g:List D->DS->Option DS}  {vs:_} {σ:_} {H:_} {Q:_} {GG:Prop} (hh:N1 K O g vs σ H Q) (kk:∀ U A0 δ ds δ',(Rel K O U A0 σ δ H)->(cg K (wo H (U ++ A0)) vs ds)->(g ds δ=some δ')->(∀ cX,Rel K O U A0 cX δ' H->Q cX H)->GG):GG:=by obtain ⟨U,A0,δ,ds,δ',x0,x1,x2,x3⟩:=hh; exact kk U A0 δ ds δ' x0 x1 x2 x3
section
variable {X:Cx} {O:List Nat} {e:Expr} {es:List Expr} {pos:Pos}
theorem C0.mono {t t':GD} (h:C0 X es t) (m:∀ v σ H Q,t' v σ H Q->t v σ H Q):C0 X es t':=λpins s σ H v u Q I r q=>h pins s σ H v u Q I r (m v σ H Q q)
theorem aE {i:Nat} (h:PG X e (iY i)) (hi:i∉O:=by decide):PG X e (tG X.K O (aR i)):=h.mono λv σ H Q hh=>hh.e λU A0 δ d δ' R hd e1 q=>by
 cases e1
 exact q _ (R.set hi hd)
set_option tactic.hygienic true in
theorem ni:C0 X [] (N1 X.K O ko):=GF.mono λvs σ H Q hh=>hh.e λU A0 δ ds δ' R hd e1 q=>by
 unfold ko at e1
 split at e1
 .rename_i hz
  cases e1
  subst hz
  cases hd
  exact ⟨rfl,q σ R⟩
 .cases e1
theorem dA {t:D->DS->Option DS} {u:List D->DS->Option DS} (h1:PG X e (tG X.K O t)) (h2:C0 X es (N1 X.K O u)) (hs:(assignEach (e :: es) X.env).map (·.2)=assign e X.env :: (assignEach es X.env).map (·.2):=by rfl):C0 X (e :: es) (N1 X.K O (c7 t u)):=
 (C1 h1 h2 hs).mono λvs σ H Q hh=>hh.e λU A0 δ ds δ' R hd e1 q=>by
  cases hd with
  | nil=>cases e1
  | cons hx hr=>
    obtain ⟨fD,e2,e3⟩:=bind1 e1
    exact ⟨_,_,rfl,U,A0,δ,_,fD,R,hx,e2,λLy R1=>⟨U,A0,fD,_,δ',R1,hr,e3,q⟩⟩
set_option tactic.hygienic true in
theorem nj {n k:Nat} {t:List D->DS->Option DS} (hc:X.calm=true) (h:C0 X es (N1 X.K O t)) (hn:(assignEach es X.env).length=n:=by rfl) (OG:(assignEach es X.env).findIdx? (·.1)=none:=by rfl):PG X (.Tuple es k pos) (tG X.K O (jW n t)):=
 (Lz hc h hn OG).mono λv σ H Q hh=>hh.e λU A0 δ d δ' R hd e1 q=>by
  unfold jW at e1
  split at e1
  .split at e1
   .rename_i hz
    obtain ⟨a,xs,rfl,h1,h2⟩:=(gK.of hd).tuple
    exact ⟨a,xs,rfl,h1,by rw [h2.len]; exact hz,U,A0,δ,_,δ',R,h2,e1,q⟩
   .cases e1
  .cases e1
end
def j5 (t:D->DS->Option DS) (b:DS->Option Res):List D->DS->Option Res
 | [],δ=>some (.nx δ)
 | d :: ds,δ=>(t d δ).bind λfD=>(b fD).bind λ| .nx δ'=>j5 t b ds δ' | .ct δ'=>j5 t b ds δ' | .bk δ'=>some (.nx δ') | .rt d=>some (.rt d)
def eI (gi:DS->Option (List D)) (t:D->DS->Option DS) (b:DS->Option Res):DS->Option Res:=λδ=>(gi δ).bind λds=>j5 t b ds δ
set_option tactic.hygienic true in
theorem lS.trans {K:PySem.W.Frag} {fr:Bool} {H0 H H':Hp} {A0 U:List Addr} {v:V} {d:D} (F:Fx H0 A0 U H) (h:lS K fr (wo H U) A0 v d H'):lS K fr H0 A0 v d H':=by
 have k:∀ a o,H0 a=some o->wo H U a=some o:=λa o e=>by
  rw [bp λz=>?_]
  .exact F.same _ _ e
  .rw [F.new a z] at e; cases e
 unfold lS at h ⊢
 split
 .rename_i hf
  rw [Zk hf] at h
  have k':∀ r,wo H U r=none->H0 r=none:=λr e=>by
   cases q:H0 r with
   | none=>rfl
   | some o=>rw [k r o q] at e; cases e
  rcases h with ⟨r,ob,a,c,e,f,g⟩ | ⟨p,r,xs,ys,l,ds,e1,c,e,z⟩
  .exact .inl ⟨r,ob,a,λx o q=>c _ _ (k x o q),k' r e,f,g⟩
  .exact .inr ⟨p,r,xs,ys,l,ds,e1,λx o q=>c _ _ (k x o q),k' r e,z⟩
 .rename_i hf
  rw [Zj hf] at h
  exact ⟨λx o q=>h.1 _ _ (k x o q),h.2⟩
section
variable {X:Cx} {O:List Nat} {fr:Bool} {body:List Stmt} {gb:DS->Option Res} {gi:DS->Option (List D)} {tg iter:Expr} {gt:D->DS->Option DS} {pos:Pos}
theorem dJ (hp:PassesOwn (model X.prog X.w) X.A X.env X.xe) (hc:X.calm=true) (hi:PI X tg iter (tI X.K O gi)) (hg:PG X tg (tG X.K O gt)) (hb:jk X body (tS X.K O fr gb))
  (hs:∀ x,foldedSetIterable iter X.env x=pure x:=by intro _; rfl):PS X (.For tg iter body [] pos) (tS X.K O fr (eI gi gt gb)):=(LC hp hc hi hg hb hs).mono λE σ H hh=>hh.e λH0 U A0 δ r R F ed P=>by
 obtain ⟨ds,e1,e2⟩:=bind1 ed
 refine ⟨U,A0,δ,ds,R,e1,λJ H1 s hw=>?_⟩
 have F1:=F.grow s
 refine ⟨λi m σ H=>m=ds.length - i /\ i<=ds.length /\ ∃ U2 δ,Rel X.K O U2 A0 σ δ H /\ Fx H0 A0 U2 H /\ Fx (wo H1 U) A0 U2 H /\ j5 gt gb (ds.drop i) δ=some r,⟨ds.length,by simp,Nat.zero_le _,U,δ,R.same s,F1,F1.here,by simpa using e2⟩,?_⟩
 rintro i m σ H ⟨rfl,hle,U2,δ,R2,F2,G2,ef⟩
 obtain ⟨SJ,DQ⟩:=hw (U2 ++ A0) i H G2.keeps R2.al
 by_cases fg:i < ds.length
 .obtain ⟨d,hd⟩:∃ d,ds[i]?=some d:=⟨_,Y4 fg⟩
  have Pf:ds.drop i=d :: ds.drop (i + 1):=by
   rw [aaM fg]
   rw [Y4 fg] at hd
   cases hd; rfl
  obtain ⟨go,hy⟩:=SJ d hd
  rw [Pf,j5] at ef
  obtain ⟨fD,e3,e4⟩:=bind1 ef
  obtain ⟨q,e5,e6⟩:=bind1 e4
  refine .inr ⟨go,λcX H'=>∃ m',m' < ds.length - i /\ (m'=ds.length - (i + 1) /\ i + 1<=ds.length /\ ∃ U2 δ,Rel X.K O U2 A0 cX δ H' /\ Fx H0 A0 U2 H' /\ Fx (wo H1 U) A0 U2 H' /\ j5 gt gb (ds.drop (i + 1)) δ=some r),λ_ _ h=>h,λx H2 y=>?_⟩
  obtain ⟨s2,hx⟩:=hy x H2 y
  refine ⟨U2,A0,δ,d,fD,R2.same s2,hx,e3,λcX R'=>?_⟩
  have F3:=F2.grow s2
  have G3:=G2.grow s2
  refine ⟨wo H2 U2,U2,A0,fD,q,R',F3.here,e5,?_⟩
  cases q with
  | nx δ'=>exact λU' cX H' R' F'=>⟨_,by omega,rfl,fg,U',δ',R',F3.trans F',G3.trans F',e6⟩
  | ct δ'=>exact λU' cX H' R' F'=>⟨_,by omega,rfl,fg,U',δ',R',F3.trans F',G3.trans F',e6⟩
  | bk δ'=>cases e6; exact λU' cX H' R' F'=>P U' cX H' R' (F3.trans F')
  | rt d=>cases e6; exact λv H' h=>P v H' (h.trans F3)
 .have hi:i=ds.length:=by omega
  subst hi
  rw [acZ,j5] at ef
  cases ef
  exact .inl ⟨DQ rfl,P U2 σ H R2 F2⟩
end
def fG (lo:Int) (n:Nat):List D:=(List.range n).map λk:Nat=>PyData.int (lo + k)
theorem yR {lo:Int} {n i:Nat} {d:D} (h:(fG lo n)[i]?=some d):i < n /\ d=.int (lo + i):=by
 unfold fG at h
 rw [Zl] at h
 cases e:(List.range n)[i]? with
 | none=>rw [e] at h; cases h
 | some k=>
   rw [e] at h; cases h
   have hi:=(Zd.mp e).1
   rw [Z9] at hi
   rw [aaT hi] at e
   cases e
   exact ⟨hi,rfl⟩
theorem yS {lo:Int} {n:Nat}:(fG lo n).length=n:=by unfold fG; simp
theorem oM {K:PySem.W.Frag} {A:List Addr} {H1:Hp} {lo:Int} {n:Nat}:Walks K A H1 (OJ lo n) (fG lo n):=by
 intro A' i H _ _
 refine ⟨λd hd=>?_,λhi=>?_⟩
 .obtain ⟨hi,rfl⟩:=yR hd
  refine ⟨hi,λx H2 y=>?_⟩
  obtain ⟨rfl,rfl⟩:=y
  exact ⟨aA.refl _,.int _⟩
 .rw [yS] at hi
  subst hi
  exact Ze _
def jq (g:DS->Option (List D)):DS->Option (List D):=λδ=>(g δ).bind λ| [.int j]=>if -(2 ^ 62)<=j /\ j < 2 ^ 62 then some (fG 0 j.toNat) else none | _=>none
def lb (g:DS->Option (List D)):DS->Option (List D):=λδ=>(g δ).bind λ| [.int i,.int j]=>if -(2 ^ 62)<=i /\ i < 2 ^ 62 /\ -(2 ^ 62)<=j /\ j < 2 ^ 62 then some (fG i (j - i).toNat) else none | _=>none
def bb (g:DS->Option D):DS->Option (List D):=λδ=>(g δ).bind λ| .list l=>some l | .tuple l=>some l | _=>none
section
variable {X:Cx} {O:List Nat} {tg a b e:Expr} {gr:DS->Option (List D)} {ge:DS->Option D} {pos p:Pos}
set_option tactic.hygienic true in
theorem lg (hm:X.mg "range"=none) (ha:PA X [a] (vY X.K O gr)) (hg:Gl X "range":=by rfl) (hs:starEach [a] X.env=[(false,eval a X.env)]:=by rfl):PI X tg (.Call (.Name "range" p) [a] [] pos) (tI X.K O (jq gr)):=(BA hg hm ha hs).mono λσ H Q hh=>hh.e λU A0 δ ds R ed q=>by
 obtain ⟨x,e1,e2⟩:=bind1 ed
 refine ⟨U,A0,δ,x,R,e1,λvs H' s h=>?_⟩
 split at e2
 .split at e2
  .rename_i hz
   cases e2
   cases h with
   | cons h1 h2=>
     cases h2
     cases h1
     exact ⟨_,rfl,hz.1,hz.2,q _ H' s oM⟩
  .cases e2
 .cases e2
set_option tactic.hygienic true in
theorem sS (hm:X.mg "range"=none) (ha:PA X [a,b] (vY X.K O gr)) (hg:Gl X "range":=by rfl) (hs:starEach [a,b] X.env=[(false,eval a X.env),(false,eval b X.env)]:=by rfl) (mN:starEach [b] X.env=[(false,eval b X.env)]:=by rfl):PI X tg (.Call (.Name "range" p) [a,b] [] pos) (tI X.K O (lb gr)):=(BC hg hm ha hs mN).mono λσ H Q hh=>hh.e λU A0 δ ds R ed q=>by
 obtain ⟨x,e1,e2⟩:=bind1 ed
 refine ⟨U,A0,δ,x,R,e1,λvs H' s h=>?_⟩
 split at e2
 .split at e2
  .rename_i hz
   cases e2
   cases h with
   | cons h1 h2=>cases h2 with
     | cons h2 h3=>
       cases h3
       cases h1
       cases h2
       exact ⟨_,_,rfl,hz,q _ H' s oM⟩
  .cases e2
 .cases e2
def SK (K:PySem.W.Frag) (tl:TE):TI:=λσ H R=>tl σ H λx H1=>(∃ a,x=.ref a /\ (∃ xs,iW K H1 a xs) /\ R (UH K a) H1) \/ ∃ a,x=.ref a /\ (∃ xs,iX K H1 a xs) /\ R (UI K a) H1
theorem Mm {l:Expr} {tl:TE} (hl:PE X l tl):PI X tg l (SK X.K tl):=by
 intro pins s σ H R I h
 refine d6 (hl pins s σ H _ I h) λv s1 ⟨x,H1,I1,r1,q1⟩=>?_
 rcases q1 with ⟨a,e,⟨xs,hq⟩,q⟩ | ⟨a,e,⟨xs,hq⟩,q⟩
 .subst e
  cases r1
  obtain ⟨its,rv,p,hz⟩:=I1.list hq
  refine wpAny_pyIter_list p.isList ?_
  refine ⟨s1.heap.objs.size,[s1.heap.objs.size],_,_,H1,rfl,I1.kept (t':=s1.toks) λb o e=>Y5 _ e,Bz a _,⟨_,Zh _ rfl,rfl,rfl⟩,λb hb=>?_,q⟩
  have e:b=s1.heap.objs.size:=by simpa using hb
  subst e
  exact I1.oZ (Ze _) (I1.cf.fresh (Ze _))
 .subst e
  cases r1
  obtain ⟨its,rv,p,hz⟩:=I1.tuple hq
  refine wpAny_pyIter_tuple (show s1.heap.IsTuple a its.toArray from p) ?_
  refine ⟨s1.heap.objs.size,[s1.heap.objs.size],_,_,H1,rfl,I1.kept (t':=s1.toks) λb o e=>Y5 _ e,yx a _,⟨_,Zh _ rfl,rfl,rfl⟩,λb hb=>?_,q⟩
  have e:b=s1.heap.objs.size:=by simpa using hb
  subst e
  exact I1.oZ (Ze _) (I1.cf.fresh (Ze _))
theorem bZ (h:PE X e (tE X.K O ge)):PI X tg e (tI X.K O (bb ge)):=(Mm h).mono λσ H Q hh=>hh.e λU A0 δ ds R ed q=>by
 obtain ⟨x,e1,e2⟩:=bind1 ed
 cases x with
 | list l=>
   cases e2
   refine ⟨U,A0,δ,_,R,e1,λv H' s h=>?_⟩
   cases h with
   | lst hq h=>
     refine .inl ⟨_,rfl,⟨_,(hq.same cB).sq⟩,q _ H' s ?_⟩
     intro A' i H2 s2 _
     have SM:=hq.same s2
     have h2:=h.same s2
     have hL:iW X.K H2 _ _:=(SM.same cB).sq
     refine ⟨λd hd=>?_,λhi=>⟨_,hL,by rw [h2.len]; omega⟩⟩
     obtain ⟨x,hx,Pg⟩:=h2.get hd
     refine ⟨⟨_,x,hL,hx⟩,λy H3 hy=>?_⟩
     obtain ⟨rfl,hy⟩:=hy
     have:=hy _ hL
     rw [hx] at this
     cases this
     exact ⟨aA.refl _,Pg⟩
 | tuple l=>
   cases e2
   refine ⟨U,A0,δ,_,R,e1,λv H' s h=>?_⟩
   cases h with
   | tup hq h=>
     refine .inr ⟨_,rfl,⟨_,(.inl (cB.kj hq))⟩,q _ H' s ?_⟩
     intro A' i H2 s2 _
     have SM:=s2.kj hq
     have h2:=h.same s2
     have hL:iX X.K H2 _ _:=.inl (cB.kj SM)
     refine ⟨λd hd=>?_,λhi=>⟨_,hL,by rw [h2.len]; omega⟩⟩
     obtain ⟨x,hx,Pg⟩:=h2.get hd
     refine ⟨⟨_,x,hL,hx⟩,λy H3 hy=>?_⟩
     obtain ⟨rfl,hy⟩:=hy
     have:=hy _ hL
     rw [hx] at this
     cases this
     exact ⟨aA.refl _,Pg⟩
 | _=>cases e2
end
def gg (ix:List Nat) (δ:DS):DS:=ix.map λj=>(δ[j]?).join
def DR (f:D->Option D):List D->Option (List D)
 | []=>some []
 | d :: ds=>(f d).bind λx=>(DR f ds).bind λxs=>some (x :: xs)
def eM (gi:DS->Option (List D)) (ix:List Nat) (ge:DS->Option D):DS->Option (List D):=λδ=>(gi δ).bind λds=>if ds.length<=100000 then DR (λd=>ge (some d :: gg ix δ)) ds else none
section
variable {X:Cx} {O:List Nat} {fr:Bool} {scope:Scope} {x:Str} {elt iter:Expr} {px pos:Pos} {gi:DS->Option (List D)} {ge:DS->Option D}
theorem PS.nE {st:Stmt} {i:Nat} {g:DS->Option (List D)} (h:PS X st (pW (tN X.K O g) (iY i))):PS X st (pW (tE X.K O (bJ g)) (iY i)):=h.mono λ_ _ _ h=>J9 h
end
def di:Res->Option D
 | .rt d=>some d
 | .nx _=>some .none
 | _=>none
def i7:Res->Option (List D)
 | .rt (.list l)=>some l
 | _=>none
def d9 (n:Nat) (g:DS->Option Res):List D->Option D:=λds=>(g (ds.map some ++ List.replicate (n - ds.length) none)).bind di
def i8 (n:Nat) (g:DS->Option Res):List D->Option (List D):=λds=>(g (ds.map some ++ List.replicate (n - ds.length) none)).bind i7
theorem Rel.start {K:PySem.W.Frag} {O:List Nat} {A:List Addr} {N:List Str} {vs:List V} {ds:List D} {H:Hp} (al:Ls A H) (h:cg K (wo H A) vs ds) (hO:∀ i∈O,ds.length<=i):Rel K O [] A (start N vs) (ds.map some ++ List.replicate (N.length - ds.length) none) H:=by
 have hl:=h.len
 have none_of:∀ (i:Nat) d,ds.length<=i->(ds.map some ++ List.replicate (N.length - ds.length) none)[i]?=some (some d)->False:=by
  intro i d hi q
  rw [List.getElem?_append_right (by simpa using hi)] at q
  have:=Zq q
  rw [List.mem_replicate] at this
  exact absurd this.2 (by simp)
 exact {
  len:=by unfold L2.start; simp [hl]
  fz:=λi d _ q=>by
   by_cases hi:i < ds.length
   .rw [List.getElem?_append_left (by simpa using hi),List.getElem?_map,List.getElem?_eq_getElem hi] at q
    simp only [Z0,aa4] at q
    obtain ⟨v,e,hv⟩:=h.get (Y4 hi)
    refine ⟨v,?_,?_⟩
    .unfold L2.start
     rw [aa0 (by rw [Y7]; omega),Zl,e]; rfl
    .rw [List.nil_append,<- q]; exact hv
   .exact (none_of i d (by omega) q).elim
  ow:=λi d hi q=>(none_of i d (hO i hi) q).elim
  inj:=λi j d e l hi _ _ q=>(none_of i d (hO i hi) q).elim
  al:=al }
theorem Fx.start {A:List Addr} {H:Hp} (al:Ls A H):Fx H A [] H:=⟨aA.refl H,λ_ h=>by simp at h,al⟩
section
variable {P:Program} {w:World} {K:PySem.W.Frag} {mg:Str->Option Value} {base:Heap} {x:Str} {st:Stmt} {N ps:List Str} {k:Nat}
theorem bN (O:List Nat) (g:DS->Option Res) (F:Df K mg x st ps) (S:az N ps (ai st))
  (body:∀ (f:Addr) (cH:Value) (A:Around) (outer:List Env) (s:Shared) (H:Hp) (E:XK),cJ k (A.deeper (envOfC x (ai st) s.heap.objs.size f cH))->jk (o3 o6 P w K mg base N x (ai st) f cH A outer s H E).CY (cA st) (tS K O false g))
  (hO:∀ i∈O,ps.length<=i:=by decide) {n m:Nat} (hN:N.length=n:=by rfl) (hP:ps.length=m:=by rfl):Dn P w K mg base (k + 1) x ps (iU K m (d9 n g)):=by
 subst hN hP
 refine F.ok S (λvs H Q E h=>h.1) (λf cH A outer s H vs Q E hr h=>⟨_,body f cH A outer s H E hr,?_⟩)
 obtain ⟨hn,A',ds,d,al,hd,e,q⟩:=h
 obtain ⟨r,e1,e2⟩:=bind1 e
 refine ⟨H,[],A',_,r,Rel.start al hd (λi hi=>by have:=hO i hi; rw [<- hd.len,hn]; exact this),Fx.start al,e1,?_⟩
 cases r with
 | nx δ=>cases e2; exact λU σ H' R F'=>q .gu H' F'.same .gu
 | rt d=>cases e2; exact λv H' h=>by unfold lS at h; rw [if_neg Bool.false_ne_true] at h; exact q v H' h.1 h.2
 | bk _=>cases e2
 | ct _=>cases e2
theorem Ph {f:Addr} {fd:FuncData} (O:List Nat) (g:DS->Option Res) (F:Dq K x x st f fd) (S:az N ps (ai st))
  (body:∀ (f:Addr) (cH:Value) (A:Around) (outer:List Env) (s:Shared) (H:Hp) (E:XK),cJ k (A.deeper (envOfC x (ai st) s.heap.objs.size f cH))->jk (o3 o6 P w K mg base N x (ai st) f cH A outer s H E).CY (cA st) (tS K O false g))
  (hO:∀ i∈O,ps.length<=i:=by decide) {n m:Nat} (hN:N.length=n:=by rfl) (hP:ps.length=m:=by rfl):lQ P w K mg base o6 (k + 1) f fd ps (iU K m (d9 n g)):=by
 subst hN hP
 refine F.ok S (λvs H Q E h=>h.1) (λcH A outer s H vs Q E hr h=>⟨_,body f cH A outer s H E hr,?_⟩)
 obtain ⟨hn,A',ds,d,al,hd,e,q⟩:=h
 obtain ⟨r,e1,e2⟩:=bind1 e
 refine ⟨H,[],A',_,r,Rel.start al hd (λi hi=>by have:=hO i hi; rw [<- hd.len,hn]; exact this),Fx.start al,e1,?_⟩
 cases r with
 | nx δ=>cases e2; exact λU σ H' R F'=>q .gu H' F'.same .gu
 | rt d=>cases e2; exact λv H' h=>by unfold lS at h; rw [if_neg Bool.false_ne_true] at h; exact q v H' h.1 h.2
 | bk _=>cases e2
 | ct _=>cases e2
theorem gL (O:List Nat) (g:DS->Option Res) (F:Df K mg x st ps) (S:az N ps (ai st))
  (body:∀ (f:Addr) (cH:Value) (A:Around) (outer:List Env) (s:Shared) (H:Hp) (E:XK),cJ k (A.deeper (envOfC x (ai st) s.heap.objs.size f cH))->jk (o3 o6 P w K mg base N x (ai st) f cH A outer s H E).CY (cA st) (tS K O true g))
  (hO:∀ i∈O,ps.length<=i:=by decide) {n m:Nat} (hN:N.length=n:=by rfl) (hP:ps.length=m:=by rfl):Dn P w K mg base (k + 1) x ps (wG K m (i8 n g)):=by
 subst hN hP
 refine F.ok S (λvs H Q E h=>h.1) (λf cH A outer s H vs Q E hr h=>⟨_,body f cH A outer s H E hr,?_⟩)
 obtain ⟨hn,A',ds,d,al,hd,e,q⟩:=h
 obtain ⟨r,e1,e2⟩:=bind1 e
 refine ⟨H,[],A',_,r,Rel.start al hd (λi hi=>by have:=hO i hi; rw [<- hd.len,hn]; exact this),Fx.start al,e1,?_⟩
 cases r with
 | rt d'=>
   intro v H' h
   unfold lS at h
   rw [Zk rfl] at h
   rcases h with ⟨r,ob,rfl,a,b,c,f⟩ | ⟨_,_,_,_,_,_,_,_,_,_,_,_,_,rfl⟩
   .cases f with
    | lst f=>cases e2; exact q r _ H' a b c f
    | rF _ _=>cases e2
   .cases e2
 | nx δ=>cases e2
 | bk _=>cases e2
 | ct _=>cases e2
end
def nZ (f f':D->D->Option D) (a b c:DS->Option D):DS->Option D:=λδ=>(a δ).bind λx=>(b δ).bind λy=>(f x y).bind λz=>match z with
 | .bool true=>(c δ).bind λw=>f' y w
 | .bool false=>some (.bool false)
 | _=>none
section
variable {X:Cx} {O:List Nat} {a b c:Expr} {ga gb gc:DS->Option D} {pos:Pos} {r r':R2}
theorem DT {K:PySem.W.Frag} {f f':D->D->Option D} (imp:jn K r f) (imp':jn K r' f') {σ:St} {H:Hp} {Q:VK}:tE K O (nZ f f' ga gb gc) σ H Q->C8 r r' (iT K O ga) (iT K O gb) (iT K O gc) σ H Q:=λ⟨U,A0,δ,d,R,ed,q⟩=>by
 obtain ⟨x,e1,ed⟩:=bind1 ed
 obtain ⟨y,e2,ed⟩:=bind1 ed
 obtain ⟨z,e3,ed⟩:=bind1 ed
 refine ⟨U,A0,δ,x,R,e1,λv1 H1 s1 h1=>⟨U,A0,δ,y,R.same s1,e2,λv2 H2 s2 h2=>imp _ H2 v1 v2 x y z _ (R.same (s1.trans s2)).al (h1.same s2) h2 e3 λv3 H3 s3 h3=>?_⟩⟩
 cases z with
 | bool k=>
   cases h3
   refine ⟨k,rfl,?_⟩
   cases k with
   | true=>
     obtain ⟨w,e4,e5⟩:=bind1 ed
     first
      | rw [Zk rfl]
      | skip
     exact ⟨U,A0,δ,w,R.same ((s1.trans s2).trans s3),e4,λv4 H4 s4 h4=>imp' _ H4 v2 v4 y w d Q (R.same (((s1.trans s2).trans s3).trans s4)).al (h2.same (s3.trans s4)) h4 e5 λv H' s h=>q v H' ((((s1.trans s2).trans s3).trans s4).trans s) h⟩
   | false=>
     cases ed
     first
      | rw [Zj Zt]
      | skip
     exact q _ H3 ((s1.trans s2).trans s3) (.bl _)
 | _=>cases ed
theorem DU {op LI:CmpOp} {f f':D->D->Option D} (ho:iR X (compareOp op) r) (imp:jn X.K r f) (CV:iR X (compareOp LI) r') (imp':jn X.K r' f') (ha:PE X a (iT X.K O ga)) (hb:PE X b (iT X.K O gb)) (hc:PE X c (iT X.K O gc)) (hm:lastMarks [op,LI] [b,c]=false:=by with_unfolding_all rfl):PE X (.Compare a [op,LI] [b,c] pos) (tE X.K O (nZ f f' ga gb gc)):=(C9 ho CV ha hb hc hm).mono λ_ _ _=>DT imp imp'
end
def Hv (i j:Nat) (g:DS->Option (List D)):DS->Option Res:=λδ=>(g δ).bind λ| [x,y]=>some (.nx ((δ.set i (some x)).set j (some y))) | _=>none
section
variable {X:Cx} {O:List Nat} {fr:Bool} {st:Stmt} {gr:DS->Option (List D)} {i j:Nat}
theorem Mn (h:PS X st (OH i j (vY X.K O gr))) (hi:i∉O:=by decide) (hj:j∉O:=by decide):PS X st (tS X.K O fr (Hv i j gr)):=h.mono λE σ H hh=>hh.e λH0 U A0 δ r R F ed P=>by
 obtain ⟨ds,e1,e2⟩:=bind1 ed
 split at e2
 .cases e2
  refine ⟨U,A0,δ,_,R,e1,λvs H' s hv=>?_⟩
  cases hv with
  | cons h1 h2=>cases h2 with
    | cons h2 h3=>
      cases h3
      exact ⟨_,_,rfl,P U _ H' (((R.same s).set hi h1).set hj h2) (F.grow s)⟩
 .cases e2
end
def wL:D->Option D
 | .int i=>some (.int (Builtin.Int.intBits i:Nat))
 | _=>none
theorem Aw {X:Cx} {O:List Nat} {o:Expr} {ga:DS->Option D} {apos gf:Pos} (ho:PE X o (iT X.K O ga)) (p5:attributeBase o "bit_length" X.env (eval o X.env)=eval o X.env:=by rfl) (p6:(apos.endLine == gf.line)=true:=by rfl):
  PE X (.Call (.Attribute o "bit_length" apos) [] [] gf) (tE X.K O (g1 wL ga)):=(Hf ho p5 p6).mono λσ H Q hh=>hh.e λU A0 δ d R ed q=>by
 obtain ⟨x,e1,e2⟩:=bind1 ed
 cases x with
 | int i=>
   cases e2
   refine ⟨U,A0,δ,_,R,e1,λv H' s h=>?_⟩
   rw [h.int]
   exact ⟨rfl,i,rfl,rfl,q _ H' s (.int _)⟩
 | _=>cases e2
abbrev Mo:D->D->Option D:=Ka (λ_ j=>0<=j) λi j=>.int (i / 2 ^ j.toNat)
def kq:D->Bool
 | .none | .bool _ | .int _ | .str _=>true
 | _=>false
def dV:D->V
 | .none=>.gu
 | .bool b=>.bl b
 | .int i=>.int i
 | .str x=>.str x
 | _=>.gu
def Mp (a b:D):Bool:=Gg (dV a) (dV b)
def Mq:D->D->Option D:=λx y=>match y with
 | .list l=>if (kq x && l.all kq)=true then some (.bool (l.any λz=>Mp z x)) else none
 | .tuple l=>if (kq x && l.all kq)=true then some (.bool (l.any λz=>Mp z x)) else none
 | _=>none
def uc:D->D->Option D:=λx y=>(Mq x y).bind λ| .bool c=>some (.bool (!c)) | _=>none
theorem gK.flat {K:PySem.W.Frag} {A:List Addr} {H:Hp} {v:V} {d:D} (h:gK K A H v d) (f:kq d=true):v=dV d /\ jT v=true:=by
 cases d with
 | none=>rw [h.gu]; exact ⟨rfl,rfl⟩
 | bool b=>rw [h.bool]; exact ⟨rfl,rfl⟩
 | int i=>rw [h.int]; exact ⟨rfl,rfl⟩
 | str x=>rw [h.str]; exact ⟨rfl,rfl⟩
 | _=>cases f
theorem cg.flat {K:PySem.W.Frag} {H:Hp}:∀ {xs:List V} {ds:List D},cg K H xs ds->ds.all kq=true->xs=ds.map dV /\ xs.all jT=true
 | _,_,.nil,_=>⟨rfl,rfl⟩
 | _,_,.cons h t,f=>by
   rw [acg,ZE] at f
   obtain ⟨e1,e2⟩:=cg.flat t f.2
   obtain ⟨e3,e4⟩:=(gK.of (A:=[]) (by rw [qd]; exact h)).flat f.1
   exact ⟨by rw [Zn,<- e1,<- e3],by rw [acg,e4,e2]; rfl⟩
theorem Kd (x:D) (l:List D):LU (dV x) (l.map dV)=l.any λz=>Mp z x:=by
 unfold LU Mp
 rw [List.any_map]; rfl
section
variable {X:Cx}
theorem Mr:iR X (compareOp .In) (NY X.K false):=BH
theorem BW:iR X (compareOp .NotIn) (NY X.K true):=tR
end
set_option tactic.hygienic true in
theorem Ax {K:PySem.W.Frag} {A:List Addr} {H:Hp} {x y:V} {dx dy d:D} (hx:gK K A H x dx) (hy:gK K A H y dy) (e:Mq dx dy=some d):∃ p xs b,y=.ref p /\ (iW K H p xs \/ iX K H p xs) /\ jT x=true /\ xs.all jT=true /\ d=.bool b /\ LU x xs=b:=by
 unfold Mq at e
 split at e
 .split at e
  .rename_i hf
   rw [ZE] at hf
   cases e
   obtain ⟨p,xs,rfl,h1,h2⟩:=hy.list
   obtain ⟨e1,e2⟩:=h2.flat hf.2
   obtain ⟨e3,e4⟩:=hx.flat hf.1
   exact ⟨p,xs,_,rfl,.inl h1.sq,e4,e2,rfl,by rw [e1,e3,Kd]⟩
  .cases e
 .split at e
  .rename_i hf
   rw [ZE] at hf
   cases e
   obtain ⟨p,xs,rfl,h1,h2⟩:=hy.tuple
   obtain ⟨e1,e2⟩:=h2.flat hf.2
   obtain ⟨e3,e4⟩:=hx.flat hf.1
   exact ⟨p,xs,_,rfl,.inr h1,e4,e2,rfl,by rw [e1,e3,Kd]⟩
  .cases e
 .cases e
theorem Ms {K:PySem.W.Frag}:jn K (NY K false) Mq:=by
 intro A H x y dx dy d Q al hx hy e q
 obtain ⟨p,xs,b,h1,h2,h3,h4,rfl,h5⟩:=Ax hx hy e
 refine ⟨p,xs,h1,h2,h3,h4,?_⟩
 show Q (.bl (LU x xs)) H
 rw [h5]
 exact q _ H (aA.refl H) (.bl _)
theorem BX {K:PySem.W.Frag}:jn K (NY K true) uc:=by
 intro A H x y dx dy d Q al hx hy e q
 obtain ⟨c,e1,e2⟩:=bind1 e
 obtain ⟨p,xs,b,h1,h2,h3,h4,rfl,h5⟩:=Ax hx hy e1
 cases e2
 refine ⟨p,xs,h1,h2,h3,h4,?_⟩
 show Q (.bl (!LU x xs)) H
 rw [h5]
 exact q _ H (aA.refl H) (.bl _)
theorem Ay (a b:Int):Mp (.int a) (.int b)=decide (a=b):=by
 simp only [Mp,dV,Gg]
 rw [Bool.beq_eq_decide_eq]
def g8 (G:List D->Option (List D)) (n:Nat) (g:DS->Option (List D)):DS->Option (List D):=λδ=>(g δ).bind λds=>if ds.length=n then (G ds).bind λd=>if nX d=true then some d else none else none
set_option tactic.hygienic true in
theorem lX {X:Cx} {O:List Nat} {e:Expr} {es:List Expr} {gr:DS->Option (List D)} {pos p:Pos} {n k kk:Nat} {x:Str} {ps:List Str} {G:List D->Option (List D)} (F:Dn X.prog X.w X.K X.mg X.base k x ps (wG X.K n G)) (hr:cJ kk X.A) (hk:k<=kk) (ha:PA X (e :: es) (o7 X.K O gr)) (hg:Gl X x:=by rfl)
  (mU:(x == ("__debug__":Str))=false:=by decide) (he:starEach (e :: es) X.env=(false,eval e X.env) :: starEach es X.env:=by rfl) (i4:(backTo pos (starEach es X.env)).any (·.1)=false:=by rfl):
  PE X (.Call (.Name x p) (e :: es) [] pos) (tN X.K O (g8 G n gr)):=(qc F hr hk ha hg mU he i4).mono λσ H Q hh=>hh.e λU A0 δ d R ed q=>by
 obtain ⟨ds,e1,e2⟩:=bind1 ed
 split at e2
 .rename_i hn
  obtain ⟨d',e3,e4⟩:=bind1 e2
  split at e4
  .rename_i hL
   cases e4
   refine ⟨U,A0,δ,ds,R,e1,λvs H' s h=>?_⟩
   show wG X.K n G (vs ++ []) H' Q E0
   rw [Z7]
   have h':=h.Mi
   refine ⟨by rw [h'.len]; exact hn,[],ds,d,⟨λ_ z=>by simp at z,(R.same s).al.2⟩,by rw [qd]; exact h',e3,λr ys H2 s2 h0 h1 h2=>q r ys H2 (s.trans s2) (s.free h0) h1 ?_⟩
   have h3:cg X.K H2 ys d:=h2.same cB
   refine cg.off ⟨λa ha=>?_,(R.same (s.trans s2)).al.2⟩ h3 hL
   rcases Y6.mp ha with z | z
   .subst z; exact ⟨_,h1,trivial⟩
   .exact (R.same (s.trans s2)).al.1 a z
  .cases e4
 .cases e2
section
variable {X:Cx} {O:List Nat} {fr:Bool} {st:Stmt} {ge gx:DS->Option D} {gl:DS->Option (List D)} {i:Nat}
def BY (i:Nat) (g:DS->Option (List D)):DS->Option Res:=λδ=>(ae i δ).bind λx=>(g δ).bind λzs=>match x with
 | .list ds=>if ds.length + zs.length<=100000 then some (.nx (δ.set i (some (.list (ds ++ zs))))) else none
 | _=>none
set_option tactic.hygienic true in
theorem n0 (h:PS X st (sC (O0 X.K "list" Ai (pT i) (pY (tN X.K O gl) BF)))) (hi:i∈O:=by decide):PS X st (tS X.K O fr (BY i gl)):=h.mono λE σ H hh=>hh.e λH0 U A0 δ r R F ed P=>by
 obtain ⟨x,e1,e2⟩:=bind1 ed
 obtain ⟨zs,e3,e4⟩:=bind1 e2
 rcases R.Sx i x hi (join_some e1) with ⟨l,ys,ds,hl,rfl,hU,h1,h2⟩ | ⟨kds,rfl⟩
 rotate_left
 ·(exfalso; simp_all; done)
 simp only at e4
 split at e4
 .rename_i hz
  cases e4
  refine ⟨.ref l,hl,.inl ⟨rfl,ys,iW.of h1⟩,U,A0,δ,zs,R,e3,λp ws H' s hp Wb Rp=>?_⟩
  have Kc:=s _ _ h1
  have Gi:=h2.same (bR (A:=U ++ A0) s)
  have Wc:=Rp.same (iG (A':=U ++ A0) λa ha=>Y8 _ ha)
  have hlen:=h2.len
  have Pj:=Rp.len
  refine ⟨l,p,ys,ws,rfl,rfl,Kc,Wb,small (by omega),?_⟩
  exact P U σ _ ((R.same s).put hi hl hU (Gi.app Wc) ⟨_,join_some e1⟩) ((F.grow s).put hU _)
 .cases e4
end
section
variable {X:Cx} {O:List Nat} {tg a:Expr} {ge:DS->Option D} {p pos:Pos}
def BZ (g:DS->Option D):DS->Option (List D):=λδ=>(g δ).bind λ| .list l=>some l.reverse | _=>none
end
section
variable {X:Cx} {pins:List (Addr×Obj)} {σ:St} {H:Hp} {s:Shared} {h':Heap}
theorem Inv.gM {t':Nat} {ch:List Addr} (I:Inv X pins σ H s) (k:∀ b o,b∉ch->s.heap.get? b=some o->h'.get? b=some o) (hf:∀ b∈ch,j0 X pins H b):Inv X pins σ H { s with heap:=h',toks:=t' }:=by
 have Oz:∀ b u,H b=some u->b∉ch:=λb u e z=>by rw [(hf b z).1] at e; cases e
 refine I.step (g':=s.gens) (d':=s.drawn) (ch:=ch) (λb hb=>?_) (λb o _ _ hc e _=>k b o hc e) (λb o _ _ hc e _=>⟨o.slots,k b o hc e⟩) (λ_ _ _ _ n=>n)
  (λb o hc e=>⟨o,k b o hc e⟩) (λ_ _ e=>e) (λ_ _ _ e=>e) (λb ps e=>⟨#[],by rw [e]; simp⟩) (λm hm=>?_) (λb u e=>?_) I.bare
 .obtain ⟨_,a,_,b',c,d⟩:=hf b hb
  exact ⟨b',a,c,d⟩
 .obtain ⟨o,es,ep,ho,r⟩:=hm
  exact ⟨o,es,ep,k _ o (λz=>(hf _ z).2.1 rfl) ho,r⟩
 .refine (I.cf b u e).rK (λc v hc q=>k c v ?_ q) (λ_ q=>q) λ_ _ q=>q
  rcases hc with z | z
  .rw [z]; exact Oz b u e
  .exact Oz c _ z
theorem Inv.yT {D:Addr} {ys:List V} {its:List Value} (I:Inv X pins σ H s) (hD:H D=none) (hs:X.fE.heap.objs.size<=D) (hl:D≠X.env.locals) (hc:∀ x c,X.env.cells.lookup x=some c->c≠D)
  (hp:∀ p∈X.pn ++ pins,p.1≠D) (e:IsTup s.heap D its.toArray) (r:bj ys its) (hz:ys.length<=sizeLine):Inv X pins σ (upd H D (.tup ys)) s:=by
 have h:=I.step (H':=upd H D (.tup ys)) (h':=s.heap) (g':=s.gens) (t':=s.toks) (d':=s.drawn) (ch:=[D]) (λb hb=>by
   have e:b=D:=by simpa using hb
   subst e
   exact ⟨.inr hs,hl,hc,hp⟩)
  (λb o _ _ _ q _=>q) (λb o _ _ _ q _=>⟨o.slots,q⟩) (λb o hb _ q=>by rw [aI (by simpa using hb)]; exact q) (λb o _ q=>⟨o,q⟩)
  (λb xs q=>by rw [aI (aN q hD)]; exact q) (λb o u q=>by rw [aI (aN q hD)]; exact q) (λb ps q=>⟨#[],by rw [aI (aN q hD),acw]; exact q⟩) (λm hm=>hm) (λb u q=>?_) I.bare
 .exact h
 .by_cases hb:b=D
  .subst hb
   rw [bC] at q; cases q
   exact ⟨hz,its,r,e⟩
  .rw [aI hb] at q
   exact (I.cf b u q).rK (λ_ _ _ z=>z) (λc z=>by rw [aI (aN z hD)]; exact z) λc xs z=>z.new hD
end
def UW (K:PySem.W.Frag) (a:Addr):It:=
 ⟨λi H=>∃ xs x,iW K H a xs /\ xs[i]?=some x,λi H x H'=>∃ p v,H p=none /\ x=.ref p /\ H'=upd H p (.tup [.int i,v]) /\ ∀ xs,iW K H a xs->xs[i]?=some v,λi H=>∃ xs,iW K H a xs /\ xs.length<=i⟩
theorem B0 {P:Program} {w:World} {K:PySem.W.Frag} {es:List Expr} {kk} {jl:Pos} (a e it:Addr) (ik:e≠it):Turn P w K (.Tuple es kk jl) (UW K a) [e,it] e (λi h=>(∃ old,IsEnum h e it i old) /\ h.IsListIter it a i) where
 mem:=by simp
 obj:=λi h st b hb=>by
  obtain ⟨⟨old,he⟩,o,ho,c,d⟩:=st
  rcases Y6.mp hb with z | z
  .subst z; exact ⟨_,he,λv z=>by cases z⟩
  .have z:b=it:=by simpa using z
   subst z; exact ⟨o,ho,λv z=>by rw [d] at z; cases z⟩
 keep:=λi h h' st k=>by
  obtain ⟨⟨old,he⟩,cR⟩:=st
  exact ⟨⟨old,k e (by simp) _ he⟩,cR.at λo eo=>k it (by simp) o eo⟩
 item:=by
  intro X hP hw hK hc i pins s σ H E I hf st hg
  subst hP hw hK
  obtain ⟨xs,x,hq,hx⟩:=hg
  obtain ⟨its,rv,p,hz⟩:=I.list hq
  obtain ⟨u,hu,ru⟩:=rv.get hx
  obtain ⟨⟨old,he⟩,cR⟩:=st
  refine wpAny_pyNext_enum_item he cR p.isList (x:=u) (by simpa using hu) ik λh1 Bw SN Mt N2 yk=>?_
  refine ⟨_,rfl,aby Bw λh2 Mk mN=>?_⟩
  replace mN:Heap.SameBut e h1 h2:=mN
  have Ke:e < s.heap.objs.size:=Zf he
  have I1:Inv X pins σ H { s with heap:=h2,toks:=s.toks + 1 }:=I.gM (t':=s.toks + 1) (ch:=[e,it]) (λb o hb eo=>by
   simp only [Y6,ZS,aa5,ac9] at hb
   exact (mN.2 b hb.1).trans (yk b o hb.1 hb.2 eo)) hf
  have N3:IsTup h2 s.heap.objs.size [Value.int i s.toks,u].toArray:=⟨_,(mN.2 _ (aa2 Ke)).trans Mt,rfl,_,rfl⟩
  have o8:H s.heap.objs.size=none:=I.cf.fresh (Ze _)
  have fo:=I.oZ (H':=H) (Ze _) o8
  have I2:Inv X pins σ (upd H s.heap.objs.size (.tup [.int i,x])) { s with heap:=h2,toks:=s.toks + 1 }:=I1.yT o8 (ZQ I.sz (Ze _)) fo.2.1 fo.2.2.2.2.1 fo.2.2.2.2.2 N3 (.cons ⟨_,rfl⟩ (.cons ru .nil)) (by show 2<=sizeLine; decide)
  refine ⟨.ref s.heap.objs.size,_,I2,rfl,⟨_,x,o8,rfl,rfl,λys hy=>by rw [I.wc hy hq]; exact hx⟩,⟨⟨u,Mk⟩,SN.extBut mN.extBut (abd ik)⟩,λb hb=>?_⟩
  have fg:b < s.heap.objs.size:=by
   rcases Y6.mp hb with z | z
   .subst z; exact Ke
   .have z:b=it:=by simpa using z
    subst z
    obtain ⟨o,ho,_⟩:=cR
    exact Zf ho
  rw [aI (Zs fg)]
  exact (hf b hb).1
 done:=by
  intro X hP hw hK hc i pins s σ H E I hf st hg
  subst hP hw hK
  obtain ⟨xs,hq,hx⟩:=hg
  obtain ⟨its,rv,p,hz⟩:=I.list hq
  obtain ⟨⟨old,he⟩,cR⟩:=st
  have hl:=rv.length
  refine wpAny_pyNext_enum_end (I.ok.hd hc) he cR p.isList (by simp; omega) λh1 eb=>⟨rfl,?_⟩
  exact I.gM (t':=s.toks) (ch:=[e,it]) (λb o hb eo=>eb b o (λz=>hb (by simp [z])) eo) hf
 self:=λ_ _ _ _ _ st h=>by
  obtain ⟨⟨old,he⟩,_⟩:=st
  exact aa6 he h
theorem jr:bootBuiltins "enumerate"=some (.type "enumerate"):=by decide +kernel
def i9 (l:List D):List D:=l.zipIdx.map λp=>.tuple [.int (p.2:Nat),p.1]
theorem sT {l:List D} {i:Nat} {d:D} (h:(i9 l)[i]?=some d):∃ x,l[i]?=some x /\ d=.tuple [.int (i:Nat),x]:=by
 unfold i9 at h
 rw [Zl,aa7] at h
 cases e:l[i]? with
 | none=>rw [e] at h; cases h
 | some x=>rw [e] at h; simp at h; exact ⟨x,rfl,h.symm⟩
theorem n4 {l:List D}:(i9 l).length=l.length:=by unfold i9; simp
section
variable {X:Cx} {O:List Nat} {a:Expr} {ge:DS->Option D} {p pos:Pos} {es:List Expr} {kk} {jl:Pos}
def Pk (K:PySem.W.Frag) (ta:TA):TI:=λσ H R=>ta σ H λvs H1=>∃ a xs,vs=[.ref a] /\ iW K H1 a xs /\ R (UW K a) H1
theorem Hw {ta:TA} (hg:Gl X "enumerate") (hm:X.mg "enumerate"=none) (ha:PA X [a] ta) (hs:starEach [a] X.env=[(false,eval a X.env)]:=by rfl):PI X (.Tuple es kk jl) (.Call (.Name "enumerate" p) [a] [] pos) (Pk X.K ta):=by
 intro pins s σ H R I h
 refine Call_ (iF I hg hm jr (aal (d6 (ha pos pins s σ H _ I h) λus s1 ⟨vs,H1,I1,r1,q1⟩=>?_) hs rfl))
 obtain ⟨b,xs,e,hq,q⟩:=q1
 subst e
 obtain ⟨u,rfl,ru⟩:=vals1 r1
 cases ru
 obtain ⟨its,rv,pl,hz⟩:=I1.list hq
 refine call_enumerate_list pl.isList λh' he hit hsz hk=>?_
 refine aa6 he ?_
 refine ⟨s1.heap.objs.size + 1,[s1.heap.objs.size + 1,s1.heap.objs.size],_,_,H1,rfl,I1.kept (t':=s1.toks) hk,B0 b _ s1.heap.objs.size (ac0 _),⟨⟨_,he⟩,hit⟩,λb hb=>?_,q⟩
 have hle:s1.heap.objs.size<=b:=by
  simp only [Y6,ZS,aa5] at hb
  rcases hb with z | z
  .rw [z]; exact aaA _
  .rw [z]; exact Ze _
 exact I1.oZ hle (I1.cf.fresh hle)
def js (g:DS->Option D):DS->Option (List D):=λδ=>(g δ).bind λ| .list l=>some (i9 l) | _=>none
theorem ud (hm:X.mg "enumerate"=none) (ha:PE X a (tE X.K O ge)) (hg:Gl X "enumerate":=by rfl) (hs:starEach [a] X.env=[(false,eval a X.env)]:=by rfl) (Pm:starEach ([]:List Expr) X.env=[]:=by rfl):PI X (.Tuple es kk jl) (.Call (.Name "enumerate" p) [a] [] pos) (tI X.K O (js ge)):=
 (Hw hg hm (bQ ha cZ (by rw [hs,Pm])) hs).mono λσ H Q hh=>hh.e λU A0 δ ds R ed q=>by
  obtain ⟨x,e1,e2⟩:=bind1 ed
  cases x with
  | list l=>
    cases e2
    refine ⟨U,A0,δ,_,R,e1,λv H' s h=>?_⟩
    cases h with
    | lst hq h=>
      refine ⟨_,_,rfl,(hq.same cB).sq,q _ H' s ?_⟩
      intro A' i H2 s2 al
      have h2:=h.same s2
      have hL:iW X.K H2 _ _:=((hq.same s2).same cB).sq
      refine ⟨λd hd=>?_,λhi=>⟨_,hL,by rw [hi,n4,h2.len]; exact Ze _⟩⟩
      obtain ⟨y,hy,rfl⟩:=sT hd
      obtain ⟨v,hv,Pn⟩:=h2.get hy
      refine ⟨⟨_,v,hL,hv⟩,λz H3 hz=>?_⟩
      obtain ⟨p,v',hp,rfl,rfl,Po⟩:=hz
      have:=Po _ hL
      rw [hv] at this
      cases this
      exact ⟨cx hp _,HD.wD al hp (.cons (.int _) (.cons Pn .nil))⟩
  | _=>cases e2
end
def WalksS (K:PySem.W.Frag) (A:List Addr) (H1:Hp) (J:It) (ds:List D):Prop:=∀ (i:Nat) (H:Hp),aA H1 H->
 (∀ d,ds[i]?=some d->J.go i H /\ ∀ x H2,J.OI i H x H2->aA H H2 /\ HD K (wo H2 A) x d) /\ (i=ds.length->J.stop i H)
def N4 (K:PySem.W.Frag) (O:List Nat) (g:DS->Option (List D)):TI:=λσ H R=>∃ U A0 δ ds,Rel K O U A0 σ δ H /\ g δ=some ds /\ ∀ J H1,aA H H1->WalksS K (U ++ A0) H1 J ds->R J H1
theorem N4.e {K:PySem.W.Frag} {O:List Nat} {g:DS->Option (List D)}  {σ:_} {H:_} {R:_} {GG:Prop} (hh:N4 K O g σ H R) (kk:∀ U A0 δ ds,(Rel K O U A0 σ δ H)->(g δ=some ds)->(∀ J H1,aA H H1->WalksS K (U ++ A0) H1 J ds->R J H1)->GG):GG:=by obtain ⟨U,A0,δ,ds,x0,x1,x2⟩:=hh; exact kk U A0 δ ds x0 x1 x2
section
variable {X:Cx} {O:List Nat} {tg e:Expr} {gi:DS->Option (List D)} {ge:DS->Option D} {pos:Pos}
theorem PI.c (h:PI X tg e (tI X.K O gi)):PI X tg e (N4 X.K O gi):=h.mono λσ H Q hh=>hh.e λU A0 δ ds R ed q=>⟨U,A0,δ,ds,R,ed,λJ H1 s hw=>q J H1 s λi H2 s2=>hw (U ++ A0) i H2 (bR s2) ((R.same (s.trans s2)).al)⟩
end
section
variable {X:Cx} {O:List Nat} {fr:Bool} {scope:Scope} {x:Str} {elt iter:Expr} {px pos:Pos} {gi:DS->Option (List D)} {ge:DS->Option D}
end
end L2
namespace LS
open PySem PySem.Spec PyProof.Rows
section
variable {prog:Program} {w:World} {A:Around} {E:Value->Shared->Prop} {s:Shared} {it t:Addr} {i:Nat} {items:Array Value}
theorem yU {x:Value} {Q:Value->Shared->Prop} (hit:s.heap.IsTupleIter it t i) (ht:s.heap.IsTuple t items) (hx:items[i]?=some x)
  (hQ:∀ h',h'.IsTupleIter it t (i + 1)->Heap.SameBut it s.heap h'->Q x { s with heap:=h' }):wpAny (model prog w) A (Builtin.SmallTypes.nextOf (.ref it)) Q E s:=by
 obtain ⟨o,ho,hc,hd⟩:=id hit
 obtain ⟨ol,Mu,_,nl,SO⟩:=ht
 unfold Builtin.SmallTypes.nextOf
 refine Y3 (aaB (name:=Str.ofString "__next__") hit.typeIs aaI (aaC aaI hit.typeIs abZ ?_ (abU _)))
 show wpAny _ _ (field (.ref it) 0 >>= _) _ _ s
 refine Y3 (wpAny_field ho hd (x:=.ref t) rfl ?_)
 show wpAny _ _ (if (Value.ref t == Value.none)=true then _ else _) _ _ s
 rw [Zj (show ¬ ((Value.ref t == Value.none)=true) from Zt)]
 show wpAny _ _ (field (.ref it) 1 >>= _) _ _ s
 refine Y3 (wpAny_field ho hd (x:=.int i 0) rfl ?_)
 show wpAny _ _ (seqItems? (.ref t) >>= _) _ _ s
 refine Y3 (acx Mu SO ?_)
 simp only [ZD,hx]
 refine Y3 (aaY ho hd (by simp) (Zc ⟨x,rfl,Zc (hQ _ ?_ (ZK ..))⟩))
 exact ⟨_,aaj _ ho (aaZ (aab hd _)),(ab5 ..).trans hc,by rw [aab hd]; simp [rawInt]⟩
theorem B1 {Q:Value->Shared->Prop} (hh:A.handled=none) (hit:s.heap.IsTupleIter it t i) (ht:s.heap.IsTuple t items) (hx:items[i]?=none)
  (hE:∀ h' e,Heap.ExtBut it s.heap h'->(∃ o,h'.get? e=some o /\ o.cls=.type "StopIteration")->E (.ref e) { s with heap:=h' }):wpAny (model prog w) A (Builtin.SmallTypes.nextOf (.ref it)) Q E s:=by
 obtain ⟨o,ho,hc,hd⟩:=id hit
 obtain ⟨ol,Mu,_,nl,SO⟩:=ht
 unfold Builtin.SmallTypes.nextOf
 refine Y3 (aaB (name:=Str.ofString "__next__") hit.typeIs aaI (aaC aaI hit.typeIs abZ ?_ (abU _)))
 show wpAny _ _ (field (.ref it) 0 >>= _) _ _ s
 refine Y3 (wpAny_field ho hd (x:=.ref t) rfl ?_)
 show wpAny _ _ (if (Value.ref t == Value.none)=true then _ else _) _ _ s
 rw [Zj (show ¬ ((Value.ref t == Value.none)=true) from Zt)]
 show wpAny _ _ (field (.ref it) 1 >>= _) _ _ s
 refine Y3 (wpAny_field ho hd (x:=.int i 0) rfl ?_)
 show wpAny _ _ (seqItems? (.ref t) >>= _) _ _ s
 refine Y3 (acx Mu SO ?_)
 simp only [ZD,hx]
 refine Y3 (abl (Y3 (aaY ho hd (by simp) ?_)))
 show wpAny _ _ (newExc (.type "StopIteration") [] >>= _) _ _ _
 refine Y3 ?_
 simp only [newExc,newTuple]
 refine Y3 (Z3 ?_ (by size_fits))
 refine Y3 (m:=firstArgMember _ _) (acI (a:=Value.none) (by first | rfl | (simp only [firstArgMember]; rfl)) ?_)
 refine Z3 ?_ (by size_fits)
 simp only [raiseNew]
 refine Y3 (wpAny_handled ?_)
 first | rw [show A.in1.handled=none from hh] | rw [hh]
 refine Y3 (Zc (wpAny_throw ?_))
 exact hE _ _ (((ZK ..).extBut.push _).push _) ⟨_,Zh _ rfl,rfl⟩
theorem ip (hh:A.handled=none) (it l:Addr) (ik:l≠it) (items:Array Value):
  Draws prog w A it [it,l] items.size (λi v=>items[i]?=some v) (λi h=>h.IsTupleIter it l i /\ h.IsTuple l items) where
 live:=λ_ _ st=>let ⟨o,ho,_⟩:=st.1; ⟨o,ho⟩
 frame:=λ_ _ _ st hk=>⟨st.1.at λo e=>hk it (by simp) o e,st.2.at λo e=>hk l (by simp) o e⟩
 item:=λi s Q E hi st hQ=>yU st.1 st.2 (x:=items[i]) (by simp [hi]) λh' yV jX=>hQ _ h' s.toks (by simp [hi]) ⟨yV,st.2.extBut jX.extBut ik⟩ jX
 done:=λs Q E st hE=>B1 hh st.1 st.2 (by simp) hE
end
set_option maxHeartbeats 1000000 in
set_option tactic.hygienic true in
theorem wD (l:Addr) (items:Array Value) (n:Nat) (rF:Option Addr) (sl:Array (Option Value)):
  Meets (Builtin.«enumerate.__new__» ⟨[.type "enumerate",.ref l],[]⟩) (λ_ R s=>s.heap.get? l=some { cls:=.type "tuple",dict:=rF,data:=.seq items n,slots:=sl } /\
   R (.ok (.ret (.ref (s.heap.push { cls:=.type "tuple_iterator",data:=.fields #[.ref l,.int 0 0] }).objs.size)))
     { s with heap:=(s.heap.push { cls:=.type "tuple_iterator",data:=.fields #[.ref l,.int 0 0] }).push { cls:=.type "enumerate",data:=.fields #[.none,.bool false,.ref s.heap.objs.size,rawInt 0,.none,.none] } }):=
 .of_wp λprog w A R s h=>by
  obtain ⟨hp,g,d,tk,os⟩:=s; obtain ⟨hl,h⟩:=h
  have wM:=sub_enumerate
  have hL:Heap.IsTuple (Shared.heap ⟨hp,g,d,tk,os⟩) l items:=⟨_,hl,rfl,n,rfl⟩
  wp_walk using AutoSeq1.wpAny_loadPart' hl
  refine wpAny_stack_any λst=>Zc ?_
  split
  .rename_i c _ _ _ _ _
   cases (c == Value.type "enumerate")
   .wp_walk using AutoSeq1.wpAny_loadPart' hl,wpAny_pyIter_tuple hL
    exact ⟨_,rfl,h⟩
   .wp_walk using AutoSeq1.wpAny_loadPart' hl,wpAny_pyIter_tuple hL
    exact ⟨_,rfl,h⟩
  .wp_walk using AutoSeq1.wpAny_loadPart' hl,wpAny_pyIter_tuple hL
   exact ⟨_,rfl,h⟩
section
variable {prog:Program} {w:World} {A:Around} {E:Value->Shared->Prop} {s:Shared}
theorem yW {l:Addr} {items:Array Value} {Q:Value->Shared->Prop} (hL:s.heap.IsTuple l items)
  (h:∀ h',IsEnum h' (s.heap.objs.size + 1) s.heap.objs.size 0 .none->h'.IsTupleIter s.heap.objs.size l 0->h'.objs.size=s.heap.objs.size + 2->(∀ b o,s.heap.get? b=some o->h'.get? b=some o)->Q (.ref (s.heap.objs.size + 1)) { s with heap:=h' }):
  wpAny (model prog w) A (call (.type "enumerate") [.ref l]) Q E s:=by
 obtain ⟨⟨c,rF,dt,sl⟩,hl,hc,n,hd⟩:=hL
 simp only at hc hd
 subst hc hd
 refine callType_new aba (by decide) (PySem.F.typeCall_enumerate_1 _) (PySem.F.newCall_enumerate_1 _) (λobj=>PySem.F.args_object_init_2 obj _) PySem.F.entry_enumerate_new (wD l items n rF sl) ⟨hl,?_⟩
 have hz:(s.heap.push { cls:=.type "tuple_iterator",data:=.fields #[.ref l,.int 0 0] }).objs.size=s.heap.objs.size + 1:=aaQ ..
 show _ /\ _
 rw [hz]
 have he:IsEnum ((s.heap.push { cls:=.type "tuple_iterator",data:=.fields #[.ref l,.int 0 0] }).push { cls:=.type "enumerate",data:=.fields #[.none,.bool false,.ref s.heap.objs.size,rawInt 0,.none,.none] }) (s.heap.objs.size + 1) s.heap.objs.size 0 .none:=by
  have q:=Zh (s.heap.push { cls:=.type "tuple_iterator",data:=.fields #[.ref l,.int 0 0] }) (o:={ cls:=.type "enumerate",data:=.fields #[.none,.bool false,.ref s.heap.objs.size,rawInt 0,.none,.none] }) rfl
  rw [hz] at q; exact q
 exact ⟨⟨_,he,rfl⟩,h _ he ⟨_,Y5 _ (Zh _ rfl),rfl,rfl⟩ (by rw [aaQ,hz]) λb o x=>Y5 _ (Y5 _ x)⟩
end
end LS
namespace LS
open PySem
def sU (l:List Nat):Prop:=l.Pairwise (· < ·)
theorem lh {xs:Array Nat} (h:sU xs.toList) {a b:Nat} (Gj:a < b) (hb:b < xs.size) (d e:Nat):xs.getD a d < xs.getD b e:=by
 have ha:a < xs.size:=by omega
 have:=List.pairwise_iff_getElem.mp h a b (by simpa using ha) (by simpa using hb) Gj
 simpa [Array.getD,ha,hb] using this
theorem DV {xs:Array Nat} (hs:sU xs.toList) (j:Nat) (fuel:Nat):∀ (lo hi:Nat),hi - lo<=fuel->lo<=hi->hi<=xs.size->(∀ k,k < lo->xs.getD k 0 < j)->(∀ k,hi<=k->k < xs.size->j<=xs.getD k 0)->
  SetTable.below.go xs j fuel lo hi<=xs.size /\ (∀ k,k < SetTable.below.go xs j fuel lo hi->xs.getD k 0 < j) /\ ∀ k,SetTable.below.go xs j fuel lo hi<=k->k < xs.size->j<=xs.getD k 0:=by
 induction fuel with
 | zero=>
   intro lo hi h1 h2 h3 h4 h5
   have e:lo=hi:=Nat.le_antisymm h2 (Nat.le_of_sub_eq_zero (Nat.le_zero.mp h1))
   subst e
   exact ⟨h3,h4,h5⟩
 | succ fuel ih=>
   intro lo hi h1 h2 h3 h4 h5
   rw [SetTable.below.go]
   by_cases hl:lo < hi
   .rw [Zk hl]
    have a:lo<=(lo + hi) / 2 /\ (lo + hi) / 2 < hi:=by omega
    dsimp only
    generalize (lo + hi) / 2=m at a
    have hm:m < xs.size:=Zi a.2 h3
    have hg:xs.getD m j=xs.getD m 0:=by simp [Array.getD,hm]
    rw [hg]
    by_cases hc:xs.getD m 0 < j
    .rw [Zk hc]
     refine ih _ hi (by omega) a.2 h3 (λk hk=>?_) h5
     rcases Nat.lt_or_eq_of_le (Nat.le_of_lt_succ hk) with q | q
     .exact aco (lh hs q hm 0 0) hc
     .rw [q]; exact hc
    .rw [Zj hc]
     have hc:=acd hc
     refine ih lo _ (by omega) a.1 (aak hm) h4 (λk hk Hx=>?_)
     rcases Nat.lt_or_eq_of_le hk with q | q
     .exact ZQ hc (aak (lh hs q Hx 0 0))
     .rw [<- q]; exact hc
   .rw [Zj hl]
    have e:lo=hi:=Nat.le_antisymm h2 (acd hl)
    subst e
    exact ⟨h3,h4,h5⟩
theorem below_at {xs:Array Nat} (hs:sU xs.toList) (j:Nat):SetTable.below xs j<=xs.size /\ (∀ k,k < SetTable.below xs j->xs.getD k 0 < j) /\ ∀ k,SetTable.below xs j<=k->k < xs.size->j<=xs.getD k 0:=
 DV hs j xs.size 0 xs.size (by omega) (aah _) (Ze _) (λk hk=>by omega) λk h1 h2=>by omega
theorem qt {xs:Array Nat} (hs:sU xs.toList) {i j:Nat} (hi:i<=xs.size) (h1:∀ k,k < i->xs.getD k 0 < j) (h2:∀ k,i<=k->k < xs.size->j<=xs.getD k 0):SetTable.below xs j=i:=by
 obtain ⟨a,b,c⟩:=below_at hs j
 rcases Nat.lt_trichotomy (SetTable.below xs j) i with h | h | h
 .have:=h1 _ h
  have:=c _ (Ze _) (by omega)
  omega
 .exact h
 .have:=b i h
  have:=h2 i (Ze _) (by omega)
  omega
theorem DW {xs:Array Nat} (hs:sU xs.toList) {j:Nat} (h:xs[SetTable.below xs j]?≠some j):j∉xs.toList:=by
 intro hm
 obtain ⟨k,hk,e⟩:=ZY hm
 have Hx:k < xs.size:=by simpa using hk
 have ek:xs.getD k 0=j:=by simpa [Array.getD,Hx] using e
 have:SetTable.below xs j=k:=qt hs (aak Hx) (λi hi=>by rw [<- ek]; exact lh hs hi Hx 0 0) (λi h1 h2=>by
  by_cases J8:k=i
  .subst J8; omega
  .have:=lh hs (show k < i by omega) h2 0 0
   omega)
 rw [this] at h
 refine h ?_
 rw [aat Hx]
 simpa using e
theorem Hy {t:SetTable} (hs:sU t.place.toList) {j:Nat} (h:t.place[SetTable.below t.place j]?≠some j):sU (t.put j).1.place.toList:=by
 have hn:=DW hs h
 obtain ⟨a,b,c⟩:=below_at hs j
 show sU (SetTable.insertAt t.place (SetTable.below t.place j) j).toList
 rw [SetTable.toList_insertAt]
 have jX:(t.place.toList.take (SetTable.below t.place j) ++ t.place.toList.drop (SetTable.below t.place j)).Pairwise (· < ·):=by rw [abr]; exact hs
 rw [aaD] at jX
 refine aaD.mpr ⟨jX.1,ZF.mpr ⟨λx hx=>?_,jX.2.1⟩,λx hx y hy=>?_⟩
 .obtain ⟨k,hk,e⟩:=ZY hx
  rw [acJ] at e
  have Hz:SetTable.below t.place j + k < t.place.size:=by
   have:=abE (i:=SetTable.below t.place j) (l:=t.place.toList)
   have Rt:=hk
   rw [this] at Rt
   simp at Rt
   omega
  have:=c (SetTable.below t.place j + k) (by omega) Hz
  have e2:t.place.getD (SetTable.below t.place j + k) 0=x:=by simpa [Array.getD,Hz] using e
  have ik:x≠j:=λz=>hn (by rw [<- z]; exact List.mem_of_mem_drop hx)
  omega
 .obtain ⟨k,hk,e⟩:=ZY hx
  have Hz:k < SetTable.below t.place j:=by
   have:=ZH (i:=SetTable.below t.place j) (l:=t.place.toList)
   omega
  have Rt:k < t.place.size:=by omega
  rw [abu] at e
  have e2:t.place.getD k 0=x:=by simpa [Array.getD,Rt] using e
  have UX:=b k Hz
  rw [e2] at UX
  rcases Y6.mp hy with z | z
  .rw [z]; exact UX
  .exact jX.2.2 x hx y z
set_option tactic.hygienic true in
theorem lY {t:SetTable} {f:Nat->Int} {h:Int}:∀ {fuel:Nat} {p:SetTable.Probe} {j:Nat} {dm:Option Nat},(∀ d,p.dummy=some d->t.place[SetTable.below t.place d]?≠some d)->
  SetTable.probe.go t f h fuel p=some (.empty j dm)->t.place[SetTable.below t.place (dm.getD j)]?≠some (dm.getD j)
 | 0,p,j,dm,_,e=>by cases e
 | fuel + 1,p,j,dm,hd,e=>by
   have UY:∀ q:SetTable.Probe,(t.advance q).dummy=q.dummy:=λq=>by unfold SetTable.advance; split <;> rfl
   rw [SetTable.probe.go] at e
   have nl:∀ i,t.slot i=.empty \/ t.slot i=.dummy->t.place[SetTable.below t.place i]?≠some i:=by
    intro i hi z
    unfold SetTable.slot at hi
    dsimp only at hi
    rw [z] at hi
    simp at hi
   split at e
   .rename_i hs
    cases e
    cases hp:p.dummy with
    | none=>exact nl _ (.inl hs)
    | some d=>exact hd d hp
   .rename_i hs
    refine lY (λd GA=>?_) e
    rw [UY] at GA
    cases GA
    exact nl _ (.inr hs)
   .split at e
    .cases e
    .exact lY (λd GA=>hd d (by rw [UY] at GA; exact GA)) e
theorem lj (n:Nat):sU (Array.range n).toList:=by rw [Array.toList_range]; exact List.pairwise_lt_range
theorem rW {t:SetTable} {n:Nat} (h:sU t.place.toList):sU (t.orStandIn n).place.toList /\ (t.orStandIn n).led=t.led:=by
 unfold SetTable.orStandIn
 split
 .exact ⟨h,rfl⟩
 .exact ⟨lj n,rfl⟩
set_option tactic.hygienic true in
theorem yX {t:SetTable} {es:Array (Int×Value)} {h:Int} {x:Value} (hs:sU t.place.toList):sU (layNew t es h x).2.1.place.toList /\ (layNew t es h x).2.1.led=t.led:=by
 unfold layNew
 split
 .rename_i slot wd e
  unfold SetTable.freeSlot at e
  split at e
  .rename_i j dm ep
   cases e
   have:=lY (t:=t) (λd z=>by cases z) ep
   obtain ⟨a,b⟩:=rW (n:=(SetTable.insertAt es (t.put (dm.getD j)).2 (h,x)).size) (Hy hs this)
   exact ⟨a,b⟩
  .cases e
 .exact ⟨lj _,rfl⟩
set_option tactic.hygienic true in
theorem ue {t:SetTable} {es:Array (Int×Value)} {n:Nat}:sU (relayAll t es n).2.1.place.toList /\ (relayAll t es n).2.1.led=t.led:=by
 unfold relayAll
 split
 .rename_i t' order e
  dsimp only
  split
  .unfold SetTable.relaid SetTable.laid at e
   obtain ⟨owner,_,e2⟩:=Option.bind_eq_some_iff.mp e
   cases e2
   refine ⟨?_,rfl⟩
   show sU (List.map _ _)
   refine aaw.mpr (List.pairwise_filterMap.mpr ?_)
   refine List.pairwise_lt_range.imp λ{a b} Gj x hx y hy=>?_
   cases ea:owner.getD a none with
   | none=>rw [ea] at hx; cases hx
   | some u=>
     cases eb:owner.getD b none with
     | none=>rw [eb] at hy; cases hy
     | some v=>
       rw [ea] at hx; rw [eb] at hy
       cases hx; cases hy
       exact Gj
  .exact ⟨lj _,rfl⟩
 .exact ⟨lj _,rfl⟩
end LS
namespace LS
open PySem PyProof.Rows
def iv:Value->Int
 | .int n _=>n
 | _=>0
theorem dB:∀ {vs:List Value} {ns:List Int},IntsAre vs ns↔(∀ v∈vs,∃ n t,v=.int n t) /\ ns=vs.map iv
 | [],ns=>⟨λh=>by cases h; exact ⟨λv hv=>by simp at hv,rfl⟩,λ⟨_,h⟩=>by subst h; exact .nil⟩
 | v :: vs,ns=>⟨λh=>by
     cases h with
     | cons n t h=>
       obtain ⟨h1,h2⟩:=dB.mp h
       refine ⟨λu hu=>?_,by rw [h2]; rfl⟩
       rcases Y6.mp hu with z | z
       .exact ⟨n,t,z⟩
       .exact h1 u z,λ⟨h1,h2⟩=>by
     obtain ⟨n,t,rfl⟩:=h1 v Zb
     subst h2
     exact .cons n t (dB.mpr ⟨λu hu=>h1 u (Y8 _ hu),rfl⟩)⟩
theorem n5 {vs SQ:List Value} {ns:List Int} (h:IntsAre vs ns) (p:SQ.Perm vs):∃ mO,IntsAre SQ mO /\ mO.Perm ns:=by
 obtain ⟨h1,h2⟩:=dB.mp h
 exact ⟨SQ.map iv,dB.mpr ⟨λv hv=>h1 v (p.mem_iff.mp hv),rfl⟩,by rw [h2]; exact p.map iv⟩
def ja (prog:Program) (w:World) (h:Heap) (a:Addr) (led:Bool) (ns:List Int):Prop:=∃ o es ep t,h.get? a=some o /\ o.ExactSet /\ o.data=.set es ep t /\ ElemsOf (intKind prog w) es.toList /\
 IntsAre (es.toList.map (·.2)) ns /\ ns.Nodup /\ es.size < scanBound /\ t.fits es.size=true /\ t.led=led /\ sU t.place.toList
section
variable {prog:Program} {w:World} {A:Around} {E:Value->Shared->Prop} {s:Shared} {a:Addr} {led:Bool} {ns:List Int}
theorem ja.keeps {h h':Heap} (x:ja prog w h a led ns) (k:∀ o,h.get? a=some o->h'.get? a=some o):ja prog w h' a led ns:=by
 obtain ⟨o,es,ep,t,ho,r⟩:=x
 exact ⟨o,es,ep,t,k o ho,r⟩
theorem wN {h:Heap} {o:Obj} {es:Array (Int×Value)} {ep:Nat} {t:SetTable} (ho:h.get? a=some o) (hex:o.ExactSet) (hd:o.data=.set es ep t) {wa:Array (Int×Value)} {t':SetTable} {mO:List Int}
  (h1:ElemsOf (intKind prog w) wa.toList) (h2:IntsAre (wa.toList.map (·.2)) mO) (h3:mO.Nodup) (h4:wa.size < scanBound) (h5:t'.fits wa.size=true) (h6:t'.led=led) (h7:sU t'.place.toList):
  (h.update a (Obj.putSet wa t')).get? a=some { o with data:=.set wa (ep + 1) t' } /\ ja prog w (h.update a (Obj.putSet wa t')) a led mO:=by
 have hg:(h.update a (Obj.putSet wa t')).get? a=some { o with data:=.set wa (ep + 1) t' }:=by
  have q:=aaj (Obj.putSet wa t') ho (by rw [putSet_of wa t' hd]; rfl)
  rwa [putSet_of wa t' hd] at q
 exact ⟨hg,_,wa,ep + 1,t',hg,hex,rfl,h1,h2,h3,h4,h5,h6,h7⟩
theorem sV {g:Bool->Sem Unit} (hg:∀ (b:Bool) (bE:Shared) (Q':Unit->Shared->Prop),Q' () bE->wpAny (model prog w) A (g b) Q' E bE) {o:Obj} {es:Array (Int×Value)} {ep:Nat} {t:SetTable}
  (ho:s.heap.get? a=some o) (hex:o.ExactSet) (hd:o.data=.set es ep t) {o9:Array (Int×Value)} {t2:SetTable} {Mv:List Int} (h1:ElemsOf (intKind prog w) o9.toList) (h2:IntsAre (o9.toList.map (·.2)) Mv) (h3:Mv.Nodup) (h4:o9.size < scanBound)
  (h5:t2.fits o9.size=true) (h6:t2.led=led) (h7:sU t2.place.toList) {wd:Bool} {R:Option Bool->Shared->Prop}
  (h:∀ h' mO,Heap.SameBut a s.heap h'->ja prog w h' a led mO->mO.Perm Mv->R (some true) { s with heap:=h' }):
  wpAny (model prog w) A (do
    storeSet a o9 t2
    if (!wd && t2.tooFull)=true then do
        g (relayAll t2 o9 (SetTable.grown o9.size)).2.2
        storeSet a (relayAll t2 o9 (SetTable.grown o9.size)).1 (relayAll t2 o9 (SetTable.grown o9.size)).2.1
        pure (some true)
     else pure (some true)) R E s:=by
 refine Y3 (wpAny_storeSet_of ho hd ?_ (fits_of_scanBound h4))
 obtain ⟨fO,S1⟩:=wN (led:=led) ho hex hd h1 h2 h3 h4 h5 h6 h7
 have b1:=ZK s.heap a (Obj.putSet o9 t2)
 split
 .have hp:=relayAll_perm t2 o9 (SetTable.grown o9.size)
  have hf:=relayAll_fits t2 o9 (SetTable.grown o9.size)
  obtain ⟨hr,hl⟩:=ue (t:=t2) (es:=o9) (n:=SetTable.grown o9.size)
  generalize relayAll t2 o9 (SetTable.grown o9.size)=Z at hp hf hr hl ⊢
  obtain ⟨UZ,t3,SR⟩:=Z
  dsimp only at hp hf hr hl ⊢
  obtain ⟨Wd,i2,p2⟩:=n5 h2 (hp.map (·.2))
  have hz:UZ.size=o9.size:=by rw [<- Array.length_toList,hp.length_eq,ZP]
  have b2:UZ.size < scanBound:=by rw [hz]; exact h4
  refine Y3 (hg _ _ _ (Y3 (wpAny_storeSet_of fO rfl ?_ (fits_of_scanBound b2))))
  obtain ⟨_,S2⟩:=wN (led:=led) fO hex rfl (h1.perm hp) i2 (p2.nodup_iff.mpr h3) b2 hf (hl.trans h6) hr
  exact Zc (h _ Wd (b1.trans (ZK _ a _)) S2 p2)
 .exact Zc (h _ Mv b1 S1 (.refl _))
theorem wO {es:List (Int×Value)} {i:Int} (h:IntsAre (es.map (·.2)) ns):i∈ns↔∃ e∈es,Value.isInt i e.2=true:=by
 obtain ⟨h1,h2⟩:=dB.mp h
 subst h2
 constructor
 .intro hm
  obtain ⟨v,hv,e⟩:=ZG.mp hm
  obtain ⟨x,hx,rfl⟩:=ZG.mp hv
  obtain ⟨n,t,q⟩:=h1 _ hv
  rw [q] at e
  cases e
  exact ⟨x,hx,by rw [q]; simp [Value.isInt,iv]⟩
 .rintro ⟨e,he,q⟩
  obtain ⟨t,z⟩:=Value.isInt_shape q
  exact ZG.mpr ⟨e.2,ZG.mpr ⟨e,he,rfl⟩,by rw [z]; rfl⟩
theorem DX {i:Int} {tk:Tok} {Q:Bool->Shared->Prop} (hS:ja prog w s.heap a led ns) (room:ns.length + 1 < scanBound)
  (h:∀ h' mO b,Heap.SameBut a s.heap h'->ja prog w h' a led mO->(∀ k,k∈mO↔k∈ns \/ k=i)->mO.length<=ns.length + 1->Q b { s with heap:=h' }):
  wpAny (model prog w) A (setAddHashed a (.int i tk) (hashInt i)) Q E s:=by
 obtain ⟨o,es,ep,t,ho,hex,hd,h1,h2,h3,h4,h5,h6,h7⟩:=hS
 have hlen:ns.length=es.size:=by
  obtain ⟨_,e⟩:=dB.mp h2
  rw [e]; simp
 have hk:(intKind prog w).is i (.int i tk)=true:=intKind_is prog w i tk
 have SS:(Value.int i tk).scannable=true:=rfl
 unfold setAddHashed setAddHashedIn
 refine aaX (Y3 (aa8 ho hd h5 ?_))
 dsimp only
 rw [byScan_of SS h4 h1]
 simp only [↓reduceIte]
 unfold setAddByScan
 refine Y3 (Y3 (abl (Y3 (wpAny_setScan_of (knd:=intKind prog w) (k:=i) hk ho hd h5 h1 ?_))))
 cases hf:List.findIdx? (λe=>(intKind prog w).is i e.2) es.toList with
 | some j=>
   dsimp only
   obtain ⟨hj,We,_⟩:=List.findIdx?_eq_some_iff_getElem.mp hf
   have hm:i∈ns:=(wO h2).mpr ⟨_,aae hj,We⟩
   refine Zc (Zc ?_)
   have q:=h s.heap ns false (Heap.SameBut.refl a s.heap) ⟨o,es,ep,t,ho,hex,hd,h1,h2,h3,h4,h5,h6,h7⟩ (λk=>⟨.inl,λz=>z.elim id λe=>e ▸ hm⟩) (aaA _)
   exact q
 | none=>
   dsimp only
   have hn:i∉ns:=λhm=>by
    obtain ⟨e,he,q⟩:=(wO h2).mp hm
    have z:=List.findIdx?_eq_none_iff.mp hf e he
    rw [show (intKind prog w).is i e.2=true from q] at z
    cases z
   have gw:∀ (b:Bool) {bE:Shared} {Q':Unit->Shared->Prop},Q' () bE->wpAny (model prog w) A (match b with | true=>rule "set.scan.the-table-gave-way" | false=>pure ()) Q' E bE:=
    λb bE Q' hq=>by cases b <;> first | exact Zc hq | exact abl hq
   have hp:=layNew_perm t es (hashInt i) (.int i tk)
   have Pp:=layNew_fits t es (hashInt i) (.int i tk)
   obtain ⟨hr,hl⟩:=yX (t:=t) (es:=es) (h:=hashInt i) (x:=.int i tk) h7
   generalize layNew t es (hashInt i) (.int i tk)=Z at hp Pp hr hl ⊢
   obtain ⟨o9,t1,wd,SR⟩:=Z
   dsimp only at hp Pp hr hl ⊢
   rw [acL] at hp
   have e1:ElemsOf (intKind prog w) o9.toList:=(h1.push hk SS).perm hp
   have i0:IntsAre ((es.toList ++ [(hashInt i,Value.int i tk)]).map (·.2)) (ns ++ [i]):=by
    obtain ⟨x1,x2⟩:=dB.mp h2
    refine dB.mpr ⟨λv hv=>?_,by rw [x2]; simp [iv]⟩
    rw [ZI] at hv
    rcases ZC.mp hv with z | z
    .exact x1 v z
    .simp at z; exact ⟨i,tk,z⟩
   obtain ⟨Mv,i1,p1⟩:=n5 i0 (hp.map (·.2))
   have nd:Mv.Nodup:=p1.nodup_iff.mpr (by
    rw [acM]
    exact ⟨h3,by simp,λx hx y hy=>by simp at hy; rw [hy]; exact λz=>hn (z ▸ hx)⟩)
   have hz:o9.size=es.size + 1:=by rw [<- Array.length_toList,hp.length_eq,Zz,ZP]; rfl
   have b1:o9.size < scanBound:=by omega
   have fin:∀ h' mO,Heap.SameBut a s.heap h'->ja prog w h' a led mO->mO.Perm Mv->Q true { s with heap:=h' }:=λh' mO sb S p=>by
    refine h h' mO true sb S (λk=>?_) ?_
    .rw [p.mem_iff,p1.mem_iff]; simp
    .rw [p.length_eq,p1.length_eq]; simp
   refine Y3 (gw _ ?_)
   split
   .rw [hashByValue_scannable 8 SS]
    refine Y3 (Zc ?_)
    refine sV (led:=led) ?_ ho hex hd e1 i1 nd b1 ?_ ?_ ?_ λh' mO sb S p=>?_
    .intro b bE Q' hq; cases b <;> first | exact Zc hq | exact abl hq
    .split
     .exact Pp
     .exact SetTable.fits_plain_off Pp
    .split <;> exact hl.trans h6
    .split <;> exact hr
    .dsimp only; exact wpAny_pure (fin h' mO sb S p)
   .refine Y3 (Zc ?_)
    simp only [↓reduceIte]
    refine sV (led:=led) ?_ ho hex hd e1 i1 nd b1 Pp (hl.trans h6) hr λh' mO sb S p=>?_
    .intro b bE Q' hq; cases b <;> first | exact Zc hq | exact abl hq
    .dsimp only; exact wpAny_pure (fin h' mO sb S p)
end
end LS
namespace LS
open PySem PySem.Spec PyProof.Rows
section
variable {prog:Program} {w:World} {A:Around} {E:Value->Shared->Prop} {s:Shared}
abbrev kr (w:World):Bool:= !w.params.followText "set-order"
abbrev fW (w:World):Obj:={ cls:=.type "set",dict:=none,data:=.set #[] 0 (.fresh 0 0 (kr w)) }
theorem B2 {h:Heap} {a:Addr} (e:h.get? a=some (fW w)):ja prog w h a (kr w) []:=
 ⟨_,#[],0,_,e,⟨rfl,rfl,rfl⟩,rfl,λx hx=>by simp at hx,.nil,.nil,by decide,rfl,rfl,List.Pairwise.nil⟩
theorem HA (a:Value) {Q₁:Value->Shared->Prop} (h:Q₁ (.ref s.heap.objs.size) { s with heap:=s.heap.push (fW w) }):
  codeAny (model prog w) A (.call (.builtin "set.__new__") ⟨[.type "set",a],[]⟩) (wants Q₁ E) s:=by
 refine codeAny_of_tree ?_
 show wpAny _ A.in1 (checkBuiltinCall "set.__new__" ⟨[.type "set",a],[]⟩ >>= λ_=>again (.builtin "set.__new__" ⟨[.type "set",a],[]⟩)) _ _ s
 refine Y3 (acI (PySem.F.newCall_set_1 a) (Zc ⟨abP PySem.F.plain_set_new _,aaL PySem.F.entry_set_new ?_⟩))
 rw [aaE PySem.F.plain_set_new _]
 unfold Builtin.«set.__new__» Builtin.Frozenset.newClass
 have wM:=sub_set_self
 obtain ⟨hp,g,d,tk,os⟩:=s
 dsimp only
 wp_walk
 refine abg (Zc ?_)
 dsimp only
 simp only [newObj]
 exact Y3 (wpAny_alloc (Zc (Zc h)))
end
section
variable {prog:Program} {w:World} {A:Around} {R:Result->Shared->Prop} {I:Addr} {fp wr:List Addr} {G:Array GenState->Array GenState->Prop} {n:Nat} {P:Nat->Value->Prop} {St:Nat->Shared->Prop} {led:Bool}
theorem DY (W:WalksS prog w A.in1 I fp wr G n P St) (S:Addr) (Mw:S∉fp) (val:Nat->Int) (HB:∀ i v,P i v->∃ t,v=.int (val i) t) (hb:n + 1 < scanBound):
  ∀ (k i:Nat) (s:Shared) (ns:List Int),n - i=k->i<=n->St i s->ja prog w s.heap S led ns->ns.length<=i->(∀ x,x∈ns↔∃ j,j < i /\ val j=x)->
    (∀ s' mO,Moved (S :: wr) G s s'->ja prog w s'.heap S led mO->mO.length<=n->(∀ x,x∈mO↔∃ j,j < n /\ val j=x)->R (.ok (.ret .none)) s')->
    codeAny (model prog w) A (.builtin "set.update.loop" ⟨[.ref S,.ref I],[]⟩) R s:=by
 have U0:S∉wr:=λh=>Mw (W.sub _ h)
 have wM:∀ b∈wr,b∈S :: wr:=λb hb=>Y8 _ hb
 intro k
 induction k with
 | zero=>
   intro i s ns hk hi st hS hl hm hR
   have Wf:i=n:=by omega
   subst Wf
   refine aaL abJ ?_
   rw [aaE aaU _]
   show wpAny _ A.in1 (pyNext (.ref I) >>= _) _ _ s
   refine Y3 (W.done s _ _ st λs' mv=>?_)
   show wpAny _ A.in1 (ret Value.none) _ _ s'
   exact Zc (hR s' ns (mv.mono wM) (hS.keeps λo e=>mv.heap S o U0 e) hl hm)
 | succ k ih=>
   intro i s ns hk hi st hS hl hm hR
   have fg:i < n:=by omega
   refine aaL abJ ?_
   rw [aaE aaU _]
   show wpAny _ A.in1 (pyNext (.ref I) >>= _) _ _ s
   refine Y3 (W.item i s _ _ fg st λv s' hP cm mv=>?_)
   obtain ⟨t,rfl⟩:=HB i v hP
   have B3:ja prog w s'.heap S led ns:=hS.keeps λo e=>mv.heap S o U0 e
   show wpAny _ A.in1 (holding [Value.int (val i) t] (setAdd S (.int (val i) t)) >>= _) _ _ s'
   refine Y3 (aaX ?_)
   unfold setAdd
   refine aaX (Y3 ((intKind prog w).pyHash (k:=val i) (intKind_is _ _ _ _) ?_))
   refine DX (s:={ s' with toks:=s'.toks + 1 }) B3 (by omega) λh' mO b sb S2 CP LY=>?_
   refine Zc ⟨abP aaU _,ih (i + 1) _ mO (by omega) fg (W.frame _ s' _ _ cm (aaA _) λb hb o e=>?_) S2 (by omega) (λx=>?_) λGO SU SV S3 l3 m3=>?_⟩
   .rw [sb.2 b (λz:b=S=>Mw (by rw [<- z]; exact hb))]; exact e
   .rw [CP,hm]
    constructor
    .rintro (⟨j,hj,e⟩ | e)
     .exact ⟨j,by omega,e⟩
     .exact ⟨i,by omega,e.symm⟩
    .rintro ⟨j,hj,e⟩
     by_cases Wg:j=i
     .subst Wg; exact .inr e.symm
     .exact .inl ⟨j,by omega,e⟩
   .refine hR GO SU (Moved.trans W.gtrans ((mv.mono wM).then_heap (aaA _) λb o hb e=>?_) SV) S3 l3 m3
    rw [sb.2 b (λz:b=S=>hb (by rw [z]; exact Zb))]; exact e
end
section
variable {prog:Program} {w:World} {A:Around} {E:Value->Shared->Prop} {s:Shared}
structure yY (prog:Program) (w:World) (h:Heap) (r:Addr) (items:Array Value) (T:String) (oI:Obj) (St:Addr->Nat->Heap->Prop):Prop where
 ty:∃ o,h.get? r=some o /\ o.cls=.type T
 Mx:isSubtype (.type T) (.type "set")=pure false
 My:isSubtype (.type T) (.type "frozenset")=pure false
 nd:(Value.type T == Value.type "dict")=false
 iter:∀ (A':Around) (s':Shared) (Q:Value->Shared->Prop) (E:Value->Shared->Prop),(∀ o,h.get? r=some o->s'.heap.get? r=some o)->Q (.ref s'.heap.objs.size) { s' with heap:=s'.heap.push oI }->wpAny (model prog w) A' (pyIter (.ref r)) Q E s'
 walk:∀ (A':Around) (I:Addr),A'.handled=none->r≠I->Walks prog w A' I [I,r] [I] items.size (λi v=>items[i]?=some v) (St I)
 st:∀ h':Heap,(∀ o,h.get? r=some o->h'.get? r=some o)->St h'.objs.size 0 (h'.push oI)
theorem src_list {h:Heap} {l:Addr} {items:Array Value} (hl:h.IsList l items):yY prog w h l items "list" { cls:=.type "list_iterator",data:=.fields #[.ref l,.int 0 0] } (λI i h=>h.IsListIter I l i /\ h.IsList l items) where
 ty:=let ⟨o,e,c,_⟩:=hl; ⟨o,e,c⟩
 Mx:=PySem.F.sub_list_set
 My:=PySem.F.sub_list_frozenset
 nd:=by decide
 iter:=λA' s' Q E k q=>wpAny_pyIter_list (hl.at k) q
 walk:=λA' I hh ik=>Walks.list hh I l ik items
 st:=λh' k=>⟨⟨_,Zh _ rfl,rfl,rfl⟩,(hl.at k).push _⟩
theorem src_tuple {h:Heap} {l:Addr} {items:Array Value} (hl:h.IsTuple l items):yY prog w h l items "tuple" { cls:=.type "tuple_iterator",data:=.fields #[.ref l,.int 0 0] } (λI i h=>h.IsTupleIter I l i /\ h.IsTuple l items) where
 ty:=let ⟨o,e,c,_⟩:=hl; ⟨o,e,c⟩
 Mx:=by rw [ab6]; kernel_rfl
 My:=by rw [ab6]; kernel_rfl
 nd:=by decide
 iter:=λA' s' Q E k q=>wpAny_pyIter_tuple (hl.at k) q
 walk:=λA' I hh ik=>Walks.tuple hh I l ik items
 st:=λh' k=>⟨⟨_,Zh _ rfl,rfl,rfl⟩,(hl.at k).push _⟩
set_option maxHeartbeats 3200000 in
theorem wQ {r:Addr} {items:Array Value} {ms:List Int} {T:String} {oI:Obj} {St:Addr->Nat->Heap->Prop} {Q:Value->Shared->Prop} (hh:A.handled=none) (src:yY prog w s.heap r items T oI St) (hi:IntsAre items.toList ms) (hb:items.size + 1 < scanBound)
  (h:∀ (h':Heap) (tk:Nat) (ns:List Int),ja prog w h' s.heap.objs.size (kr w) ns->(∀ x,x∈ns↔x∈ms)->ns.length<=ms.length->(∀ b o,s.heap.get? b=some o->h'.get? b=some o)->Q (.ref s.heap.objs.size) { s with heap:=h',toks:=tk }):
  wpAny (model prog w) A (call (.type "set") [.ref r]) Q E s:=by
 obtain ⟨c,tl,Wh⟩:=aaz.mro
 have U1:=aaz.made
 have wM:=aaz.sub
 refine wpAny_call (codeAny_of_tree ?_)
 show wpAny _ _ (callAny (.type "set") _) _ _ _
 refine Zc ⟨Code.quiet_builtin _ (by decide +kernel),aaL PySem.F.entry_type_call ?_⟩
 rw [Around.under_plain (weight_type_call_type "set" [.ref r] []) rfl]
 have h1:=aaz.notType
 have h2:=aaz.canCreate
 have YJ:=PySem.F.typeCall_set_1 (.ref r)
 repeat (any_goals (first | assumption | wp_step))
 refine aa3 (HA (.ref r) (E:=E) (Q₁:=λobj bE=>obj=.ref s.heap.objs.size /\ bE={ s with heap:=s.heap.push (fW w) }) ⟨rfl,rfl⟩) λq bE hq=>?_
 cases q with
 | error e=>exact hq
 | ok fl=>
   cases fl with
   | ret obj=>
     obtain ⟨rfl,rfl⟩:=hq
     have hS:(s.heap.push (fW w)).get? s.heap.objs.size=some (fW w):=Zh _ rfl
     have hT:Shared.TypeIs { s with heap:=s.heap.push (fW w) } (.ref s.heap.objs.size) "set":=⟨_,hS,rfl⟩
     have YK:=aaz.init.lookup
     have YL:=aaz.init.bind (.ref s.heap.objs.size)
     repeat (any_goals (first | assumption | wp_step))
     refine aa3 (aci (R:=wants (λv lP=>v=.none /\ ∃ h' tk ns,lP={ s with heap:=h',toks:=tk } /\ ja prog w h' s.heap.objs.size (kr w) ns /\ (∀ x,x∈ns↔x∈ms) /\ ns.length<=ms.length /\ ∀ b o,s.heap.get? b=some o->h'.get? b=some o) E)
      aaz.init.plain PySem.F.entry_set_init (check_set_init_1 hT ?_)) λSW lP DZ=>?_
     .obtain ⟨SX,Kf,n6⟩:=src.ty
      obtain ⟨Wi,Pq,Pr,Mz⟩:=SX
      simp only at n6
      subst n6
      have Wj:(s.heap.push (fW w)).get? r=some { cls:=.type T,dict:=Pq,data:=Pr,slots:=Mz }:=Y5 _ Kf
      have HC:=src.Mx
      have mN:=src.My
      have ik:=src.nd
      unfold Builtin.«set.__init__» noKeywords Builtin.Frozenset.updateFrom
      generalize Wk:pyIter=PI
      wp_walk
      subst Wk
      refine src.iter _ _ _ _ (λo e=>Y5 _ e) ?_
      refine Y3 (wpAny_runValue ?_)
      have U3:r < s.heap.objs.size:=Zf Kf
      have Wl:A.in1.in1.in1.handled=none:=by simp [hh]
      have hz:(s.heap.push (fW w)).objs.size=s.heap.objs.size + 1:=aaQ _ _
      have SY:r≠(s.heap.push (fW w)).objs.size:=by rw [hz]; exact Zs (aan U3)
      have Mw:s.heap.objs.size∉[(s.heap.push (fW w)).objs.size,r]:=by
       rw [hz]; simp only [Y6,ZS,aa5,ac9]
       exact ⟨Zs (aar _),aa2 U3⟩
      have HB:∀ (i:Nat) (v:Value),items[i]?=some v->∃ t,v=.int ((λi=>ms.getD i 0) i) t:=λi v hv=>IntsAre.int_at hi i v (by rw [Array.getElem?_toList]; exact hv)
      have hlen:ms.length=items.size:=by have:=(dB.mp hi).2; rw [this]; simp
      refine DY ((src.walk _ _ Wl SY).toS) s.heap.objs.size Mw (λi=>ms.getD i 0) HB hb (items.size - 0) 0 _ [] (by omega) (aah _) (src.st _ λo e=>Y5 _ e) (B2 (Y5 _ hS)) (Ze _) (λx=>by simp) ?_
      intro s' mO mv S' l' m'
      obtain ⟨h',g',d',Wm,Sl⟩:=s'
      have eg:g'=s.gens:=mv.gens
      have ed:d'=s.drawn:=mv.drawn
      have eo:Sl=s.os:=mv.os
      subst eg ed eo
      show wpAny _ _ _ _ _ _
      refine Zc ?_
      show wpAny _ _ (ret Value.none) _ _ _
      refine Zc ⟨rfl,h',Wm,mO,rfl,S',λx=>?_,by omega,λb o e=>?_⟩
      .rw [m',<- hlen]
       constructor
       .rintro ⟨j,hj,e⟩
        rw [Y9,Y4 hj] at e
        rw [<- e]; exact aae hj
       .intro hx
        obtain ⟨j,hj,e⟩:=ZY hx
        exact ⟨j,hj,by rw [Y9,Y4 hj]; exact e⟩
      .have Gk:=Zf e
       refine mv.heap b o ?_ (Y5 _ (Y5 _ e))
       rw [hz]
       simp only [Y6,ZS,aa5,ac9]
       exact ⟨Zs Gk,Zs (aan Gk)⟩
     .cases SW with
      | error e=>exact DZ
      | ok Pt=>
        cases Pt with
        | ret v=>
          obtain ⟨rfl,h',tk,ns,rfl,S',m',l',k'⟩:=DZ
          repeat (any_goals (first | assumption | wp_step))
          exact h _ _ ns S' m' l' k'
        | _=>exact DZ.elim
   | _=>exact hq.elim
end
end LS
namespace LS
open PySem PyProof.Rows
set_option maxRecDepth 100000
theorem bV:Slot "set_iterator" "__next__" "set_iterator.__next__":=
 .of (owner:="set_iterator") (n:="__next__") (by rw [typeLookup_type,builtinLookup_eq_fast]; kernel_rfl) (by decide +kernel) (by decide +kernel) (by decide +kernel) (by first | exact .inl (by decide +kernel) | exact .inr (by decide +kernel)) (by rw [ab6]; kernel_rfl)
theorem nq:Slot "set_iterator" "__iter__" "set_iterator.__iter__":=
 .of (owner:="set_iterator") (n:="__iter__") (by rw [typeLookup_type,builtinLookup_eq_fast]; kernel_rfl) (by decide +kernel) (by decide +kernel) (by decide +kernel) (by first | exact .inl (by decide +kernel) | exact .inr (by decide +kernel)) (by rw [ab6]; kernel_rfl)
theorem fX:entryFor table "set_iterator.__next__"=some Builtin.«set_iterator.__next__»:=entryFor_of_tree (by kernel_rfl)
theorem rX:entryFor table "set_iterator.__iter__"=some Builtin.«dict_keyiterator.__iter__»:=
 entryFor_alias (id':="dict_keyiterator.__iter__") (by kernel_rfl) (by first | rfl | decide +kernel | (unfold String.splitOn; simp +decide [String.splitOnAux])) (by decide +kernel) (by kernel_rfl)
theorem qu:entryFor table "set.__iter__"=some Builtin.«frozenset.__iter__»:=
 entryFor_alias (id':="frozenset.__iter__") (by kernel_rfl) (by first | rfl | decide +kernel | (unfold String.splitOn; simp +decide [String.splitOnAux])) (by decide +kernel) (by kernel_rfl)
theorem wU:Manifest.owners.lookup (String.ofList ['r','o','t','a','r','e','t','i','_','t','e','s'].reverse)=some Manifest.sig_set_iterator:=by kernel_rfl
theorem gN (a:Value):argsOk "set_iterator.__next__" ⟨[a],[]⟩:=by
 unfold argsOk; rw [signature?_of (id:="set_iterator.__next__") (n:=['_','_','t','x','e','n','_','_']) (o:=['r','o','t','a','r','e','t','i','_','t','e','s']) (by kernel_rfl) wU]; kernel_rfl
theorem uf (a:Value):argsOk "set_iterator.__iter__" ⟨[a],[]⟩:=by
 unfold argsOk; rw [signature?_of (id:="set_iterator.__iter__") (n:=['_','_','r','e','t','i','_','_']) (o:=['r','o','t','a','r','e','t','i','_','t','e','s']) (by kernel_rfl) wU]; kernel_rfl
def jt (h:Heap) (it a:Addr) (first:Value) (i n ep:Nat):Prop:=∃ o,h.get? it=some o /\ o.cls=.type "set_iterator" /\ o.data=.fields #[first,.int i 0,.ref a,.int n 0,.int ep 0]
section
variable {prog:Program} {w:World} {A:Around} {E:Value->Shared->Prop} {s:Shared} {it a:Addr} {first:Value} {i n ep:Nat}
theorem jt.at {h h':Heap} (x:jt h it a first i n ep) (k:∀ o,h.get? it=some o->h'.get? it=some o):jt h' it a first i n ep:=let ⟨o,e,r⟩:=x; ⟨o,k o e,r⟩
theorem jt.typeIs (x:jt s.heap it a first i n ep):s.TypeIs (.ref it) "set_iterator":=let ⟨o,e,c,_⟩:=x; ⟨o,e,c⟩
def fN (h:Heap) (a:Addr) (es:Array (Int×Value)) (ep:Nat) (t:SetTable):Prop:=∃ o,h.get? a=some o /\ o.ExactSet /\ o.data=.set es ep t
theorem fN.at {h h':Heap} {es:Array (Int×Value)} {t:SetTable} (x:fN h a es ep t) (k:∀ o,h.get? a=some o->h'.get? a=some o):fN h' a es ep t:=let ⟨o,e,r⟩:=x; ⟨o,k o e,r⟩
theorem ug (hit:jt s.heap it a first i n ep) {Q:Value->Shared->Prop} (h:Q (.ref it) s):wpAny (model prog w) A (pyIter (.ref it)) Q E s:=by
 refine wpAny_pyIter_slot hit.typeIs nq (aaC nq hit.typeIs rX ?_ (uf _))
 show wpAny _ _ (ret (.ref it)) _ _ s
 exact Zc ⟨_,rfl,"set_iterator",_,hit.typeIs,bV.lookup,h⟩
variable {es:Array (Int×Value)} {t:SetTable} {slot:Nat}
theorem Az {x:Value} {next:Nat} {Q:Option Value->Shared->Prop} (hit:jt s.heap it a (.int slot 0) i n ep) (hS:fN s.heap a es ep t) (hf:t.fits es.size=true) (hn:es.size=n)
  (hx:∀ (A':Around) (Q':Option (Value×Nat)->Shared->Prop) (E':Value->Shared->Prop),Q' (some (x,next)) s->wpAny (model prog w) A' (setNext a slot i ep) Q' E' s)
  (hQ:∀ h',jt h' it a (.int next 0) (i + 1) n ep->Heap.SameBut it s.heap h'->Q (some x) { s with heap:=h' }):wpAny (model prog w) A (pyNext (.ref it)) Q E s:=by
 obtain ⟨o,ho,hc,hd⟩:=id hit
 obtain ⟨os,Kg,hex,Kh⟩:=id hS
 unfold pyNext
 refine Y3 (abQ (aaB (name:=Str.ofString "__next__") hit.typeIs bV (aaC bV hit.typeIs fX ?_ (gN _))))
 unfold Builtin.«set_iterator.__next__»
 refine Y3 (Zc ?_)
 dsimp only
 refine Y3 (acy ho hd ?_)
 dsimp only
 refine Y3 (abe Kg Kh hf ?_)
 rw [Zj (by rw [hn]; simp)]
 refine Y3 ?_
 simp only [ZD]
 refine hx _ _ _ ?_
 dsimp only
 refine Y3 (aaY ho hd (by simp) ?_)
 have e1:=aaj (Obj.mapFields (·.setIfInBounds 0 (rawInt next))) ho (aaZ (aab hd _))
 have d1:=aab hd (·.setIfInBounds 0 (rawInt next))
 refine Y3 (aaY e1 d1 (by simp) ?_)
 refine Zc ⟨x,rfl,Zc (hQ _ ?_ ((ZK ..).trans (ZK ..)))⟩
 refine ⟨_,aaj _ e1 (aaZ (aab d1 _)),?_,?_⟩
 .rw [ab5,ab5]; exact hc
 .rw [aab d1]; simp [rawInt]
theorem D0 {Q:Option Value->Shared->Prop} (hh:A.handled=none) (hit:jt s.heap it a (.int slot 0) i n ep) (hS:fN s.heap a es ep t) (hf:t.fits es.size=true) (hn:es.size=n)
  (hx:∀ (A':Around) (Q':Option (Value×Nat)->Shared->Prop) (E':Value->Shared->Prop),Q' none s->wpAny (model prog w) A' (setNext a slot i ep) Q' E' s)
  (hQ:∀ h',Heap.ExtBut it s.heap h'->Q none { s with heap:=h' }):wpAny (model prog w) A (pyNext (.ref it)) Q E s:=by
 obtain ⟨o,ho,hc,hd⟩:=id hit
 obtain ⟨os,Kg,hex,Kh⟩:=id hS
 unfold pyNext
 refine Y3 (abQ (aaB (name:=Str.ofString "__next__") hit.typeIs bV (aaC bV hit.typeIs fX ?_ (gN _))))
 unfold Builtin.«set_iterator.__next__»
 refine Y3 (Zc ?_)
 dsimp only
 refine Y3 (acy ho hd ?_)
 dsimp only
 refine Y3 (abe Kg Kh hf ?_)
 rw [Zj (by rw [hn]; simp)]
 refine Y3 ?_
 simp only [ZD]
 refine hx _ _ _ ?_
 dsimp only
 refine Y3 (aaY ho hd (by simp) ?_)
 refine Y3 ?_
 simp only [newExc,newTuple]
 refine Y3 (Z3 ?_ (by size_fits))
 refine Y3 (m:=firstArgMember _ _) (acI (a:=Value.none) (by first | rfl | (simp only [firstArgMember]; rfl)) ?_)
 refine Z3 ?_ (by size_fits)
 simp only [raiseNew]
 refine Y3 (wpAny_handled ?_)
 first | rw [show A.in1.handled=none from hh] | rw [hh]
 refine Y3 (Zc (wpAny_throw ?_))
 refine Y3 (wpAny_isInstance (T:="StopIteration") (b:=true) ⟨_,Zh _ rfl,rfl⟩ isSubtype_stop ?_)
 exact Zc (hQ _ (((ZK ..).extBut.push _).push _))
theorem D1 {x:Value} {pl:Nat} {tp:Addr} {ps:Array Value} {hsh:Int} {Q:Option Value->Shared->Prop} (hit:jt s.heap it a (.ref tp) i n ep) (ht:s.heap.IsTuple tp ps) (hS:fN s.heap a es ep t) (hf:t.fits es.size=true) (hn:es.size=n)
  (hp:ps[i]?=some (.int pl 0)) (hx:es[pl]?=some (hsh,x))
  (hQ:∀ h',jt h' it a (.ref tp) (i + 1) n ep->Heap.SameBut it s.heap h'->Q (some x) { s with heap:=h' }):wpAny (model prog w) A (pyNext (.ref it)) Q E s:=by
 obtain ⟨o,ho,hc,hd⟩:=id hit
 obtain ⟨os,Kg,hex,Kh⟩:=id hS
 obtain ⟨ot,S0,_,nt,S4⟩:=ht
 unfold pyNext
 refine Y3 (abQ (aaB (name:=Str.ofString "__next__") hit.typeIs bV (aaC bV hit.typeIs fX ?_ (gN _))))
 unfold Builtin.«set_iterator.__next__»
 refine Y3 (Zc ?_)
 dsimp only
 refine Y3 (acy ho hd ?_)
 dsimp only
 refine Y3 (abe Kg Kh hf ?_)
 rw [Zj (by rw [hn]; simp)]
 refine Y3 (acx S0 S4 ?_)
 dsimp only
 simp only [ZD,hp]
 refine Y3 ?_
 unfold setNextDrawn
 refine Y3 (aa8 Kg Kh hf ?_)
 dsimp only
 rw [Zj (by simp)]
 simp only [hx]
 refine Zc ?_
 refine Y3 (aaY ho hd (by simp) ?_)
 refine Zc ⟨x,rfl,Zc (hQ _ ?_ (ZK ..))⟩
 refine ⟨_,aaj _ ho (aaZ (aab hd _)),?_,?_⟩
 .rw [ab5]; exact hc
 .rw [aab hd]; simp [rawInt]
theorem HE {tp:Addr} {ps:Array Value} {Q:Option Value->Shared->Prop} (hh:A.handled=none) (hit:jt s.heap it a (.ref tp) i n ep) (ht:s.heap.IsTuple tp ps) (hS:fN s.heap a es ep t) (hf:t.fits es.size=true) (hn:es.size=n)
  (hp:ps[i]?=none) (hQ:∀ h',Heap.ExtBut it s.heap h'->Q none { s with heap:=h' }):wpAny (model prog w) A (pyNext (.ref it)) Q E s:=by
 obtain ⟨o,ho,hc,hd⟩:=id hit
 obtain ⟨os,Kg,hex,Kh⟩:=id hS
 obtain ⟨ot,S0,_,nt,S4⟩:=ht
 unfold pyNext
 refine Y3 (abQ (aaB (name:=Str.ofString "__next__") hit.typeIs bV (aaC bV hit.typeIs fX ?_ (gN _))))
 unfold Builtin.«set_iterator.__next__»
 refine Y3 (Zc ?_)
 dsimp only
 refine Y3 (acy ho hd ?_)
 dsimp only
 refine Y3 (abe Kg Kh hf ?_)
 rw [Zj (by rw [hn]; simp)]
 refine Y3 (acx S0 S4 ?_)
 dsimp only
 simp only [ZD,hp]
 refine Y3 (aaY ho hd (by simp) ?_)
 have e1:=aaj (Obj.mapFields (·.setIfInBounds 0 (rawInt 0))) ho (aaZ (aab hd _))
 have d1:=aab hd (·.setIfInBounds 0 (rawInt 0))
 refine Y3 (aaY e1 d1 (by simp) ?_)
 refine Y3 ?_
 simp only [newExc,newTuple]
 refine Y3 (Z3 ?_ (by size_fits))
 refine Y3 (m:=firstArgMember _ _) (acI (a:=Value.none) (by first | rfl | (simp only [firstArgMember]; rfl)) ?_)
 refine Z3 ?_ (by size_fits)
 simp only [raiseNew]
 refine Y3 (wpAny_handled ?_)
 first | rw [show A.in1.handled=none from hh] | rw [hh]
 refine Y3 (Zc (wpAny_throw ?_))
 refine Y3 (wpAny_isInstance (T:="StopIteration") (b:=true) ⟨_,Zh _ rfl,rfl⟩ isSubtype_stop ?_)
 exact Zc (hQ _ ((((ZK ..).trans (ZK ..)).extBut.push _).push _))
theorem qv (hS:fN s.heap a es ep t) (hf:t.fits es.size=true) (hw:w.params.followText "set-order"=false) (hl:t.led=true) (hp:(!t.plain && decide (es.size > 1))=false) {Q:Option (Value×Nat)->Shared->Prop}
  (h:Q (match es[SetTable.below t.place slot]?,t.place[SetTable.below t.place slot]? with | some (_,x),some j=>some (x,j + 1) | _,_=>none) s):wpAny (model prog w) A (setNext a slot i ep) Q E s:=by
 obtain ⟨o,ho,_,hd⟩:=hS
 unfold setNext
 refine Y3 (aa8 ho hd hf ?_)
 dsimp only
 refine Y3 ?_
 unfold setsByText
 refine Y3 (abg (Zc ?_))
 show wpAny _ _ (if w.params.followText "set-order"=true then _ else _) _ _ _
 rw [hw,Zj Zt]
 show wpAny _ _ (if (!t.plain && decide (es.size > 1))=true then _ else _) _ _ _
 rw [hp,Zj Zt]
 refine Y3 ?_
 show wpAny _ _ (if (!t.led && !es.isEmpty)=true then _ else _) _ _ _
 rw [hl,Zj (by simp)]
 exact Zc (Zc h)
theorem sW (hS:fN s.heap a es ep t) (hf:t.fits es.size=true) (hw:w.params.followText "set-order"=true) {Q:Option (Value×Nat)->Shared->Prop}
  (h:Q (((pickOrder (w.params.setOrder a ep) es)[i]?).map λe=>(e.2,slot)) s):wpAny (model prog w) A (setNext a slot i ep) Q E s:=by
 obtain ⟨o,ho,_,hd⟩:=hS
 unfold setNext
 refine Y3 (aa8 ho hd hf ?_)
 dsimp only
 refine Y3 ?_
 unfold setsByText
 refine Y3 (abg (Zc ?_))
 show wpAny _ _ (if w.params.followText "set-order"=true then _ else _) _ _ _
 rw [hw,Zk rfl]
 rw [Zj (by simp)]
 refine Y3 ?_
 unfold setWalk
 refine Y3 (aa8 ho hd hf ?_)
 dsimp only
 refine Y3 ?_
 unfold setsByText
 refine Y3 (abg (Zc ?_))
 show wpAny _ _ (if w.params.followText "set-order"=true then _ else _) _ _ _
 rw [hw,Zk rfl]
 exact Y3 (abg (Zc (Zc h)))
end
end LS
namespace LS
open PySem PySem.Spec PyProof.Rows
theorem lZ {α:Type}:∀ {l:List α} {i:Nat} (h:i < l.length),(l[i] :: l.eraseIdx i).Perm l
 | x :: l,0,_=>by simp
 | x :: l,i + 1,h=>by
   have h':i < l.length:=by simpa using h
   have:=lZ h'
   simp only [List.getElem_cons_succ,List.eraseIdx_cons_succ]
   exact (List.Perm.swap _ _ _).trans (List.Perm.cons _ this)
theorem AA {α:Type} (next:Nat->Nat):∀ (fuel k:Nat) (left:List α) (out:Array α),left.length=fuel->(pickOrder.go next fuel k left out).toList.Perm (out.toList ++ left)
 | 0,k,left,out,h=>by
   have:left=[]:=abW.mp h
   subst this
   rw [pickOrder.go,Z7]
 | fuel + 1,k,left,out,h=>by
   rw [pickOrder.go]
   have hl:next k % left.length < left.length:=Nat.mod_lt _ (by omega)
   rw [Y4 hl]
   dsimp only
   refine (AA next fuel (k + 1) _ _ (by rw [List.length_eraseIdx_of_lt hl]; omega)).trans ?_
   rw [acL,acN]
   exact List.Perm.append_left _ (lZ hl)
theorem B4 {α:Type} (next:Nat->Nat) (xs:Array α):(pickOrder next xs).toList.Perm xs.toList:=by
 have:=AA next xs.size 0 xs.toList #[] (by simp)
 simpa [pickOrder] using this
section
variable {prog:Program} {w:World} {A:Around} {E:Value->Shared->Prop} {s:Shared} {it a:Addr} {first:Value} {i n ep:Nat} {es:Array (Int×Value)} {t:SetTable}
theorem yZ {M:Model} {src:Source} {Q:Nat->Shared->Prop} (hn:n≠0) (h:∀ i d',i < n->Q i { s with drawn:=d' }):wpAny M A (choose src n) Q E s:=
 λ_ _ _=>⟨hn,h _ _ (Nat.mod_lt _ (Nat.pos_of_ne_zero hn))⟩
theorem qw {α:Type} {M:Model}:∀ (n:Nat) (xs:List α) (s:Shared) (Q:List α->Shared->Prop),xs.length=n->(∀ ys d',ys.Perm xs->Q ys { s with drawn:=d' })->wpAny M A (drawOrder n xs) Q E s
 | 0,xs,s,Q,hl,h=>by
   have e:xs=[]:=abW.mp hl
   subst e
   rw [drawOrder]
   exact Zc (h [] s.drawn (.refl _))
 | n + 1,[],s,Q,hl,h=>by cases hl
 | n + 1,x :: xs,s,Q,hl,h=>by
   rw [drawOrder]
   rotate_left
   .intro z; cases z
   refine Y3 (yZ (by simp) λi d' hi=>?_)
   rw [Y4 hi]
   dsimp only
   refine Y3 (qw n _ _ _ (by rw [List.length_eraseIdx_of_lt hi]; simp at hl ⊢; omega) λys d2 hp=>Zc ?_)
   refine h _ d2 ?_
   exact (List.Perm.cons _ hp).trans (lZ hi)
theorem B5 {I:Addr} (hf:t.fits es.size=true) (hw:w.params.followText "set-order"=true) (ik:a≠I) (hh:A.handled=none):
  Walks prog w A I [I,a] [I] (pickOrder (w.params.setOrder a ep) es).size (λi v=>((pickOrder (w.params.setOrder a ep) es).toList.map (·.2))[i]?=some v) (λi h=>jt h I a (.int (0:Nat) 0) i es.size ep /\ fN h a es ep t) where
 sub:=λb hb=>by simp at hb; simp [hb]
 frame:=λ_ _ _ st hk=>⟨st.1.at λo e=>hk I (by simp) o e,st.2.at λo e=>hk a (by simp) o e⟩
 item:=λi s Q E hi st hQ=>by
  refine Az (x:=((pickOrder (w.params.setOrder a ep) es)[i]).2) (next:=0) st.1 st.2 hf rfl (λA' Q' E' q=>sW st.2 hf hw (by rw [aat hi]; exact q)) λh' yV jX=>?_
  exact hQ _ h' s.toks (by simp [hi]) ⟨yV,st.2.at λo e=>jX.extBut a o ik e⟩ λb o hb e=>jX.extBut b o (λh=>hb (by simp [h])) e
 done:=λs Q E st hQ=>D0 hh st.1 st.2 hf rfl (λA' Q' E' q=>sW st.2 hf hw (by rw [Array.getElem?_eq_none (by simp)]; exact q)) λh' MA=>hQ h' s.toks λb o hb e=>MA b o (λh=>hb (by simp [h])) e
 self:=λ_ _ _ _ st hQ=>ug st.1 hQ
theorem y0 {I:Addr} (hf:t.fits es.size=true) (hw:w.params.followText "set-order"=false) (hl:t.led=true) (hp:(!t.plain && decide (es.size > 1))=false) (hr:sU t.place.toList) (ik:a≠I) (hh:A.handled=none):
  Walks prog w A I [I,a] [I] es.size (λi v=>(es.toList.map (·.2))[i]?=some v)
   (λi h=>∃ slot:Nat,jt h I a (.int slot 0) i es.size ep /\ fN h a es ep t /\ (∀ k,k < i->t.place.getD k 0 < slot) /\ ∀ k,i<=k->k < t.place.size->slot<=t.place.getD k 0) where
 sub:=λb hb=>by simp at hb; simp [hb]
 frame:=λ_ _ _ ⟨slot,MB,cR,C5⟩ hk=>⟨slot,MB.at λo e=>hk I (by simp) o e,cR.at λo e=>hk a (by simp) o e,C5⟩
 item:=λi s Q E hi ⟨slot,MB,cR,C5,S5⟩ hQ=>by
  have hz:t.place.size=es.size:=by simp only [SetTable.fits,ZE,beq_iff_eq] at hf; exact hf.1
  have hb:SetTable.below t.place slot=i:=qt hr (by omega) C5 S5
  have i4:t.place[i]?=some (t.place.getD i 0):=by rw [aat (by omega)]; simp [Array.getD,hz,hi]
  refine Az (x:=es[i].2) (next:=t.place.getD i 0 + 1) MB cR hf rfl (λA' Q' E' q=>qv cR hf hw hl hp (by rw [hb,aat hi,i4]; exact q)) λh' yV jX=>?_
  refine hQ _ h' s.toks (by simp [hi]) ⟨_,yV,cR.at λo e=>jX.extBut a o ik e,λk hk=>?_,λk h1 h2=>?_⟩ λb o hb e=>jX.extBut b o (λh=>hb (by simp [h])) e
  .by_cases Wn:k=i
   .rw [Wn]; omega
   .have:=lh hr (show k < i by omega) (by omega) 0 0
    omega
  .have:=lh hr (show i < k by omega) h2 0 0
   omega
 done:=λs Q E ⟨slot,MB,cR,C5,S5⟩ hQ=>by
  have hz:t.place.size=es.size:=by simp only [SetTable.fits,ZE,beq_iff_eq] at hf; exact hf.1
  have hb:SetTable.below t.place slot=es.size:=qt hr (by omega) C5 S5
  exact D0 hh MB cR hf rfl (λA' Q' E' q=>qv cR hf hw hl hp (by rw [hb,Array.getElem?_eq_none (Ze _)]; exact q)) λh' MA=>hQ h' s.toks λb o hb e=>MA b o (λh=>hb (by simp [h])) e
 self:=λ_ _ _ _ ⟨slot,MB,_⟩ hQ=>ug MB hQ
theorem y3 {I tp:Addr} {ys:List Nat} (hf:t.fits es.size=true) (hy:ys.Perm (List.range es.size)) (ik:a≠I) (Wo:tp≠I) (hh:A.handled=none):
  Walks prog w A I [I,a,tp] [I] es.size (λi v=>(ys.map λp=>(es.getD p (0,Value.none)).2)[i]?=some v) (λi h=>jt h I a (.ref tp) i es.size ep /\ h.IsTuple tp (ys.map λp:Nat=>rawInt p).toArray /\ fN h a es ep t) where
 sub:=λb hb=>by simp at hb; simp [hb]
 frame:=λ_ _ _ st hk=>⟨st.1.at λo e=>hk I (by simp) o e,st.2.1.at λo e=>hk tp (by simp) o e,st.2.2.at λo e=>hk a (by simp) o e⟩
 item:=λi s Q E hi st hQ=>by
  have N5:ys.length=es.size:=by rw [hy.length_eq]; simp
  have hp:ys[i] < es.size:=abf.mp (hy.mem_iff.mp (aae (by omega)))
  refine D1 (x:=es[ys[i]].2) (pl:=ys[i]) (hsh:=es[ys[i]].1) st.1 st.2.1 st.2.2 hf rfl (by simp [N5,hi,rawInt]) (by rw [aat hp]) λh' yV jX=>?_
  refine hQ _ h' s.toks ?_ ⟨yV,st.2.1.at λo e=>jX.extBut tp o Wo e,st.2.2.at λo e=>jX.extBut a o ik e⟩ λb o hb e=>jX.extBut b o (λh=>hb (by simp [h])) e
  rw [Zl,Y4 (by omega)]
  simp [Array.getD,hp]
 done:=λs Q E st hQ=>by
  have N5:ys.length=es.size:=by rw [hy.length_eq]; simp
  exact HE hh st.1 st.2.1 st.2.2 hf rfl (by simp [N5]) λh' MA=>hQ h' s.toks λb o hb e=>MA b o (λh=>hb (by simp [h])) e
 self:=λ_ _ _ _ st hQ=>ug st.1 hQ
theorem D2 {Q:Value->Shared->Prop} (hS:fN s.heap a es ep t) (hf:t.fits es.size=true) (hr:sU t.place.toList) (hl:t.led=kr w) (hz:es.size<=sizeLine)
  (h:∀ (I:Addr) (fp:List Addr) (ord:List Value) (St:Nat->Heap->Prop) (h1:Heap) (d1:Drawn),ord.Perm (es.toList.map (·.2))->(∀ A':Around,A'.handled=none->Walks prog w A' I fp [I] ord.length (λi v=>ord[i]?=some v) St)->St 0 h1->
   (∀ b o,s.heap.get? b=some o->h1.get? b=some o)->s.heap.objs.size<=I->(∀ b∈fp,b=a \/ s.heap.objs.size<=b)->Q (.ref I) { s with heap:=h1,drawn:=d1 }):wpAny (model prog w) A (pyIter (.ref a)) Q E s:=by
 obtain ⟨o,ho,hex,hd⟩:=id hS
 have hT:s.TypeIs (.ref a) "set":=⟨o,ho,hex.1⟩
 have fg:=Zf ho
 refine wpAny_pyIter_slot hT PySem.F.slot_set_iter (aaC PySem.F.slot_set_iter hT qu ?_ (PySem.F.args_set_iter_1 _))
 unfold Builtin.«frozenset.__iter__»
 refine Y3 (Zc ?_)
 refine Y3 ?_
 unfold Builtin.Frozenset.sizeOf
 refine Y3 (abe ho hd hf (Zc ?_))
 refine Y3 ?_
 unfold setDrawn
 refine Y3 (aa8 ho hd hf ?_)
 dsimp only
 refine Y3 ?_
 unfold setsByText
 refine Y3 (abg (Zc (Zc ?_)))
 show wpAny _ _ (if (!w.params.followText "set-order" && (!t.plain && decide (es.size > 1)))=true then _ else _) _ _ _
 have slots:∀ {ord:List Value} (St:Addr->Nat->Heap->Prop),ord.Perm (es.toList.map (·.2))->(∀ (A':Around) (I:Addr),a≠I->A'.handled=none->Walks prog w A' I [I,a] [I] ord.length (λi v=>ord[i]?=some v) (St I))->
   (∀ h' I,jt h' I a (.int (0:Nat) 0) 0 es.size ep->fN h' a es ep t->St I 0 h')->Q (.ref s.heap.objs.size) { s with heap:=s.heap.push { cls:=.type "set_iterator",data:=.fields #[.int (0:Nat) 0,.int (0:Nat) 0,.ref a,.int (es.size:Nat) 0,.int (ep:Nat) 0] } }:=by
  intro ord St hp hW OG
  have ik:a≠s.heap.objs.size:=Zs fg
  exact h s.heap.objs.size [s.heap.objs.size,a] ord (St s.heap.objs.size) _ s.drawn hp (λA' hh=>hW A' _ ik hh) (OG _ _ ⟨_,Zh _ rfl,rfl,rfl⟩ (hS.at λo e=>Y5 _ e)) (λb o e=>Y5 _ e) (Ze _)
   λb hb=>by
    rcases Y6.mp hb with z | z
    .exact .inr (by rw [z]; exact Ze _)
    .exact .inl (by simpa using z)
 by_cases Ru:(!w.params.followText "set-order" && (!t.plain && decide (es.size > 1)))=true
 .rw [Zk Ru]
  refine Y3 (qw _ _ _ _ (by simp) λys d' hy=>?_)
  refine wpAny_bind (wpAny_newTuple ?_ (by rw [List.length_map,hy.length_eq]; simpa using hz))
  have Wp:(s.heap.push { cls:=.type "tuple",data:=.seq (ys.map λp:Nat=>rawInt p).toArray }).IsTuple s.heap.objs.size (ys.map λp:Nat=>rawInt p).toArray:=⟨_,Zh _ rfl,rfl,_,rfl⟩
  have N6:=hS.at (h':=s.heap.push { cls:=.type "tuple",data:=.seq (ys.map λp:Nat=>rawInt p).toArray }) λo e=>Y5 _ e
  obtain ⟨o1,fO,_,D3⟩:=id N6
  refine Y3 (wpAny_setEpoch_of fO D3 hf ?_)
  have HC:(s.heap.push { cls:=.type "tuple",data:=.seq (ys.map λp:Nat=>rawInt p).toArray }).objs.size=s.heap.objs.size + 1:=aaQ _ _
  refine Y3 (Z3 (Zc ⟨_,rfl,"set_iterator",_,⟨_,Zh _ rfl,rfl⟩,bV.lookup,?_⟩))
  have Wq:(ys.map λp=>(es.getD p (0,Value.none)).2).Perm (es.toList.map (·.2)):=by
   refine (hy.map _).trans ?_
   have e:(List.range es.size).map (λp=>(es.getD p (0,Value.none)).2)=es.toList.map (·.2):=by
    refine ac2 (by simp) λi h1 h2=>?_
    simp at h1
    simp [Array.getD,h1]
   rw [e]
  have Mu:(ys.map λp=>(es.getD p (0,Value.none)).2).length=es.size:=by rw [Y7,hy.length_eq]; simp
  refine h (s.heap.push { cls:=.type "tuple",data:=.seq (ys.map λp:Nat=>rawInt p).toArray }).objs.size [_,a,s.heap.objs.size] _ (λi h=>jt h (s.heap.push { cls:=.type "tuple",data:=.seq (ys.map λp:Nat=>rawInt p).toArray }).objs.size a (.ref s.heap.objs.size) i es.size ep /\ h.IsTuple s.heap.objs.size (ys.map λp:Nat=>rawInt p).toArray /\ fN h a es ep t) _ d' Wq (λA' hh=>by rw [Mu]; exact y3 (t:=t) (ep:=ep) hf hy (by rw [HC]; exact Zs (aan fg)) (by rw [HC]; exact Zs (aar _)) hh)
   ⟨⟨_,Zh _ rfl,rfl,by simp [rawInt]⟩,Wp.push _,N6.at λo e=>Y5 _ e⟩ (λb o e=>Y5 _ (Y5 _ e)) (by rw [HC]; exact aaA _) λb hb=>?_
  simp only [Y6,ZS,aa5] at hb
  rcases hb with z | z | z
  .exact .inr (by rw [z,HC]; exact aaA _)
  .exact .inl z
  .exact .inr (by rw [z]; exact Ze _)
 .rw [Zj Ru]
  refine Y3 (Zc ?_)
  refine Y3 (wpAny_setEpoch_of ho hd hf ?_)
  refine Y3 (Z3 (Zc ⟨_,rfl,"set_iterator",_,⟨_,Zh _ rfl,rfl⟩,bV.lookup,?_⟩))
  cases hw:w.params.followText "set-order" with
  | true=>
    have S6:((pickOrder (w.params.setOrder a ep) es).toList.map (·.2)).length=(pickOrder (w.params.setOrder a ep) es).size:=by simp
    exact slots (ord:=(pickOrder (w.params.setOrder a ep) es).toList.map (·.2)) (λI i h=>jt h I a (.int (0:Nat) 0) i es.size ep /\ fN h a es ep t) ((B4 _ _).map _) (λA' I ik hh=>by rw [S6]; exact B5 hf hw ik hh) λh' I x y=>⟨x,y⟩
  | false=>
    rw [hw] at Ru
    have i4:(!t.plain && decide (es.size > 1))=false:=by simpa using Ru
    have hle:t.led=true:=by rw [hl]; simp [kr,hw]
    have S6:(es.toList.map (·.2)).length=es.size:=by simp
    refine slots (ord:=es.toList.map (·.2)) (λI i h=>∃ slot:Nat,jt h I a (.int slot 0) i es.size ep /\ fN h a es ep t /\ (∀ k,k < i->t.place.getD k 0 < slot) /\ ∀ k,i<=k->k < t.place.size->slot<=t.place.getD k 0) (.refl _)
     (λA' I ik hh=>by rw [S6]; exact y0 hf hw hle i4 hr ik hh) λh' I x y=>⟨0,x,y,λk hk=>by omega,λk _ _=>aah _⟩
end
end LS
namespace LS
open PySem PySem.Spec PySem.Calls PyProof.Rows
section
variable {prog:Program} {w:World} {A:Around} {E:Value->Shared->Prop} {s:Shared} {a:Addr} {ns:List Int}
theorem D4 {Q:Bool->Shared->Prop} (hT:s.TypeIs (.ref a) "set") (h:Q false s):wpAny (model prog w) A (Builtin.List.listLengthHint (.ref a)) Q E s:=by
 unfold Builtin.List.listLengthHint
 refine Y3 (wpAny_specialOf hT PySem.F.slot_set_len.lookup ?_)
 generalize U4:("set.__len__":String)=id0
 wp_delta
 rw [show splitId id0=some ("set","__len__") from by subst U4; decide +kernel]
 subst U4
 refine Y3 (wpAny_isInstance (T:="set") (b:=true) hT (by rw [ab6]; kernel_rfl) ?_)
 refine wpAny_ite_split (λz=>absurd z (by decide)) λ_=>?_
 refine wpAny_ite_split (λ_=>?_) λz=>absurd (by decide +kernel) z
 exact Y3 (wpAny_typeOf hT (Zc h))
theorem wV {R:List Value->Shared->Prop} (hh:A.handled=none) (hS:ja prog w s.heap a (kr w) ns)
  (h:∀ (h':Heap) (tk:Nat) (d':Drawn) (vs:List Value) (ms:List Int),(∀ b o,s.heap.get? b=some o->h'.get? b=some o)->s.heap.objs.size < h'.objs.size->IntsAre vs ms->ms.Perm ns->R vs { s with heap:=h',toks:=tk,drawn:=d' }):
  wpAny (model prog w) A (collect (.ref a)) R E s:=by
 obtain ⟨o,es,ep,t,ho,hex,hd,h1,h2,h3,h4,h5,h6,h7⟩:=hS
 have hz:=fits_of_scanBound h4
 have fg:=Zf ho
 have Wr:fN s.heap a es ep t:=⟨o,ho,hex,hd⟩
 unfold collect
 refine Y3 (wpAny_runValue (aaL entry_proto_collect' ?_))
 rw [aaE PySem.F.plain_proto_collect _]
 show wpAny _ A.in1 (newList [] >>= λl=>again (.builtin "list.__iadd__" ⟨[l,.ref a],[]⟩)) _ _ s
 refine Y3 (Z3 ?_)
 refine Zc ⟨abP abz _,aaL entry_list_iadd' ?_⟩
 rw [aaE abz _]
 generalize hP:s.heap.push { cls:=.type "list",data:=.seq ([]:List Value).toArray }=P1
 have Ki:∀ b o,s.heap.get? b=some o->P1.get? b=some o:=λb o e=>by rw [<- hP]; exact Y5 _ e
 have hL:P1.get? s.heap.objs.size=some { cls:=.type "list",data:=.seq #[] }:=by rw [<- hP]; exact Zh _ rfl
 have N2:P1.objs.size=s.heap.objs.size + 1:=by rw [<- hP]; exact aaQ _ _
 show wpAny _ A.in1 (Builtin.List.listExtendWith (.ref s.heap.objs.size) (.ref a) (.ref s.heap.objs.size)) _ _ { s with heap:=P1 }
 have key:wpAny (model prog w) A.in1 (Builtin.List.listExtendWith (.ref s.heap.objs.size) (.ref a) (.ref s.heap.objs.size))
   (λfin s'=>match fin with
    | .done f=>False
    | .again c'=>c'.quiet=true /\ codeAny (model prog w) A c' (λq s'=>∃ (h':Heap) (tk:Nat) (d':Drawn) (acc:Array Value) (c':Nat) (ms:List Int),q=.ok (.ret (.ref s.heap.objs.size)) /\ s'={ s with heap:=h',toks:=tk,drawn:=d' } /\
      (∀ b o,s.heap.get? b=some o->h'.get? b=some o) /\ h'.get? s.heap.objs.size=some { cls:=.type "list",dict:=none,data:=.seq acc c',slots:=#[] } /\ IntsAre acc.toList ms /\ ms.Perm ns) s') (λ_ _=>False) { s with heap:=P1 }:=by
  unfold Builtin.List.listExtendWith
  have N6:=Wr.at (h':=P1) λo e=>Ki a o e
  obtain ⟨o1,fO,S7,D3⟩:=id N6
  refine Y3 (wpAny_typeOf (T:="set") ⟨o1,fO,S7.1⟩ ?_)
  have q1:Builtin.List.listSameRef (.ref s.heap.objs.size) (.ref a)=false:=by simp [Builtin.List.listSameRef,aa2 fg]
  have q2:(Value.type "set" == Value.type "list")=false:=by decide
  have q3:(Value.type "set" == Value.type "tuple")=false:=by decide
  simp only [q1,q2,q3,Bool.or_false,ZN,aaN]
  refine Y3 (D2 (s:={ s with heap:=P1 }) N6 h5 h7 h6 hz λI fp ord St Pu d1 hp hW U5 kp hI S8=>?_)
  replace kp:∀ b o,P1.get? b=some o->Pu.get? b=some o:=kp
  replace hI:P1.objs.size<=I:=hI
  replace S8:∀ b∈fp,b=a \/ P1.objs.size<=b:=S8
  have Mw:s.heap.objs.size∉fp:=λz=>by
   rcases S8 _ z with e | e
   .exact ZU _ (e ▸ fg)
   .rw [N2] at e; exact Nat.not_succ_le_self _ e
  have YM:s.heap.objs.size≠I:=λz=>by rw [<- z,N2] at hI; exact Nat.not_succ_le_self _ hI
  obtain ⟨o2,nO,hex2,_⟩:=N6.at (h':=Pu) λo e=>kp a o e
  obtain ⟨i0,N7⟩:=n5 h2 hp
  have Mu:ord.length<=sizeLine:=by rw [hp.length_eq]; simpa using hz
  have run:∀ (g:Heap) (c0:Nat),St 0 g->(∀ b o,b≠s.heap.objs.size->Pu.get? b=some o->g.get? b=some o)->g.get? s.heap.objs.size=some { cls:=.type "list",data:=.seq #[] c0 }->
    codeAny (model prog w) A (.builtin "list.extend.loop" ⟨[.ref s.heap.objs.size,.ref I,.ref s.heap.objs.size],[]⟩) (λq s'=>∃ (h':Heap) (tk:Nat) (d':Drawn) (acc:Array Value) (c':Nat) (ms:List Int),q=.ok (.ret (.ref s.heap.objs.size)) /\ s'={ s with heap:=h',toks:=tk,drawn:=d' } /\
     (∀ b o,s.heap.get? b=some o->h'.get? b=some o) /\ h'.get? s.heap.objs.size=some { cls:=.type "list",dict:=none,data:=.seq acc c',slots:=#[] } /\ IntsAre acc.toList ms /\ ms.Perm ns) { s with heap:=g,drawn:=d1 }:=by
   intro g c0 st k hg
   refine codeAny_extend_loopS (hW A.in1 hh).toS Mu _ Mw _ ord.length 0 _ #[] c0 rfl (aah _) st hg (ItemsOf.nil _) λs' rY c' mv B3 l5=>?_
   obtain ⟨hx,gx,dx,tx,ox⟩:=s'
   have eg:gx=s.gens:=mv.gens
   have ed:dx=d1:=mv.drawn
   have eo:ox=s.os:=mv.os
   subst eg ed eo
   have S9:rY.toList=ord:=by
    refine List.ext_getElem? λj=>?_
    by_cases hj:j < rY.size
    .have q:=l5.2 j _ (aat hj)
     rw [q]; simp [hj]
    .rw [aaO (by simp; omega),aaO (by rw [<- l5.1]; omega)]
   refine ⟨hx,tx,dx,rY,c',i0,rfl,rfl,λb o e=>?_,B3,by rw [S9]; exact N7.1,N7.2⟩
   have hb:=Zf e
   refine mv.heap b o ?_ (k b o (Zs hb) (kp b o (Ki b o e)))
   simp only [Y6,ZS,aa5,ac9]
   exact ⟨Zs hb,Zs (Zi hb (ZQ (by rw [N2]; exact aaA _) hI))⟩
  have Ta:Pu.get? s.heap.objs.size=some { cls:=.type "list",data:=.seq #[] }:=kp _ _ hL
  refine Y3 (aaX (D4 ⟨o2,nO,hex2.1⟩ ?_))
  refine wpAny_ite_split (λ_=>?_) (λ_=>Zc ⟨abP PySem.F.plain_extend_loop _,run Pu 0 U5 (λb o _ e=>e) Ta⟩)
  refine Y3 (abl (Y3 ?_))
  show wpAny _ _ (updateSeq s.heap.objs.size (·.push .none) >>= λ_=>updateSeq s.heap.objs.size (·.pop)) _ _ _
  refine Y3 (wpAny_updateSeq Ta rfl ?_)
  have U6:=aaj (Obj.mapSeq (·.push Value.none)) Ta rfl
  refine wpAny_updateSeq (hz:=by seq_fits) U6 rfl ?_
  have Ws:=aaj (Obj.mapSeq (·.pop)) U6 rfl
  refine Zc ⟨abP PySem.F.plain_extend_loop _,run _ _ ((hW A.in1 hh).frame 0 _ _ U5 λb hb o e=>?_) (λb o hb e=>?_) Ws⟩
  .have U7:b≠s.heap.objs.size:=λz=>Mw (z ▸ hb)
   exact (aaH _ _ (abd U7)).trans ((aaH _ _ (abd U7)).trans e)
  .exact (aaH _ _ (abd hb)).trans ((aaH _ _ (abd hb)).trans e)
 refine ZM key (λfin s' x=>?_) λ_ _ z=>z.elim
 cases fin with
 | done f=>exact x.elim
 | again c₁=>
   refine ⟨x.1,aa3 x.2 λq lP y=>?_⟩
   obtain ⟨h',tk,d',acc,c',ms,rfl,rfl,hk,B3,i1,p1⟩:=y
   show wpAny _ A (load s.heap.objs.size >>= _) _ _ _
   exact Y3 (wpAny_load B3 (Zc (h h' tk d' acc.toList ms hk (Zf B3) i1 p1)))
theorem pd {Q:Value->Shared->Prop} (hh:A.handled=none) (hS:ja prog w s.heap a (kr w) ns) (vZ:ns.length < 64)
  (h:∀ (D:Addr) (h':Heap) (tk:Nat) (d':Drawn) (out:Array Value) (n:Nat) (ms:List Int),s.heap.objs.size<=D->(∀ b o,s.heap.get? b=some o->h'.get? b=some o)->h'.get? D=some (seqObj "list" out n)->IntsAre out.toList ms->ms.Perm ns->ms.Pairwise (·<=·)->Q (.ref D) { s with heap:=h',toks:=tk,drawn:=d' }):
  wpAny (model prog w) A (call (.builtin "sorted") [.ref a]) Q E s:=by
 refine call_function_entry kind_sorted plain_sorted entry_sorted (args_sorted1 _) ?_
 unfold Builtin.«sorted»
 refine Y3 (m:=checkCount "sorted" 1 1 _) (Zc ?_)
 refine Y3 (wV (A:=A.in1) hh hS λh' tk d' vs ms hk Wt hi hp=>?_)
 have hl:vs.length=ns.length:=by rw [<- hp.length_eq,(dB.mp hi).2,Y7]
 have Wu:vs.length<=sizeLine:=by rw [abx]; omega
 refine Y3 (wpAny_newList ?_ Wu)
 have JP:(h'.push (seqObj "list" vs.toArray 0)).get? h'.objs.size=some (seqObj "list" vs.toArray 0):=Zh _ rfl
 refine Y3 (aaX (aaC slot_list_sort ⟨_,JP,rfl⟩ entry_list_sort (list_sort_tree JP hi (by omega) λout Wv a1 a2 a3=>⟨_,rfl,?_⟩) (args_list_sort _)))
 obtain ⟨en,Ww⟩:=sortedHeap_at (out:=out) JP
 refine Zc ⟨_,rfl,h h'.objs.size _ tk d' out en Wv (aak Wt) (λb o e=>?_) Ww a1 (a2.trans hp) a3⟩
 have hb:=Zf (hk b o e)
 rw [sortedHeap_old (Zs hb) (by rw [size_push']; exact aan hb)]
 exact Y5 _ (hk b o e)
end
end LS
namespace L2
open PySem PySem.Spec PyProof.Rows LS
def ins (x:Int):List Int->List Int
 | []=>[x]
 | y :: l=>if x < y then x :: y :: l else if x=y then y :: l else y :: ins x l
def ss:List Int->List Int
 | []=>[]
 | x :: l=>ins x (ss l)
set_option tactic.hygienic true in
theorem uh {x z:Int}:∀ {l:List Int},z∈ins x l↔z=x \/ z∈l
 | []=>by simp [ins]
 | y :: l=>by
   rw [ins]
   split
   .simp
   .split
    .rename_i h; subst h; simp
    .simp only [Y6,uh]
     constructor
     .rintro (h | h | h)
      .exact .inr (.inl h)
      .exact .inl h
      .exact .inr (.inr h)
     .rintro (h | h | h)
      .exact .inr (.inl h)
      .exact .inl h
      .exact .inr (.inr h)
set_option tactic.hygienic true in
theorem qx {x:Int}:∀ {l:List Int},l.Pairwise (· < ·)->(ins x l).Pairwise (· < ·)
 | [],_=>by simp [ins]
 | y :: l,h=>by
   rw [ZF] at h
   rw [ins]
   split
   .rename_i B6
    refine ZF.mpr ⟨λz hz=>?_,ZF.mpr h⟩
    rcases Y6.mp hz with e | e
    .rw [e]; exact B6
    .exact Int.lt_trans B6 (h.1 z e)
   .split
    .exact ZF.mpr h
    .refine ZF.mpr ⟨λz hz=>?_,qx h.2⟩
     rcases uh.mp hz with e | e
     .rw [e]; omega
     .exact h.1 z e
theorem y4 {z:Int}:∀ {l:List Int},z∈ss l↔z∈l
 | []=>by simp [ss]
 | x :: l=>by rw [ss,uh,y4,Y6]
theorem ee:∀ {l:List Int},(ss l).Pairwise (· < ·)
 | []=>.nil
 | _ :: _=>qx ee
theorem qy:∀ {l m:List Int},l.Pairwise (· < ·)->m.Pairwise (· < ·)->(∀ z,z∈l↔z∈m)->l=m
 | [],[],_,_,_=>rfl
 | [],y :: m,_,_,h=>absurd ((h y).mpr Zb) (by simp)
 | x :: l,[],_,_,h=>absurd ((h x).mp Zb) (by simp)
 | x :: l,y :: m,hl,hm,h=>by
   rw [ZF] at hl hm
   have e:x=y:=by
    rcases Y6.mp ((h x).mp Zb) with a | a
    .exact a
    .rcases Y6.mp ((h y).mpr Zb) with b | b
     .exact b.symm
     .have:=hl.1 y b
      have:=hm.1 x a
      omega
   subst e
   rw [qy hl.2 hm.2 λz=>⟨λhz=>?_,λhz=>?_⟩]
   .rcases Y6.mp ((h z).mp (Y8 _ hz)) with a | a
    .have:=hl.1 z hz; omega
    .exact a
   .rcases Y6.mp ((h z).mpr (Y8 _ hz)) with a | a
    .have:=hm.1 z hz; omega
    .exact a
theorem Kj {l m:List Int} (hm:m.Pairwise (· < ·)) (h:∀ z,z∈m↔z∈l):ss l=m:=qy ee hm λz=>by rw [y4,h]
section
variable {X:Cx} {pins:List (Addr×Obj)} {σ:St} {H:Hp} {s:Shared}
theorem Inv.drew (I:Inv X pins σ H s) (d':Drawn):Inv X pins σ H { s with drawn:=d' }:=
 I.step (d':=d') (g':=s.gens) (t':=s.toks) (ch:=[]) (λb hb=>by simp at hb) (λ_ _ _ _ _ e _=>e) (λb o _ _ _ e _=>⟨o.slots,e⟩) (λ_ _ _ _ n=>n) (λb o _ e=>⟨o,e⟩) (λ_ _ e=>e) (λ_ _ _ e=>e)
  (λb ps e=>⟨#[],by rw [e]; simp⟩) (λ_ h=>h) I.cf I.bare
def HF (P:Program) (w:World) (a:Addr) (ns:List Int):HO:=.ext λh=>ja P w h a (kr w) ns
def Tb (P:Program) (w:World) (K:PySem.W.Frag):List V->Hp->VK->Prop:=λxs H Q=>∃ (p:Addr) (ms:List Int),xs=[.ref p] /\ (iW K H p (ms.map V.int) \/ iX K H p (ms.map V.int)) /\ ms.length + 1 < scanBound /\
 ∀ (l:Addr) (ns:List Int),H l=none->(∀ x,x∈ns↔x∈ms)->ns.length<=ms.length->Q (.ref l) (upd H l (HF P w l ns))
theorem B7 (hc:X.calm=true):eD X (.type "set") (Tb X.prog X.w X.K):=by
 intro pins s σ H xs us Q I r h
 obtain ⟨p,ms,rfl,hq,hb,q⟩:=h
 obtain ⟨u,rfl,rx⟩:=vals1 r
 cases rx
 have hh:=I.ok.hd hc
 have fin:∀ (h':Heap) (tk:Nat) (ns:List Int),ja X.prog X.w h' s.heap.objs.size (kr X.w) ns->(∀ x,x∈ns↔x∈ms)->ns.length<=ms.length->(∀ b o,s.heap.get? b=some o->h'.get? b=some o)->EP X pins σ Q (.ref s.heap.objs.size) { s with heap:=h',toks:=tk }:=λh' tk ns S m l k=>
  ⟨.ref s.heap.objs.size,_,I.laid (o:=HF X.prog X.w s.heap.objs.size ns) k (Ze _) ⟨S,(let ⟨o,_,_,_,e,_⟩:=S; ⟨o,e⟩),λh1 h2 S1 kk=>S1.keeps kk⟩,rfl,q _ ns (I.cf.fresh (Ze _)) m l⟩
 rcases hq with hq | hq
 .obtain ⟨its,rv,pl,_⟩:=I.list hq
  have hi:IntsAre its ms:=intsAre_of rv
  have hl:its.length=ms.length:=by rw [(dB.mp hi).2,Y7]
  exact wQ hh (src_list pl.isList) hi (by rw [Zm,hl]; exact hb) fin
 .obtain ⟨its,rv,pl,_⟩:=I.tuple hq
  have hi:IntsAre its ms:=intsAre_of rv
  have hl:its.length=ms.length:=by rw [(dB.mp hi).2,Y7]
  exact wQ hh (src_tuple (show s.heap.IsTuple p its.toArray from pl)) hi (by rw [Zm,hl]; exact hb) fin
def D5 (P:Program) (w:World):List V->Hp->VK->Prop:=λxs H Q=>∃ (p:Addr) (ns:List Int),xs=[.ref p] /\ H p=some (HF P w p ns) /\ ns.length < 64 /\ ∀ (l:Addr) (out:List Int),H l=none->out.Pairwise (· < ·)->(∀ x,x∈out↔x∈ns)->Q (.ref l) (upd H l (.lst (out.map V.int)))
theorem wW:∀ {vs:List Value} {ns:List Int},IntsAre vs ns->bj (ns.map V.int) vs
 | _,_,.nil=>.nil
 | _,_,.cons n t h=>.cons ⟨t,rfl⟩ (wW h)
theorem HG {prog:Program} {w:World} {h:Heap} {a:Addr} {led:Bool} {ns:List Int} (h:ja prog w h a led ns):ns.Nodup:=by
 obtain ⟨_,_,_,_,_,_,_,_,_,z,_⟩:=h
 exact z
theorem ui (hc:X.calm=true):eD X (.builtin "sorted") (D5 X.prog X.w):=by
 intro pins s σ H xs us Q I r h
 obtain ⟨p,ns,rfl,hp,vZ,q⟩:=h
 obtain ⟨u,rfl,rx⟩:=vals1 r
 cases rx
 have hS:ja X.prog X.w s.heap p (kr X.w) ns:=(show cw X.prog X.w H s.heap p (HF X.prog X.w p ns) from I.cf p _ hp).1
 have nd:ns.Nodup:=HG hS
 refine pd (I.ok.hd hc) hS vZ λD h' tk d' out n ms hD k e hi eF Pw=>?_
 have hl:ms.length=ns.length:=eF.length_eq
 have J:=(I.drew d').laid (t':=tk) (o:=.lst (ms.map V.int)) (h':=h') k hD ⟨by rw [List.length_map,sizeLine_eq]; omega,out.toList,n,wW hi,by simpa using e⟩
 refine ⟨.ref D,_,J,rfl,q D ms (I.cf.fresh hD) ?_ λx=>eF.mem_iff⟩
 have Tc:ms.Nodup:=eF.nodup_iff.mpr nd
 refine (List.Pairwise.and Pw Tc).imp λ{a b} Gj=>?_
 have:=Gj.1
 have:=Gj.2
 omega
end
theorem MC:bootBuiltins "set"=some (.type "set"):=by decide +kernel
theorem sX:bootBuiltins "sorted"=some (.builtin "sorted"):=by decide +kernel
def jY:List D->Option (List Int)
 | []=>some []
 | .int i :: l=>(jY l).map (i :: ·)
 | _ :: _=>none
theorem jb:∀ (ns:List Int),jY (ns.map .int)=some ns
 | []=>rfl
 | n :: ns=>by rw [Zn,jY,jb ns]; rfl
theorem ju:∀ {l:List D} {ns:List Int},jY l=some ns->l=ns.map .int
 | [],_,h=>by cases h; rfl
 | d :: l,ns,h=>by
   cases d with
   | int i=>
     rw [jY] at h
     cases e:jY l with
     | none=>rw [e] at h; cases h
     | some m=>rw [e] at h; cases h; rw [ju e]; rfl
   | _=>cases h
def MD:D->Option (List D)
 | .list l=>some l
 | .tuple l=>some l
 | _=>none
def ME (g:DS->Option D):DS->Option (List D):=λδ=>(g δ).bind λd=>(MD d).bind λl=>(jY l).bind λns=>if ns.length < 64 then some ((ss ns).map .int) else none
theorem cg.toInts {K:PySem.W.Frag} {H:Hp}:∀ {ns:List Int} {xs:List V},cg K H xs (ns.map PyData.int)->xs=ns.map V.int
 | [],_,h=>by cases h; rfl
 | n :: ns,_,h=>by
   rw [Zn] at h
   cases h with
   | cons a t=>cases a; rw [cg.toInts t]; rfl
set_option tactic.hygienic true in
theorem l6 {X:Cx} {O:List Nat} {e:Expr} {ge:DS->Option D} {p1 p2 q1 q2:Pos} (h1:X.mg "sorted"=none) (h2:X.mg "set"=none) (he:PE X e (iT X.K O ge)) (hc:X.calm=true:=by rfl) (g1:Gl X "sorted":=by rfl) (g2:Gl X "set":=by rfl)
  (s1:starEach [Expr.Call (.Name "set" p2) [e] [] q2] X.env=(false,eval (Expr.Call (.Name "set" p2) [e] [] q2) X.env) :: starEach [] X.env:=by rfl) (s2:starEach [e] X.env=(false,eval e X.env) :: starEach [] X.env:=by rfl)
  (b1:(backTo q1 (starEach [] X.env)).any (·.1)=false:=by rfl) (b2:(backTo q2 (starEach [] X.env)).any (·.1)=false:=by rfl):
  PE X (.Call (.Name "sorted" p1) [.Call (.Name "set" p2) [e] [] q2] [] q1) (tN X.K O (ME ge)):=
 (pZ (ui hc) g1 h1 sX (bQ (k7 (B7 hc) g2 h2 MC (bQ he cZ s2) (by decide) (by decide) s2 b2) cZ s1) (by decide) (by decide) s1 b1).mono λσ H Q hh=>hh.e λU A0 δ ds R ed q=>by
  obtain ⟨d,e1,ed⟩:=bind1 ed
  obtain ⟨l,e2,ed⟩:=bind1 ed
  obtain ⟨ns,e3,ed⟩:=bind1 ed
  split at ed
  .rename_i vZ
   cases ed
   refine ⟨U,A0,δ,d,R,e1,λv H1 s1 hv=>?_⟩
   have row:∃ p,v=.ref p /\ (iW X.K H1 p (ns.map V.int) \/ iX X.K H1 p (ns.map V.int)):=by
    unfold MD at e2
    split at e2
    .cases e2
     obtain ⟨p,xs,rfl,r1,r2⟩:=hv.list
     rw [ju e3] at r2
     rw [<- r2.toInts]
     exact ⟨p,rfl,.inl r1.sq⟩
    .cases e2
     obtain ⟨p,xs,rfl,r1,r2⟩:=hv.tuple
     rw [ju e3] at r2
     rw [<- r2.toInts]
     exact ⟨p,rfl,.inr r1⟩
    .cases e2
   obtain ⟨p,rfl,MF⟩:=row
   refine ⟨p,ns,rfl,MF,by unfold scanBound; omega,λl1 ms Rv hm hle=>?_⟩
   refine ⟨l1,ms,rfl,bC,by omega,λl2 out LY hr CP=>?_⟩
   have eo:out=ss ns:=(Kj hr λz=>by rw [CP,hm]).symm
   subst eo
   refine q l2 _ _ (s1.trans ((cx Rv _).trans (cx LY _))) (s1.free ((cx Rv _).free LY)) bC (cg.ints _)
  .cases ed
end L2
namespace L2
open PySem PySem.Spec PyProof.Rows
section
variable {prog:Program} {w:World} {A:Around} {R:Result->Shared->Prop} {s:Shared}
theorem uj {elt target iter:Expr} {ifs:List Expr} {scope:Scope} {pos:Pos} {it acc:Value} {env:Env} (I:Nat->Shared->Prop)
  (turn:∀ n s,I n s->wpAny (model prog w) A (pyNext it) (λr bE=>match r with
   | none=>R (.ok .next) bE
   | some v=>wpAny (model prog w) A (letOwnedTupleGo target it v) (λ_ lP=>wpAny (model prog w) A (assign target env v) (λ_ nV=>
     wpAny (model prog w) A (forIn ifs true λc r=>if r=true then do let ok <- isTrue c env (eval c env); pure (ForInStep.yield ok) else pure (ForInStep.yield r)) (λok y6=>
      if ok=true then wpAny (model prog w) A (eval elt env) (λx Px=>
       wpAny (model prog w) A (call (.builtin "list.append") [acc,x]) (λ_ Py=>∃ m,m < n /\ I m Py) (notedBy (model prog w) A env λe s'=>R (.error e) s') Px) (notedBy (model prog w) A env λe s'=>R (.error e) s') y6
      else ∃ m,m < n /\ I m y6) (notedBy (model prog w) A env λe s'=>R (.error e) s') nV) (notedBy (model prog w) A env λe s'=>R (.error e) s') lP) (notedBy (model prog w) A env λe s'=>R (.error e) s') bE) (notedBy (model prog w) A env λe s'=>R (.error e) s') s)
  (n:Nat) (h:I n s):codeAny (model prog w) A (.compLoop (.ListComp elt [⟨target,iter,ifs,0⟩] scope pos) 0 it acc env) R s:=by
 refine codeAny_loop rfl I (λn s hI=>?_) n h
 show wpAny _ A ((compTurn (.ListComp elt [⟨target,iter,ifs,0⟩] scope pos) 0 it acc env).onRaise (λx=>do noteFrame x env; theTreesLotGoes x)) _ _ s
 refine wpAny_noted ?_
 rw [compTurn_list]
 refine Y3 (acf (Y3 (ZM (turn n s hI) (λr bE nU=>?_) λ_ _ z=>z)))
 cases r with
 | none=>exact Zc nU
 | some v=>
   refine Y3 (ZM nU (λ_ lP t6=>Y3 (ZM t6 (λ_ nV L6=>Y3 (ZM L6 (λok y6 Pz=>?_) λ_ _ z=>z)) λ_ _ z=>z)) λ_ _ z=>z)
   cases ok with
   | false=>exact Zc ⟨rfl,Pz⟩
   | true=>exact Y3 (Y3 (ZM Pz (λx Px Td=>Y3 (ZM Td (λ_ Py Te=>Zc (Zc ⟨rfl,Te⟩)) λ_ _ z=>z)) λ_ _ z=>z))
end
def PF (X:Cx) (ifs:List Expr) (t:TT):Prop:=
 ∀ (pins:List (Addr×Obj)) (s:Shared) (σ:St) (H:Hp) (Q:Bool->Hp->Prop),Inv X pins σ H s->t σ H Q->
   wpAny (model X.prog X.w) X.A (forIn ifs true λc r=>if r=true then do let ok <- isTrue c X.env (eval c X.env); pure (ForInStep.yield ok) else pure (ForInStep.yield r)) (TP X pins σ Q) X.xe s
def Tf:TT:=λ_ H Q=>Q true H
theorem MG {X:Cx}:PF X [] Tf:=λ_ _ _ H _ I q=>Zc ⟨H,I,q⟩
theorem uk {X:Cx} {c:Expr} {t:TT} (h:PT X c t):PF X [c] t:=λpins s σ H Q I q=>wpAny_tests_one (h pins s σ H Q I q)
section
variable {X:Cx}
structure ll (X:Cx) (scope:Scope) (xs:List Str) (ix:List Nat) (N':List Str):Prop where
 kind:scope.kind=.function
 n8:∀ y∈scope.names,y.2≠.cell
 names:∀ y∈scope.names,y.2=.local->scope.names.lookup y.1=some .local
 free:∀ y∈scope.names,y.2=.free->X.env.kindOf y.1=some .cell \/ X.env.kindOf y.1=some .free
 only:∀ n,(X.env.scope.kind=.function)->((relabel scope X.env).names.lookup n=some .cell \/ (relabel scope X.env).names.lookup n=some .free)->(n,NameKind.free)∈scope.names
 nm:N'=xs ++ ix.map λj=>X.N.getD j ""
 Wx:∀ j∈ix,j < X.N.length /\ (X.N.getD j "",NameKind.free)∈scope.names /\ ((relabel scope X.env).names.lookup (X.N.getD j "")=some .cell \/ (relabel scope X.env).names.lookup (X.N.getD j "")=some .free)
section
variable {scope:Scope} {xs:List Str} {ix:List Nat} {N':List Str} {cl:List (Str×Addr)} {C:Addr} {s2 s3:Shared} {H2:Hp} {fp:List Addr} {pins:List (Addr×Obj)} {σ:St}
theorem D6 (S:ll X scope xs ix N') (I:Inv X pins σ H2 s2) (hC:s2.heap.objs.size<=C) (h1:∀ n c,cl.lookup n=some c->X.env.cells.lookup n=some c) (h2:∀ n,(n,NameKind.free)∈scope.names->∃ c,cl.lookup n=some c)
  (hf:∀ b∈fp,j0 X pins H2 b) (MH:∀ b∈fp,b < s2.heap.objs.size):(cu X scope N' cl C s2 H2 fp pins).Ok where
 mod:=I.ok.mod
 kind:=by show (relabel scope X.env).kind=_; exact S.kind
 glob:=I.ok.glob
 blt:=I.ok.blt
 above:=hC
 inj:=λa b c e1 e2=>I.ok.inj a b c (h1 _ _ e1) (h1 _ _ e2)
 has:=λa h=>h2 a (S.only a I.ok.kind h)
 Ln:=λa c h=>by cases h
 hd:=I.ok.hd
 frames:=I.ok.frames
 Ow:=.inl rfl
 RS:=λb hb=>⟨Zs (Zi (MH b hb) hC),λa c e=>(hf b hb).2.2.2.2.1 a c (h1 _ _ e)⟩
 bs:=I.bs
 Ac:=ZQ I.ok.Ac I.sz
 By:=λb o e hb=>by
  rcases (hf b hb).2.2.2.1 with z | z
  .exact I.ok.By b o e z
  .have:=(I.ok.bs b o e).1
   exact absurd (Zi (Zf this) z) (ZU _)
 CU:=λb hb z=>by
  rcases Y6.mp (I.lN b z) with e | e
  .exact (hf b hb).2.1 e
  .exact (hf b hb).2.2.1 e
 mR:=I.stack
 JM:=I.tO
theorem B8 (S:ll X scope xs ix N') (I:Inv X pins σ H2 s2) (hC:s2.heap.objs.size<=C) (h1:∀ n c,cl.lookup n=some c->X.env.cells.lookup n=some c) (h2:∀ n,(n,NameKind.free)∈scope.names->∃ c,cl.lookup n=some c)
  (hf:∀ b∈fp,j0 X pins H2 b) (MH:∀ b∈fp,b < s2.heap.objs.size) (PB:s3.os=s2.os) (hg:s3.gens=s2.gens) (k:∀ b o,s2.heap.get? b=some o->s3.heap.get? b=some o) {m:Str->Option Value} (hn:s3.heap.Ns C m):
  Inv (cu X scope N' cl C s2 H2 fp pins) [] (List.replicate xs.length none ++ rR ix σ) H2 s3 where
 ok:=D6 S I hC h1 h2 hf MH
 os:=PB
 bare:=by rw [hg]; exact I.bare
 base:=⟨λb o e _ _ _=>k b o e,λb o e _ _ _=>⟨o.slots,k b o e⟩,λb o e n _=>n,λb o e _=>⟨o,k b o e⟩,λ_ _ e=>e,λ_ _ _ e=>e,λb ps e=>⟨#[],by rw [acw]; exact e⟩⟩
 loc:=by
  refine ⟨m,hn,λi y v e1 e2 e3=>?_⟩
  by_cases hi:i < xs.length
  .rw [List.getElem?_append_left (by simpa using hi),List.getElem?_replicate,if_pos hi] at e2
   cases e2
  .have N8:(rR ix σ)[i - xs.length]?=some (some v):=by rw [List.getElem?_append_right (by simp; omega)] at e2; simpa using e2
   obtain ⟨j,ej,es⟩:=DA N8
   have Rw:N'[i]?=some y:=e1
   rw [S.nm,aaJ (by omega),Zl,ej] at Rw
   have ey:X.N.getD j ""=y:=ZV Rw
   obtain ⟨hj,o8,hk⟩:=S.Wx j (Zq ej)
   obtain ⟨m0,YN,Wy⟩:=I.loc
   have eN:X.N[j]?=some y:=by rw [<- ey,Y9,Y4 hj]; rfl
   have kd:=S.free _ o8 rfl
   have hv:Ov X.env.scope y:=by
    rw [<- ey]
    rcases kd with z | z
    .exact .inr (.inl z)
    .exact .inr (.inr z)
   obtain ⟨u,r,l⟩:=Wy j y v eN es hv
   refine ⟨u,r,.inr ?_⟩
   rcases l with ⟨q,_⟩ | ⟨_,c,ec,z⟩
   .have Tg:X.env.kindOf y=some .cell \/ X.env.kindOf y=some .free:=by rw [<- ey]; exact kd
    rcases Tg with w | w <;> rw [q] at w <;> cases w
   .obtain ⟨c',e'⟩:=h2 _ o8
    rw [ey] at e'
    have:=h1 _ _ e'
    rw [ec] at this; cases this
    obtain ⟨o,ho,hd⟩:=z
    exact ⟨by rw [<- ey]; exact hk,c,e',o,k c o ho,hd⟩
 cell:=λa c e=>by
  obtain ⟨v,o,ho,hd⟩:=I.cell a c (h1 _ _ e)
  exact ⟨v,o,k c o ho,hd⟩
 free:=I.cf.fresh hC
 jS:=λa c e=>I.jS a c (h1 _ _ e)
 pin:=λp hp=>by
  have Wz:p∈X.pn ++ pins:=by
   rcases ZC.mp hp with z | z
   .exact z
   .simp at z
  obtain ⟨e,n,ne,nf,d⟩:=I.pin p Wz
  refine ⟨k _ _ e,n,Zs (Zi (Zf e) hC),λz=>?_,d⟩
  rcases Y6.mp (I.lN _ z) with q | q
  .exact ne q
  .exact nf q
 cf:=I.cf.kept k
 len:=by
  show (List.replicate xs.length none ++ rR ix σ).length=N'.length
  rw [S.nm]
  unfold rR
  simp
end
def um (J:It) (k:Nat) (ix:List Nat) (g:TG) (tc:TT) (te:TE) (σ:St) (H:Hp) (Q:VK):Prop:=∃ W:Nat->Nat->List V->St->Hp->Prop,(∃ m,W 0 m [] (List.replicate k none ++ rR ix σ) H) /\ ∀ i m ys τ H,W i m ys τ H->ys.length<=sizeLine /\
 ((J.stop i H /\ ∀ p,H p=none->Q (.ref p) (upd H p (.lst ys))) \/ (J.go i H /\ ys.length < sizeLine /\ ∀ v H',J.OI i H v H'->g v τ H' λB9 H2=>tc B9 H2 λb H3=>
   if b=true then te B9 H3 λy H4=>∃ m',m' < m /\ W (i + 1) m' (ys ++ [y]) B9 H4 else ∃ m',m' < m /\ W (i + 1) m' ys B9 H3))
def y7 (wi:TI) (k:Nat) (ix:List Nat) (g:TG) (tc:TT) (te:TE):TE:=λσ H Q=>wi σ H λJ H1=>um J k ix g tc te σ H1 Q
section
variable {scope:Scope} {xs:List Str} {ix:List Nat} {N':List Str} {elt iter tg:Expr} {ifs:List Expr} {pos:Pos} {wi:TI} {te:TE} {tc:TT} {g:TG}
structure U8 (X':Cx) (D:Addr) (fp:List Addr) (tn:Nat->Heap->Prop) (W:Nat->Nat->List V->St->Hp->Prop) (n:Nat) (s':Shared) (i:Nat) (ys:List V) (its:List Value) (k:Nat) (cX:St) (H':Hp):Prop where
 I:Inv X' [(D,Am its k)] cX H' s'
 st:tn i s'.heap
 fr:∀ b∈fp,H' b=none
 w:W i n ys cX H'
 rv:bj ys its
def PC (X':Cx) (D:Addr) (fp:List Addr) (tn:Nat->Heap->Prop) (W:Nat->Nat->List V->St->Hp->Prop) (n:Nat) (s':Shared):Prop:=∃ i ys its k cX H',U8 X' D fp tn W n s' i ys its k cX H'
theorem MI {X':Cx} {D:Addr} {fp:List Addr} {tn:Nat->Heap->Prop} {W:Nat->Nat->List V->St->Hp->Prop} {n:Nat} {s':Shared} {P:Prop} (h:PC X' D fp tn W n s') (k:∀ i ys its k cX H',U8 X' D fp tn W n s' i ys its k cX H'->P):P:=by
 obtain ⟨_,_,_,_,_,_,t⟩:=h
 exact k _ _ _ _ _ _ t
theorem PD {X:Cx} {pins:List (Addr×Obj)} {σ:St} {tg:Expr} {R:It->Hp->Prop} {Ge:Value} {s2:Shared} {P:Value->Prop} (h:Rk X pins σ tg R Ge s2) (k:∀ it fp tn J H',Inv X pins σ H' s2->Turn X.prog X.w X.K tg J fp it tn->tn 0 s2.heap->(∀ b∈fp,j0 X pins H' b)->R J H'->P (.ref it)):P Ge:=by
 obtain ⟨it,fp,tn,J,H',rfl,a,b,c,d,e⟩:=h
 exact k it fp tn J H' a b c d e
theorem sY (S:ll X scope xs ix N') (hc:X.calm=true) (hg:∀ cl C s2 H2 fp pins,PG (cu X scope N' cl C s2 H2 fp pins) tg g) (hf:∀ cl C s2 H2 fp pins,PF (cu X scope N' cl C s2 H2 fp pins) ifs tc) (uo:∀ cl C s2 H2 fp pins,PE (cu X scope N' cl C s2 H2 fp pins) elt te)
  {pins:List (Addr×Obj)} {σ:St} {s2:Shared} {Q:VK} {Ge:Value} (h:Rk X pins σ tg (λJ H1=>um J xs.length ix g tc te σ H1 Q) Ge s2) {cl:List (Str×Addr)} (h1:∀ n c,cl.lookup n=some c->X.env.cells.lookup n=some c) (h2:∀ n,(n,NameKind.free)∈scope.names->∃ c,cl.lookup n=some c)
  {use:Option (Value->Sem Unit)} {QQ:Value->Shared->Prop}
  (fin:∀ (D C:Addr) (H':Hp) (s1:Shared) (m:Str->Option Value),s1.heap.Ns C m->H' C=none->X.fE.heap.objs.size<=C->C≠X.env.locals->(∀ a c,X.env.cells.lookup a=some c->c≠C)->(∀ p∈X.pn ++ pins,p.1≠C)->(∀ h',Heap.SameBut C s1.heap h'->Inv X pins σ H' { s1 with heap:=h' })->Q (.ref D) H'->
   compPost (model X.prog X.w) X.A X.xe use QQ (.ref D) C (.ok .next) s1):
  wpAny (model X.prog X.w) X.A (newList []) (λacc nV=>wpAny (model X.prog X.w) X.A (newFunctionEnv scope X.env.globals cl [] X.env.qual none .none (some X.env)) (λD7 y6=>
   codeAny (model X.prog X.w) X.A (.compStart (.ListComp elt [⟨tg,iter,ifs,0⟩] scope pos) 0 Ge acc { D7 with scope:=relabel scope X.env }) (compPost (model X.prog X.w) X.A X.xe use QQ acc D7.locals) y6) X.xe nV) X.xe s2:=by
 refine PD (P:=λGe=>wpAny (model X.prog X.w) X.A (newList []) (λacc nV=>wpAny (model X.prog X.w) X.A (newFunctionEnv scope X.env.globals cl [] X.env.qual none .none (some X.env)) (λD7 y6=>
   codeAny (model X.prog X.w) X.A (.compStart (.ListComp elt [⟨tg,iter,ifs,0⟩] scope pos) 0 Ge acc { D7 with scope:=relabel scope X.env }) (compPost (model X.prog X.w) X.A X.xe use QQ acc D7.locals) y6) X.xe nV) X.xe s2) h λit fp tn J H1 I2 T cR f2 hR=>?_
 clear h
 obtain ⟨W,⟨m0,w0⟩,turn⟩:=hR
 have MH:∀ b∈fp,b < s2.heap.objs.size:=λb hb=>by
  obtain ⟨o,e,_⟩:=T.obj _ _ cR b hb
  exact Zf e
 refine Z3 (wpAny_newFunctionEnv S.n8 (by intro y hy; simp at hy) (λnU y8 uq=>?_) S.kind)
 dsimp only at y8 uq ⊢
 generalize PH:s2.heap.push { cls:=.type "list",dict:=none,data:=.seq ([]:List Value).toArray }=P2 at y8 uq ⊢
 have hC:P2.objs.size=s2.heap.objs.size + 1:=by rw [<- PH,aaQ]
 have J6:s2.heap.objs.size≠P2.objs.size:=by rw [hC]; exact Zs (aar _)
 have y9:s2.heap.objs.size<=P2.objs.size:=by rw [hC]; exact aaA _
 have below:∀ b,b < s2.heap.objs.size->b≠P2.objs.size:=λb hb=>by rw [hC]; exact Zs (aan hb)
 have old:∀ b o,s2.heap.get? b=some o->nU.get? b=some o:=λb o e=>uq.extBut b o (below b (Zf e)) (Y5 _ (PH ▸ Y5 _ e))
 have l5:nU.get? s2.heap.objs.size=some (Am [] 0):=uq.extBut _ _ J6 (Y5 _ (PH ▸ Zh _ rfl))
 generalize P2.objs.size=C at *
 generalize D8:s2.heap.objs.size=D at *
 have U9:∀ p∈X.pn ++ pins,p.1≠D /\ p.1≠C:=λp hp=>by
  have:=Zf (I2.pin p hp).1
  rw [D8] at this
  exact ⟨Zs this,Zs (Zi this y9)⟩
 have Th:D∉fp:=λhb=>ZU _ (MH D hb)
 have WA:C∉fp:=λhb=>absurd (Zi (MH C hb) y9) (ZU _)
 have Kk:∀ a c,X.env.cells.lookup a=some c->c≠D /\ c≠C:=λa c e=>by
  obtain ⟨v,q⟩:=I2.cell a c e
  have:=q.lt
  rw [D8] at this
  exact ⟨Zs this,Zs (Zi this y9)⟩
 have PJ:X.env.locals < D:=by have:=I2.lt; rw [D8] at this; exact this
 have WB:X.fE.heap.objs.size<=D:=by rw [<- D8]; exact I2.sz
 have I3:=B8 (s3:={ s2 with heap:=nU,toks:=s2.toks + ([]:List (Str×Value)).length }) S I2 (by rw [D8]; exact y9) h1 h2 f2 (by rw [D8]; exact MH) rfl rfl old y8
 have yz:∀ {H':Hp} {pp:List (Addr×Obj)},(∀ p∈pp,p.1∉fp)->(∀ b∈fp,H' b=none)->∀ b∈fp,j0 (cu X scope N' cl C s2 H1 fp pins) pp H' b:=λ{H' pp} PK hn b hb=>by
  obtain ⟨f0,f1,f3,f4,f5,f6⟩:=f2 b hb
  refine ⟨hn b hb,λz=>WA (by rw [<- show b=C from z]; exact hb),λz=>?_,.inl hb,λa c e=>f5 a c (h1 _ _ e),λp hp=>?_⟩
  .rcases Y6.mp (I2.lN b z) with q | q
   .exact f1 q
   .exact f3 q
  .rcases ZC.mp hp with q | q
   .exact f6 p q
   .intro z; exact PK p q (by rw [z]; exact hb)
 have Va:∀ b,D<=b->b∉lJ X.stack:=λb hb z=>by
  rcases Y6.mp (I2.lN b z) with q | q
  .rw [q] at hb; exact absurd (Zi PJ hb) (ZU _)
  .exact I2.Ox (by rw [D8]; exact hb) q
 have loop:∀ nV:Shared,nV={ s2 with heap:=nU,toks:=s2.toks + ([]:List (Str×Value)).length }->
   codeAny (model X.prog X.w) X.A (.compLoop (.ListComp elt [⟨tg,iter,ifs,0⟩] scope pos) 0 (.ref it) (.ref D) (compEnvC scope cl C X.env)) (compPost (model X.prog X.w) X.A X.xe use QQ (.ref D) C) nV:=by
  rintro nV rfl
  refine uj (PC (cu X scope N' cl C s2 H1 fp pins) D fp tn W) ?_ m0
   ⟨0,[],[],0,_,H1,?_,T.keep _ _ _ cR (λb hb o e=>old b o e),λb hb=>(f2 b hb).1,w0,.nil⟩
  .refine λn s' z=>MI z λi ys its k cX H' t=>?_
   have I:=t.I
   have st:=t.st
   have fr:=t.fr
   have rv:=t.rv
   obtain ⟨hz,w⟩:=turn i n ys cX H' t.w
   have pD:=I.pin (D,Am its k) (Zg _ Zb)
   have PK:∀ p∈[(D,Am its k)],p.1∉fp:=λp hp=>by
    have e:p=(D,Am its k):=by simpa using hp
    rw [e]; exact Th
   rcases w with ⟨stop,q⟩ | ⟨go,YO,step⟩
   .refine ZM (T.done (cu X scope N' cl C s2 H1 fp pins) rfl rfl rfl hc i _ s' _ H' (λ_ _=>False) I (yz PK fr) st stop) (λr s1 hr=>?_) λ_ _ z=>z.elim
    obtain ⟨rfl,I1⟩:=hr
    obtain ⟨m,hn,_⟩:=I1.loc
    have p1:=I1.pin (D,Am its k) (Zg _ Zb)
    have fC:H' C=none:=I1.free
    refine fin D C (upd H' D (.lst ys)) s1 m hn (by rw [aI (abd J6)]; exact fC) (ZQ WB y9) (aa2 (Zi PJ y9)) (λa c e=>(Kk a c e).2) (λp hp=>(U9 p hp).2) (λh' hs=>?_) (q D p1.2.1)
    exact BO (N':=N') I2 (by rw [D8]; exact y9) (by rw [D8]; exact Ze _) f2 I1 rv hz hs J6
   .refine ZM (T.item (cu X scope N' cl C s2 H1 fp pins) rfl rfl rfl hc i _ s' _ H' (λ_ _=>False) I (yz PK fr) st go) (λr s4 hr=>?_) λ_ _ z=>z.elim
    obtain ⟨u,rfl,h4⟩:=hr
    refine ZM h4 (λ_ s5 h5=>?_) λ_ _ z=>z.elim
    obtain ⟨v,H5,I5,r5,y5,GH,Sb⟩:=h5
    have Sd:=I5.pinned (yz PK Sb) (T.obj _ _ GH)
    refine ZM (hg cl C s2 H1 fp pins _ s5 cX H5 v u _ Sd r5 (step v H5 y5)) (λ_ s6 h6=>?_) λ_ _ z=>z.elim
    obtain ⟨B9,H6,I6,q6⟩:=h6
    have gone:∀ {τ:St} {H9:Hp} {s9:Shared},Inv (cu X scope N' cl C s2 H1 fp pins) ([(D,Am its k)] ++ lO fp s5.heap) τ H9 s9->tn (i + 1) s9.heap /\ ∀ b∈fp,H9 b=none:=λ{τ H9 s9} I9=>
     ⟨T.keep _ _ _ GH λb hb o e=>(I9.pin (b,o) (Zg _ (Zg _ (fe hb e)))).1,λb hb=>by
      obtain ⟨o,e,d⟩:=T.obj _ _ GH b hb
      exact (I9.pin (b,o) (Zg _ (Zg _ (fe hb e)))).2.1⟩
    refine ZM (hf cl C s2 H1 fp pins _ s6 B9 H6 _ I6 q6) (λok WC WD=>?_) λ_ _ z=>z.elim
    obtain ⟨Vb,Rx,Ry⟩:=WD
    cases ok with
    | false=>
      rw [Zj Zt] at Ry ⊢
      obtain ⟨m',HH,w7⟩:=Ry
      obtain ⟨g1,g2⟩:=gone Rx
      exact ⟨m',HH,i + 1,ys,its,k,B9,Vb,Rx.kZ λp hp=>Rx.pin p (Zg _ (ZX _ hp)),g1,g2,w7,rv⟩
    | true=>
    rw [Zk rfl] at Ry ⊢
    refine ZM (uo cl C s2 H1 fp pins _ WC B9 Vb _ Rx Ry) (λy s7 h7=>?_) λ_ _ z=>z.elim
    obtain ⟨yv,H7,I7,r7,m',HH,w7⟩:=h7
    have p7:=I7.pin (D,Am its k) (Zg _ (ZX _ Zb))
    have hl:=rv.length
    refine call_meets ZZ ⟨_,p7.1,rfl⟩ F.entry_list_append (F.args_list_append_2 _ _) (PySem.list_append D its.toArray k y (by rw [Zm]; omega)) ⟨p7.1,?_⟩
    have q:=PySem.IsL.update p7.1 (·.push y)
    have Kl:∀ b o,b≠D->s7.heap.get? b=some o->(s7.heap.update D (Obj.mapSeq (·.push y))).get? b=some o:=λb o hb e=>(aaH s7.heap _ (abd hb)).trans e
    have I8:Inv (cu X scope N' cl C s2 H1 fp pins) (lO fp s5.heap) B9 H7 s7:=I7.kZ λp hp=>I7.pin p (Zg _ (Zg _ hp))
    have I9:Inv (cu X scope N' cl C s2 H1 fp pins) (lO fp s5.heap) B9 H7 { s7 with heap:=s7.heap.update D (Obj.mapSeq (·.push y)) }:=I8.turned (t':=s7.toks) (it:=D) Kl p7.2.1 J6 (.inr (by show s2.heap.objs.size<=D; rw [D8]; exact Ze _)) (λa c e=>(Kk a c (h1 _ _ e)).1) λp hp z=>by
     rcases ZC.mp hp with z' | z'
     .exact (U9 p z').1 z
     .exact Th (by rw [<- z]; exact (sD z').1)
    refine ⟨m',HH,i + 1,ys ++ [yv],its ++ [y],(if (its.toArray.push y).size == its.toArray.size then k else k + 1),B9,H7,I9.kZ (pins':=[(D,Am (its ++ [y]) ((if (its.toArray.push y).size == its.toArray.size then k else k + 1)))]) λp hp=>?_,T.keep _ _ _ GH λb hb o e=>?_,λb hb=>?_,w7,rv.append (.cons r7 .nil)⟩
    .have e:p=(D,Am (its ++ [y]) ((if (its.toArray.push y).size == its.toArray.size then k else k + 1))):=by simpa using hp
     subst e
     refine ⟨by rw [q,List.push_toArray],p7.2.1,J6,Va D (Ze _),λv z=>by cases z⟩
    .have pb:=I7.pin (b,o) (Zg _ (Zg _ (fe hb e)))
     exact Kl b o (λz=>Th (by rw [<- z]; exact hb)) pb.1
    .obtain ⟨o,e,d⟩:=T.obj _ _ GH b hb
     exact (I7.pin (b,o) (Zg _ (Zg _ (fe hb e)))).2.1
  .exact I3.kZ λp hp=>by
    have e:p=(D,Am [] 0):=by simpa using hp
    subst e
    exact ⟨l5,I2.cf.fresh (by rw [D8]; exact Ze _),J6,Va D (Ze _),λv z=>by cases z⟩
 exact codeAny_compStart_list (loop _ rfl) (T.self _ 0 _ _ _ (T.keep _ _ _ cR λb hb o e=>old b o e) (loop _ rfl))
theorem Ca (S:ll X scope xs ix N') (hc:X.calm=true) (hi:PI X tg iter wi) (hg:∀ cl C s2 H2 fp pins,PG (cu X scope N' cl C s2 H2 fp pins) tg g) (hf:∀ cl C s2 H2 fp pins,PF (cu X scope N' cl C s2 H2 fp pins) ifs tc) (uo:∀ cl C s2 H2 fp pins,PE (cu X scope N' cl C s2 H2 fp pins) elt te)
  (hs:∀ x,foldedSetIterable iter X.env x=pure x):PE X (.ListComp elt [⟨tg,iter,ifs,0⟩] scope pos) (y7 wi xs.length ix g tc te):=by
 intro pins s σ H Q I h
 obtain ⟨cl,n6,h1,h2⟩:=lR (scope:=scope) (env:=X.env) (λy hy hk=>I.ok.has y.1 (S.free y hy hk))
 rw [eval_ListComp]
 refine wpAny_comprehension_free (use:=none) rfl hs n6 S.kind S.names (ZM (hi pins s σ H _ I h) (λxv bE nU=>ZM nU (λit lP t6=>?_) λ_ _ e=>e) λ_ _ e=>e)
 exact sY S hc hg hf uo t6 h1 h2 λD C H' s1 m hn fC c1 c2 c3 c4 hI q=>⟨m,hn,λh' jX=>⟨.ref D,H',hI h' jX,rfl,q⟩⟩
theorem Cb {i:Nat} {y:Str} {py wX:Pos} (S:ll X scope xs ix N') (hc:X.calm=true) (hi:PI X tg iter wi) (hg:∀ cl C s2 H2 fp pins,PG (cu X scope N' cl C s2 H2 fp pins) tg g) (hf:∀ cl C s2 H2 fp pins,PF (cu X scope N' cl C s2 H2 fp pins) ifs tc) (uo:∀ cl C s2 H2 fp pins,PE (cu X scope N' cl C s2 H2 fp pins) elt te)
  (hs:∀ x,foldedSetIterable iter X.env x=pure x) (Ti:X.N.Nodup) (N7:X.N[i]?=some y) (hy:X.env.scope.names.lookup y=some .local) (Tj:swapsWith (.ListComp elt [⟨tg,iter,ifs,0⟩] scope pos) (some (.Name y py)) wX.line X.env=pure true):
  PS X (.Assign [.Name y py] (.ListComp elt [⟨tg,iter,ifs,0⟩] scope pos) wX) (pW (y7 wi xs.length ix g tc te) (iY i)):=by
 intro pins s σ H D I h
 obtain ⟨cl,n6,h1,h2⟩:=lR (scope:=scope) (env:=X.env) (λy hy hk=>I.ok.has y.1 (S.free y hy hk))
 rw [exec_Assign_Name_used _ _ _ _ Tj]
 refine Y3 (acf (Y3 ?_))
 show wpAny _ X.A (do let _ <- comprehension (.ListComp elt [⟨tg,iter,ifs,0⟩] scope pos) scope X.env _ (newList []) false (eval iter X.env) (some (assign (.Name y py) X.env))) _ _ s
 refine Y3 (ZM (wpAny_comprehension_free (use:=some (assign (.Name y py) X.env)) (Q:=λ_ s'=>SP X pins D .next s') rfl hs n6 S.kind S.names
  (ZM (hi pins s σ H _ I h) (λxv bE nU=>ZM nU (λit lP t6=>?_) λ_ _ e=>e) λ_ _ e=>e)) (λ_ s' hq=>Zc (Zc hq)) λ_ _ e=>e)
 refine sY S hc hg hf uo t6 h1 h2 λA C H' s1 m hn fC c1 c2 c3 c4 hI q=>?_
 have I1:Inv X pins σ H' s1:=hI s1.heap (.refl ..)
 refine wpAny_assign_Name (sy I1 Ti N7 (.inl hy) (show RelV (.ref A) (.ref A) from rfl) (λs3 I3 ch=>?_) (.inr hy))
 obtain ⟨a,PB,ha⟩:=ch
 have WE:C≠a:=by
  rcases ha with z | z
  .rw [z]; exact c2
  .intro e; exact c3 y a z e.symm
 refine ⟨m,hn.sameBut PB WE,λh' jX=>?_⟩
 exact ⟨_,H',I3.turned (t':=s3.toks) (it:=C) (λb o hb e=>(jX.2 b hb).trans e) fC c2 (.inr c1) c3 c4,q⟩
end
def nu (sc scope:Scope) (N:List Str) (xs:List Str) (ix:List Nat) (N':List Str):Bool:=
 (scope.kind == .function) && scope.names.all (λy=> !(y.2 == .cell)) && scope.names.all (λy=> !(y.2 == .local) || (scope.names.lookup y.1 == some .local))
 && scope.names.all (λy=> !(y.2 == .free) || (sc.names.lookup y.1 == some .cell || sc.names.lookup y.1 == some .free))
 && (Hh sc scope).all (λy=> !(y.2 == .cell || y.2 == .free) || scope.names.any (λz=>z.1 == y.1 && z.2 == .free))
 && (N' == xs ++ ix.map λj=>N.getD j "") && ix.all (λj=>decide (j < N.length) && scope.names.any (λz=>z.1 == N.getD j "" && z.2 == .free) && ((Hh sc scope).lookup (N.getD j "") == some .cell || (Hh sc scope).lookup (N.getD j "") == some .free))
theorem qz {sc scope:Scope} {N:List Str} {xs:List Str} {ix:List Nat} {N':List Str} (h:nu sc scope N xs ix N'=true) (e1:X.env.scope=sc) (e2:X.N=N):ll X scope xs ix N':=by
 subst e1 e2
 unfold nu at h
 simp only [ZE,List.all_eq_true,Bool.or_eq_true,ab7,List.any_eq_true,ZL,beq_iff_eq,abc] at h
 obtain ⟨⟨⟨⟨⟨⟨a1,a2⟩,a3⟩,a5⟩,a6⟩,a7⟩,a8⟩:=h
 refine ⟨a1,a2,λy hy hk=>(a3 y hy).elim (λz=>absurd hk z) id,λy hy hk=>(a5 y hy).elim (λz=>absurd hk z) id,λn _ hn=>?_,a7,λj hj=>?_⟩
 .have:∃ k,(n,k)∈Hh X.env.scope scope /\ (k=NameKind.cell \/ k=NameKind.free):=by
   rcases hn with z | z
   .exact ⟨_,lookup_mem z,.inl rfl⟩
   .exact ⟨_,lookup_mem z,.inr rfl⟩
  obtain ⟨k,hk,Hz⟩:=this
  rcases a6 (n,k) hk with z | ⟨z,hz,e1,e2⟩
  .exfalso
   simp at z
   rcases Hz with q | q
   .exact z.1 q
   .exact z.2 q
  .obtain ⟨z1,z2⟩:=z
   cases e1; cases e2; exact hz
 .obtain ⟨⟨b1,⟨z,hz,e1,e2⟩⟩,b3⟩:=a8 j hj
  refine ⟨b1,?_,b3⟩
  obtain ⟨z1,z2⟩:=z
  cases e2
  have Rw:z1=X.N.getD j "":=e1
  rw [<- Rw]; exact hz
end
end L2
namespace L2
open PySem PySem.Spec PyProof.Rows LS
def qA (f:D->Option (Option D)):List D->Option (List D)
 | []=>some []
 | d :: ds=>(f d).bind λo=>(qA f ds).bind λxs=>some (match o with | some x=>x :: xs | none=>xs)
def dS (gi:DS->Option (List D)) (k:Nat) (ix:List Nat) (gt:D->DS->Option DS) (gc:DS->Option Bool) (ge:DS->Option D):DS->Option (List D):=λδ=>(gi δ).bind λds=>if ds.length<=100000 then
 qA (λd=>(gt d (List.replicate k none ++ gg ix δ)).bind λfD=>(gc fD).bind λb=>if b=true then (ge fD).map some else some none) ds else none
def N9 (k:Nat) (gt:D->DS->Option DS):Prop:=∀ d c fD,gt d (List.replicate k none ++ c)=some fD->∃ own:DS,own.length=k /\ fD=own ++ c
theorem nv:N9 1 (aR 0):=λd c fD h=>by cases h; exact ⟨[some d],rfl,rfl⟩
set_option tactic.hygienic true in
theorem Tn:N9 2 (jW 2 (c7 (aR 0) (c7 (aR 1) ko))):=λd c fD h=>by
 unfold jW at h
 split at h
 .split at h
  .rename_i ds hl
   match ds,hl with
   | [a,b],_=>cases h; exact ⟨[some a,some b],rfl,rfl⟩
  .cases h
 .cases h
section
variable {K:PySem.W.Frag} {O:List Nat} {U A0:List Addr} {σ:St} {δ:DS} {H H1:Hp}
theorem Rel.weak {own c:DS} (R:Rel K [] U A0 σ (own ++ c) H):Rel K [] U A0 σ (List.replicate own.length none ++ c) H where
 len:=by rw [R.len]; simp
 fz:=λi e hi q=>by
  by_cases h:i < own.length
  .rw [List.getElem?_append_left (by simpa using h),List.getElem?_replicate,if_pos h] at q
   cases q
  .refine R.fz i e hi ?_
   rw [List.getElem?_append_right (by simpa using h)] at q
   rw [aaJ (by omega)]
   simpa using q
 ow:=λi e hi=>by simp at hi
 inj:=λi j d e l hi=>by simp at hi
 al:=R.al
theorem Rel.PL (R:Rel K O U A0 σ δ H) {ix:List Nat} (k:Nat) (ym:∀ j∈ix,j∉O):Rel K [] U A0 (List.replicate k none ++ L2.rR ix σ) (List.replicate k none ++ gg ix δ) H where
 len:=by simp [L2.rR,gg]
 fz:=λi e _ q=>by
  by_cases h:i < k
  .rw [List.getElem?_append_left (by simpa using h),List.getElem?_replicate,if_pos h] at q
   cases q
  .rw [List.getElem?_append_right (by simpa using h)] at q ⊢
   simp only [List.length_replicate] at q ⊢
   unfold gg at q
   unfold L2.rR
   rw [Zl] at q ⊢
   cases ei:ix[i - k]? with
   | none=>rw [ei] at q; cases q
   | some j=>
     rw [ei] at q
     simp only [Z0,aa4] at q
     obtain ⟨u,hu,hd⟩:=R.fz j e (ym j (Zq ei)) (join_some q)
     exact ⟨u,by simp [hu],hd⟩
 ow:=λi e hi=>by simp at hi
 inj:=λi j d e l hi=>by simp at hi
 al:=R.al
structure CB (K:PySem.W.Frag) (U A0:List Addr) (H1:Hp) (ds xs:List D) (F:D->Option (Option D)) (base:DS) (i:Nat) (ys:List V) (τ:St) (H2:Hp) (zs rest:List D):Prop where
 le:i<=ds.length
 s:aA H1 H2
 R:Rel K [] U A0 τ base H2
 yl:ys.length<=i
 hz:cg K (wo H2 (U ++ A0)) ys zs
 he:qA F (ds.drop i)=some rest
 hx:zs ++ rest=xs
def WG (K:PySem.W.Frag) (U A0:List Addr) (H1:Hp) (ds xs:List D) (F:D->Option (Option D)) (base:DS) (i m:Nat) (ys:List V) (τ:St) (H2:Hp):Prop:=m=ds.length - i /\ ∃ zs rest,CB K U A0 H1 ds xs F base i ys τ H2 zs rest
theorem Cc {J:It} {ix:List Nat} {k:Nat} {gt:D->DS->Option DS} {gc:DS->Option Bool} {ge:DS->Option D} {ds xs:List D} {Q:VK} (own:N9 k gt) (R:Rel K O U A0 σ δ H) (s:aA H H1) (ym:∀ j∈ix,j∉O) (hw:WalksS K (U ++ A0) H1 J ds)
  (hl:ds.length<=100000) (e:qA (λd=>(gt d (List.replicate k none ++ gg ix δ)).bind λfD=>(gc fD).bind λb=>if b=true then (ge fD).map some else some none) ds=some xs)
  (q:∀ r ys H',aA H H'->H r=none->H' r=some (.lst ys)->cg K (wo H' (r :: (U ++ A0))) ys xs->Q (.ref r) H'):um J k ix (tG K [] gt) (tT K [] gc) (tE K [] ge) σ H1 Q:=by
 have UP:(100000:Nat) < sizeLine:=by decide
 obtain ⟨F,hF⟩:∃ F:D->Option (Option D),F=λd=>(gt d (List.replicate k none ++ gg ix δ)).bind λfD=>(gc fD).bind λb=>if b=true then (ge fD).map some else some none:=⟨_,rfl⟩
 rw [<- hF] at e
 refine ⟨WG K U A0 H1 ds xs F (List.replicate k none ++ gg ix δ),⟨ds.length,rfl,[],xs,aah _,aA.refl _,(R.same s).PL k ym,Ze _,.nil,e,rfl⟩,?_⟩
 rintro i m ys τ H2 ⟨rfl,zs,rest,w⟩
 have hle:=w.le
 have N5:=w.yl
 have he:=w.he
 refine ⟨by omega,?_⟩
 obtain ⟨SJ,DQ⟩:=hw i H2 w.s
 by_cases fg:i < ds.length
 .obtain ⟨go,Vc⟩:=SJ _ (Y4 fg)
  rw [aaM fg,qA] at he
  generalize ds[i]=d at Vc he
  obtain ⟨o,e1,e2⟩:=bind1 he
  obtain ⟨rs,e3,e4⟩:=bind1 e2
  rw [hF] at e1
  obtain ⟨fD,f1,f2⟩:=bind1 e1
  obtain ⟨b,f3,f4⟩:=bind1 f2
  obtain ⟨nv,ol,oe⟩:=own d _ fD f1
  refine .inr ⟨go,by omega,λv H3 y=>?_⟩
  obtain ⟨s3,hv⟩:=Vc v H3 y
  refine ⟨U,A0,_,d,fD,w.R.same s3,hv,f1,λB9 R3=>⟨U,A0,fD,b,R3,f3,λH4 s4=>?_⟩⟩
  have wk:∀ {H':Hp},aA H3 H'->Rel K [] U A0 B9 (List.replicate k none ++ gg ix δ) H':=λ{H'} s'=>by
   rw [<- ol]
   rw [oe] at R3
   exact (R3.same s').weak
  have lt:ds.length - (i + 1) < ds.length - i:=Nat.sub_lt_sub_left fg (aar i)
  cases b with
  | true=>
    rw [Zk rfl] at f4
    dsimp only
    rw [Zk rfl]
    cases eg:ge fD with
    | none=>rw [eg] at f4; cases f4
    | some x=>
      rw [eg] at f4; cases f4
      cases e4
      exact ⟨U,A0,fD,x,R3.same s4,eg,λu H5 s5 hu=>⟨_,lt,rfl,zs ++ [x],rs,fg,((w.s.trans s3).trans s4).trans s5,wk (s4.trans s5),by rw [Zz]; exact Nat.succ_le_succ N5,(w.hz.same (bR ((s3.trans s4).trans s5))).app (.cons hu .nil),e3,by rw [<- w.hx,acN]; rfl⟩⟩
  | false=>
    rw [Zj Zt] at f4
    dsimp only
    rw [Zj Zt]
    cases f4
    cases e4
    exact ⟨_,lt,rfl,zs,rs,fg,(w.s.trans s3).trans s4,wk s4,Nat.le_succ_of_le N5,w.hz.same (bR (s3.trans s4)),e3,w.hx⟩
 .have hi:i=ds.length:=Nat.le_antisymm hle (acd fg)
  subst hi
  rw [acZ,qA] at he
  cases he
  have hx:=w.hx
  rw [Z7] at hx
  subst hx
  exact .inl ⟨DQ rfl,λp hp=>sP (s.trans w.s) q p ys hp w.hz⟩
end
section
variable {X:Cx} {O:List Nat} {fr:Bool} {scope:Scope} {elt iter tg:Expr} {ifs:List Expr} {pos:Pos} {gi:DS->Option (List D)} {ge:DS->Option D} {gt:D->DS->Option DS} {gc:DS->Option Bool} {k:Nat}
theorem PF.mono {t t':TT} (h:PF X ifs t) (m:∀ σ H Q,t' σ H Q->t σ H Q):PF X ifs t':=λpins s σ H Q I q=>h pins s σ H Q I (m σ H Q q)
theorem fY:PF X [] (tT X.K O λ_=>some true):=MG.mono λσ H Q hh=>hh.e λU A0 δ b R e q=>by cases e; exact q H (aA.refl H)
set_option tactic.hygienic true in
theorem wY {K:PySem.W.Frag} {ix:List Nat} (own:N9 k gt) (ym:∀ j∈ix,j∉O) {σ:St} {H:Hp} {Q:VK}:tN K O (dS gi k ix gt gc ge) σ H Q->y7 (N4 K O gi) k ix (tG K [] gt) (tT K [] gc) (tE K [] ge) σ H Q:=λ⟨U,A0,δ,xs,R,ed,q⟩=>by
 obtain ⟨ds,e1,e2⟩:=bind1 ed
 split at e2
 .rename_i hl
  exact ⟨U,A0,δ,ds,R,e1,λJ H1 s hw=>Cc own R s ym hw hl e2 q⟩
 .cases e2
theorem dD (sc:Scope) (N:List Str) (ix:List Nat) (N' xs:List Str) (own:N9 k gt) (hi:PI X tg iter (N4 X.K O gi)) (hg:∀ cl C s2 H2 fp pins,PG (cu X scope N' cl C s2 H2 fp pins) tg (tG X.K [] gt)) (hf:∀ cl C s2 H2 fp pins,PF (cu X scope N' cl C s2 H2 fp pins) ifs (tT X.K [] gc))
  (uo:∀ cl C s2 H2 fp pins,PE (cu X scope N' cl C s2 H2 fp pins) elt (tE X.K [] ge)) (ym:∀ j∈ix,j∉O:=by decide) (hk:nu sc scope N xs ix N'=true:=by decide +kernel) (hl:xs.length=k:=by rfl)
  (e1:X.env.scope=sc:=by rfl) (e2:X.N=N:=by rfl) (hc:X.calm=true:=by rfl) (hs:∀ x,foldedSetIterable iter X.env x=pure x:=by intro _; rfl):PE X (.ListComp elt [⟨tg,iter,ifs,0⟩] scope pos) (tN X.K O (dS gi k ix gt gc ge)):=by
 subst hl
 exact (Ca (qz hk e1 e2) hc hi hg hf uo hs).mono λ_ _ _=>wY own ym
theorem wZ {i:Nat} {y:Str} {py wX:Pos} (sc:Scope) (N:List Str) (ix:List Nat) (N' xs:List Str) (Ti:X.N.Nodup) (N7:X.N[i]?=some y) (hy:X.env.scope.names.lookup y=some .local) (own:N9 k gt) (hi:PI X tg iter (N4 X.K O gi))
  (hg:∀ cl C s2 H2 fp pins,PG (cu X scope N' cl C s2 H2 fp pins) tg (tG X.K [] gt)) (hf:∀ cl C s2 H2 fp pins,PF (cu X scope N' cl C s2 H2 fp pins) ifs (tT X.K [] gc)) (uo:∀ cl C s2 H2 fp pins,PE (cu X scope N' cl C s2 H2 fp pins) elt (tE X.K [] ge))
  (ym:∀ j∈ix,j∉O:=by decide) (hk:nu sc scope N xs ix N'=true:=by decide +kernel) (hl:xs.length=k:=by rfl)
  (e1:X.env.scope=sc:=by rfl) (e2:X.N=N:=by rfl) (hc:X.calm=true:=by rfl) (hs:∀ x,foldedSetIterable iter X.env x=pure x:=by intro _; rfl) (Tj:swapsWith (.ListComp elt [⟨tg,iter,ifs,0⟩] scope pos) (some (.Name y py)) wX.line X.env=pure true:=by rfl):
  PS X (.Assign [.Name y py] (.ListComp elt [⟨tg,iter,ifs,0⟩] scope pos) wX) (pW (tN X.K O (dS gi k ix gt gc ge)) (iY i)):=by
 subst hl
 exact (Cb (qz hk e1 e2) hc hi hg hf uo hs Ti N7 hy Tj).mono λ_ _ _ h=>wY own ym h
end
section
variable {X:Cx}
def za (K:PySem.W.Frag):R2:=λx y H Q=>∃ a b ys,x=.ref a /\ y=.ref b /\ iX K H a [] /\ iX K H b ys /\ Q (.ref b) H
theorem D9:iR X (binaryOp .Add) (za X.K):=by
 intro pins s σ H x y v u Q I rx ry h
 obtain ⟨a,b,ys,rfl,rfl,ha,hb,q⟩:=h
 cases rx
 cases ry
 obtain ⟨its,r1,p1,_⟩:=I.tuple ha
 obtain ⟨rO,r2,p2,_⟩:=I.tuple hb
 have e:=r1.pq.mpr rfl
 subst e
 obtain ⟨⟨c1,d1,YQ,WH⟩,ho,hc,n,hd⟩:=id p1
 obtain ⟨⟨c2,d2,YR,Rl⟩,nO,GR,n2,hd2⟩:=id p2
 simp only at hc hd GR hd2
 subst hc hd GR hd2
 exact concat_meets ⟨_,ho,rfl⟩ ⟨_,nO,rfl⟩ noFill_tuple_add seq_tuple_add ab1 abV (abN _ _) (tuple_addW0 a b #[] rO.toArray n n2 d1 d2 WH Rl (by simp)) ⟨ho,nO,⟨.ref b,H,I,rfl,q⟩⟩
end
def aU (a b:D):Option D:=match a,b with
 | .tuple [],.tuple l=>some (.tuple l)
 | a,b=>DJ a b
theorem aP {X:Cx}:iR X (binaryOp .Add) (λx y H Q=>Aq X.K x y H Q \/ za X.K x y H Q):=Hn.or D9
theorem aF {K:PySem.W.Frag}:jn K (λx y H Q=>Aq K x y H Q \/ za K x y H Q) aU:=by
 intro A H x y dx dy d Q al hx hy e q
 unfold aU at e
 split at e
 .cases e
  have hf:=hy.fz
  obtain ⟨a,xs,rfl,h1,h2⟩:=hx.tuple
  obtain ⟨b,zs,rfl,h3,h4⟩:=hy.tuple
  cases h2
  exact .inr ⟨a,b,zs,rfl,rfl,h1,h3,q _ H (aA.refl H) hf⟩
 .exact .inl (Ho A H x y _ _ d Q al hx hy e q)
def PM (K:PySem.W.Frag) (a:Addr):It:=
 ⟨λi H=>∃ xs x,iX K H a xs /\ xs[i]?=some x,λi H x H'=>∃ p v,H p=none /\ x=.ref p /\ H'=upd H p (.tup [.int i,v]) /\ ∀ xs,iX K H a xs->xs[i]?=some v,λi H=>∃ xs,iX K H a xs /\ xs.length=i⟩
theorem zb {P:Program} {w:World} {K:PySem.W.Frag} {es:List Expr} {kk} {jl:Pos} (a e it:Addr) (ik:e≠it):Turn P w K (.Tuple es kk jl) (PM K a) [e,it] e (λi h=>(∃ old,IsEnum h e it i old) /\ h.IsTupleIter it a i) where
 mem:=by simp
 obj:=λi h st b hb=>by
  obtain ⟨⟨old,he⟩,o,ho,c,d⟩:=st
  rcases Y6.mp hb with z | z
  .subst z; exact ⟨_,he,λv z=>by cases z⟩
  .have z:b=it:=by simpa using z
   subst z; exact ⟨o,ho,λv z=>by rw [d] at z; cases z⟩
 keep:=λi h h' st k=>by
  obtain ⟨⟨old,he⟩,cR⟩:=st
  exact ⟨⟨old,k e (by simp) _ he⟩,cR.at λo eo=>k it (by simp) o eo⟩
 item:=by
  intro X hP hw hK hc i pins s σ H E I hf st hg
  subst hP hw hK
  obtain ⟨xs,x,hq,hx⟩:=hg
  obtain ⟨its,rv,p,hz⟩:=I.tuple hq
  obtain ⟨u,hu,ru⟩:=rv.get hx
  obtain ⟨⟨old,he⟩,cR⟩:=st
  have hp:s.heap.IsTuple a its.toArray:=p
  have To:e≠a:=λz=>by
   obtain ⟨o,ho,n6,_⟩:=hp
   rw [<- z] at ho
   have:=ho.symm.trans he
   cases this
   exact absurd (abh n6) (by decide)
  have MJ:a≠it:=λz=>by
   obtain ⟨o,ho,n6,_⟩:=hp
   obtain ⟨o2,nO,qB,_⟩:=cR
   rw [z] at ho
   have:=ho.symm.trans nO
   cases this
   rw [n6] at qB
   exact absurd (abh qB) (by decide)
  have Km:i < its.toArray.size:=by
   have:=(Zd.mp hu).1
   simpa using this
  refine wpAny_pyNext_enum_itemD (ip (A:=X.A.in1) (I.ok.hd hc) it a MJ its.toArray) he ⟨cR,hp⟩ Km ik (by simp [ik,To]) λy h1 tk hy Bw Ea Mt N2 yk=>?_
  have Tp:y=u:=by
   have h3:its.toArray[i]?=some u:=by simpa using hu
   have h4:its.toArray[i]?=some y:=hy
   rw [h3] at h4; cases h4; rfl
  subst Tp
  refine ⟨_,rfl,aby Bw λh2 Mk mN=>?_⟩
  replace mN:Heap.SameBut e h1 h2:=mN
  have Ke:e < s.heap.objs.size:=Zf he
  have I1:Inv X pins σ H { s with heap:=h2,toks:=tk + 1 }:=I.gM (t':=tk + 1) (ch:=[e,it]) (λb o hb eo=>by
   simp only [Y6,ZS,aa5,ac9] at hb
   exact (mN.2 b hb.1).trans (yk b o hb.1 hb.2 eo)) hf
  have N3:IsTup h2 s.heap.objs.size [Value.int i tk,y].toArray:=⟨_,(mN.2 _ (aa2 Ke)).trans Mt,rfl,_,rfl⟩
  have o8:H s.heap.objs.size=none:=I.cf.fresh (Ze _)
  have fo:=I.oZ (H':=H) (Ze _) o8
  have I2:Inv X pins σ (upd H s.heap.objs.size (.tup [.int i,x])) { s with heap:=h2,toks:=tk + 1 }:=I1.yT o8 (ZQ I.sz (Ze _)) fo.2.1 fo.2.2.2.2.1 fo.2.2.2.2.2 N3 (.cons ⟨_,rfl⟩ (.cons ru .nil)) (by show 2<=sizeLine; decide)
  refine ⟨.ref s.heap.objs.size,_,I2,rfl,⟨_,x,o8,rfl,rfl,λys hy=>by rw [I.nQ hy hq]; exact hx⟩,⟨⟨y,Mk⟩,Ea.1.extBut mN.extBut (abd ik)⟩,λb hb=>?_⟩
  have fg:b < s.heap.objs.size:=by
   rcases Y6.mp hb with z | z
   .subst z; exact Ke
   .have z:b=it:=by simpa using z
    subst z
    obtain ⟨o,ho,_⟩:=cR
    exact Zf ho
  rw [aI (Zs fg)]
  exact (hf b hb).1
 done:=by
  intro X hP hw hK hc i pins s σ H E I hf st hg
  subst hP hw hK
  obtain ⟨xs,hq,hx⟩:=hg
  obtain ⟨its,rv,p,hz⟩:=I.tuple hq
  obtain ⟨⟨old,he⟩,cR⟩:=st
  have hp:s.heap.IsTuple a its.toArray:=p
  have MJ:a≠it:=λz=>by
   obtain ⟨o,ho,n6,_⟩:=hp
   obtain ⟨o2,nO,qB,_⟩:=cR
   rw [z] at ho
   have:=ho.symm.trans nO
   cases this
   rw [n6] at qB
   exact absurd (abh qB) (by decide)
  have hl:=rv.length
  have hsz:its.toArray.size=i:=by rw [Zm,<- hl]; exact hx
  refine wpAny_pyNext_enum_endD (ip (A:=X.A.in1) (I.ok.hd hc) it a MJ its.toArray) he ⟨by rw [hsz]; exact cR,hp⟩ λh1 eb=>⟨rfl,?_⟩
  exact I.gM (t':=s.toks) (ch:=[e,it]) (λb o hb eo=>eb b o (λz=>hb (by simp [z])) eo) hf
 self:=λ_ _ _ _ _ st h=>by
  obtain ⟨⟨old,he⟩,_⟩:=st
  exact aa6 he h
section
variable {X:Cx} {O:List Nat} {a:Expr} {ge:DS->Option D} {p pos:Pos} {es:List Expr} {kk} {jl:Pos}
def MK (K:PySem.W.Frag) (ta:TA):TI:=λσ H R=>ta σ H λvs H1=>∃ a xs,vs=[.ref a] /\ iX K H1 a xs /\ R (PM K a) H1
theorem Eb {ta:TA} (hg:Gl X "enumerate") (hm:X.mg "enumerate"=none) (ha:PA X [a] ta) (hs:starEach [a] X.env=[(false,eval a X.env)]:=by rfl):PI X (.Tuple es kk jl) (.Call (.Name "enumerate" p) [a] [] pos) (MK X.K ta):=by
 intro pins s σ H R I h
 refine Call_ (iF I hg hm jr (aal (d6 (ha pos pins s σ H _ I h) λus s1 ⟨vs,H1,I1,r1,q1⟩=>?_) hs rfl))
 obtain ⟨b,xs,e,hq,q⟩:=q1
 subst e
 obtain ⟨u,rfl,ru⟩:=vals1 r1
 cases ru
 obtain ⟨its,rv,pl,hz⟩:=I1.tuple hq
 refine yW (show s1.heap.IsTuple b its.toArray from pl) λh' he hit hsz hk=>?_
 refine aa6 he ?_
 refine ⟨s1.heap.objs.size + 1,[s1.heap.objs.size + 1,s1.heap.objs.size],_,_,H1,rfl,I1.kept (t':=s1.toks) hk,zb b _ s1.heap.objs.size (ac0 _),⟨⟨_,he⟩,hit⟩,λb hb=>?_,q⟩
 have hle:s1.heap.objs.size<=b:=by
  simp only [Y6,ZS,aa5] at hb
  rcases hb with z | z
  .rw [z]; exact aaA _
  .rw [z]; exact Ze _
 exact I1.oZ hle (I1.cf.fresh hle)
def zc (g:DS->Option D):DS->Option (List D):=λδ=>(g δ).bind λ| .tuple l=>some (i9 l) | _=>none
theorem w6 (hm:X.mg "enumerate"=none) (ha:PE X a (tE X.K O ge)) (hg:Gl X "enumerate":=by rfl) (hs:starEach [a] X.env=[(false,eval a X.env)]:=by rfl) (Pm:starEach ([]:List Expr) X.env=[]:=by rfl):PI X (.Tuple es kk jl) (.Call (.Name "enumerate" p) [a] [] pos) (tI X.K O (zc ge)):=
 (Eb hg hm (bQ ha cZ (by rw [hs,Pm])) hs).mono λσ H Q hh=>hh.e λU A0 δ ds R ed q=>by
  obtain ⟨x,e1,e2⟩:=bind1 ed
  cases x with
  | tuple l=>
    cases e2
    refine ⟨U,A0,δ,_,R,e1,λv H' s h=>?_⟩
    cases h with
    | tup hq h=>
      refine ⟨_,_,rfl,.inl (cB.kj hq),q _ H' s ?_⟩
      intro A' i H2 s2 al
      have h2:=h.same s2
      have hL:iX X.K H2 _ _:=.inl (cB.kj (s2.kj hq))
      refine ⟨λd hd=>?_,λhi=>⟨_,hL,by rw [hi,n4,h2.len]⟩⟩
      obtain ⟨y,hy,rfl⟩:=sT hd
      obtain ⟨v,hv,Pn⟩:=h2.get hy
      refine ⟨⟨_,v,hL,hv⟩,λz H3 hz=>?_⟩
      obtain ⟨p,v',hp,rfl,rfl,Po⟩:=hz
      have:=Po _ hL
      rw [hv] at this
      cases this
      exact ⟨cx hp _,HD.wD al hp (.cons (.int _) (.cons Pn .nil))⟩
  | _=>cases e2
end
end L2
namespace L2
open PySem PySem.Spec PyProof.Rows
def MN:D->Option Key
 | .int i=>some (.inl i)
 | .str x=>some (.inr x)
 | _=>none
def keysOf:List D->Option (List Key)
 | []=>some []
 | d :: ds=>(MN d).bind λk=>(keysOf ds).bind λks=>some (k :: ks)
def keyOf:D->Option (List Key)
 | .tuple ds=>keysOf ds
 | _=>none
theorem g9:∀ k:List Key,keysOf (k.map m7)=some k
 | []=>rfl
 | .inl i :: k=>by rw [Zn,keysOf,g9 k]; rfl
 | .inr i :: k=>by rw [Zn,keysOf,g9 k]; rfl
theorem sZ {K:PySem.W.Frag} {H:Hp}:∀ {xs:List V} {ds:List D} {k:List Key},cg K H xs ds->keysOf ds=some k->xs=k.map kV
 | _,_,_,.nil,e=>by cases e; rfl
 | _,_,_,.cons h t,e=>by
   rw [keysOf] at e
   obtain ⟨a,e1,e2⟩:=bind1 e
   obtain ⟨b,e3,e4⟩:=bind1 e2
   cases e4
   rw [sZ t e3,Zn]
   cases h with
   | int i=>cases e1; rfl
   | str x=>cases e1; rfl
   | _=>cases e1
def cq (kds:List (D×D)) (k:List Key):Option D:=(kds.find? λp=>decide (keyOf p.1=some k)).map (·.2)
def gj (kds:List (D×D)) (k:List Key) (d:D):List (D×D):=
 if (kds.any λp=>decide (keyOf p.1=some k))=true then kds.map (λp=>if keyOf p.1=some k then (p.1,d) else p) else kds ++ [(.tuple (k.map m7),d)]
theorem eh {p:D×D} {r:List (D×D)} {k:List Key} (e:keyOf p.1=some k):cq (p :: r) k=some p.2:=by simp [cq,aaS,e]
theorem ez {p:D×D} {r:List (D×D)} {k:List Key} (e:¬ keyOf p.1=some k):cq (p :: r) k=cq r k:=by simp [cq,aaS,e]
theorem lp (k:List Key):∀ kds:List (D×D),(kds.any λp=>decide (keyOf p.1=some k))=(cq kds k).isSome
 | []=>rfl
 | p :: r=>by
   rw [abO]
   by_cases e:keyOf p.1=some k
   .simp only [eh e,Zu e,Bool.true_or,Option.isSome_some]
   .rw [ez e,Zr e,Bool.false_or]; exact lp k r
theorem s8 (k j:List Key) (y:D):∀ kds:List (D×D),cq (kds.map λp=>if keyOf p.1=some k then (p.1,y) else p) j=(cq kds j).map λx=>if j=k then y else x
 | []=>rfl
 | p :: r=>by
   have ih:=s8 k j y r
   rw [Zn]
   by_cases h:keyOf p.1=some k
   .rw [Zk h]
    by_cases e:keyOf p.1=some j
    .rw [eh (p:=(p.1,y)) e,eh e,Z0,Zk (ZV (e.symm.trans h))]
    .rw [ez (p:=(p.1,y)) e,ez e,ih]
   .rw [Zj h]
    by_cases e:keyOf p.1=some j
    .rw [eh (p:=p) e,eh e,Z0,Zj (λz=>h (by rw [e,z]))]
    .rw [ez (p:=p) e,ez e,ih]
theorem tf (j:List Key):∀ a b:List (D×D),cq (a ++ b) j=(cq a j).or (cq b j)
 | [],b=>by rw [List.nil_append]; rfl
 | p :: r,b=>by
   rw [abi]
   by_cases e:keyOf p.1=some j
   .rw [eh e,eh e]; rfl
   .rw [ez e,ez e]; exact tf j r b
theorem Cd (kds:List (D×D)) (k j:List Key) (d:D):cq (gj kds k d) j=if j=k then some d else cq kds j:=by
 unfold gj
 by_cases a:(kds.any λp=>decide (keyOf p.1=some k))=true
 .rw [Zk a,s8]
  rw [lp] at a
  by_cases e:j=k
  .obtain ⟨x,hx⟩:=Option.isSome_iff_exists.mp a
   rw [Zk e,e,hx,Z0,Zk rfl]
  .rw [Zj e]
   cases cq kds j with
   | none=>rfl
   | some x=>rw [Z0,Zj e]
 .rw [Zj a,tf]
  rw [lp] at a
  have hk:keyOf (.tuple (k.map m7))=some k:=g9 k
  by_cases e:j=k
  .subst e
   have:cq kds j=none:=by
    cases q:cq kds j with
    | none=>rfl
    | some x=>rw [q] at a; exact (a rfl).elim
   rw [Zk rfl,this,eh hk]; rfl
  .rw [Zj e,ez (by rw [hk]; exact λz=>e (ZV z).symm)]
   exact Option.or_none
theorem lq (kds:List (D×D)) (k:List Key) (d:D):(gj kds k d).length<=kds.length + 1:=by
 unfold gj
 split
 .rw [Y7]; omega
 .rw [Zz,Zp,aaq]; omega
inductive DK (K:PySem.W.Frag) (H:Hp):List (List Key×V)->List (D×D)->Prop
 | nil:DK K H [] []
 | cons {k:List Key} {v:V} {d:D} {r:List (List Key×V)} {s:List (D×D)}:HD K H v d->DK K H r s->DK K H ((k,v) :: r) ((.tuple (k.map m7),d) :: s)
section
variable {K:PySem.W.Frag} {H H':Hp} {A:List Addr}
theorem DK.of:∀ {aH:List (List Key×V)} {kds:List (D×D)},kds.map (·.1)=aH.map (λp=>PyData.tuple (p.1.map m7))->cg K H (aH.map (·.2)) (kds.map (·.2))->DK K H aH kds
 | [],[],_,_=>.nil
 | [],_ :: _,e,_=>by simp at e
 | _ :: _,[],e,_=>by simp at e
 | (k,v) :: r,(x,d) :: s,e,h=>by
   simp only [Zn,List.cons.injEq] at e
   obtain ⟨e1,e2⟩:=e
   subst e1
   cases h with
   | cons h1 h2=>exact .cons h1 (DK.of e2 h2)
theorem DK.keys:∀ {aH:List (List Key×V)} {kds:List (D×D)},DK K H aH kds->kds.map (·.1)=aH.map (λp=>PyData.tuple (p.1.map m7))
 | _,_,.nil=>rfl
 | _,_,.cons _ t=>by rw [Zn,Zn,DK.keys t]
theorem DK.vals:∀ {aH:List (List Key×V)} {kds:List (D×D)},DK K H aH kds->cg K H (aH.map (·.2)) (kds.map (·.2))
 | _,_,.nil=>.nil
 | _,_,.cons h t=>.cons h (DK.vals t)
theorem DK.own {aH:List (List Key×V)} {kds:List (D×D)} (h:DK K H aH kds):yL K H (.dT aH) (.dict kds):=.rF h.keys h.vals
theorem DK.same {aH:List (List Key×V)} {kds:List (D×D)} (s:aA H H') (h:DK K H aH kds):DK K H' aH kds:=DK.of h.keys (h.vals.same s)
theorem DK.len:∀ {aH:List (List Key×V)} {kds:List (D×D)},DK K H aH kds->aH.length=kds.length
 | _,_,.nil=>rfl
 | _,_,.cons _ t=>by rw [Zp,Zp,DK.len t]
theorem DK.look (k:List Key):∀ {aH:List (List Key×V)} {kds:List (D×D)},DK K H aH kds->(∀ d,cq kds k=some d->∃ v,mW aH k=some v /\ HD K H v d) /\ (cq kds k=none->mW aH k=none)
 | _,_,.nil=>⟨λd e=>(by cases e),λ_=>rfl⟩
 | _,_,.cons (k:=j) (v:=v) (d:=d) (r:=r) (s:=s) h t=>by
   have hj:keyOf (.tuple (j.map m7))=some j:=g9 j
   by_cases e:j=k
   .subst e
    rw [eh (p:=(PyData.tuple (j.map m7),d)) hj,mX (p:=(j,v)) rfl]
    exact ⟨λd' q=>by cases q; exact ⟨v,rfl,h⟩,λq=>by cases q⟩
   .rw [ez (p:=(PyData.tuple (j.map m7),d)) (by rw [hj]; exact λz=>e (ZV z)),mY (p:=(j,v)) e]
    exact DK.look k t
theorem DK.rep (k:List Key) {v:V} {d:D} (hv:HD K H v d):∀ {aH:List (List Key×V)} {kds:List (D×D)},DK K H aH kds->DK K H (aH.map λkv=>if kv.1=k then (kv.1,v) else kv) (kds.map λp=>if keyOf p.1=some k then (p.1,d) else p)
 | _,_,.nil=>.nil
 | _,_,.cons (k:=j) h t=>by
   have hj:keyOf (.tuple (j.map m7))=some j:=g9 j
   rw [Zn,Zn]
   by_cases e:j=k
   .subst e
    rw [Zk rfl,Zk hj]; exact .cons hv (DK.rep j hv t)
   .rw [Zj e,Zj (by rw [hj]; exact λz=>e (ZV z))]; exact .cons h (DK.rep k hv t)
theorem DK.app:∀ {a:List (List Key×V)} {b:List (D×D)} {a':List (List Key×V)} {b':List (D×D)},DK K H a b->DK K H a' b'->DK K H (a ++ a') (b ++ b')
 | _,_,_,_,.nil,q=>q
 | _,_,_,_,.cons h t,q=>.cons h (DK.app t q)
theorem DK.put {aH:List (List Key×V)} {kds:List (D×D)} (h:DK K H aH kds) (k:List Key) {v:V} {d:D} (hv:HD K H v d):DK K H (putK aH k v) (gj kds k d):=by
 have e:(aH.any λkv=>decide (kv.1=k))=kds.any λp=>decide (keyOf p.1=some k):=by
  rw [p8,lp]
  cases q:cq kds k with
  | none=>rw [(h.look k).2 q]; rfl
  | some x=>obtain ⟨w,hw,_⟩:=(h.look k).1 x q; rw [hw]; rfl
 unfold putK gj
 rw [e]
 split
 .exact h.rep k hv
 .exact h.app (.cons hv .nil)
theorem gK.dk {x:V} {kds:List (D×D)} (h:gK K A H x (.dict kds)) (hf:BP kds=false):∃ a aH,x=.ref a /\ H a=some (.dT aH) /\ DK K (wo H A) aH kds:=
 let ⟨a,aH,e,h1,h2,h3⟩:=h.dict hf; ⟨a,aH,e,h1,DK.of h2 h3⟩
theorem gK.key {y:V} {d:D} {k:List Key} (h:gK K A H y d) (e:keyOf d=some k):∃ b,y=.ref b /\ cV H b (k.map kV):=by
 cases d with
 | tuple ds=>
   obtain ⟨b,ys,rfl,hb,hd⟩:=h.O7
   exact ⟨b,rfl,by rw [<- sZ hd e]; exact hb⟩
 | _=>cases e
end
def qC (gd gk:DS->Option D):DS->Option D:=λδ=>(gd δ).bind λx=>(gk δ).bind λy=>match x with
 | .dict kds=>if BP kds=true then none else (keyOf y).bind λk=>cq kds k
 | _=>none
def l7 (gd gk ge:DS->Option D):DS->Option D:=λδ=>(gd δ).bind λx=>(gk δ).bind λy=>(ge δ).bind λz=>match x with
 | .dict kds=>if BP kds=true then none else (keyOf y).bind λk=>some ((cq kds k).getD z)
 | _=>none
def ti (i:Nat) (gk ge:DS->Option D):DS->Option Res:=λδ=>(ge δ).bind λd=>(ae i δ).bind λx=>(gk δ).bind λy=>match x with
 | .dict kds=>(keyOf y).bind λk=>if kds.length < 100000 then some (.nx (δ.set i (some (.dict (gj kds k d))))) else none
 | _=>none
def Ec (i:Nat) (g:DS->Option (List (D×D))):DS->Option Res:=λδ=>(g δ).bind λd=>some (.nx (δ.set i (some (.dict d))))
def zd (gk ge:DS->Option D):DS->Option (List (D×D)):=λδ=>(gk δ).bind λy=>(ge δ).bind λd=>(keyOf y).bind λk=>some [(.tuple (k.map m7),d)]
def Vd (K:PySem.W.Frag) (O:List Nat) (g:DS->Option (List (D×D))):TE:=λσ H Q=>∃ U A0 δ kds,Rel K O U A0 σ δ H /\ g δ=some kds /\
 ∀ r aH H',aA H H'->H r=none->H' r=some (.dT aH)->DK K (wo H' (r :: (U ++ A0))) aH kds->Q (.ref r) H'
section
variable {X:Cx} {O:List Nat} {fr:Bool} {st:Stmt} {gd gk ge:DS->Option D} {gl:DS->Option (List (D×D))} {o i e f value:Expr} {pos apos gf:Pos}
set_option tactic.hygienic true in
theorem ur (hu:X.A.units + 1 < cLine) (ho:PE X o (iT X.K O gd)) (hi:PE X i (iT X.K O gk)) (hs:L5 i:=by intro _ _; rfl):PE X (.Subscript o i pos) (tE X.K O (qC gd gk)):=(G9 hu ho hi hs).mono λσ H Q hh=>hh.e λU A0 δ d R ed q=>by
 obtain ⟨x,e1,e2⟩:=bind1 ed
 obtain ⟨y,e3,e4⟩:=bind1 e2
 refine ⟨U,A0,δ,x,R,e1,λv H1 s1 h1=>⟨U,A0,δ,y,R.same s1,e3,λv2 H2 s2 h2=>?_⟩⟩
 cases x with
 | dict kds=>
   have e4:(if BP kds=true then none else (keyOf y).bind λk=>cq kds k)=some d:=e4
   split at e4
   .cases e4
   rename_i hf
   have hf:=Bool.eq_false_iff.mpr hf
   obtain ⟨k,e5,e6⟩:=bind1 e4
   obtain ⟨a,aH,rfl,ha,dk⟩:=(h1.same s2).dk hf
   obtain ⟨b,rfl,hb⟩:=h2.key e5
   obtain ⟨w,hw,hd⟩:=(dk.look k).1 d e6
   refine ⟨a,w,rfl,?_,q w H2 (s1.trans s2) hd⟩
   rw [<- hw]; exact tY.t ha hb
 | _=>cases e4
set_option tactic.hygienic true in
theorem qE (hu:X.A.units + 1 < cLine) (ho:PE X o (iT X.K O gd)) (hi:PE X e (iT X.K O gk)) (hx:PE X f (tE X.K O ge)) (m:M2 X o "get" apos e f gf:=by exact ⟨rfl,rfl,rfl,rfl⟩):PE X (.Call (.Attribute o "get" apos) [e,f] [] gf) (tE X.K O (l7 gd gk ge)):=(Dv hu ho hi hx m).mono λσ H Q hh=>hh.e λU A0 δ d R ed q=>by
 obtain ⟨x,e1,e2⟩:=bind1 ed
 obtain ⟨y,e3,e4⟩:=bind1 e2
 obtain ⟨z,e5,e6⟩:=bind1 e4
 refine ⟨U,A0,δ,x,R,e1,λv H1 s1 h1=>?_⟩
 cases x with
 | dict kds=>
   have e6:(if BP kds=true then none else (keyOf y).bind λk=>some ((cq kds k).getD z))=some d:=e6
   split at e6
   .cases e6
   rename_i hf
   have hf:=Bool.eq_false_iff.mpr hf
   obtain ⟨k,e7,e8⟩:=bind1 e6
   cases e8
   obtain ⟨a,aH,rfl,ha,dk⟩:=h1.dk hf
   refine ⟨a,rfl,.inr ⟨_,.inl ha⟩,U,A0,δ,y,R.same s1,e3,λv2 H2 s2 h2=>⟨U,A0,δ,z,(R.same s1).same s2,e5,λv3 H3 s3 h3=>?_⟩⟩
   obtain ⟨b,rfl,hb⟩:=(h2.same s3).key e7
   have Ve:=dk.same (bR (A:=U ++ A0) (s2.trans s3))
   refine ⟨mW aH k,tY.t ((s2.trans s3) _ _ ha) hb,q _ H3 (s1.trans (s2.trans s3)) ?_⟩
   cases w:cq kds k with
   | none=>rw [(Ve.look k).2 w]; exact h3
   | some d'=>obtain ⟨w',WI,GA⟩:=(Ve.look k).1 d' w; rw [WI]; exact GA
 | _=>cases e6
set_option tactic.hygienic true in
theorem AB {i:Nat} (h:PS X st (J0 (pT i) (iT X.K O gk) (tE X.K O ge))) (hi:i∈O:=by decide):PS X st (tS X.K O fr (ti i gk ge)):=h.mono λE σ H hh=>hh.e λH0 U A0 δ r R F ed P=>by
 obtain ⟨d,e1,e2⟩:=bind1 ed
 obtain ⟨x,e3,e4⟩:=bind1 e2
 obtain ⟨y,e5,e6⟩:=bind1 e4
 obtain ⟨l,o,hl,hU,h1,h2⟩:=R.ow i x hi (join_some e3)
 cases h2 with
 | lst _=>cases e6
 | rF kk hv=>
   obtain ⟨k,e7,e8⟩:=bind1 e6
   split at e8
   .rename_i hz
    cases e8
    refine ⟨U,A0,δ,d,R,e1,λv H1 s1 WJ=>⟨.ref l,hl,U,A0,δ,y,R.same s1,e5,λv2 H2 s2 h3=>?_⟩⟩
    obtain ⟨b,rfl,hb⟩:=h3.key e7
    have dk:=DK.of kk hv
    have hlen:=dk.len
    have WK:=dk.same (bR (A:=U ++ A0) (s1.trans s2))
    refine ⟨l,_,rfl,Dr.t ((s1.trans s2) _ _ h1) hb (yJ (by omega)),?_⟩
    exact P U σ _ ((R.same (s1.trans s2)).Pa hi hl hU (WK.put k (WJ.same (bR s2))).own ⟨_,join_some e3⟩) ((F.grow (s1.trans s2)).put hU _)
   .cases e8
theorem AD {i:Nat} (h:PS X st (pW (Vd X.K O gl) (iY i))) (hi:i∈O:=by decide):PS X st (tS X.K O fr (Ec i gl)):=h.mono λE σ H hh=>hh.e λH0 U A0 δ r R F ed P=>by
 obtain ⟨d,e1,e2⟩:=bind1 ed
 cases e2
 exact ⟨U,A0,δ,d,R,e1,λr aH H' s hr h1 h2=>P (r :: U) _ H' (R.O8 s hr h1 h2.own hi) (F.more s hr)⟩
theorem Rel.PN {K:PySem.W.Frag} {O:List Nat} {U A0:List Addr} {σ:St} {δ:DS} {H H':Hp} (R:Rel K O U A0 σ δ H) (s:aA H H') {r:Addr} {o:HO} (hr:H r=none) (h:H' r=some o) (ho:DE o):Rel K O U (r :: A0) σ δ H':=by
 have k:aA (wo H (U ++ A0)) (wo H' (U ++ (r :: A0))):=λb o q=>by
  obtain ⟨h1,h2⟩:=fU q
  rw [bp]
  .exact s b o h2
  .simp only [ZC,Y6,ac9] at h1 ⊢
   exact ⟨h1.1,aN h2 hr,h1.2⟩
 exact {
  len:=R.len
  fz:=λi d hi e=>let ⟨v,a,b⟩:=R.fz i d hi e; ⟨v,a,b.same k⟩
  ow:=λi d hi e=>let ⟨l,o,a,c,f,g⟩:=R.ow i d hi e; ⟨l,o,a,c,s _ _ f,g.same k⟩
  inj:=R.inj
  al:=⟨λa ha=>by
   simp only [ZC,Y6] at ha
   rcases ha with z | z | z
   .exact (R.al.same s).1 a (by simp [z])
   .subst z; exact ⟨_,h,ho⟩
   .exact (R.al.same s).1 a (by simp [z]),(R.al.same s).2⟩ }
def MO (tk tv:TE):TE:=λσ H Q=>∀ p,H p=none->yI [(tk,tv)] σ (upd H p (.dT [])) λps H2=>H2 p=some (.dT []) /\ ∃ b ks y,ps=[(.ref b,y)] /\ cV H2 b (ks.map kV) /\ Q (.ref p) (upd H2 p (.dT [(ks,y)]))
theorem Ed {k v:Expr} {tk tv:TE} (hu:X.A.units + 1 < cLine) (hk:PE X k tk) (hv:PE X v tv):PE X (.Dict [some k] [v] pos) (MO tk tv):=by
 intro pins s σ H Q I q
 have hn:=I.cf.fresh (Ze s.heap.objs.size)
 have I1:=I.laid (a:=s.heap.objs.size) (o:=.dT []) (h':=s.heap.push { cls:=.type "dict",data:=.dict #[] }) (t':=s.toks) (λ_ _ q=>Y5 _ q) (Ze _) (Ds s.heap I.UP)
 have pp:Rq X pos [some k] [v] [(tk,tv)]:=Du hk hv Ha
 refine wpAny_Dict_any rfl rfl (by simp) (by simp) (d6 (pp pins _ σ _ _ I1 (q _ hn)) λws s2 ⟨ps,H2,I2,rel,e,b,ks,y,e2,e4,q2⟩=>?_)
 subst e2
 cases rel with
 | @cons _ w _ _ h t=>
   cases t
   obtain ⟨u1,u2⟩:=w
   obtain ⟨r1,r2⟩:=h
   cases (show u1=Value.ref b from r1)
   have hf:storeAll s.heap.objs.size [(Value.ref b,u2)]=(do dictSet s.heap.objs.size (Value.ref b) u2):=by
    unfold storeAll
    rw [List.forIn_cons]
    simp
   rw [hf]
   obtain ⟨z,hd,xs,rl,dd⟩:=JZ I2.cf e
   cases rl
   refine wpAny_dictSet_heap (show X.A.units < cLine by omega) (p9 I2.cf e4) dd (λh' NZ hs=>⟨.ref s.heap.objs.size,_,?_,rfl,q2⟩) (aah _)
   obtain ⟨q,es,ep,hq,h2,h3,h4,_,h5⟩:=NZ
   have Tq:KT H2 [] []:=.nil
   refine tZ I2 (by rw [e]; exact True.intro) hs ⟨q,hq⟩ ⟨small (by simp),hd,_,(Tq.put ks e4 r2).keeps λc ys ec=>?_,q,es,ep,hq,h2,h3,h4,h5⟩
   exact ec.dT e
theorem w8 {k v:Expr} (hu:X.A.units + 1 < cLine) (hk:PE X k (iT X.K O gk)) (hv:PE X v (tE X.K O ge)):PE X (.Dict [some k] [v] pos) (Vd X.K O (zd gk ge)):=(Ed hu hk hv).mono λσ H Q ⟨U,A0,δ,d,R,ed,q⟩ p hp=>by
 obtain ⟨y,e1,e2⟩:=bind1 ed
 obtain ⟨d',e3,e4⟩:=bind1 e2
 obtain ⟨ks,e5,e6⟩:=bind1 e4
 cases e6
 have s0:=cx hp (.dT [])
 have R0:Rel X.K O U (p :: A0) σ δ (upd H p (.dT [])):=R.PN s0 hp bC trivial
 refine ⟨U,p :: A0,δ,y,R0,e1,λv H1 s1 h1=>⟨U,p :: A0,δ,d',R0.same s1,e3,λw H2 s2 h2=>?_⟩⟩
 obtain ⟨b,rfl,hb⟩:=(h1.same s2).key e5
 have PH:H2 p=some (.dT []):=(s1.trans s2) _ _ bC
 refine ⟨PH,b,ks,w,rfl,hb,q p _ _ (s0.trans (s1.trans s2) |>.upd hp _) hp bC ?_⟩
 have ew:wo (upd H2 p (.dT [(ks,w)])) (p :: (U ++ A0))=wo H2 (p :: (U ++ A0)):=DD (by simp)
 rw [ew]
 exact .cons (h2.same (iG λa ha=>by simp only [ZC,Y6] at ha ⊢; rcases ha with z | z | z; exact .inr (.inl z); exact .inl z; exact .inr (.inr z))) .nil
end
end L2
namespace LS
open PySem PySem.Spec PyProof.Rows
section
variable {prog:Program} {w:World} {A:Around} {E:Value->Shared->Prop} {s:Shared}
theorem Tr {T nw:String} {Bn:Builtin} {us:List Value} {kw:List (Str×Value)} {S:PySem.Spec} {Q:Value->Shared->Prop} (ft:TypeCalled T nw "object.__init__") (c1:checkTypeCall T ⟨us,kw⟩=pure ()) (c2:checkBuiltinCall nw ⟨.type T :: us,kw⟩=pure ())
  (en:entryFor table nw=some Bn) (g:Meets (Bn ⟨.type T :: us,kw⟩) S) (c3:∀ o,argsOk "object.__init__" ⟨o :: us,kw⟩) (gi:∀ o,Meets (Builtin.«object.__init__» ⟨o :: us,kw⟩) (λ_ R s=>s.TypeIs o T /\ R (.ok (.ret .none)) s))
  (h:S A.in1 (wants (λo s1=>s1.TypeIs o T /\ Q o s1) E) s):wpAny (model prog w) A (call (.type T) us kw) Q E s:=by
 obtain ⟨hc,tl,hm⟩:=ft.mro
 have k1:=ft.made
 have k2:=ft.sub
 have k3:=ft.notType
 have k4:=ft.canCreate
 refine wpAny_call (codeAny_of_tree (show wpAny _ _ (callAny (.type T) _) _ _ _ from Zc ⟨Code.quiet_builtin _ (by decide +kernel),aaL F.entry_type_call ?_⟩))
 rw [Around.under_plain (weight_type_call_type T us kw) (units_type_call_type T us kw)]
 repeat any_goals first | assumption | wp_step
 refine aa3 (aci ft.plain en (acI c2 (g prog w A.in1 _ s h))) λr s1 hr=>?_
 cases r with
 | error e=>exact hr
 | ok fl=>
   cases fl with
   | ret o=>
     obtain ⟨hT,hq⟩:=hr
     have k5:=ft.init.lookup
     have k6:=ft.init.bind o
     repeat any_goals first | assumption | wp_step
     refine aa3 (aci ft.init.plain F.entry_object_init (ft.init.check _ _ _ _ _ _ _ _ hT (c3 o) (gi o prog w A.in1 (wants (λr s2=>r=.none /\ Q o s2) E) s1 ⟨hT,rfl,hq⟩))) λr2 s2 PQ=>?_
     cases r2 with
     | error e=>exact PQ
     | ok f2=>
       cases f2 with
       | ret r=>
         obtain ⟨rfl,q2⟩:=PQ
         repeat any_goals first | assumption | wp_step
       | _=>exact PQ.elim
   | _=>exact hr.elim
end
theorem initK {T nw:String} {o:Value} {us:List Value} {kw:List (Str×Value)} (hl:typeLookup (.type T) "__init__"=pure (some (.builtin "object.__init__"))) (hm:Bind.madeBy (.type T)=pure (some nw)) (ik:(some nw != some "object.__new__")=true) (u:Value):
  Meets (Builtin.«object.__init__» ⟨o :: u :: us,kw⟩) (λ_ R s=>s.TypeIs o T /\ R (.ok (.ret .none)) s):=by
 refine Meets.of_wp λprog w A R s hs=>?_
 obtain ⟨hT,hq⟩:=hs
 repeat any_goals first | assumption | wp_step
 exact ⟨_,rfl,hq⟩
theorem WL (a b:Value):checkTypeCall "enumerate" ⟨[a],[("start",b)]⟩=pure ():=by kernel_rfl
theorem WM (a b:Value):checkBuiltinCall "enumerate.__new__" ⟨[.type "enumerate",a],[("start",b)]⟩=pure ():=by kernel_rfl
theorem WN (o a b:Value):argsOk "object.__init__" ⟨[o,a],[("start",b)]⟩:=by kernel_rfl
set_option maxHeartbeats 1000000 in
set_option tactic.hygienic true in
theorem Ts (l:Addr) (items:Array Value) (n:Nat) (rF:Option Addr) (sl:Array (Option Value)) (t:Tok):
  Meets (Builtin.«enumerate.__new__» ⟨[.type "enumerate",.ref l],[("start",.int 1 t)]⟩) (λ_ R s=>s.heap.get? l=some { cls:=.type "tuple",dict:=rF,data:=.seq items n,slots:=sl } /\
   R (.ok (.ret (.ref (s.heap.push { cls:=.type "tuple_iterator",data:=.fields #[.ref l,.int 0 0] }).objs.size)))
     { s with heap:=(s.heap.push { cls:=.type "tuple_iterator",data:=.fields #[.ref l,.int 0 0] }).push { cls:=.type "enumerate",data:=.fields #[.none,.bool false,.ref s.heap.objs.size,rawInt 1,.none,.none] } }):=
 .of_wp λprog w A R s h=>by
  obtain ⟨hp,g,d,tk,os⟩:=s; obtain ⟨hl,h⟩:=h
  have wM:=sub_enumerate
  have hL:Heap.IsTuple (Shared.heap ⟨hp,g,d,tk,os⟩) l items:=⟨_,hl,rfl,n,rfl⟩
  wp_walk using AutoSeq1.wpAny_loadPart' hl
  refine wpAny_stack_any λst=>Zc ?_
  split
  .rename_i c _ _ _ _ _
   cases (c == Value.type "enumerate")
   .wp_walk using AutoSeq1.wpAny_loadPart' hl,wpAny_pyIter_tuple hL
    exact ⟨_,rfl,h⟩
   .wp_walk using AutoSeq1.wpAny_loadPart' hl,wpAny_pyIter_tuple hL
    exact ⟨_,rfl,h⟩
  .wp_walk using AutoSeq1.wpAny_loadPart' hl,wpAny_pyIter_tuple hL
   exact ⟨_,rfl,h⟩
section
variable {prog:Program} {w:World} {A:Around} {E:Value->Shared->Prop} {s:Shared}
theorem ze {l:Addr} {items:Array Value} {t:Tok} {Q:Value->Shared->Prop} (hL:s.heap.IsTuple l items)
  (h:∀ h',IsEnum h' (s.heap.objs.size + 1) s.heap.objs.size 1 .none->h'.IsTupleIter s.heap.objs.size l 0->h'.objs.size=s.heap.objs.size + 2->(∀ b o,s.heap.get? b=some o->h'.get? b=some o)->Q (.ref (s.heap.objs.size + 1)) { s with heap:=h' }):
  wpAny (model prog w) A (call (.type "enumerate") [.ref l] [("start",.int 1 t)]) Q E s:=by
 obtain ⟨⟨c,rF,dt,sl⟩,hl,hc,n,hd⟩:=hL
 simp only at hc hd
 subst hc hd
 refine Tr aba (WL _ _) (WM _ _) PySem.F.entry_enumerate_new (Ts l items n rF sl t) (λo=>WN o _ _) (λo=>initK aba.init.lookup aba.made (by decide) _) ⟨hl,?_⟩
 have hz:(s.heap.push { cls:=.type "tuple_iterator",data:=.fields #[.ref l,.int 0 0] }).objs.size=s.heap.objs.size + 1:=aaQ ..
 show _ /\ _
 rw [hz]
 have he:IsEnum ((s.heap.push { cls:=.type "tuple_iterator",data:=.fields #[.ref l,.int 0 0] }).push { cls:=.type "enumerate",data:=.fields #[.none,.bool false,.ref s.heap.objs.size,rawInt 1,.none,.none] }) (s.heap.objs.size + 1) s.heap.objs.size 1 .none:=by
  have q:=Zh (s.heap.push { cls:=.type "tuple_iterator",data:=.fields #[.ref l,.int 0 0] }) (o:={ cls:=.type "enumerate",data:=.fields #[.none,.bool false,.ref s.heap.objs.size,rawInt 1,.none,.none] }) rfl
  rw [hz] at q; exact q
 exact ⟨⟨_,he,rfl⟩,h _ he ⟨_,Y5 _ (Zh _ rfl),rfl,rfl⟩ (by rw [aaQ,hz]) λb o x=>Y5 _ (Y5 _ x)⟩
theorem w9 {it:Addr} {fp:List Addr} {n:Nat} {P:Nat->Value->Prop} {St:Nat->Heap->Prop} (d:Draws prog w A it fp n P St):Draws prog w A it fp (n + 1) (λi v=>∃ j,i=j + 1 /\ P j v) (λi h=>∃ j,i=j + 1 /\ St j h) where
 live:=λ_ h ⟨j,_,q⟩=>d.live j h q
 frame:=λ_ h h' ⟨j,e,q⟩ k=>⟨j,e,d.frame j h h' q k⟩
 item:=λi s Q E hi ⟨j,e,q⟩ hQ=>d.item j s Q E (by omega) q λx h' tk p st sb=>hQ x h' tk ⟨j,e,p⟩ ⟨j + 1,by omega,st⟩ sb
 done:=λs Q E ⟨j,e,q⟩ hE=>d.done s Q E ((show j=n by omega) ▸ q) hE
theorem qF {M:Model} {env:Env} {pos:Pos} {T:String} {e:Expr} {es:List Expr} {kws:List Keyword} {Q:Value->Shared->Prop}
  (h:wpAny M A (spliced (backTo pos (starEach (e :: es) env))) (λvs s1=>wpAny M A (evalAll ((backToKw pos (keywordEach kws env)).map (·.2))) (λks s2=>wpAny M A (call (.type T) vs (((backToKw pos (keywordEach kws env)).filterMap (·.1)).zip ks)) Q E s2) E s1) E s)
  (he:backTo pos (starEach (e :: es) env)=(false,eval e env) :: backTo pos (starEach es env)) (hp:(backTo pos (starEach (e :: es) env)).any (·.1)=false) (ha:(backToKw pos (keywordEach kws env)).all (·.1.isSome)=true) (hk:(backToKw pos (keywordEach kws env)).any (·.1.isNone)=false):
  wpAny M A (callWith pos (.type T) [] (backTo pos (starEach (e :: es) env)) (backToKw pos (keywordEach kws env))) Q E s:=by
 have h1:wpAny M A (evalArgs (.type T) true (backTo pos (starEach (e :: es) env)) (backToKw pos (keywordEach kws env))) (λa s1=>wpAny M A (call (.type T) a.pos a.kw) Q E s1) E s:=by
  rw [he] at h ⊢
  exact evalArgs_kwB ha h
 unfold callWith
 refine Y3 (aaX (ZM h1 (λa s1 q=>Y3 (acf ?_)) λ_ _ x=>x))
 simp only [hp,hk,Bool.or_false]
 exact Y3 (Zc (Y3 (ZM q (λr s2 hr=>Y3 (aaX (wpAny_point (Zc hr)))) λ_ _ x=>x)))
end
end LS
namespace L2
open PySem PySem.Spec PyProof.Rows LS
def PR (K:PySem.W.Frag) (a:Addr):It:=
 ⟨λi H=>∃ xs x,iX K H a xs /\ xs[i]?=some x,λi H x H'=>∃ p v,H p=none /\ x=.ref p /\ H'=upd H p (.tup [.int ((i:Int) + 1),v]) /\ ∀ xs,iX K H a xs->xs[i]?=some v,λi H=>∃ xs,iX K H a xs /\ xs.length=i⟩
theorem zf {P:Program} {w:World} {K:PySem.W.Frag} {es:List Expr} {kk} {jl:Pos} (a e it:Addr) (ik:e≠it):Turn P w K (.Tuple es kk jl) (PR K a) [e,it] e (λi h=>(∃ old,IsEnum h e it ((i:Int) + 1) old) /\ h.IsTupleIter it a i) where
 mem:=by simp
 obj:=λi h st b hb=>by
  obtain ⟨⟨old,he⟩,o,ho,c,d⟩:=st
  rcases Y6.mp hb with z | z
  .subst z; exact ⟨_,he,λv z=>by cases z⟩
  .have z:b=it:=by simpa using z
   subst z; exact ⟨o,ho,λv z=>by rw [d] at z; cases z⟩
 keep:=λi h h' st k=>by
  obtain ⟨⟨old,he⟩,cR⟩:=st
  exact ⟨⟨old,k e (by simp) _ he⟩,cR.at λo eo=>k it (by simp) o eo⟩
 item:=by
  intro X hP hw hK hc i pins s σ H E I hf st hg
  subst hP hw hK
  obtain ⟨xs,x,hq,hx⟩:=hg
  obtain ⟨its,rv,p,hz⟩:=I.tuple hq
  obtain ⟨u,hu,ru⟩:=rv.get hx
  obtain ⟨⟨old,he⟩,cR⟩:=st
  have hp:s.heap.IsTuple a its.toArray:=p
  have To:e≠a:=λz=>by
   obtain ⟨o,ho,n6,_⟩:=hp
   rw [<- z] at ho
   have:=ho.symm.trans he
   cases this
   exact absurd (abh n6) (by decide)
  have MJ:a≠it:=λz=>by
   obtain ⟨o,ho,n6,_⟩:=hp
   obtain ⟨o2,nO,qB,_⟩:=cR
   rw [z] at ho
   have:=ho.symm.trans nO
   cases this
   rw [n6] at qB
   exact absurd (abh qB) (by decide)
  have Km:i < its.toArray.size:=by
   have:=(Zd.mp hu).1
   simpa using this
  refine wpAny_pyNext_enum_itemD (i:=i + 1) (LS.w9 (ip (A:=X.A.in1) (I.ok.hd hc) it a MJ its.toArray)) (by push_cast; exact he) ⟨i,rfl,cR,hp⟩ (Nat.succ_lt_succ Km) ik (by simp [ik,To]) λy h1 tk hy Bw Ea Mt N2 yk=>?_
  obtain ⟨j,ej,hy⟩:=hy
  obtain ⟨j',WO,Ea⟩:=Ea
  cases ej
  cases WO
  push_cast at Bw Mt
  have Tp:y=u:=by
   have h3:its.toArray[i]?=some u:=by simpa using hu
   have h4:its.toArray[i]?=some y:=hy
   rw [h3] at h4; cases h4; rfl
  subst Tp
  refine ⟨_,rfl,aby Bw λh2 Mk mN=>?_⟩
  replace mN:Heap.SameBut e h1 h2:=mN
  have Ke:e < s.heap.objs.size:=Zf he
  have I1:Inv X pins σ H { s with heap:=h2,toks:=tk + 1 }:=I.gM (t':=tk + 1) (ch:=[e,it]) (λb o hb eo=>by
   simp only [Y6,ZS,aa5,ac9] at hb
   exact (mN.2 b hb.1).trans (yk b o hb.1 hb.2 eo)) hf
  have N3:IsTup h2 s.heap.objs.size [Value.int ((i:Int) + 1) tk,y].toArray:=⟨_,(mN.2 _ (aa2 Ke)).trans Mt,rfl,_,rfl⟩
  have o8:H s.heap.objs.size=none:=I.cf.fresh (Ze _)
  have fo:=I.oZ (H':=H) (Ze _) o8
  have I2:Inv X pins σ (upd H s.heap.objs.size (.tup [.int ((i:Int) + 1),x])) { s with heap:=h2,toks:=tk + 1 }:=I1.yT o8 (ZQ I.sz (Ze _)) fo.2.1 fo.2.2.2.2.1 fo.2.2.2.2.2 N3 (.cons ⟨_,rfl⟩ (.cons ru .nil)) (by show 2<=sizeLine; decide)
  refine ⟨.ref s.heap.objs.size,_,I2,rfl,⟨_,x,o8,rfl,rfl,λys hy=>by rw [I.nQ hy hq]; exact hx⟩,⟨⟨y,by push_cast; exact Mk⟩,Ea.1.extBut mN.extBut (abd ik)⟩,λb hb=>?_⟩
  have fg:b < s.heap.objs.size:=by
   rcases Y6.mp hb with z | z
   .subst z; exact Ke
   .have z:b=it:=by simpa using z
    subst z
    obtain ⟨o,ho,_⟩:=cR
    exact Zf ho
  rw [aI (Zs fg)]
  exact (hf b hb).1
 done:=by
  intro X hP hw hK hc i pins s σ H E I hf st hg
  subst hP hw hK
  obtain ⟨xs,hq,hx⟩:=hg
  obtain ⟨its,rv,p,hz⟩:=I.tuple hq
  obtain ⟨⟨old,he⟩,cR⟩:=st
  have hp:s.heap.IsTuple a its.toArray:=p
  have MJ:a≠it:=λz=>by
   obtain ⟨o,ho,n6,_⟩:=hp
   obtain ⟨o2,nO,qB,_⟩:=cR
   rw [z] at ho
   have:=ho.symm.trans nO
   cases this
   rw [n6] at qB
   exact absurd (abh qB) (by decide)
  have hl:=rv.length
  have hsz:its.toArray.size=i:=by rw [Zm,<- hl]; exact hx
  refine wpAny_pyNext_enum_endD (LS.w9 (ip (A:=X.A.in1) (I.ok.hd hc) it a MJ its.toArray)) he ⟨_,rfl,by rw [hsz]; exact cR,hp⟩ λh1 eb=>⟨rfl,?_⟩
  exact I.gM (t':=s.toks) (ch:=[e,it]) (λb o hb eo=>eb b o (λz=>hb (by simp [z])) eo) hf
 self:=λ_ _ _ _ _ st h=>by
  obtain ⟨⟨old,he⟩,_⟩:=st
  exact aa6 he h
section
variable {X:Cx} {O:List Nat} {a:Expr} {ge:DS->Option D} {p pos:Pos} {es:List Expr} {kk} {jl:Pos}
def MP (K:PySem.W.Frag) (ta:TA):TI:=λσ H R=>ta σ H λvs H1=>∃ a xs,vs=[.ref a] /\ iX K H1 a xs /\ R (PR K a) H1
theorem Ee {ta:TA} {jj} {cp kp:Pos} (hg:Gl X "enumerate") (hm:X.mg "enumerate"=none) (ha:PA X [a] ta) (hs:starEach [a] X.env=[(false,eval a X.env)]:=by rfl):PI X (.Tuple es kk jl) (.Call (.Name "enumerate" p) [a] [⟨some "start",.Constant (.int 1) jj cp,kp⟩] pos) (MP X.K ta):=by
 intro pins s σ H R I h
 refine abm (iF I hg hm jr (LS.qF (d6 (ha pos pins s σ H _ I h) λus s1 ⟨vs,H1,I1,r1,q1⟩=>?_) (by rw [hs]; rfl) (by rw [hs]; rfl) rfl rfl))
 obtain ⟨b,xs,e,hq,q⟩:=q1
 subst e
 obtain ⟨u,rfl,ru⟩:=vals1 r1
 cases ru
 refine PyProof.Rows.evalAll_cons (Y3 (d6 (aK pins s1 σ H1 (λv H2=>v=V.int 1 /\ H2=H1) I1 ⟨rfl,rfl⟩) λkv s2 ⟨v,H2,I2,PU,e1,e2⟩=>Y3 (acf (Zc (PyProof.Rows.evalAll_nil ?_)))))
 subst e1 e2
 obtain ⟨t,rfl⟩:=PU
 obtain ⟨its,rv,pl,hz⟩:=I2.tuple hq
 refine LS.ze (show s2.heap.IsTuple b its.toArray from pl) λh' he hit hsz hk=>?_
 refine aa6 he ?_
 refine ⟨s2.heap.objs.size + 1,[s2.heap.objs.size + 1,s2.heap.objs.size],_,_,H2,rfl,I2.kept (t':=s2.toks) hk,zf b _ s2.heap.objs.size (ac0 _),⟨⟨_,he⟩,hit⟩,λb hb=>?_,q⟩
 have hle:s2.heap.objs.size<=b:=by
  simp only [Y6,ZS,aa5] at hb
  rcases hb with z | z
  .rw [z]; exact aaA _
  .rw [z]; exact Ze _
 exact I2.oZ hle (I2.cf.fresh hle)
def oN (l:List D):List D:=(l.zipIdx 1).map λp=>.tuple [.int (p.2:Nat),p.1]
theorem Ce (l:List D):(oN l).length=l.length:=by unfold oN; simp
theorem Cf {l:List D} {i:Nat} {d:D} (h:(oN l)[i]?=some d):∃ x,l[i]?=some x /\ d=.tuple [.int ((i:Int) + 1),x]:=by
 unfold oN at h
 rw [Zl,aa7] at h
 cases e:l[i]? with
 | none=>rw [e] at h; cases h
 | some x=>
   rw [e] at h
   simp only [Z0,aa4] at h
   refine ⟨x,rfl,?_⟩
   rw [<- h]
   push_cast
   rw [Int.add_comm]
def Ef (g:DS->Option D):DS->Option (List D):=λδ=>(g δ).bind λ| .tuple l=>some (oN l) | _=>none
theorem Eg {jj} {cp kp:Pos} (hm:X.mg "enumerate"=none) (ha:PE X a (tE X.K O ge)) (hg:Gl X "enumerate":=by rfl) (hs:starEach [a] X.env=[(false,eval a X.env)]:=by rfl) (Pm:starEach ([]:List Expr) X.env=[]:=by rfl):PI X (.Tuple es kk jl) (.Call (.Name "enumerate" p) [a] [⟨some "start",.Constant (.int 1) jj cp,kp⟩] pos) (tI X.K O (Ef ge)):=
 (Ee hg hm (bQ ha cZ (by rw [hs,Pm])) hs).mono λσ H Q hh=>hh.e λU A0 δ ds R ed q=>by
  obtain ⟨x,e1,e2⟩:=bind1 ed
  cases x with
  | tuple l=>
    cases e2
    refine ⟨U,A0,δ,_,R,e1,λv H' s h=>?_⟩
    cases h with
    | tup hq h=>
      refine ⟨_,_,rfl,.inl (cB.kj hq),q _ H' s ?_⟩
      intro A' i H2 s2 al
      have h2:=h.same s2
      have hL:iX X.K H2 _ _:=.inl (cB.kj (s2.kj hq))
      refine ⟨λd hd=>?_,λhi=>⟨_,hL,by rw [hi,Ce,h2.len]⟩⟩
      obtain ⟨y,hy,rfl⟩:=Cf hd
      obtain ⟨v,hv,Pn⟩:=h2.get hy
      refine ⟨⟨_,v,hL,hv⟩,λz H3 hz=>?_⟩
      obtain ⟨p,v',hp,rfl,rfl,Po⟩:=hz
      have:=Po _ hL
      rw [hv] at this
      cases this
      exact ⟨cx hp _,HD.wD al hp (.cons (.int _) (.cons Pn .nil))⟩
  | _=>cases e2
end
section
variable {X:Cx} {O:List Nat} {a b:Expr} {ga gb:DS->Option D} {p pos:Pos} {es:List Expr} {kk} {jl:Pos}
end
end L2
namespace L2
open PySem PySem.Spec PyProof.Rows
section
variable {X:Cx} {O:List Nat} {e:Expr}
theorem oO {p:Addr} {xs:List V} {ds:List D} (h:PE X e (tC (.ref p))) (m:(p,xs)∈bX) (hd:∀ H,cg X.K H xs ds):PE X e (tE X.K O (gC (.tuple ds))):=h.mono λσ H Q hh=>hh.e λU A0 δ d R ed q=>by
 cases ed
 exact q (.ref p) H (aA.refl H) (.tup (m8 (R.al.2.1 p xs m) R.al) (hd _))
end
theorem Eh:∀ {l:List (Addr×List V)} {p:Addr} {xs:List V},l.lookup p=some xs->(p,xs)∈l
 | [],_,_,h=>by cases h
 | (q,ys) :: l,p,xs,h=>by
   rw [ZR] at h
   by_cases e:p=q
   .subst e
    rw [acY] at h
    cases h
    exact Zb
   .rw [show (p == q)=false by simpa using e] at h
    exact Y8 _ (Eh h)
def dU (K0:PySem.W.Frag):PySem.W.Frag:=K0.filter λq=>(bX.lookup q.1).isNone
theorem jc (b:Addr):∀ K0:PySem.W.Frag,(dU K0).lookup b=if (bX.lookup b).isNone=true then K0.lookup b else none
 | []=>by simp [dU]
 | (c,o) :: r=>by
   have ih:=jc b r
   unfold dU at ih ⊢
   rw [abj]
   by_cases e:b=c
   .subst e
    by_cases q:(bX.lookup b).isNone=true
    .rw [Zk q,Zk q,ZR,ZR]; simp
    .rw [Zj q,Zj q]; rw [Zj q] at ih; exact ih
   .have e':(b == c)=false:=by simpa using e
    rw [ZR,e']
    by_cases q:(bX.lookup c).isNone=true
    .rw [Zk q,ZR,e']; exact ih
    .rw [Zj q]; exact ih
structure hJ (K0:PySem.W.Frag):Prop where
 one:∀ p xs,(p,xs)∈bX->bX.lookup p=some xs
 tup:∀ p xs,bX.lookup p=some xs->∃ (od:Option Addr) (its:Array Value) (n:Nat) (sl:Array (Option Value)),K0.lookup p=some ⟨.type "tuple",od,.seq its n,sl⟩ /\ xs.length<=sizeLine /\ bj xs its.toList
theorem hJ.look {K0:PySem.W.Frag} (C:hJ K0) {b:Addr} {o:Obj} (h:K0.lookup b=some o) (n:∀ its n,o.data≠.seq its n):(dU K0).lookup b=some o:=by
 rw [jc]
 cases q:bX.lookup b with
 | none=>exact h
 | some xs=>
   obtain ⟨od,its,k,sl,e,_⟩:=C.tup b xs q
   rw [h] at e; cases e
   exact absurd rfl (n its k)
theorem hJ.func {K0:PySem.W.Frag} (C:hJ K0) {x qual:Str} {st:Stmt} {f:Addr} {fd:FuncData} (F:Dq K0 x qual st f fd):Dq (dU K0) x qual st f fd:=by
 obtain ⟨⟨oc,od,kV,doc,pm,an,cH,ct,Dg,e1,e2,e3⟩,kp⟩:=F
 have N8:=C.look e2 (λits n z=>by cases z)
 refine ⟨⟨oc,od,kV,doc,pm,an,cH,ct,Dg,e1,N8,?_⟩,?_⟩
 .unfold PySem.W.codeIn at e3 ⊢
  cases cH with
  | ref c=>
    simp only at e3 ⊢
    cases q:K0.lookup c with
    | none=>rw [q] at e3; exact absurd e3 (by simp)
    | some ob=>
      obtain ⟨c1,c2,dt,c4⟩:=ob
      rw [q] at e3
      cases dt with
      | fields vs=>rw [C.look q (λits n z=>by cases z)]; exact e3
      | _=>exact absurd e3 (by simp)
  | _=>exact e3
 .unfold PySem.W.keepIn
  simp only [N8]
def Hc (K0:PySem.W.Frag):Hp:=λb=>match bX.lookup b with
 | some xs=>(K0.lookup b).map λob=>HO.rJ ob (.tup xs)
 | none=>none
def Ei (neg:Bool):D->D->Option D:=λx y=>match y with
 | .list l=>if (SeqAt.shaped x && l.all SeqAt.shaped)=true then some (.bool ((l.any λz=>PyData.eqv z x) != neg)) else none
 | .tuple l=>if (SeqAt.shaped x && l.all SeqAt.shaped)=true then some (.bool ((l.any λz=>PyData.eqv z x) != neg)) else none
 | _=>none
def PV (K:PySem.W.Frag) (neg:Bool):R2:=λx y H Q=>∃ dy ds dx,HD K H y dy /\ (dy=.list ds \/ dy=.tuple ds) /\ HD K H x dx /\ SeqAt.shaped dx=true /\ ds.all SeqAt.shaped=true /\ Q (.bl ((ds.any λz=>PyData.eqv z dx) != neg)) H
theorem ny {ds:List D} (h:ds.all SeqAt.shaped=true):PyData.canLayAll0 ds=true:=by
 induction ds with
 | nil=>rfl
 | cons d ds ih=>
   rw [acg,ZE] at h
   have h1:=h.1
   unfold SeqAt.shaped at h1
   rw [ZE] at h1
   rw [PyData.canLayAll0,h1.1,ih h.2]
   rfl
section
variable {X:Cx}
theorem AE {k:Nat} {ds:List D} {dx:D} (hr:cJ k X.A) (sx:SeqAt.shaped dx=true):X.A.units + 1 + min (PyData.depthAll ds) dx.depth < cLine:=by
 unfold SeqAt.shaped at sx
 rw [ZE,ZL] at sx
 have:=hr.un
 have:=sx.2
 omega
theorem MQ {k:Nat} (hr:cJ k X.A):iR X (compareOp .In) (PV X.K false):=by
 intro pins s σ H x y v u Q I rx ry h
 obtain ⟨dy,ds,dx,hy,hd,hx,sx,Rz,q⟩:=h
 obtain ⟨as,r1⟩:=hx.reads I rx (ff sx)
 rw [Bool.bne_false] at q
 rcases hd with rfl | rfl
 .obtain ⟨bs,r2⟩:=hy.reads I ry (by rw [PyData.canLay0]; exact ny Rz)
  exact SeqAt.in_list_reads r2 r1 (ny Rz) (ff sx) (AE hr sx) ⟨.bl _,H,I,rfl,q⟩
 .obtain ⟨bs,r2⟩:=hy.reads I ry (by rw [PyData.canLay0]; exact ny Rz)
  exact SeqAt.in_tuple_reads r2 r1 (ny Rz) (ff sx) (AE hr sx) ⟨.bl _,H,I,rfl,q⟩
end
set_option tactic.hygienic true in
theorem HI {K:PySem.W.Frag} {neg:Bool}:jn K (PV K neg) (Ei neg):=by
 intro A H x y dx dy d Q al hx hy e q
 unfold Ei at e
 cases dy with
 | list l=>
   simp only at e
   split at e
   .rename_i c
    rw [ZE] at c
    cases e
    exact ⟨_,l,dx,hy.Hi,.inl rfl,hx.Hi,c.1,c.2,q _ H (aA.refl H) (.bl _)⟩
   .cases e
 | tuple l=>
   simp only at e
   split at e
   .rename_i c
    rw [ZE] at c
    cases e
    exact ⟨_,l,dx,hy.Hi,.inr rfl,hx.Hi,c.1,c.2,q _ H (aA.refl H) (.bl _)⟩
   .cases e
 | _=>cases e
set_option tactic.hygienic true in
theorem AF (gi:DS->Option (List D)) (ix:List Nat) (ge:DS->Option D):eM gi ix ge=dS gi 1 ix (aR 0) (λ_=>some true) ge:=by
 funext δ
 unfold eM dS
 cases gi δ with
 | none=>rfl
 | some ds=>
   rw [Za,Za]
   split
   .induction ds with
    | nil=>rfl
    | cons d ds ih=>
      rename_i h
      rw [DR,qA,ih (by rw [Zp] at h; omega)]
      show _=Option.bind (Option.map some (ge (some d :: gg ix δ))) _
      cases ge (some d :: gg ix δ) <;> rfl
   .rfl
section
variable {X:Cx} {O:List Nat} {gi:DS->Option (List D)} {ix:List Nat} {ge:DS->Option D}
theorem PE.Ej {e:Expr} (h:PE X e (tN X.K O (dS gi 1 ix (aR 0) (λ_=>some true) ge))):PE X e (tN X.K O (eM gi ix ge)):=by rw [AF]; exact h
theorem PS.Ej {st:Stmt} {i:Nat} (h:PS X st (pW (tN X.K O (dS gi 1 ix (aR 0) (λ_=>some true) ge)) (iY i))):PS X st (pW (tN X.K O (eM gi ix ge)) (iY i)):=by rw [AF]; exact h
end
end L2
namespace L2
open PySem PySem.Spec PyProof.Rows PySem.Calls
set_option maxRecDepth 100000
section
variable {prog:Program} {w:World} {A:Around} {E:Value->Shared->Prop} {s:Shared}
end
section
variable {X:Cx} {O:List Nat} {a:Expr} {ge:DS->Option D} {p1 p2 q1 q2:Pos} {ta:TA}
end
end L2
namespace L2
open PySem PySem.Spec PyProof.Rows PySem.Calls
section
variable {X:Cx} {O:List Nat} {fr:Bool} {st:Stmt} {gk ge:DS->Option D}
def AG:V->List V->Hp->VK->Prop:=λx vs H Q=>∃ l xs k y,x=.ref l /\ vs=[.int k,y] /\ H l=some (.lst xs) /\ 0<=k /\ k.toNat<=xs.length /\ xs.length < 100000 /\ Q .gu (upd H l (.lst (xs.take k.toNat ++ y :: xs.drop k.toNat)))
theorem Cg:Sr X "list.insert" AG:=by
 intro pins s σ H x vs v us Q I rx rv h
 obtain ⟨l,xs,k,y,rfl,rfl,hH,RA,hk,hz,q⟩:=h
 cases rx
 obtain ⟨u0,u,rfl,⟨t,rfl⟩,ru⟩:=vals2 rv
 obtain ⟨z,its,n,r,hl,e⟩:=I.G5 hH
 have hs:its.toArray.size<=sizeLine:=by rw [Zm,<- hl]; exact z
 have Tt:¬ (!Builtin.List.listFitsIndex k)=true:=by
  unfold Builtin.List.listFitsIndex
  simp
  omega
 have m:=PySem.AutoSeq1.list_insert_list_int_val_1 l its.toArray n k t u Tt hs
 refine call_meets F.slot_list_insert ⟨_,e,rfl⟩ F.entry_list_insert (F.args_list_insert_3 _ _ _) m ⟨e,?_⟩
 have WQ:(if k < 0 then (k + (its.toArray.size:Int)).toNat else min k.toNat its.toArray.size)=k.toNat:=by
  rw [Zj (by omega),Zm]; omega
 refine ⟨.gu,_,I.LX (its':=its.take k.toNat ++ u :: its.drop k.toNat) hH e ?_ ((r.take k.toNat).append (.cons ru (r.drop k.toNat))) ?_,rfl,q⟩
 .show ((its.toArray.extract 0 (if k < 0 then (k + (its.toArray.size:Int)).toNat else min k.toNat its.toArray.size)).push u ++ its.toArray.extract (if k < 0 then (k + (its.toArray.size:Int)).toNat else min k.toNat its.toArray.size))=_
  rw [WQ]
  apply Array.ext'
  simp
  rw [abn (by simp)]
 .rw [Zz,Zp,ZH,abE]
  exact small (by omega)
def HJ (i:Nat) (gk g:DS->Option D):DS->Option Res:=λδ=>(ae i δ).bind λx=>(gk δ).bind λn=>(g δ).bind λd=>match x,n with
 | .list ds,.int k=>if 0<=k /\ k.toNat<=ds.length /\ ds.length < 100000 then some (.nx (δ.set i (some (.list (ds.take k.toNat ++ d :: ds.drop k.toNat))))) else none
 | _,_=>none
set_option tactic.hygienic true in
theorem Ci {i:Nat} (h:PS X st (sC (O0 X.K "list" AG (pT i) (pY (tE X.K O gk) (pY (tE X.K O ge) BF))))) (hi:i∈O:=by decide):PS X st (tS X.K O fr (HJ i gk ge)):=h.mono λE σ H hh=>hh.e λH0 U A0 δ r R F ed P=>by
 obtain ⟨x,e1,e2⟩:=bind1 ed
 obtain ⟨n,e3,e4⟩:=bind1 e2
 obtain ⟨d,e5,e6⟩:=bind1 e4
 rcases R.Sx i x hi (join_some e1) with ⟨l,ys,ds,hl,rfl,hU,h1,h2⟩ | ⟨kds,rfl⟩
 rotate_left
 ·(exfalso; cases n <;> cases e6)
 cases n with
 | int k=>
   simp only at e6
   split at e6
   .rename_i hz
    cases e6
    obtain ⟨RA,yk,Hz⟩:=hz
    refine ⟨.ref l,hl,.inl ⟨rfl,ys,iW.of h1⟩,U,A0,δ,.int k,R,e3,λv H' s hv=>?_⟩
    cases hv
    refine ⟨U,A0,δ,d,R.same s,e5,λv2 H2 s2 Tu=>?_⟩
    have sm:=s.trans s2
    have Kc:=sm _ _ h1
    have Gi:=h2.same (bR (A:=U ++ A0) sm)
    have hlen:=h2.len
    refine ⟨l,ys,k,v2,rfl,rfl,Kc,RA,by omega,by omega,?_⟩
    exact P U σ _ ((R.same sm).put hi hl hU ((Gi.DF k.toNat).app (.cons Tu (Gi.DG k.toNat))) ⟨_,join_some e1⟩) ((F.grow sm).put hU _)
   .cases e6
 | _=>cases e6
end
end L2
namespace L2
open PySem PySem.Spec PyProof.Rows
def Ek (CX:Gf) (P:Program) (w:World) (K:PySem.W.Frag) (mg:Str->Option Value) (base:Heap) (N:List Str) (qual:Str) (scope:Scope) (f:Addr) (cd:Value) (cl:List (Str×Addr)) (A:Around) (outer:List Env) (s:Shared) (H:Hp) (E:XK):Cx where
 prog:=P
 w:=w
 K:=K
 mg:=mg
 base:=base
 A:=A.deeper (PySem.W.envX qual scope s.heap.objs.size f cd cl)
 N:=N
 fE:=s
 Bx:=H
 env:=PySem.W.envX qual scope s.heap.objs.size f cd cl
 outer:=outer
 stack:=PySem.W.envX qual scope s.heap.objs.size f cd cl :: outer
 ex:=[]
 calm:=true
 fn:=λ_=>false
 pn:=[]
 xe:=λe s'=>wpAny (model P w) (A.deeper (PySem.W.envX qual scope s.heap.objs.size f cd cl)) (leaving (PySem.W.envX qual scope s.heap.objs.size f cd cl) e) (λ_ GO=>CX outer H s E e GO) (λe' GO=>CX outer H s E e' GO) s'
structure HK (ps fv:List Str) (sc:Scope) (cl:List (Str×Addr)):Prop where
 kind:sc.kind=.function
 co:sc.isCoroutine=false
 gen:sc.isGenerator=false
 n8:∀ y∈sc.names,y.2≠.cell
 nd:(ps ++ fv).Nodup
 par:∀ x∈ps,sc.names.lookup x=some .local
 fr:∀ x∈fv,sc.names.lookup x=some .free
 only:∀ x,sc.names.lookup x=some .free->∃ c,cl.lookup x=some c
 inj:∀ x y c,cl.lookup x=some c->cl.lookup y=some c->x=y
theorem xa {y:Str} {u:Value}:∀ {l:List (Str×Value)},(l.map (·.1)).Nodup->(y,u)∈l->l.lookup y=some u
 | (z,w) :: l,nd,h=>by
   rw [Zn,ack] at nd
   rcases Y6.mp h with e | e
   .cases e; rw [ZR]; simp
   .have ik:(y == z)=false:=by
     cases q:y == z with
     | false=>rfl
     | true=>rw [<- eq_of_beq q] at nd; exact absurd (ZG.mpr ⟨_,e,rfl⟩) nd.1
    rw [ZR,ik]
    exact xa nd.2 e
theorem oP:∀ (ps:List Str) (us:List Value),((ps.zip us).map (·.1)).Sublist ps
 | [],_=>by simp
 | p :: ps,[]=>by simp
 | p :: ps,u :: us=>by rw [List.zip_cons_cons,Zn]; exact (oP ps us).cons₂ p
theorem El {ps:List Str} {us:List Value} {i:Nat} {y:Str} {u:Value} (nd:ps.Nodup) (h1:ps[i]?=some y) (h2:us[i]?=some u):(ps.zip us).reverse.lookup y=some u:=by
 refine xa ?_ (List.mem_reverse.mpr ?_)
 .rw [List.map_reverse]
  refine List.pairwise_reverse.mpr (List.Pairwise.imp (λh=>abd h) ?_)
  exact nd.sublist (oP ps us)
 .exact Zq (i:=i) (by rw [abG]; exact ⟨h1,h2⟩)
theorem PX {P:Program} {w:World} {K:PySem.W.Frag} {mg:Str->Option Value} {base:Heap} {k:Nat} {f c':Addr} {name qual:Str} {params:Arguments} {body:Expr} {scope:Scope} {cl:List (Str×Addr)} {pm yn:Value} {ps fv:List Str} {cvs:List V} {sp:Sp}
  (hf:base.get? f=some (PySem.W.kla_obj name qual params body scope cl pm c' yn)) (S:HK ps fv scope cl) (yo:cvs.length=fv.length)
  (cells:∀ (i:Nat) (x:Str) (v:V),fv[i]?=some x->cvs[i]?=some v->∃ c u,cl.lookup x=some c /\ base.IsCell c (some u) /\ RelV v u)
  (PY:∀ x c,cl.lookup x=some c->∃ v,base.IsCell c v)
  (len:∀ vs H Q E,sp vs H Q E->vs.length=ps.length) (code:∀ vs H Q E,sp vs H Q E->H c'=some (.code qual))
  (kf:∀ (A:Around) (outer:List Env) (s:Shared) (H:Hp) (vs:List V) (Q:VK) (E:XK),cJ k (A.deeper (PySem.W.envX qual scope s.heap.objs.size f (.ref c') cl))->sp vs H Q E->
   ∃ t,PE (Ek o6 P w K mg base (ps ++ fv) qual scope f (.ref c') cl A outer s H E) body t /\ t ((vs ++ cvs).map some) H Q):
  lQ P w K mg base o6 (k + 1) f (PySem.W.kla_fn name qual params body scope cl pm (.ref c') yn) ps sp:=by
 refine ⟨len,λA outer s H args us vs Q E hr e0 hb r Ag=>?_⟩
 have hl:=len _ _ _ _ Ag
 have lim:s.heap.NoLimit:=e0.mod.nolimit.keeps λb o e=>(e0.bs b o e).1
 have RB:s.heap.CodeRec (.ref c') qual:=e0.cf c' _ (code _ _ _ _ Ag)
 refine PySem.W.kla_callFunE hr.depth (e0.bs f _ hf).1 rfl S.co S.gen rfl RB (hb _ _ _ _ ?_)
 refine wpAny_newFunctionEnv S.n8 (λy hy=>S.par y.1 (abo hy).1) (λh' ns sb=>?_) S.kind
 have kp:∀ b o,s.heap.get? b=some o->h'.get? b=some o:=λb o e=>(sb.2 b (Zs (Zf e))).trans (Y5 _ e)
 refine ⟨lim.keeps kp,PySem.W.kla_codeExpr ?_⟩
 obtain ⟨t,ht,hq⟩:=kf A outer s H vs Q E (hr.deeper _) Ag
 have YS:us.length=ps.length:=by rw [<- r.length]; exact hl
 have I:Inv (Ek o6 P w K mg base (ps ++ fv) qual scope f (.ref c') cl A outer s H E) [] ((vs ++ cvs).map some) H { s with heap:=h',toks:=s.toks + (ps.zip us).length }:=by
  have GP:∀ b:Addr,b∉(Ek o6 P w K mg base (ps ++ fv) qual scope f (.ref c') cl A outer s H E).ex:=λb z=>absurd (show b∈([]:List Addr) from z) (by simp)
  refine ⟨⟨e0.mod,S.kind,rfl,rfl,Ze _,S.inj,λy hy=>?_,λy c h=>(by cases h),λ_=>hr.hd,Around.frames_deeper e0.frames,.inr ⟨rfl,rfl⟩,λb z=>absurd z (GP b),e0.bs,e0.Ac,λb _ _=>GP b,λb z=>absurd z (GP b),e0.mR,e0.JM⟩,
   rfl,e0.bare,Un.kept kp,⟨_,ns,λi y v h1 h2 h3=>?_⟩,λy c h=>?_,e0.cf.fresh (Ze _),λy c h=>?_,λp hp=>absurd (show p∈([]:List (Addr×Obj)) from hp) (by simp),e0.cf.kept kp,?_⟩
  .have hy:scope.names.lookup y=some .cell \/ scope.names.lookup y=some .free:=hy
   rcases hy with hy | hy
   .exact absurd rfl (S.n8 _ (aav hy))
   .exact S.only y hy
  .have h1:(ps ++ fv)[i]?=some y:=h1
   have h2:((vs ++ cvs).map some)[i]?=some (some v):=h2
   have ha:(vs ++ cvs)[i]?=some v:=by
    rw [Zl] at h2
    cases e:(vs ++ cvs)[i]? with
    | none=>rw [e] at h2; cases h2
    | some a=>rw [e] at h2; cases h2; rfl
   by_cases hi:i < ps.length
   .rw [aa0 hi] at h1
    rw [aa0 (by omega)] at ha
    obtain ⟨u,hu,rv⟩:=r.get ha
    exact ⟨u,rv,.inl ⟨S.par y (Zq h1),El (S.nd.sublist (List.sublist_append_left _ _)) h1 hu⟩⟩
   .rw [aaJ (by omega)] at h1
    rw [aaJ (by omega),hl] at ha
    obtain ⟨c,u,e1,⟨o,e2,e3⟩,rv⟩:=cells _ y v h1 ha
    exact ⟨u,rv,.inr ⟨.inr (S.fr y (Zq h1)),c,e1,o,kp _ _ (e0.bs c o e2).1,e3⟩⟩
  .obtain ⟨v,o,e1,e2⟩:=PY y c h
   exact ⟨v,o,kp _ _ (e0.bs c o e1).1,e2⟩
  .obtain ⟨v,o,e1,e2⟩:=PY y c h
   exact (e0.bs c o e1).2
  .show _=(ps ++ fv).length
   rw [Y7,Zz,Zz,hl,yo]
 refine ZM (ht [] _ ((vs ++ cvs).map some) H _ I hq) (λu s' hs=>?_) λe s' hs=>hs
 obtain ⟨v,H',J,rv,q⟩:=hs
 exact ⟨v,H',J.os,J.bare,J.base,J.cf,rv,q⟩
section
variable {X:Cx} {pins:List (Addr×Obj)} {σ:St} {H:Hp} {s:Shared}
def qG (X:Cx) (s:Shared) (H:Hp):Heap:=PySem.W.hideAll (rM s.heap H) (lJ X.stack)
theorem Em {b:Addr} {o:Obj} (e:(qG X s H).get? b=some o):s.heap.get? b=some o /\ H b=none:=Ab (PySem.W.of_hideAll _ e)
theorem n9 {b:Addr} {o:Obj} (e:s.heap.get? b=some o) (n:H b=none) (f:b∉lJ X.stack):(qG X s H).get? b=some o:=PySem.W.hideAll_get _ (mQ e n) f
theorem Inv.wide (I:Inv X pins σ H s) {b:Addr} {o:Obj} (e:X.base.get? b=some o):(qG X s H).get? b=some o:=
 n9 (I.bs b o e).1 (I.bs b o e).2 λz=>by rw [(I.stack.mem z).1] at e; cases e
theorem Ns.widen {h h':Heap} {a:Addr} {m:Str->Option Value} (k:∀ b o,h.get? b=some o->h'.get? b=some o) (n:h.Ns a m):h'.Ns a m:=let ⟨o,es,ep,e,r⟩:=n; ⟨o,es,ep,k _ _ e,r⟩
theorem Mod.widen {K:PySem.W.Frag} {mg:Str->Option Value} {h h':Heap} (m:Mod K mg h) (k:∀ b o,h.get? b=some o->h'.get? b=some o):Mod K mg h':=
 ⟨m.Rh.keeps k,Ns.widen k m.glob,let ⟨mb,h1,h2⟩:=m.blt; ⟨mb,Ns.widen k h1,h2⟩,m.nolimit.keeps k⟩
theorem tj {h base Kn:Heap}:∀ {l:List Env},h.FunFrames base l->(∀ b∈lJ l,Kn.get? b=none)->h.FunFrames Kn l
 | [],_,_=>trivial
 | env :: l,f,n=>by
   obtain ⟨h1,⟨L,o,e1,e2,e3⟩,h3⟩:=f
   have hL:L∈lJ (env :: l):=by unfold lJ; rw [List.filterMap_cons,e1]; exact List.mem_cons_self
   refine ⟨h1,⟨L,o,e1,n L hL,e3⟩,tj h3 λb hb=>n b ?_⟩
   unfold lJ at hb ⊢
   rw [List.filterMap_cons,e1]
   exact Y8 _ hb
end
section
variable {X:Cx} {pins:List (Addr×Obj)} {σ:St} {H:Hp} {s:Shared}
theorem MR {params:Arguments} {body:Expr} {scope:Scope} {pos:Pos} {c P:Addr} {q:Str} {Q:Value->Shared->Prop} {E:Value->Shared->Prop} (I:Inv X pins σ H s) (hd:defaultsOf params X.env=([],[]))
  (n6:∀ y∈scope.names,y.2=.free->∃ c,X.env.cells.lookup y.1=some c) (AH:X.env.code=.ref c) (hH:PySem.W.CodeHd s.heap c P) (hP:H P=some (.lam pos q)) (hq:X.env.qual ++ Str.ofString "<lambda>"=q) (hb:s.heap.BuiltinsAt X.mg P) (WR:mainGlobals≠P)
  (h:∀ (cl:List (Str×Addr)) (f c':Addr) (yn:Value) (s':Shared) (H':Hp),(∀ n c,cl.lookup n=some c->X.env.cells.lookup n=some c)->(∀ n,(n,NameKind.free)∈scope.names->∃ c,cl.lookup n=some c)->Inv X pins σ H' s'->aA H H'->H' c'=some (.code q)->H' f=none->f∉lJ X.stack->
   s'.heap.get? f=some (PySem.W.kla_obj (Str.ofString "<lambda>") q params body scope cl ((X.mg (Str.ofString "__name__")).getD .none) c' yn)->Q (.ref f) s'):
  wpAny (model X.prog X.w) X.A (eval (.Lambda params body scope pos) X.env) Q E s:=by
 subst hq
 refine PySem.W.kla_eval hd ?_
 obtain ⟨cl,e1,h1,h2⟩:=lR n6
 obtain ⟨ps,PZ,ht,hc⟩:=(show cw X.prog X.w H s.heap P (.lam pos _) from I.cf P _ hP)
 have MS:s.heap.Ns mainGlobals X.mg:=Ns.widen I.bk I.ok.mod.glob
 have o8:∀ f:Addr,s.heap.objs.size<=f->f∉lJ X.stack:=λf hf z=>by
  obtain ⟨_,o,e,_⟩:=I.stack.mem z
  exact ZU _ (Zi (Zf e) hf)
 rcases hc with hn | ⟨c',NX,Lq⟩
 .refine PySem.W.kla_makeFunction e1 I.ok.glob MS AH hH PZ ht hn WR hb λc' yn h' tk ext MT fg Tv P4=>?_
  have MU:H c'=none:=I.cf.fresh MT
  have YT:P≠c':=λz=>by rw [z,MU] at hP; cases hP
  have un:Un X.fs [] H (upd H c' (.code (X.env.qual ++ Str.ofString "<lambda>"))) s.heap h':=by
   have kp:∀ b o,s.heap.get? b=some o->H b=none->h'.get? b=some o:=λb o e n=>ext b o (λz=>by rw [z,hP] at n; cases n) e
   refine ⟨λb o e n _ _=>kp b o e n,λb o e n _ _=>⟨o.slots,kp b o e n⟩,λb o e n _=>?_,λb o e _=>?_,λb xs e=>?_,λb o u e=>?_,λb ts e=>⟨#[],?_⟩⟩
   .rw [aI (Zs (Zi (Zf e) MT))]; exact n
   .by_cases z:b=P
    .rw [z]; exact ⟨_,P4⟩
    .exact ⟨o,ext b o z e⟩
   .rw [aI (aN e MU)]; exact e
   .rw [aI (aN e MU)]; exact e
   .rw [aI (aN e MU),e]; simp
  have ok:lI X.prog X.w (upd H c' (.code (X.env.qual ++ Str.ofString "<lambda>"))) h':=λa o e=>by
   by_cases ha:a=c'
   .subst ha; rw [bC] at e; cases e; exact Tv
   .rw [aI ha] at e
    by_cases qH:a=P
    .subst qH
     rw [hP] at e; cases e
     exact ⟨_,P4,by rw [Array.toList_append]; exact TriplesOk_snoc _ _ _ _ ht,.inr ⟨c',by rw [Array.toList_append]; exact codeAmong_snoc _ ht hn,bC⟩⟩
    .refine (I.cf a o e).rK (λb u Tw q=>ext b u ?_ q) (λb q=>by rw [aI (aN q MU)]; exact q) λb xs q=>q.new MU
     rcases Tw with z | z
     .rw [z]; exact qH
     .intro y; rw [y,hP] at z; cases z
  have I1:=I.un (t':=tk) un ok
  have hsz:s.heap.objs.size<=h'.objs.size:=aak (aaa MT fg)
  have I2:Inv X pins σ (upd H c' (.code (X.env.qual ++ Str.ofString "<lambda>"))) { s with heap:=h'.push (PySem.W.kla_obj (Str.ofString "<lambda>") (X.env.qual ++ Str.ofString "<lambda>") params body scope cl ((X.mg (Str.ofString "__name__")).getD .none) c' yn),toks:=tk }:=
   I1.kept (t':=tk) λb o e=>Y5 _ e
  exact h cl h'.objs.size c' yn _ _ h1 h2 I2 (λb o e=>by rw [aI (aN e MU)]; exact e) bC (ok.fresh (Ze _)) (o8 _ hsz) (Zh _ rfl)
 .refine PySem.W.kla_makeFunctionHit e1 I.ok.glob MS AH hH PZ ht NX hb λyn h' tk kp hsz=>?_
  have I2:Inv X pins σ H { s with heap:=h'.push (PySem.W.kla_obj (Str.ofString "<lambda>") (X.env.qual ++ Str.ofString "<lambda>") params body scope cl ((X.mg (Str.ofString "__name__")).getD .none) c' yn),toks:=tk }:=
   I.kept (t':=tk) λb o e=>Y5 _ (kp b o e)
  exact h cl h'.objs.size c' yn _ _ h1 h2 I2 (aA.refl H) Lq (I.cf.fresh hsz) (o8 _ hsz) (Zh _ rfl)
end
section
variable {X:Cx} {O:List Nat} {i k kk n:Nat} {f c:Addr} {q x:Str} {e:Expr} {es:List Expr} {p pos:Pos} {t:TA} {sp:Sp} {fd:FuncData} {ps:List Str} {G:List D->Option D} {gr:DS->Option (List D)}
end
def HL (mg:Str->Option Value) (h:Heap):Prop:=∃ bm ob,mg (Str.ofString "__builtins__")=some (.ref bm) /\ bm≠builtinsNs /\ h.get? bm=some ob /\ ob.cls=.type "module" /\ ob.dict=some builtinsNs /\ ob.data=.plain
theorem Rel.MV {K:PySem.W.Frag} {A:List Addr} {H:Hp} {vs:List V} {ds:List D} (al:Ls A H) (h:cg K (wo H A) vs ds):Rel K [] [] A (vs.map some) (ds.map some) H where
 len:=by rw [Y7,Y7,h.len]
 fz:=λi d _ e=>by
  rw [Zl] at e
  cases q:ds[i]? with
  | none=>rw [q] at e; cases e
  | some d'=>
    rw [q] at e; cases e
    obtain ⟨v,e1,e2⟩:=h.get q
    exact ⟨v,by rw [Zl,e1]; rfl,e2⟩
 ow:=λi d hi=>by simp at hi
 inj:=λi j d e l hi=>by simp at hi
 al:=al
structure P5 (ps fv:List Str) (sc:Scope):Prop where
 kind:sc.kind=.function
 co:sc.isCoroutine=false
 gen:sc.isGenerator=false
 n8:∀ y∈sc.names,y.2≠.cell
 nd:(ps ++ fv).Nodup
 par:∀ x∈ps,sc.names.lookup x=some .local
 fr:∀ x∈fv,sc.names.lookup x=some .free
section
variable {X:Cx} {pins:List (Addr×Obj)} {σ:St} {H:Hp} {s:Shared} {O:List Nat}
end
section
variable {X:Cx} {O:List Nat}
end
def P6 (K:PySem.W.Frag) (mg:Str->Option Value) (x:Str) (st:Stmt) (ps:List Str) (c:Addr):Prop:=∃ f fd,Dq K x x st f fd /\ fd.code=.ref c /\ mg x=some (.ref f) /\ Binds K fd ps []
theorem MW {ts:List Addr} {p:Addr} {y:Pos} {q:Str} (h:(bY.all λt=>ts.contains t.1)=true) (m:(p,y,q)∈bY):p∈ts:=by
 have:=List.all_eq_true.mp h _ m
 simpa using this
def l8:List Int->Int
 | []=>0
 | n :: ns=>n + l8 ns
theorem xb:∀ a b:List Int,l8 (a ++ b)=l8 a + l8 b
 | [],b=>by rw [List.nil_append,l8,Int.zero_add]
 | x :: a,b=>by rw [abi,l8,xb a b,l8,Int.add_assoc]
theorem AI (ns:List Int):∀ k,k<=ns.length->preSum (λi=>ns.getD i 0) k=l8 (ns.take k)
 | 0,_=>rfl
 | k + 1,h=>by
   have hk:k < ns.length:=h
   rw [preSum,AI ns k (aak hk),Z4,Y4 hk,xb,Y9,Y4 hk]
   show _=_ + (ns[k] + 0)
   rw [Int.add_zero]; rfl
theorem Cj {X:Cx} (hc:X.calm=true):eD X (.builtin "sum") (λxs H Q=>∃ (p:Addr) (ns:List Int),xs=[.ref p] /\ iW X.K H p (ns.map V.int) /\ Q (.int (l8 ns)) H):=by
 intro pins s σ H xs us Q I r h
 obtain ⟨p,ns,rfl,hq,q⟩:=h
 obtain ⟨u,rfl,rx⟩:=vals1 r
 cases rx
 obtain ⟨its,rv,pl,_⟩:=I.list hq
 have hl:=rv.length
 rw [Y7] at hl
 have fg:p≠s.heap.objs.size:=by
  obtain ⟨o,n,e1,_⟩:=pl
  exact Zs (Zf e1)
 refine call_sum_walkAnyS (wpAny_pyIter_list pl.isList ?_)
 refine ⟨s.heap.objs.size,[s.heap.objs.size,p],[s.heap.objs.size],_,_,_,_,λi=>ns.getD i 0,rfl,(Walks.list (A:=X.A.in1) (I.ok.hd hc) _ p fg its.toArray).toS,⟨⟨_,Zh _ rfl,rfl,rfl⟩,pl.isList.push _⟩,λb hb=>?_,λi v hP=>?_,λs' t' mv=>?_⟩
 .rw [aaQ]
  rcases Y6.mp hb with z | z
  .rw [z]; exact aar _
  .rw [ZW.mp z]
   obtain ⟨o,n,e1,_⟩:=pl
   exact aan (Zf e1)
 .have mP:its[i]?=some v:=by simpa using hP
  have hi:=(Zd.mp mP).1
  obtain ⟨w',hw,yw⟩:=rv.get (i:=i) (x:=V.int (ns.getD i 0)) (by rw [Zl,Y9,Y4 (by omega)]; rfl)
  rw [mP] at hw; cases hw
  exact yw
 .have e:preSum (λi=>ns.getD i 0) its.toArray.size=l8 ns:=by
   rw [Zm,<- hl,AI ns _ (Ze _),Z8]
  rw [e]
  obtain ⟨hx,gx,dx,tx,ox⟩:=s'
  have eg:gx=s.gens:=mv.gens
  have ed:dx=s.drawn:=mv.drawn
  have eo:ox=s.os:=mv.os
  subst eg ed eo
  refine ⟨.int (l8 ns),H,I.kept (h':=hx) (t':=tx) λb o e=>mv.heap b o (λz=>?_) (Y5 _ e),⟨t',rfl⟩,q⟩
  rw [ZW] at z
  exact absurd (Zf e) (by rw [z]; exact ZU _)
theorem MX:bootBuiltins "sum"=some (.builtin "sum"):=by decide +kernel
def HM:List D->Option D
 | [.list l]=>(jY l).map λns=>.int (l8 ns)
 | _=>none
set_option tactic.hygienic true in
theorem HN {K:PySem.W.Frag}:rT K (λxs H Q=>∃ (p:Addr) (ns:List Int),xs=[.ref p] /\ iW K H p (ns.map V.int) /\ Q (.int (l8 ns)) H) HM:=by
 intro A H vs ds d Q al h e q
 unfold HM at e
 split at e
 .rename_i l
  cases hl:jY l with
  | none=>rw [hl] at e; cases e
  | some ns=>
    rw [hl] at e; cases e
    have:=ju hl
    subst this
    cases h with
    | cons h1 h2=>
      cases h2
      obtain ⟨p,ys,rfl,hp,hy⟩:=h1.list
      have:=cg.toInts hy
      subst this
      exact ⟨p,ns,rfl,hp.sq,q _ H (aA.refl H) (.int _)⟩
 .cases e
theorem AJ {β:Type}:∀ {l:List (Addr×β)} {p:Addr} {x:β},l.lookup p=some x->(p,x)∈l
 | [],_,_,h=>by cases h
 | (q,y) :: l,p,x,h=>by
   rw [ZR] at h
   by_cases e:p=q
   .subst e
    rw [acY] at h
    cases h
    exact Zb
   .rw [show (p == q)=false by simpa using e] at h
    exact Y8 _ (AJ h)
structure xc (K:PySem.W.Frag):Prop where
 one:∀ p y q,(p,y,q)∈bY->bY.lookup p=some (y,q)
 out:∀ p y q,(p,y,q)∈bY->K.lookup p=none /\ ∃ c,PySem.W.codeHdIn K c p=true
def Hl:Hp:=λb=>(bY.lookup b).map λt=>HO.lam t.1 t.2
theorem HP {b:Addr} {o:HO} (h:Hl b=some o):∃ y q,o=.lam y q /\ (b,y,q)∈bY:=by
 unfold Hl at h
 cases e:bY.lookup b with
 | none=>rw [e] at h; cases h
 | some t=>rw [e] at h; cases h; exact ⟨t.1,t.2,rfl,AJ e⟩
set_option tactic.hygienic true in
theorem En {K:PySem.W.Frag} {c p:Addr} (C:hJ K) (h:PySem.W.codeHdIn K c p=true):PySem.W.codeHdIn (dU K) c p=true:=by
 have e:(dU K).lookup c=K.lookup c:=by
  cases q:K.lookup c with
  | none=>rw [jc,q]; split <;> rfl
  | some o=>
    refine C.look q λits n z=>?_
    unfold PySem.W.codeHdIn at h
    rw [q] at h
    split at h
    .rename_i hh; cases hh; cases z
    .cases h
 unfold PySem.W.codeHdIn at h ⊢
 rw [e]; exact h
theorem Ck {P:Program} {w:World} {K:PySem.W.Frag} {mg mb:Str->Option Value} {k:Nat} {fa a:Addr} {fd:FuncData} {x:Str} {sp:Sp} {bE:Shared} {vs:List Value} {ns:List Int} (CC:hJ K) (C:xc K)
  (KX:K.In bE.heap) (hT:∀ p y q,(p,y,q)∈bY->bE.heap.get? p=some (PySem.W.tabObj #[])) (MS:bE.heap.Ns mainGlobals mg) (hb:bE.heap.Ns builtinsNs mb) (Tw:∀ x:Str,x≠"__name__"->mb x=bootBuiltins x) (Tx:bE.heap.NoLimit) (Tz:HL mg bE.heap) (hg:bE.gens=#[])
  (ha:bE.heap.get? a=some { cls:=.type "list",data:=.seq vs.toArray }) (hi:IntsAre vs ns) (hl:ns.length<=sizeLine) (hr:cJ k callerA)
  (F:∀ base:Heap,(dU K).In base->base.Ns mainGlobals mg->HL mg base->lQ P w (dU K) mg base o6 k fa fd [x] sp) (P7:∀ (s:Shared) (u:Value),BindsTo s fd ⟨[u],[]⟩ [(x,u)])
  (Ag:∀ H:Hp,yi (dU K) H a (ns.map V.int)->(∀ p xs,(p,xs)∈bX->cV H p xs)->(∀ p y q,(p,y,q)∈bY->H p=some (.lam y q))->sp [.ref a] H (λv H'=>v=.bl true /\ aA H H') λ_ _ _=>False):
  codeAny (model P w) callerA (.call (.ref fa) ⟨[.ref a],[]⟩) (λr s'=>r=.ok (.ret (.bool true)) /\ OldK bE.heap s'.heap /\ s'.os=bE.os /\ AllBare s'.gens) bE:=by
 have rv:=sM hi
 have TB:=hi.length
 have tab:∀ p y q,(p,y,q)∈bY->isCodeTable bE.heap p:=λp y q m=>by
  obtain ⟨_,c,hc⟩:=C.out p y q m
  obtain ⟨o,vs,_,_,_,_,_,_,_,h1,h2,h3,h4,_⟩:=PySem.W.codeHd_of_K KX hc
  exact ⟨c,o,vs,h1,h2,h3,h4⟩
 have core:∀ H:Hp,(∀ b o,H b=some o->(∃ ob u,o=.rJ ob u /\ ∀ es ep,ob.data≠.dict es ep /\ ob.data≠.plain) \/ ∃ y q,o=.lam y q /\ (b,y,q)∈bY)->yi (dU K) H a (ns.map V.int)->lI P w H bE.heap->(∀ p xs,(p,xs)∈bX->cV H p xs)->(∀ p y q,(p,y,q)∈bY->H p=some (.lam y q))->(∀ b,H b≠none->(dU K).lookup b=none)->
   codeAny (model P w) callerA (.call (.ref fa) ⟨[.ref a],[]⟩) (λr s'=>r=.ok (.ret (.bool true)) /\ OldK bE.heap s'.heap /\ s'.os=bE.os /\ AllBare s'.gens) bE:=by
  intro H hO hS cf WS hL hK
  have dat:∀ {b:Addr} {o:Obj} {u:HO},H b=some u->bE.heap.get? b=some o->(∀ es ep,o.data≠.dict es ep) /\ o.data≠.plain:=λ{b o u} e h=>by
   rcases hO b u e with ⟨ob,z,rfl,hd⟩ | ⟨y,q,rfl,m⟩
   .obtain ⟨e1,_⟩:=cf b _ e
    rw [h] at e1; cases e1
    exact ⟨λes ep=>(hd es ep).1,(hd #[] 0).2⟩
   .rw [hT b y q m] at h; cases h
    exact ⟨λes ep z=>(by cases z),λz=>(by cases z)⟩
  have GP:∀ {b:Addr} {o:Obj} {es:Array DictEntry} {ep:Nat},bE.heap.get? b=some o->o.data=.dict es ep->H b=none:=λ{b o es ep} e d=>by
   cases q:H b with
   | none=>rfl
   | some u=>exact absurd d ((dat q e).1 es ep)
  have RC:∀ {b:Addr} {m:Str->Option Value},bE.heap.Ns b m->(rM bE.heap H).Ns b m:=λ{b m} ⟨o,es,ep,e,d,r⟩=>⟨o,es,ep,mQ e (GP e d),d,r⟩
  have Vf:(dU K).In (rM bE.heap H):=λb o e=>by
   have e0:K.lookup b=some o:=by
    rw [jc] at e
    split at e
    .exact e
    .cases e
   refine mQ (KX b o e0) ?_
   cases q:H b with
   | none=>rfl
   | some u=>rw [hK b (by rw [q]; simp)] at e; cases e
  have WT:HL mg (rM bE.heap H):=by
   obtain ⟨bm,ob,b1,b2,b3,b4,b5,b6⟩:=Tz
   refine ⟨bm,ob,b1,b2,mQ b3 ?_,b4,b5,b6⟩
   cases q:H bm with
   | none=>rfl
   | some u=>exact absurd b6 (dat q b3).2
  have hM:Mod (dU K) mg (rM bE.heap H):=⟨Vf,RC MS,⟨mb,RC hb,Tw⟩,let ⟨mc,h1,h2⟩:=Tx; ⟨mc,RC h1,h2⟩⟩
  have e0:De P w (dU K) mg (rM bE.heap H) callerA [] bE H:=⟨rfl,hM,λb o e=>Ab e,acq (sv _ _),trivial,λb hb=>absurd (show b∈([]:List Addr) from hb) (by simp),cf,.of_eq hg⟩
  refine aa3 ((F _ Vf (RC MS) WT).run callerA [] bE H ⟨[.ref a],[]⟩ [.ref a] [.ref a] _ _ hr e0 (P7 bE (.ref a)) (.cons rfl .nil) (Ag H hS WS hL)) λr s' h=>?_
  cases r with
  | error e=>exact h.elim
  | ok fl=>
    cases fl with
    | next=>exact False.elim h
    | brk=>exact False.elim h
    | cont=>exact False.elim h
    | ret u=>
      obtain ⟨v,H',os,bare,un,P8,r',rfl,sm⟩:=h
      obtain rfl:u=Value.bool true:=r'
      have WU:∀ b o,bE.heap.get? b=some o->asItWas bE.heap s'.heap b o:=λb o e=>by
       cases q:H b with
       | none=>exact .inl (un.keep b o e q (by intro z; exact absurd (show b∈([]:List Addr) from z) (by simp)) (by simp))
       | some u=>
         rcases hO b u q with ⟨ob,z,rfl,_⟩ | ⟨y,q',rfl,m⟩
         .obtain ⟨e1,_⟩:=cf b _ q
          obtain ⟨e2,_⟩:=P8 b _ (un.rL b ob _ q)
          rw [e] at e1; cases e1
          exact .inl e2
         .rw [hT b y q' m] at e; cases e
          obtain ⟨ps,e2,_⟩:=(show cw P w H' s'.heap b (.lam y q') from P8 b _ (sm _ _ q))
          exact .inr (.inl ⟨tab b y q' m,rfl,#[],ps,rfl,by rw [e2,Array.empty_append]⟩)
      exact ⟨rfl,⟨WU,λb o e=>un.there b o e (by simp)⟩,os,bare⟩
 have WV:∀ (H:Hp) b y q,(b,y,q)∈bY->cw P w H bE.heap b (.lam y q):=λH b y q m=>⟨#[],hT b y q m,trivial,.inl rfl⟩
 have Vg:∀ b,Hc K b=none \/ ∃ ob xs od its n sl,Hc K b=some (.rJ ob (.tup xs)) /\ bX.lookup b=some xs /\ K.lookup b=some ob /\ ob=⟨.type "tuple",od,.seq its n,sl⟩ /\ xs.length<=sizeLine /\ bj xs its.toList:=by
  intro b
  unfold Hc
  cases q:bX.lookup b with
  | none=>exact .inl rfl
  | some xs=>
    obtain ⟨od,its,n,sl,e,h1,h2⟩:=CC.tup b xs q
    refine .inr ⟨_,xs,od,its,n,sl,?_,rfl,e,rfl,h1,h2⟩
    show (K.lookup b).map _=_
    rw [e]; rfl
 have WX:∀ p xs,(p,xs)∈bX->∃ ob,Hc K p=some (.rJ ob (.tup xs)):=λp xs m=>by
  obtain ⟨od,its,n,sl,e,_⟩:=CC.tup p xs (CC.one p xs m)
  refine ⟨⟨.type "tuple",od,.seq its n,sl⟩,?_⟩
  unfold Hc
  rw [CC.one p xs m]
  show (K.lookup p).map _=_
  rw [e]; rfl
 have WY:∀ p y q,(p,y,q)∈bY->Hc K p=none:=λp y q m=>by
  rcases Vg p with z | ⟨_,_,_,_,_,_,_,_,z,_⟩
  .exact z
  .rw [(C.out p y q m).1] at z; cases z
 have both:∀ b o,(Hc K b).or (Hl b)=some o->(∃ ob xs od its n sl,o=.rJ ob (.tup xs) /\ bX.lookup b=some xs /\ K.lookup b=some ob /\ ob=⟨.type "tuple",od,.seq its n,sl⟩ /\ xs.length<=sizeLine /\ bj xs its.toList) \/ ∃ y q,o=.lam y q /\ (b,y,q)∈bY:=λb o z=>by
  rcases Vg b with q | ⟨ob,xs,od,its,n,sl,q,r⟩
  .rw [q,Option.none_or] at z; exact .inr (HP z)
  .rw [q,Option.some_or] at z; cases z; exact .inl ⟨ob,xs,od,its,n,sl,rfl,r⟩
 have bO:∀ (H:Hp) b o,(Hc K b).or (Hl b)=some o->cw P w H bE.heap b o:=λH b o z=>by
  rcases both b o z with ⟨ob,xs,od,its,n,sl,rfl,_,e,rfl,h1,h2⟩ | ⟨y,q,rfl,m⟩
  .have P9:=KX b _ e
   exact ⟨P9,h1,its.toList,h2,_,P9,rfl,n,by simp⟩
  .exact WV H b y q m
 have bF:∀ b o,(Hc K b).or (Hl b)=some o->(∃ ob u,o=.rJ ob u /\ ∀ es ep,ob.data≠.dict es ep /\ ob.data≠.plain) \/ ∃ y q,o=.lam y q /\ (b,y,q)∈bY:=λb o z=>by
  rcases both b o z with ⟨ob,xs,od,its,n,sl,rfl,_,e,rfl,_⟩ | h
  .exact .inl ⟨_,_,rfl,λes ep=>⟨λy=>(by cases y),λy=>(by cases y)⟩⟩
  .exact .inr h
 have bK:∀ b,(Hc K b).or (Hl b)≠none->(dU K).lookup b=none:=λb z=>by
  cases q:(Hc K b).or (Hl b) with
  | none=>exact absurd q z
  | some o=>
    rw [jc]
    rcases both b o q with ⟨ob,xs,od,its,n,sl,rfl,e0,_⟩ | ⟨y,q',rfl,m⟩
    .rw [e0]; rfl
    .rw [(C.out b y q' m).1]; split <;> rfl
 have bT:∀ p xs,(p,xs)∈bX->∃ ob,(Hc K p).or (Hl p)=some (.rJ ob (.tup xs)):=λp xs m=>by
  obtain ⟨ob,e⟩:=WX p xs m
  exact ⟨ob,by rw [e,Option.some_or]⟩
 have bL:∀ p y q,(p,y,q)∈bY->(Hc K p).or (Hl p)=some (.lam y q):=λp y q m=>by
  rw [WY p y q m,Option.none_or]; unfold Hl; rw [C.one p y q m]; rfl
 have Vh:(Hc K a).or (Hl a)=none:=by
  cases q:(Hc K a).or (Hl a) with
  | none=>rfl
  | some o=>
    rcases both a o q with ⟨ob,xs,od,its,n,sl,rfl,_,e,rfl,_⟩ | ⟨y,q',rfl,m⟩
    .have:=KX a _ e
     rw [ha] at this
     have:=aam Obj.cls (ZV this)
     exact absurd (abh this) (by decide)
    .have:=hT a y q' m
     rw [ha] at this; cases this
 cases hk:(dU K).lookup a with
 | some o=>
   have e0:K.lookup a=some o:=by
    rw [jc] at hk
    split at hk
    .exact hk
    .cases hk
   have e:=KX a o e0
   rw [ha] at e
   cases e
   exact core (λb=>(Hc K b).or (Hl b)) bF (.inr ⟨vs,_,hk,by rw [TB]; exact hl,rv⟩) (λb u z=>bO _ b u z) (λp xs m=>.inr (bT p xs m)) bL bK
 | none=>
   refine core (λb=>if b=a then some (.rJ { cls:=.type "list",data:=.seq vs.toArray } (.lst (ns.map V.int))) else (Hc K b).or (Hl b)) (λb o z=>?_) (.inl (.inr ⟨{ cls:=.type "list",data:=.seq vs.toArray },Zk rfl⟩)) (λb u z=>?_) (λp xs m=>?_) (λp y q m=>?_) λb z=>?_
   .by_cases hb:b=a
    .have z':=(Zk hb).symm.trans z
     cases z'
     exact .inl ⟨_,_,rfl,λes ep=>⟨λy=>(by cases y),λy=>(by cases y)⟩⟩
    .exact bF b o ((Zj hb).symm.trans z)
   .by_cases hb:b=a
    .have z':=(Zk hb).symm.trans z
     cases z'
     subst hb
     exact ⟨ha,by rw [Y7]; exact hl,vs,_,rv,ha⟩
    .exact bO _ b u ((Zj hb).symm.trans z)
   .obtain ⟨ob,q⟩:=bT p xs m
    have hb:p≠a:=λe=>by rw [e,Vh] at q; cases q
    exact .inr ⟨ob,(Zj hb).trans q⟩
   .have hb:p≠a:=λe=>by have:=bL p y q m; rw [e,Vh] at this; cases this
    exact (Zj hb).trans (bL p y q m)
   .by_cases hb:b=a
    .subst hb; exact hk
    .exact bK b λq=>z ((Zj hb).trans q)
theorem Eo {l:PySem.W.OpenLaw} {n k:Nat} {q:Program} {loose:List Str} {XP:(Str->Option Value)->Heap->Prop} {YP:World->Heap->Prop} {d:DefRec} {K:Params->PySem.W.Frag} {sp:World->Sp} {x:Str}
  (hn:l.most=some n) (Oa:n<=sizeLine) (O2:d.params.defaults=[]) (hr:cJ k callerA) (hY:∀ (w:World) (h:Heap),YP w h->(K w.params).In h /\ ∀ p y q,(p,y,q)∈bY->h.get? p=some (PySem.W.tabObj #[]))
  (F:∀ (w:World) (mg:Str->Option Value) (fa:Addr) (h:Heap),(K w.params).In h->h.Ns mainGlobals mg->mg d.name=some (.ref fa)->hJ (K w.params) /\ xc (K w.params) /\
   ∃ fd:FuncData,(∀ (s:Shared) (u:Value),BindsTo s fd ⟨[u],[]⟩ [(x,u)]) /\ ∀ base:Heap,(dU (K w.params)).In base->base.Ns mainGlobals mg->HL mg base->lQ l.prog w (dU (K w.params)) mg base o6 k fa fd [x] (sp w))
  (Ag:∀ (w:World) (H:Hp) (a:Addr) (ns:List Int),ns.length<=n->yi (dU (K w.params)) H a (ns.map V.int)->(∀ p xs,(p,xs)∈bX->cV H p xs)->(∀ p y q,(p,y,q)∈bY->H p=some (.lam y q))->sp w [.ref a] H (λv H'=>v=.bl true /\ aA H H') λ_ _ _=>False):
  PySem.W.WalkO q loose XP YP l.row.toRowW d [] (λf vs=>PySem.call f vs):=by
 refine UO.wq hn O2 λw fE bE mg mb fa o pm cd doc a vs ns G Y ho hd oY O3 Dp hints hlen hg=>?_
 obtain ⟨KX,KT⟩:=hY w _ Y
 obtain ⟨CC,C,fd,hb,hF⟩:=F w mg fa _ KX G.T.g O3
 exact Ck CC C KX KT G.T.g G.T.b G.T.builtins G.T.nolimit G.T.bmain hg Dp hints (ZQ hlen Oa) hr hF hb (λH hS hC hT=>Ag w H a ns hlen hS hC hT)
end L2
namespace KS
open PySem PyProof.Rows
section
variable {κ:KeyKind}
end
section
variable {prog:Program} {w:World} {A:Around} {E:Value->Shared->Prop} {s:Shared} {ax:Array Keyed} {κ:KeyKind}
structure Ba (ax:Array Keyed) (kd:SortKind) (st:SortSt):Prop where
 perm:(arrOf st).Perm ax
 kind:kindOf st=kd
 failed:failedOf st=none
theorem Ba.size {kd:SortKind} {st:SortSt} (h:Ba ax kd st):(arrOf st).size=ax.size:=h.perm.size_eq
theorem Ba.arr {kd:SortKind} {st:SortSt} (h:Ba ax kd st) {xs:Array Keyed} (hp:xs.Perm (arrOf st)):Ba ax kd (setArr st xs):=⟨hp.trans h.perm,h.kind,h.failed⟩
theorem Ba.get {kd:SortKind} {st:SortSt} (h:Ba ax kd st) {i:Nat} (hi:i < ax.size):∃ x,(arrOf st)[i]?=some x /\ x∈ax.toList /\ KK κ (arrOf st) i=(κ.keyOf x.1).getD κ.dflt:=by
 have AK:i < (arrOf st).size:=by rw [h.size]; exact hi
 have e:(arrOf st)[i]?=some (arrOf st)[i]:=acr _ i AK
 refine ⟨(arrOf st)[i],e,(abA.mp h.perm).mem_iff.mp (by simp),?_⟩
 unfold KK; rw [e]
def rZ (prog:Program) (w:World) (A:Around) (E:Value->Shared->Prop) (s:Shared) (κ:KeyKind) (kd:SortKind) (ax:Array Keyed):Prop:=
 ∀ x y:Keyed,x∈ax.toList->y∈ax.toList->∀ (E':Value->Shared->Prop) (Q:Bool->Shared->Prop),Q (κ.blt ((κ.keyOf x.1).getD κ.dflt) ((κ.keyOf y.1).getD κ.dflt)) s->wpAny (model prog w) A (keyLt' kd x.1 y.1) Q E' s
theorem MY {kd:SortKind} {st:SortSt} {x y:Keyed} {Q:Option Bool->SortSt->Prop} (hO:rZ prog w A E s κ kd ax) (hk:kindOf st=kd) (hx:x∈ax.toList) (hy:y∈ax.toList) (h:Q (some (κ.blt ((κ.keyOf x.1).getD κ.dflt) ((κ.keyOf y.1).getD κ.dflt))) st):
  wpS (model prog w) A E s (lt' x y) Q st:=by
 rw [lt'_eq]
 refine wpS_bind (wpS_get ?_)
 refine wpS_bind (wpS_lift (abQ ?_))
 rw [hk]
 exact hO x y hx hy _ _ ⟨rfl,wpS_pure h⟩
theorem xf {st:SortSt} {xs:Array Keyed} {i:Nat} {x:Keyed} {Q:Keyed->SortSt->Prop} (hi:xs[i]?=some x) (h:Q x st):wpS (model prog w) A E s (elem' xs i) Q st:=by
 rw [elem'_eq,hi]
 exact wpS_pure h
theorem nz {kd:SortKind} {st:SortSt} {i j:Nat} {Q:Option Bool->SortSt->Prop} (hO:rZ prog w A E s κ kd ax) (hB:Ba ax kd st) (hi:i < ax.size) (hj:j < ax.size) (h:Q (some (κ.blt (KK κ (arrOf st) i) (KK κ (arrOf st) j))) st):
  wpS (model prog w) A E s (ltAt' i j) Q st:=by
 obtain ⟨x,e1,m1,k1⟩:=hB.get (κ:=κ) hi
 obtain ⟨y,e2,m2,k2⟩:=hB.get (κ:=κ) hj
 rw [k1,k2] at h
 rw [ltAt'_eq]
 exact wpS_bind (wpS_get (wpS_bind (xf e1 (wpS_bind (xf e2 (MY hO hB.kind m1 m2 h))))))
end
def OO (o:Keyed->Nat) (xs:Array Keyed) (i:Nat):Nat:=(xs[i]?.map o).getD 0
def lx (κ:KeyKind) (p q:κ.α×Nat):Prop:=κ.klt p.1 q.1 \/ p.1=q.1 /\ p.2 < q.2
def TT (κ:KeyKind) (o:Keyed->Nat) (xs:Array Keyed) (i:Nat):κ.α×Nat:=(KK κ xs i,OO o xs i)
def uu (κ:KeyKind) (o:Keyed->Nat) (xs:Array Keyed) (k:Nat):Prop:=∀ i j,i < j->j < k->lx κ (TT κ o xs i) (TT κ o xs j)
def Dec (κ:KeyKind) (o:Keyed->Nat) (xs:Array Keyed) (k:Nat):Prop:=∀ i j,i < j->j < k->lx κ (TT κ o xs j) (TT κ o xs i)
section
variable {prog:Program} {w:World} {A:Around} {E:Value->Shared->Prop} {s:Shared} {ax:Array Keyed} {κ:KeyKind} {o:Keyed->Nat} {kd:SortKind}
theorem qI {xs ys:Array Keyed} {i j:Nat} (h:ys[i]?=xs[j]?):TT κ o ys i=TT κ o xs j:=by unfold TT OO KK; rw [h]
theorem Ep {p q:κ.α×Nat} (h:lx κ p q):κ.kle p.1 q.1:=by
 rcases h with h | ⟨h,_⟩
 .exact KeyOrd.kle_of_klt h
 .rw [h]; exact KeyOrd.kle_refl _
theorem qJ {p q r:κ.α×Nat} (h:lx κ p q) (k:lx κ q r):lx κ p r:=by
 rcases h with h | ⟨h,h'⟩
 .exact .inl (KeyOrd.klt_of_klt_of_kle h (Ep k))
 .rcases k with k | ⟨k,k'⟩
  .rw [<- h] at k; exact .inl k
  .exact .inr ⟨h.trans k,aco h' k'⟩
theorem Ko {p q:κ.α×Nat} (h:κ.blt q.1 p.1=false) (k:p.2 < q.2):lx κ p q:=by
 cases e:κ.blt p.1 q.1 with
 | true=>exact .inl e
 | false=>exact .inr ⟨KeyOrd.kle_antisymm h e,k⟩
theorem Qa {p q:κ.α×Nat} (h:lx κ p q) (k:q.2<=p.2):κ.klt p.1 q.1:=by
 rcases h with h | ⟨_,h⟩
 .exact h
 .exact absurd h (Nat.not_lt.mpr k)
structure Pre (o:Keyed->Nat) (ax:Array Keyed) (kd:SortKind) (gO:Array (Nat×Nat×Nat)) (st:SortSt) (k:Nat):Prop where
 base:Ba ax kd st
 pend:pendingOf st=gO
 rest:∀ i,k<=i->(arrOf st)[i]?=ax[i]?
 ord:∀ i,i < k->OO o (arrOf st) i < k
variable {gO:Array (Nat×Nat×Nat)} {st:SortSt}
theorem Pre.own {k:Nat} (hP:Pre o ax kd gO st k) (hA:∀ i,i < ax.size->OO o ax i=i) {i:Nat} (h1:k<=i) (h2:i < ax.size):OO o (arrOf st) i=i:=by
 rw [show OO o (arrOf st) i=OO o ax i by unfold OO; rw [hP.rest i h1]]
 exact hA i h2
theorem Pre.more {k n:Nat} (hP:Pre o ax kd gO st k) (hA:∀ i,i < ax.size->OO o ax i=i) (TC:k<=n) (hn:n<=ax.size):Pre o ax kd gO st n:=by
 refine ⟨hP.base,hP.pend,λi h=>hP.rest i (by omega),λi h=>?_⟩
 by_cases q:i < k
 .have:=hP.ord i q; omega
 .rw [hP.own hA (by omega) (by omega)]; exact h
theorem AL {a:Nat} {Q:AscSt->SortSt->Prop} (hO:rZ prog w A E s κ kd ax) (hA:∀ i,i < ax.size->OO o ax i=i) (ha:1<=a) (WZ:a<=ax.size) (hP:Pre o ax kd gO st a) (hs:uu κ o (arrOf st) a)
  (h:∀ n,a<=n->n<=ax.size->uu κ o (arrOf st) n->(n=ax.size \/ κ.klt (KK κ (arrOf st) n) (KK κ (arrOf st) (n - 1)))->Q (none,n) st):wpS (model prog w) A E s (ascLoop a ax.size) Q st:=by
 unfold ascLoop
 refine wpS_forRange (I:=λx c cm=>cm=st /\ c=(none,x) /\ uu κ o (arrOf st) x) ?step ?fin ⟨rfl,rfl,hs⟩
 case fin=>
  rintro c cm ⟨rfl,rfl,jX⟩
  rw [show max a ax.size=ax.size by omega] at jX ⊢
  exact h _ WZ (Ze _) jX (.inl rfl)
 case step=>
  rintro x c cm RD Vi ⟨rfl,rfl,jX⟩
  dsimp only
  refine wpS_bind (nz hO hP.base (by omega) (by omega) ?_)
  cases xg:κ.blt (KK κ (arrOf cm) x) (KK κ (arrOf cm) (x - 1))
  case true=>
   simp only [aaW]
   exact wpS_pure (h x RD (by omega) jX (.inr xg))
  case false=>
   simp only [ZN,aaN]
   have hx:=hP.more hA RD (by omega)
   have last:lx κ (TT κ o (arrOf cm) (x - 1)) (TT κ o (arrOf cm) x):=Ko xg (by
    show OO o (arrOf cm) (x - 1) < OO o (arrOf cm) x
    rw [hx.own hA (Ze _) Vi]; exact hx.ord _ (by omega))
   refine wpS_pure ⟨rfl,rfl,λi j g7 hj=>?_⟩
   by_cases W0:j < x
   .exact jX i j g7 W0
   .have e:j=x:=by omega
    rw [e]
    by_cases q:i=x - 1
    .rw [q]; exact last
    .exact qJ (jX i (x - 1) (by omega) (by omega)) last
theorem tm {n:Nat} {Q:Option Nat->SortSt->Prop} (hO:rZ prog w A E s κ kd ax) (hA:∀ i,i < ax.size->OO o ax i=i) (h1:1<=n) (HQ:n<=ax.size) (hP:Pre o ax kd gO st n) (hs:Dec κ o (arrOf st) n)
  (h:∀ m cm,1<=m->m<=ax.size->Pre o ax kd gO cm m->uu κ o (arrOf cm) m->Q (some m) cm):wpS (model prog w) A E s (tail3 n ax.size) Q st:=by
 unfold tail3
 have hsz:n<=(arrOf st).size:=by rw [hP.base.size]; omega
 refine wpS_bind (wpS_reverse ?_)
 have g:∀ i,(mirror (arrOf st) 0 n ((n - 0) / 2))[i]?=if 0<=i /\ i < n then (arrOf st)[0 + n - 1 - i]? else (arrOf st)[i]?:=getElem?_mirror_all hsz
 have mP:Pre o ax kd gO (setArr st (mirror (arrOf st) 0 n ((n - 0) / 2))) n:=by
  refine ⟨hP.base.arr (mirror_perm _ _ _ _),hP.pend,λi hi=>?_,λi hi=>?_⟩
  .show (mirror (arrOf st) 0 n ((n - 0) / 2))[i]?=_
   rw [g,Zj (by omega)]; exact hP.rest i hi
  .show OO o (mirror (arrOf st) 0 n ((n - 0) / 2)) i < n
   unfold OO
   rw [g,Zk (by omega)]
   exact hP.ord _ (by omega)
 refine wpS_bind (AL hO hA h1 HQ mP ?_ λm Ob CP W1 _=>wpS_pure (h m _ (by omega) CP (mP.more hA Ob CP) W1))
 intro i j g7 hj
 show lx κ (TT κ o (mirror (arrOf st) 0 n ((n - 0) / 2)) i) (TT κ o (mirror (arrOf st) 0 n ((n - 0) / 2)) j)
 rw [qI ((g i).trans (Zk (by omega))),qI ((g j).trans (Zk (by omega)))]
 exact hs _ _ (by omega) (by omega)
structure uv (κ:KeyKind) (o:Keyed->Nat) (xs:Array Keyed) (g x:Nat):Prop where
 dec:∀ i j,i < j->j < x->i < g->lx κ (TT κ o xs j) (TT κ o xs i)
 same:∀ i,g<=i->i < x->KK κ xs i=KK κ xs (x - 1)
theorem uv.le {xs:Array Keyed} {g x:Nat} (h:uv κ o xs g x) {i:Nat} (hi:i < x):κ.kle (KK κ xs (x - 1)) (KK κ xs i):=by
 by_cases q:g<=i
 .rw [h.same i q hi]; exact KeyOrd.kle_refl _
 .by_cases q2:i=x - 1
  .rw [q2]; exact KeyOrd.kle_refl _
  .exact Ep (h.dec i (x - 1) (by omega) (by omega) (by omega))
theorem oa {g x:Nat} (hA:∀ i,i < ax.size->OO o ax i=i) (hx:x<=ax.size) (hg:g < x) (hP:Pre o ax kd gO st g) (hF:uv κ o (arrOf st) g x):
  Pre o ax kd gO (setArr st (mirror (arrOf st) g x ((x - g) / 2))) x /\ Dec κ o (mirror (arrOf st) g x ((x - g) / 2)) x /\ (∀ i,i < x->κ.kle (KK κ (arrOf st) (x - 1)) (KK κ (mirror (arrOf st) g x ((x - g) / 2)) i)) /\ ∀ i,x<=i->KK κ (mirror (arrOf st) g x ((x - g) / 2)) i=KK κ (arrOf st) i:=by
 have hsz:x<=(arrOf st).size:=by rw [hP.base.size]; omega
 have e:∀ i,(mirror (arrOf st) g x ((x - g) / 2))[i]?=if g<=i /\ i < x then (arrOf st)[g + x - 1 - i]? else (arrOf st)[i]?:=getElem?_mirror_all hsz
 have t:∀ i,TT κ o (mirror (arrOf st) g x ((x - g) / 2)) i=if g<=i /\ i < x then TT κ o (arrOf st) (g + x - 1 - i) else TT κ o (arrOf st) i:=λi=>by
  by_cases q:g<=i /\ i < x
  .rw [Zk q]; exact qI ((e i).trans (Zk q))
  .rw [Zj q]; exact qI ((e i).trans (Zj q))
 refine ⟨⟨hP.base.arr (mirror_perm _ _ _ _),hP.pend,λi hi=>?_,λi hi=>?_⟩,λi j g7 hj=>?_,λi hi=>?_,λi hi=>?_⟩
 .show (mirror (arrOf st) g x ((x - g) / 2))[i]?=_
  rw [e,Zj (by omega)]; exact hP.rest i (by omega)
 .show (TT κ o (mirror (arrOf st) g x ((x - g) / 2)) i).2 < x
  rw [t]
  by_cases q:g<=i /\ i < x
  .rw [Zk q]
   show OO o (arrOf st) (g + x - 1 - i) < x
   rw [hP.own hA (by omega) (by omega)]; omega
  .rw [Zj q]
   have:=hP.ord i (by omega)
   exact aco this hg
 .by_cases qi:g<=i
  .rw [(t i).trans (Zk ⟨qi,by omega⟩),(t j).trans (Zk ⟨by omega,hj⟩)]
   refine .inr ⟨(hF.same _ (by omega) (by omega)).trans (hF.same _ (by omega) (by omega)).symm,?_⟩
   show OO o (arrOf st) _ < OO o (arrOf st) _
   rw [hP.own hA (by omega) (by omega),hP.own hA (by omega) (by omega)]; omega
  .rw [(t i).trans (Zj λz=>qi z.1)]
   by_cases qj:g<=j
   .rw [(t j).trans (Zk ⟨qj,hj⟩)]; exact hF.dec _ _ (by omega) (by omega) (by omega)
   .rw [(t j).trans (Zj λz=>qj z.1)]; exact hF.dec _ _ g7 hj (by omega)
 .show κ.kle _ (TT κ o (mirror (arrOf st) g x ((x - g) / 2)) i).1
  rw [t]
  by_cases q:g<=i /\ i < x
  .rw [Zk q]; exact hF.le (by omega)
  .rw [Zj q]; exact hF.le hi
 .show (TT κ o (mirror (arrOf st) g x ((x - g) / 2)) i).1=_
  rw [t,Zj (by omega)]; rfl
theorem qK (xs:Array Keyed) {x:Nat} (hx:1<=x):mirror xs (x - 1) x ((x - (x - 1)) / 2)=xs:=by
 rw [show x - (x - 1)=1 by omega]; rfl
theorem xh (st:SortSt):setArr st (arrOf st)=st:=rfl
theorem Cm {n:Nat} {Q:DescSt->SortSt->Prop} (hO:rZ prog w A E s κ kd ax) (hA:∀ i,i < ax.size->OO o ax i=i) (h1:1<=n) (HQ:n<=ax.size) (hP:Pre o ax kd gO st (n - 1)) (hF:uv κ o (arrOf st) (n - 1) n)
  (h:∀ m qL cm,n<=m->m<=ax.size->qL + 1<=m->Pre o ax kd gO cm (m - (qL + 1))->uv κ o (arrOf cm) (m - (qL + 1)) m->Q (none,m,qL) cm):wpS (model prog w) A E s (descLoop n ax.size) Q st:=by
 unfold descLoop
 refine wpS_forRange (I:=λx c cm=>∃ qL,c=(none,x,qL) /\ qL + 1<=x /\ Pre o ax kd gO cm (x - (qL + 1)) /\ uv κ o (arrOf cm) (x - (qL + 1)) x) ?step ?fin ⟨0,rfl,by omega,hP,hF⟩
 case fin=>
  rintro c cm ⟨qL,rfl,hq,mP,Gm⟩
  rw [show max n ax.size=ax.size by omega] at hq mP Gm ⊢
  exact h _ qL cm HQ (Ze _) hq mP Gm
 case step=>
  rintro x c cm RD Vi ⟨qL,rfl,hq,mP,Gm⟩
  dsimp only
  refine wpS_bind (nz hO mP.base (by omega) (by omega) ?_)
  cases xg:κ.blt (KK κ (arrOf cm) x) (KK κ (arrOf cm) (x - 1))
  case true=>
   simp only [aaW]
   obtain ⟨p1,p2,p3,p4⟩:=oa hA (by omega) (by omega) mP Gm
   have fin:∀ cR:SortSt,arrOf cR=mirror (arrOf cm) (x - (qL + 1)) x ((x - (x - (qL + 1))) / 2)->Pre o ax kd gO cR x->∃ HR,((none,x + 1,0):DescSt)=(none,x + 1,HR) /\ HR + 1<=x + 1 /\ Pre o ax kd gO cR (x + 1 - (HR + 1)) /\ uv κ o (arrOf cR) (x + 1 - (HR + 1)) (x + 1):=by
    intro cR e Gn
    refine ⟨0,rfl,by omega,Gn,⟨λi j g7 hj hi=>?_,λi h1 h2=>by congr 1; omega⟩⟩
    rw [e]
    by_cases q:j < x
    .exact p2 i j g7 q
    .have e2:j=x:=by omega
     rw [e2]
     refine .inl ?_
     show κ.klt (KK κ (mirror _ _ _ _) x) _
     rw [p4 x (Ze _)]
     exact KeyOrd.klt_of_klt_of_kle xg (p3 i (by omega))
   by_cases Er:qL > 0
   .rw [Zk Er]
    exact wpS_bind (wpS_reverse (wpS_pure (fin _ rfl p1)))
   .rw [Zj Er]
    have e0:qL=0:=by omega
    subst e0
    have em:=qK (arrOf cm) (x:=x) (by omega)
    rw [show x - (0 + 1)=x - 1 by omega,em,xh] at p1
    exact wpS_pure (fin cm (by rw [show x - (0 + 1)=x - 1 by omega,em]) p1)
  case false=>
   simp only [ZN,aaN]
   refine wpS_bind (nz hO mP.base (by omega) (by omega) ?_)
   cases HS:κ.blt (KK κ (arrOf cm) (x - 1)) (KK κ (arrOf cm) x)
   case true=>
    simp only [aaW]
    exact wpS_pure (h x qL cm RD (by omega) hq mP Gm)
   case false=>
    simp only [ZN,aaN]
    have Qb:KK κ (arrOf cm) x=KK κ (arrOf cm) (x - 1):=KeyOrd.kle_antisymm HS xg
    have eg:x + 1 - (qL + 1 + 1)=x - (qL + 1):=by omega
    refine wpS_pure ⟨qL + 1,rfl,by omega,by rw [eg]; exact mP,?_⟩
    rw [eg]
    refine ⟨λi j g7 hj hi=>?_,λi h1 h2=>?_⟩
    .by_cases q:j < x
     .exact Gm.dec i j g7 q hi
     .have e2:j=x:=by omega
      rw [e2]
      refine .inl ?_
      show κ.klt (KK κ (arrOf cm) x) _
      rw [Qb]
      refine Qa (Gm.dec i (x - 1) (by omega) (by omega) hi) ?_
      show OO o (arrOf cm) i<=OO o (arrOf cm) (x - 1)
      have own:OO o (arrOf cm) (x - 1)=x - 1:=mP.own hA (by omega) (by omega)
      have:=mP.ord i hi
      omega
    .rw [show x + 1 - 1=x by omega]
     by_cases ym:i=x
     .rw [ym]
     .rw [Qb]; exact Gm.same i h1 (by omega)
theorem qM {n:Nat} {Q:Option Nat->SortSt->Prop} (hO:rZ prog w A E s κ kd ax) (hA:∀ i,i < ax.size->OO o ax i=i) (HQ:n + 1<=ax.size) (hP:Pre o ax kd gO st n) (hs:Dec κ o (arrOf st) n) (hl:∀ i,i < n->κ.klt (KK κ (arrOf st) n) (KK κ (arrOf st) i))
  (h:∀ m cm,1<=m->m<=ax.size->Pre o ax kd gO cm m->uu κ o (arrOf cm) m->Q (some m) cm):wpS (model prog w) A E s (descPart n ax.size) Q st:=by
 unfold descPart
 refine wpS_bind (wpS_lift (abl ⟨rfl,?_⟩))
 have hF:uv κ o (arrOf st) (n + 1 - 1) (n + 1):=⟨λi j g7 hj hi=>by
  by_cases q:j < n
  .exact hs i j g7 q
  .rw [show j=n by omega]; exact .inl (hl i (by omega)),λi h1 h2=>by congr 1; omega⟩
 refine wpS_bind (Cm hO hA (by omega) HQ (by simpa using hP) hF λm qL cm Ob CP hq mP Gm=>?_)
 dsimp only
 obtain ⟨p1,p2,_,_⟩:=oa hA CP (by omega) mP Gm
 by_cases Er:qL > 0
 .rw [Zk Er]
  exact wpS_bind (wpS_reverse (tm hO hA (by omega) CP p1 p2 h))
 .rw [Zj Er]
  have e0:qL=0:=by omega
  subst e0
  have em:=qK (arrOf cm) (x:=m) (by omega)
  rw [show m - (0 + 1)=m - 1 by omega,em] at p1 p2
  exact tm hO hA (by omega) CP p1 p2 h
theorem Es {Q:Option Nat->SortSt->Prop} (hO:rZ prog w A E s κ kd ax) (hA:∀ i,i < ax.size->OO o ax i=i) (h1:1<=ax.size) (hP:Pre o ax kd gO st 0)
  (h:∀ m cm,1<=m->m<=ax.size->Pre o ax kd gO cm m->uu κ o (arrOf cm) m->Q (some m) cm):wpS (model prog w) A E s (countRun' 0 ax.size) Q st:=by
 rw [countRun0_eq]
 have W2:=hP.more hA (aah 1) h1
 refine wpS_bind (AL hO hA (Ze 1) h1 W2 (λi j g7 hj=>by omega) λn Vj Oa TF W3=>?_)
 have TH:=hP.more hA (aah n) Oa
 dsimp only
 by_cases HQ:n=ax.size
 .rw [if_pos (by simpa using HQ)]
  exact wpS_pure (h n st Vj Oa TH TF)
 .rw [if_neg (by simpa using HQ)]
  have fg:κ.klt (KK κ (arrOf st) n) (KK κ (arrOf st) (n - 1)):=W3.resolve_left HQ
  by_cases Vk:n > 1
  .rw [Zk Vk]
   refine wpS_bind (nz hO hP.base (by omega) (by omega) ?_)
   cases Qc:κ.blt (KK κ (arrOf st) 0) (KK κ (arrOf st) (n - 1))
   case true=>
    simp only [aaW]
    exact wpS_pure (h n st Vj Oa TH TF)
   case false=>
    simp only [ZN,aaN]
    have le:∀ i j,i<=j->j < n->κ.kle (KK κ (arrOf st) i) (KK κ (arrOf st) j):=λi j g7 hj=>by
     by_cases q:i=j
     .rw [q]; exact KeyOrd.kle_refl _
     .exact Ep (TF i j (by omega) hj)
    have hF:uv κ o (arrOf st) 0 n:=⟨λi j _ _ hi=>absurd hi (Nat.not_lt_zero _),λi _ hi=>KeyOrd.kle_antisymm (le i (n - 1) (by omega) (by omega)) (KeyOrd.kle_trans Qc (le 0 i (by omega) hi))⟩
    obtain ⟨p1,p2,p3,p4⟩:=oa hA Oa (by omega) hP hF
    refine wpS_bind (wpS_reverse (qM hO hA (by omega) p1 p2 (λi hi=>?_) h))
    show κ.klt (KK κ (mirror _ _ _ _) n) (KK κ (mirror _ _ _ _) i)
    rw [p4 n (Ze _)]
    exact KeyOrd.klt_of_klt_of_kle fg (p3 i hi)
  .rw [Zj Vk]
   have e1:n=1:=by omega
   subst e1
   exact qM hO hA (by omega) TH (λi j g7 hj=>by omega) (λi hi=>by rw [show i=1 - 1 by omega]; exact fg) h
theorem Et {ok:Nat} {Q:Bool->SortSt->Prop} (hO:rZ prog w A E s κ kd ax) (hA:∀ i,i < ax.size->OO o ax i=i) (W4:1<=ok) (cf:ok<=ax.size) (hP:Pre o ax kd gO st ok) (hs:uu κ o (arrOf st) ok)
  (h:∀ cm,Pre o ax kd gO cm ax.size->uu κ o (arrOf cm) ax.size->Q true cm):wpS (model prog w) A E s (binarySort' 0 ax.size ok) Q st:=by
 rw [binarySort'_eq]
 simp only [aas]
 refine wpS_bind (wpS_mono (wpS_forRange (I:=λk c cm=>c=(none,()) /\ k<=ax.size /\ Pre o ax kd gO cm k /\ uu κ o (arrOf cm) k) (Q:=λc cm=>c=(none,()) /\ Pre o ax kd gO cm ax.size /\ uu κ o (arrOf cm) ax.size) ?step ?fin ?init) ?post)
 case init=>rw [show max ok 1=ok by omega]; exact ⟨rfl,cf,hP,hs⟩
 case post=>
  rintro c cm ⟨rfl,h1,h2⟩
  exact wpS_pure (h cm h1 h2)
 case fin=>
  rintro c cm ⟨hc,_,h1,h2⟩
  rw [show max (max ok 1) ax.size=ax.size by omega] at h1 h2
  exact ⟨hc,h1,h2⟩
 case step=>
  rintro k c cm YU TC ⟨rfl,_,mP,jX⟩
  have own:=mP.own hA (Ze _) TC
  refine wpS_bind (wpS_mono (wpS_forRange (I:=λx c cR=>cR=cm /\ ∃ l r,c=(none,l,r) /\ l<=r /\ r<=k /\ r - l<=k - x /\ (∀ i,i < l->lx κ (TT κ o (arrOf cm) i) (TT κ o (arrOf cm) k)) /\ (∀ i,r<=i->i < k->lx κ (TT κ o (arrOf cm) k) (TT κ o (arrOf cm) i)))
   (Q:=λc cR=>cR=cm /\ ∃ l r,c=(none,l,r) /\ l<=k /\ (∀ i,i < l->lx κ (TT κ o (arrOf cm) i) (TT κ o (arrOf cm) k)) /\ (∀ i,l<=i->i < k->lx κ (TT κ o (arrOf cm) k) (TT κ o (arrOf cm) i))) ?istep ?ifin ?iinit) ?ipost)
  case iinit=>exact ⟨rfl,0,k,rfl,by omega,by omega,by omega,λi hi=>by omega,λi h1 h2=>by omega⟩
  case ifin=>
   rintro c cR ⟨rfl,l,r,rfl,a1,a2,a3,a4,a5⟩
   exact ⟨rfl,l,r,rfl,by omega,a4,λi b1 b2=>a5 i (by omega) b2⟩
  case istep=>
   rintro x c cR _ hx ⟨rfl,l,r,rfl,a1,a2,a3,a4,a5⟩
   dsimp only
   by_cases g:l >=r
   .rw [Zk g]
    exact wpS_pure ⟨rfl,l,r,rfl,by omega,a4,λi b1 b2=>a5 i (by omega) b2⟩
   .rw [Zj g]
    refine wpS_bind (nz hO mP.base (by omega) (by omega) ?_)
    cases q:κ.blt (KK κ (arrOf cR) k) (KK κ (arrOf cR) ((l + r) / 2))
    case true=>
     simp only [aaW]
     refine wpS_pure ⟨rfl,l,(l + r) / 2,rfl,by omega,by omega,by omega,a4,λi b1 b2=>?_⟩
     by_cases e:i=(l + r) / 2
     .rw [e]; exact .inl q
     .exact qJ (q:=TT κ o (arrOf cR) ((l + r) / 2)) (.inl q) (jX _ _ (by omega) b2)
    case false=>
     simp only [ZN,aaN]
     have mid:lx κ (TT κ o (arrOf cR) ((l + r) / 2)) (TT κ o (arrOf cR) k):=Ko q (by
      show OO o (arrOf cR) _ < OO o (arrOf cR) k
      rw [own]; exact mP.ord _ (by omega))
     refine wpS_pure ⟨rfl,(l + r) / 2 + 1,r,rfl,by omega,by omega,by omega,λi b1=>?_,a5⟩
     by_cases e:i=(l + r) / 2
     .rw [e]; exact mid
     .exact qJ (jX _ _ (by omega) (by omega)) mid
  case ipost=>
   rintro c cR ⟨rfl,l,r,rfl,a1,a4,a5⟩
   show wpS _ _ _ _ (do moveDown' k l; pure (ForInStep.yield (none,()))) _ _
   rw [moveDown'_eq]
   have W5:k < (arrOf cR).size:=by rw [mP.base.size]; exact TC
   have e:∀ i,(bubble (arrOf cR) k (k - l))[i]?=if i=l then (arrOf cR)[k]? else if l < i /\ i<=k then (arrOf cR)[i - 1]? else (arrOf cR)[i]?:=λi=>by
    rw [getElem?_bubble W5 (k - l) (by omega),show k - (k - l)=l by omega]
   have t:∀ i,TT κ o (bubble (arrOf cR) k (k - l)) i=if i=l then TT κ o (arrOf cR) k else if l < i /\ i<=k then TT κ o (arrOf cR) (i - 1) else TT κ o (arrOf cR) i:=λi=>by
    by_cases q1:i=l
    .rw [Zk q1]; exact qI ((e i).trans (Zk q1))
    .rw [Zj q1]
     by_cases q2:l < i /\ i<=k
     .rw [Zk q2]; exact qI ((e i).trans ((Zj q1).trans (Zk q2)))
     .rw [Zj q2]; exact qI ((e i).trans ((Zj q1).trans (Zj q2)))
   refine wpS_bind (wpS_modify (wpS_pure ⟨rfl,by omega,⟨mP.base.arr (bubble_perm _ _ _),mP.pend,λi hi=>?_,λi hi=>?_⟩,λi j g7 hj=>?_⟩))
   .show (bubble (arrOf cR) k (k - l))[i]?=_
    rw [e,Zj (by omega),Zj (by omega)]; exact mP.rest i (by omega)
   .show (TT κ o (bubble (arrOf cR) k (k - l)) i).2 < k + 1
    rw [t]
    by_cases q1:i=l
    .rw [Zk q1]; show OO o (arrOf cR) k < k + 1; omega
    .rw [Zj q1]
     by_cases q2:l < i /\ i<=k
     .rw [Zk q2]; exact aan (mP.ord _ (by omega))
     .rw [Zj q2]; exact aan (mP.ord _ (by omega))
   .show lx κ (TT κ o (bubble (arrOf cR) k (k - l)) i) (TT κ o (bubble (arrOf cR) k (k - l)) j)
    rw [t i,t j]
    by_cases i1:i=l
    .rw [Zk i1,Zj (by omega),Zk (by omega)]
     exact a5 _ (by omega) (by omega)
    .rw [Zj i1]
     by_cases j1:j=l
     .rw [Zk j1,Zj (by omega)]
      exact a4 i (by omega)
     .rw [Zj j1]
      by_cases i2:l < i /\ i<=k
      .rw [Zk i2,Zk (by omega)]
       exact jX _ _ (by omega) (by omega)
      .rw [Zj i2]
       by_cases j2:l < j /\ j<=k
       .rw [Zk j2]
        exact jX _ _ (by omega) (by omega)
       .rw [Zj j2]
        exact jX _ _ (by omega) (by omega)
theorem Eu {Q:Unit->SortSt->Prop} (hO:rZ prog w A E s κ kd ax) (hA:∀ i,i < ax.size->OO o ax i=i) (hB:Ba ax kd st) (he:arrOf st=ax) (hp:pendingOf st=#[]) (h2:2<=ax.size) (vZ:ax.size < 64)
  (h:∀ cm,Ba ax kd cm->uu κ o (arrOf cm) ax.size->Q () cm):wpS (model prog w) A E s sortRuns' Q st:=by
 have hP:Pre o ax kd #[] st 0:=⟨hB,hp,λi _=>by rw [he],λi hi=>absurd hi (Nat.not_lt_zero _)⟩
 rw [sortRuns'_eq]
 refine wpS_bind (wpS_get ?_)
 dsimp only
 have W6:minRun' ax.size ax.size 0=ax.size:=by
  obtain ⟨f,hf⟩:∃ f,ax.size=f + 1:=⟨ax.size - 1,by omega⟩
  have:minRun' (f + 1) ax.size 0=ax.size:=by rw [minRun'_succ,Zk vZ]; rfl
  rwa [<- hf] at this
 simp only [hB.size,W6]
 have done:∀ cR:SortSt,Pre o ax kd #[] cR ax.size->uu κ o (arrOf cR) ax.size->Ba ax kd (setPending cR ((pendingOf cR).push (0,ax.size,0))) /\ pendingOf (setPending cR ((pendingOf cR).push (0,ax.size,0)))=#[(0,ax.size,0)] /\ uu κ o (arrOf (setPending cR ((pendingOf cR).push (0,ax.size,0)))) ax.size:=λcR Gn mN=>
  ⟨⟨Gn.base.perm,Gn.base.kind,Gn.base.failed⟩,by show (pendingOf cR).push _=_; rw [Gn.pend]; rfl,mN⟩
 refine wpS_bind (wpS_mono (wpS_forRange
  (I:=λx c cm=>(x=0 /\ c=(none,0) /\ Pre o ax kd #[] cm 0) \/ (1<=x /\ c=(none,ax.size) /\ Ba ax kd cm /\ pendingOf cm=#[(0,ax.size,0)] /\ uu κ o (arrOf cm) ax.size))
  (Q:=λc cm=>c=(none,ax.size) /\ Ba ax kd cm /\ pendingOf cm=#[(0,ax.size,0)] /\ uu κ o (arrOf cm) ax.size) ?step ?fin (.inl ⟨rfl,rfl,hP⟩)) ?post)
 case fin=>
  rintro c cm (⟨hx,_,_⟩ | ⟨_,hc,hD⟩)
  .omega
  .exact ⟨hc,hD⟩
 case step=>
  rintro x c cm _ hx (⟨rfl,rfl,mP⟩ | ⟨Vl,rfl,hD⟩)
  .dsimp only
   rw [Zj (by omega)]
   simp only [Nat.sub_zero,adf,aas]
   refine wpS_bind (Es hO hA (by omega) mP λm cR Ob CP Gn mN=>?_)
   dsimp only
   by_cases fg:m < ax.size
   .rw [Zk fg]
    refine wpS_bind (wpS_lift (abl ⟨rfl,?_⟩))
    refine wpS_bind (Et hO hA Ob CP Gn mN λC5 Vm PB=>?_)
    simp only [acT,ZN,aaN]
    refine wpS_bind (wpS_get ?_)
    have hb:(pendingOf C5).back?=none:=by rw [Vm.pend]; rfl
    rw [hb]
    dsimp only
    exact wpS_bind (wpS_modify (wpS_pure (.inr ⟨by omega,rfl,done C5 Vm PB⟩)))
   .rw [Zj fg]
    have hm:m=ax.size:=by omega
    subst hm
    refine wpS_bind (wpS_get ?_)
    have hb:(pendingOf cR).back?=none:=by rw [Gn.pend]; rfl
    rw [hb]
    dsimp only
    exact wpS_bind (wpS_modify (wpS_pure (.inr ⟨by omega,rfl,done cR Gn mN⟩)))
  .dsimp only
   rw [Zk (Ze _)]
   exact wpS_pure ⟨rfl,hD⟩
 case post=>
  rintro c cm ⟨rfl,hD⟩
  dsimp only
  refine wpS_bind (wpS_mono (wpS_forRange (I:=λ_ c Ew=>Ew=cm /\ c=(none,())) (Q:=λc Ew=>Ew=cm /\ c=(none,())) ?_ (λ_ _ hh=>hh) ⟨rfl,rfl⟩) ?_)
  .rintro x c Ew _ _ ⟨rfl,rfl⟩
   refine wpS_bind (wpS_get ?_)
   rw [Zk (by rw [hD.2.1]; exact Ze 1)]
   exact wpS_pure ⟨rfl,rfl⟩
  .rintro c Ew ⟨rfl,rfl⟩
   exact wpS_pure (h _ hD.1 hD.2.2)
end
end KS
namespace KS
open PySem PySem.W PyProof.Rows
abbrev T2:=Int×Int
def lr (a b:T2):Prop:=a.1 < b.1 \/ a.1=b.1 /\ a.2 < b.2
instance (a b:T2):Decidable (lr a b):=by unfold lr; exact inferInstance
theorem fQ (a:T2):¬ lr a a:=by unfold lr; omega
theorem ls {a b c:T2} (h:lr a b) (k:lr b c):lr a c:=by unfold lr at *; omega
theorem AM {a c:T2} (b:T2) (h:lr a c):lr a b \/ lr b c:=by unfold lr at *; omega
theorem og {a b:T2} (h:¬ lr a b) (k:¬ lr b a):a=b:=by unfold lr at *; exact Prod.ext (by omega) (by omega)
def K2 (key:Value->T2):KeyKind where
 α:=T2
 blt:=λa b=>decide (lr a b)
 irrefl:=λa=>Zr (fQ a)
 trans:=λa b c h k=>Zu (ls (abv h) (abv k))
 negTrans:=λa b c h=>(AM b (abv h)).imp Zu Zu
 total:=λa b h k=>og (of_decide_eq_false h) (of_decide_eq_false k)
 keyOf:=λv=>some (key v)
 dflt:=(0,0)
def RE (h:Heap) (v:Value) (t:T2):Prop:=∃ (p:Addr) (o:Obj) (n:Nat) (t1 t2:Tok),v=.ref p /\ h.get? p=some o /\ o.cls=.type "tuple" /\ o.data=.seq #[.int t.1 t1,.int t.2 t2] n
inductive KV (h:Heap):SortKind->Value->T2->Prop
 | int (n:Int) (t:Tok):KV h oneType' (.int n t) (n,0)
 | dup {v:Value} {t:T2} (d:RE h v t):KV h (tuples' true) v t
theorem Ex {h:Heap} {kd Tg:SortKind} {v:Value} {t u:T2} (a:KV h kd v t) (b:KV h Tg v u):t=u:=by
 cases a with
 | int n t=>
   cases b with
   | int n t=>rfl
   | dup d=>obtain ⟨p,o,n,t1,t2,e,_⟩:=d; cases e
 | dup d=>
   obtain ⟨p,o,n,t1,t2,rfl,g1,_,d1⟩:=d
   cases b with
   | dup d=>
     obtain ⟨p',o',n',u1,u2,e,g2,_,d2⟩:=d
     cases e
     rw [g1] at g2
     cases g2
     rw [d1] at d2
     simp only [Data.seq.injEq,Array.mk.injEq,List.cons.injEq,Value.int.injEq] at d2
     obtain ⟨⟨⟨a1,_⟩,⟨a2,_⟩,_⟩,_⟩:=d2
     exact Prod.ext a1 a2
open Classical in
def qN (h:Heap) (v:Value):T2:=if x:∃ kd t,KV h kd v t then x.choose_spec.choose else (0,0)
theorem AN {h:Heap} {kd:SortKind} {v:Value} {t:T2} (a:KV h kd v t):qN h v=t:=by
 have x:∃ kd t,KV h kd v t:=⟨kd,t,a⟩
 unfold qN
 rw [dif_pos x]
 exact Ex x.choose_spec.choose_spec a
section
variable {prog:Program} {w:World} {A:Around} {E:Value->Shared->Prop} {s:Shared} {kd:SortKind}
theorem Qd {x y:Value} {a b:T2} {Q:Bool->Shared->Prop} (hx:KV s.heap kd x a) (hy:KV s.heap kd y b) (h:Q (decide (lr a b)) s):wpAny (model prog w) A (keyLt' kd x y) Q E s:=by
 have hd:∀ {z:Value} {c:T2} {k:SortKind},KV s.heap k z c->k=tuples' true->RE s.heap z c:=λ{z c k} q e=>by
  cases q with
  | int n t=>cases e
  | dup d=>exact d
 cases hx with
 | int n t=>
   have:∃ m u,y=.int m u /\ b=(m,0):=by
    generalize hk:oneType'=k at hy
    cases hy with
    | int m u=>exact ⟨m,u,rfl,rfl⟩
    | dup d=>cases hk
   obtain ⟨m,u,rfl,rfl⟩:=this
   rw [keyLt'_oneType]
   refine oneLt_int ?_
   rw [show decide (n < m)=decide (lr (n,0) (m,0)) from decide_eq_decide.mpr (by unfold lr; omega)]
   exact h
 | dup hx=>
   have hy:=hd hy rfl
   obtain ⟨p,o,n,t1,t2,rfl,g1,_,d1⟩:=hx
   obtain ⟨q,o',n',u1,u2,rfl,g2,_,d2⟩:=hy
   refine kat_lt g1 d1 g2 d2 ?_
   have one:∀ (i j:Int) (t u:Tok),Q (decide (i < j)) s->wpAny (model prog w) A (oneLt' false (.int i t) (.int j u)) Q (λ_ _=>False) s:=λi j t u hq=>
    kat_one _ _ (wpAny_lt_int hq)
   refine kat_cons (wpAny_eqBool_int (kat_go (λe=>kat_yes ?_) λe=>kat_no ?_))
   .have e:a.1=b.1:=by simpa using e
    refine kat_cons (wpAny_eqBool_int (kat_go (λe2=>kat_yes (kat_nil ?_)) λe2=>kat_no ?_))
    .have e2:a.2=b.2:=by simpa using e2
     have:¬ lr a b:=by unfold lr; omega
     rw [Zr this] at h
     exact h
    .refine one _ _ _ _ ?_
     rw [show decide (a.2 < b.2)=decide (lr a b) from decide_eq_decide.mpr (by unfold lr; omega)]
     exact h
   .have e:a.1≠b.1:=by simpa using e
    refine oneLt_int ?_
    rw [show decide (a.1 < b.1)=decide (lr a b) from decide_eq_decide.mpr (by unfold lr; omega)]
    exact h
theorem HU {vs:List Value} {key:Value->T2} {Q:SortKind->Shared->Prop} (h2:2<=vs.length) (hT:∀ v∈vs,KV s.heap kd v (key v)) (h:Q kd s):wpAny (model prog w) A (keyKind' vs.toArray) Q E s:=by
 obtain ⟨v0,W7⟩:∃ v,v∈vs:=by cases vs with
  | nil=>simp at h2
  | cons v _=>exact ⟨v,Zb⟩
 have h0:=hT v0 W7
 generalize key v0=t0 at h0
 cases h0 with
 | int n t=>
   have hI:IntsAre vs (vs.map numOf):=intsAre_map vs λv hv=>by
    have:=hT v hv
    generalize key v=t1 at this
    generalize hk:oneType'=k at this
    cases this with
    | int m u=>exact ⟨m,u,rfl⟩
    | dup d=>cases hk
   match vs,h2,hI with
   | W8 :: W9 :: rest,_,hI=>rw [keyKind_ints hI]; exact Zc h
 | dup d0=>
   have hD:∀ v∈vs,RE s.heap v (key v):=λv hv=>by
    have:=hT v hv
    generalize hk:tuples' true=k at this
    generalize key v=t1 at this ⊢
    cases this with
    | int m u=>cases hk
    | dup d=>exact d
   have pR:∀ {l:List Value},(∀ v∈l,RE s.heap v (key v))->∃ fs:List Value,KatTups s.heap l fs /\ fs.length=l.length /\ ∀ f∈fs,∃ n t,f=.int n t:=by
    intro l
    induction l with
    | nil=>exact λ_=>⟨[],.nil,rfl,by simp⟩
    | cons v l ih=>
      intro hl
      obtain ⟨fs,h1,h2,h3⟩:=ih λu hu=>hl u (Y8 _ hu)
      obtain ⟨p,o,n,t1,t2,rfl,g1,c1,d1⟩:=hl v Zb
      refine ⟨_ :: fs,.cons g1 c1 d1 (f:=.int _ t1) rfl h1,by simp [h2],λf hf=>?_⟩
      rcases Y6.mp hf with rfl | hf
      .exact ⟨_,_,rfl⟩
      .exact h3 f hf
   obtain ⟨fs,h1,Gi,h3⟩:=pR hD
   refine kat_kind (T:=.type "int") h1 (by omega) (λv hv=>?_) (by decide) h
   obtain ⟨n,t,rfl⟩:=h3 v hv
   exact .now
def ku (ax:Array Keyed) (p:Keyed):Nat:=open Classical in if x:∃ i,ax[i]?=some p then x.choose else 0
theorem AO {ax:Array Keyed} (Ey:ax.toList.Nodup) {i:Nat} (hi:i < ax.size):OO (ku ax) ax i=i:=by
 have e:ax[i]?=some ax[i]:=acr _ i hi
 have x:∃ j,ax[j]?=some ax[i]:=⟨i,e⟩
 unfold OO
 rw [e]
 show ku ax ax[i]=i
 unfold ku
 rw [dif_pos x]
 have h:=x.choose_spec
 rw [<- Array.getElem?_toList] at h e
 exact (List.getElem?_inj (by simpa using hi) Ey).mp (e.trans h.symm) |>.symm
theorem HV {a kS:Addr} {us:List Value} {keys:Array Value} {e e1:Nat} {P:PySem.Fin->Shared->Prop} (hk:s.heap.get? kS=some (seqObj "list" keys e)) (ha:s.heap.get? a=some (seqObj "list" #[] e1)) (Gp:kS≠a)
  (Oc:∀ v∈keys.toList,∃ t,KV s.heap kd v t) (hsz:keys.size=us.length) (vZ:us.length < 64) (hu:us.Nodup)
  (h:∀ (h':Heap) (out:Array Keyed) (c:Nat),(∀ b o,b≠a->b≠kS->s.heap.get? b=some o->h'.get? b=some o)->(∃ o,h'.get? kS=some o)->h'.get? a=some (seqObj "list" (out.map (·.2)) c)->out.Perm (keys.zip us.toArray)->uu (K2 (qN s.heap)) (ku (keys.zip us.toArray)) out us.length->P (.done (.ret .none)) { s with heap:=h' }):
  wpAny (model prog w) A (ksk_end a false us.toArray e1 (.ref kS) keys) P E s:=by
 have hz:us.length<=sizeLine:=by rw [abx]; omega
 have MZ:(keys.zip us.toArray).size=us.length:=by rw [Array.size_zip,hsz,Zm,adf]
 have Ey:(keys.zip us.toArray).toList.Nodup:=by
  rw [ksk_zip]
  have:((keys.toList.zip us).map Prod.snd).Nodup:=by rw [List.map_snd_zip (acq (by rw [ZP]; exact hsz.symm))]; exact hu
  exact (aaw.mp this).imp λq z=>q (aam Prod.snd z)
 have tail:∀ st:SortSt,(arrOf st).Perm (keys.zip us.toArray)->failedOf st=none->uu (K2 (qN s.heap)) (ku (keys.zip us.toArray)) (arrOf st) us.length->wpAny (model prog w) A (ksk_tail a false e1 (.ref kS) st) P E s:=by
  intro st hp hf hi
  have M0:((arrOf st).map (·.2)).size=us.length:=by rw [Array.size_map,hp.size_eq,MZ]
  have s1:=ZK s.heap kS (Obj.mapSeq λ_=>(#[]:Array Value))
  obtain ⟨ck,Xa⟩:∃ c,(s.heap.update kS (Obj.mapSeq λ_=>(#[]:Array Value))).get? kS=some (seqObj "list" #[] c):=⟨_,get?_update_seq hk λ_=>#[]⟩
  have TJ:(s.heap.update kS (Obj.mapSeq λ_=>(#[]:Array Value))).get? a=some (seqObj "list" #[] e1):=(s1.2 a Gp.symm).trans ha
  have s2:=ZK (s.heap.update kS (Obj.mapSeq λ_=>(#[]:Array Value))) a (Obj.mapSeq λ_=>(arrOf st).map (·.2))
  obtain ⟨c2,GR⟩:∃ c2,((s.heap.update kS (Obj.mapSeq λ_=>(#[]:Array Value))).update a (Obj.mapSeq λ_=>(arrOf st).map (·.2))).get? a=some (seqObj "list" ((arrOf st).map (·.2)) c2):=⟨_,get?_update_seq TJ λ_=>(arrOf st).map (·.2)⟩
  unfold ksk_tail
  dsimp only
  refine Y3 (listUpdate_at hk rfl ?_ (by rw [hsz]; exact hz) (aah _))
  refine Y3 (wpAny_letGo ?_)
  refine Y3 (seqEpoch_at TJ rfl ?_)
  simp only [ZN,aaN]
  refine Y3 (listUpdate_at TJ rfl ?_ (aah _) (ZQ (acq M0) (Nat.le_succ_of_le hz)))
  rw [hf]
  simp only [bne_self_eq_false,ZN,aaN]
  exact Zc (h _ _ c2 (λb o h1 h2 eb=>(s2.2 b h1).trans ((s1.2 b h2).trans eb)) ⟨_,(s2.2 kS Gp).trans Xa⟩ GR hp hi)
 unfold ksk_end
 simp only [ZN,aaN]
 by_cases h2:us.toArray.size < 2
 .rw [Zk h2,Zk h2]
  refine Y3 (Zc ?_)
  rw [StateT.run_pure]
  refine Y3 (Zc ?_)
  rw [Zm] at h2
  exact tail (SortSt.mk' general' (keys.zip us.toArray) #[] 7 none) (.refl _) rfl λi j g7 hj=>by omega
 .rw [Zj h2,Zj h2]
  rw [Zm] at h2
  have M1:∀ v∈keys.toList,KV s.heap kd v (qN s.heap v):=λv hv=>by
   obtain ⟨t,ht⟩:=Oc v hv
   rw [AN ht]
   exact ht
  have ek:keys=keys.toList.toArray:=by rw [Array.toArray_toList]
  rw [ek]
  refine Y3 (HU (key:=qN s.heap) (by rw [ZP]; omega) M1 ?_)
  rw [<- ek]
  have hO:rZ prog w A E s (K2 (qN s.heap)) kd (keys.zip us.toArray):=λx y hx hy E' Q hq=>by
   rw [ksk_zip] at hx hy
   exact Qd (M1 _ (abo hx).1) (M1 _ (abo hy).1) hq
  refine Y3 (ZM (Eu (o:=ku (keys.zip us.toArray)) (st:=SortSt.mk' kd (keys.zip us.toArray) #[] 7 none) (Q:=λ_ cm=>Ba (keys.zip us.toArray) kd cm /\ uu (K2 (qN s.heap)) (ku (keys.zip us.toArray)) (arrOf cm) (keys.zip us.toArray).size) hO (λi hi=>AO Ey hi) ⟨.refl _,rfl,rfl⟩ rfl rfl (by rw [MZ]; omega) (by rw [MZ]; exact vZ) λcm b u=>⟨b,u⟩) ?_ λ_ _ e=>e)
  rintro ⟨⟨⟩,cm⟩ s' ⟨rfl,hB,hi⟩
  rw [MZ] at hi
  exact tail cm hB.perm hB.failed hi
end
end KS
namespace L2
open PySem PySem.Spec PyProof.Rows PySem.Calls
def HW (K:PySem.W.Frag) (c:Addr) (q:Str) (n:Nat) (cvs:List V) (gb:DS->Option D):Sp:=λvs H Q _=>H c=some (.code q) /\ vs.length=n /\ ∃ A ds d,Ls A H /\ cg K (wo H A) (vs ++ cvs) ds /\ gb (ds.map some)=some d /\ ∀ v H',aA H H'->HD K (wo H' A) v d->Q v H'
section
variable {X:Cx} {pins:List (Addr×Obj)} {σ:St} {H:Hp} {s:Shared}
theorem M3 {k:Nat} {f c':Addr} {name qual:Str} {params:Arguments} {body:Expr} {scope:Scope} {cl:List (Str×Addr)} {pm yn:Value} {ps fv:List Str} {ix:List Nat} {cvs:List V} {gb:DS->Option D} (I:Inv X pins σ H s)
  (hf:s.heap.get? f=some (PySem.W.kla_obj name qual params body scope cl pm c' yn)) (hn:H f=none) (o8:f∉lJ X.stack) (h1:∀ n c,cl.lookup n=some c->X.env.cells.lookup n=some c) (h2:∀ n,(n,NameKind.free)∈scope.names->∃ c,cl.lookup n=some c)
  (Lp:∀ x,X.fn x=true) (S:P5 ps fv scope) (ym:ix.map (λi=>X.N[i]?)=fv.map some) (HX:∀ x∈fv,X.env.scope.names.lookup x=some .cell) (TK:∀ (j i:Nat) (v:V),ix[j]?=some i->cvs[j]?=some v->σ[i]?=some (some v)) (hlen:cvs.length=ix.length)
  (kf:∀ (base:Heap) (A:Around) (outer:List Env) (s:Shared) (H:Hp) (E:XK),cJ k (A.deeper (PySem.W.envX qual scope s.heap.objs.size f (.ref c') cl))->PE (Ek o6 X.prog X.w X.K X.mg base (ps ++ fv) qual scope f (.ref c') cl A outer s H E) body (tE X.K [] gb)):
  lQ X.prog X.w X.K X.mg (qG X s H) o6 (k + 1) f (PySem.W.kla_fn name qual params body scope cl pm (.ref c') yn) ps (HW X.K c' qual ps.length cvs gb):=by
 have Xb:fv.length=ix.length:=by have:=congrArg List.length ym; simpa using this.symm
 have Lo:∀ {x:Str} {c:Addr},X.env.cells.lookup x=some c->c∉lJ X.stack:=λ{x c} e z=>by
  rcases Y6.mp (I.lN c z) with y | y
  .exact I.JN x c e y
  .obtain ⟨_,o,ho,_⟩:=I.ok.mR.mem y
   exact ZU _ (Zi (Zf ho) (I.ok.Ln x c (Lp x) e))
 have Kp:∀ {x:Str} {c:Addr} {v:Option Value},X.env.cells.lookup x=some c->s.heap.IsCell c v->(qG X s H).IsCell c v:=λ{x c v} e h=>by
  obtain ⟨o,e1,d⟩:=h
  exact ⟨o,n9 e1 (I.jS x c e) (Lo e),d⟩
 refine PX (cvs:=cvs) (n9 hf hn o8) ⟨S.kind,S.co,S.gen,S.n8,S.nd,S.par,S.fr,λx hx=>h2 x (aav hx),λx y c a b=>I.ok.inj x y c (h1 _ _ a) (h1 _ _ b)⟩ (by rw [hlen,Xb]) (λj x v e1 e2=>?_) (λx c e=>?_) (λvs H Q E q=>q.2.1) (λvs H Q E q=>q.1) λA outer s' H' vs Q E hr Ag=>?_
 .obtain ⟨c,hc⟩:=h2 x (aav (S.fr x (Zq e1)))
  have hj:j < ix.length:=by rw [<- hlen]; exact (Zd.mp e2).1
  have hi:ix[j]?=some ix[j]:=Y4 hj
  have hN:X.N[ix[j]]?=some x:=by
   have:=aam (λl=>l[j]?) ym
   simp only [Zl,hi,e1] at this
   simpa using this
  obtain ⟨m,_,hl⟩:=I.loc
  obtain ⟨u,ru,lk⟩:=hl _ x _ hN (TK j _ v hi e2) (.inr (.inl (HX x (Zq e1))))
  refine ⟨c,u,hc,?_,ru⟩
  rcases lk with ⟨z,_⟩ | ⟨_,c0,e0,Ad⟩
  .have:=HX x (Zq e1)
   unfold Env.kindOf at z
   rw [this] at z; cases z
  .rw [h1 x c hc] at e0; cases e0
   exact Kp (h1 x c hc) Ad
 .obtain ⟨v,hv⟩:=I.cell x c (h1 x c e)
  exact ⟨v,Kp (h1 x c e) hv⟩
 .obtain ⟨_,hl,A',ds,d,al,hd,e,q⟩:=Ag
  exact ⟨_,kf _ A outer s' H' E hr,[],A',ds.map some,d,Rel.MV al hd,e,q⟩
structure KI (X:Cx) (pins:List (Addr×Obj)) (σ:St) (B:Heap) (a kS:Addr) (e1:Nat) (H:Hp) (s:Shared) (keys:Array Value) (e:Nat):Prop where
 inv:Inv X pins σ H s
 bs:∀ b o,B.get? b=some o->s.heap.get? b=some o /\ H b=none
 Ac:B.objs.size<=kS
 fa:j0 X pins H a
 fk:j0 X pins H kS
 na:a∉lJ X.stack
 nk:kS∉lJ X.stack
 ga:s.heap.get? a=some (seqObj "list" #[] e1)
 gk:s.heap.get? kS=some (seqObj "list" keys e)
variable {B:Heap} {a kS:Addr} {e e1:Nat} {keys:Array Value}
theorem j0.un {b:Addr} {H':Hp} (h:j0 X pins H b) (n:H' b=none):j0 X pins H' b:=⟨n,h.2.1,h.2.2.1,h.2.2.2.1,h.2.2.2.2.1,h.2.2.2.2.2⟩
theorem KI.env (I:KI X pins σ B a kS e1 H s keys e) (hM:Mod X.K X.mg B) (Od:∀ b∈lJ X.stack,B.get? b=none):De X.prog X.w X.K X.mg B X.A.in1.in1 X.stack s H:=
 ⟨I.inv.ok.frames,hM,I.bs,aak (aaa I.Ac (Zf I.gk)),tj I.inv.stack Od,I.inv.tO,I.inv.cf,I.inv.bare⟩
set_option tactic.hygienic true in
theorem KI.call {Q:VK} {u:Value} {s':Shared} (I:KI X pins σ B a kS e1 H s keys e) (Od:∀ b∈lJ X.stack,B.get? b=none) (h:CE X.stack X.prog X.w H s Q u s'):∃ v H',KI X pins σ B a kS e1 H' s' keys e /\ RelV v u /\ Q v H':=by
 obtain ⟨v,H',os,bare,un,cf,r,q⟩:=id h
 obtain ⟨v2,H2,I2,_⟩:=(I.inv.after (Q:=λv2 H2=>v2=v /\ H2=H') ⟨v,H',os,bare,un,cf,r,rfl,rfl⟩)
 rename_i rr
 obtain ⟨_,rfl,rfl⟩:=rr
 have no:∀ {b:Addr},b∉([]:List Addr):=λ{b}=>by simp
 refine ⟨v2,H2,⟨I2,λb o eb=>?_,I.Ac,I.fa.un (un.free _ _ I.ga I.fa.1 no),I.fk.un (un.free _ _ I.gk I.fk.1 no),I.na,I.nk,un.keep _ _ I.ga I.fa.1 I.na no,un.keep _ _ I.gk I.fk.1 I.nk no⟩,r,q⟩
 .obtain ⟨h1,h2⟩:=I.bs b o eb
  exact ⟨un.keep _ _ h1 h2 (λz=>by rw [Od b z] at eb; cases eb) no,un.free _ _ h1 h2 no⟩
theorem KI.push (I:KI X pins σ B a kS e1 H s keys e) (Gp:kS≠a) (k:Value):∃ e',KI X pins σ B a kS e1 H { s with heap:=s.heap.update kS (Obj.mapSeq (·.push k)) } (keys.push k) e':=by
 have sb:=ZK s.heap kS (Obj.mapSeq (·.push k))
 obtain ⟨e',MA⟩:∃ e',(s.heap.update kS (Obj.mapSeq (·.push k))).get? kS=some (seqObj "list" (keys.push k) e'):=⟨_,get?_update_seq I.gk (·.push k)⟩
 refine ⟨e',⟨I.inv.gM (t':=s.toks) (ch:=[kS]) (λb o hb eb=>(sb.2 b (by simpa using hb)).trans eb) (λb hb=>by rw [show b=kS by simpa using hb]; exact I.fk),λb o eb=>?_,I.Ac,I.fa,I.fk,I.na,I.nk,(sb.2 a Gp.symm).trans I.ga,MA⟩⟩
 have ik:b≠kS:=Zs (Zi (Zf eb) I.Ac)
 exact ⟨(sb.2 b ik).trans (I.bs b o eb).1,(I.bs b o eb).2⟩
end
def uw (ts:List KS.T2) (r:List Nat):Prop:=r.Perm (List.range ts.length) /\ r.Pairwise λi j=>KS.lr (ts.getD i (0,0)) (ts.getD j (0,0)) \/ ts.getD i (0,0)=ts.getD j (0,0) /\ i < j
def Gq (kds:List D) (ts:List KS.T2):Prop:=(∃ ns:List Int,kds=ns.map PyData.int /\ ts=ns.map λn=>(n,0)) \/ kds=ts.map λt=>PyData.tuple [.int t.1,.int t.2]
theorem Gq.len {kds:List D} {ts:List KS.T2} (h:Gq kds ts):kds.length=ts.length:=by
 rcases h with ⟨ns,rfl,rfl⟩ | rfl <;> simp
theorem Kq {X:Cx} {pins:List (Addr×Obj)} {σ:St} {H:Hp} {s:Shared} {A:List Addr} {kds:List D} {ts:List KS.T2} {aH:List V} {vs:List Value} (I:Inv X pins σ H s) (h:cg X.K (wo H A) aH kds) (hK:Gq kds ts) (r:bj aH vs):
  ∃ kd,∀ (i:Nat) (v:Value) (t:KS.T2),vs[i]?=some v->ts[i]?=some t->KS.KV s.heap kd v t:=by
 rcases hK with ⟨ns,rfl,rfl⟩ | rfl
 .refine ⟨oneType',λi v t e1 e2=>?_⟩
  rw [Zl] at e2
  cases q:ns[i]? with
  | none=>rw [q] at e2; cases e2
  | some n=>
    rw [q] at e2; cases e2
    obtain ⟨x,e3,e4⟩:=h.get (i:=i) (d:=.int n) (by rw [Zl,q]; rfl)
    cases e4
    obtain ⟨u,e5,t,rfl⟩:=r.get e3
    rw [e1] at e5; cases e5
    exact .int n t
 .refine ⟨tuples' true,λi v t e1 e2=>.dup ?_⟩
  obtain ⟨x,e3,e4⟩:=h.get (i:=i) (d:=.tuple [.int t.1,.int t.2]) (by rw [Zl,e2]; rfl)
  obtain ⟨u,e5,rx⟩:=r.get e3
  rw [e1] at e5; cases e5
  cases e4 with
  | tup h1 h2=>
    rw [cg.toInts (ns:=[t.1,t.2]) h2] at h1
    cases rx
    obtain ⟨is,r2,pt,_⟩:=I.tuple (.inl (cB.kj h1))
    cases r2 with
    | cons a1 r2=>
      cases r2 with
      | cons a2 r2=>
        cases r2
        obtain ⟨t1,rfl⟩:=a1
        obtain ⟨t2,rfl⟩:=a2
        obtain ⟨o,g1,g2,n,g3⟩:=pt
        exact ⟨_,o,n,t1,t2,rfl,g1,g2,g3⟩
theorem Ez {ax:Array Keyed} {p:Keyed} (h:p∈ax.toList):ax[KS.ku ax p]?=some p:=by
 have x:∃ i:Nat,ax[i]?=some p:=by
  obtain ⟨i,hi,e⟩:=ZY h
  exact ⟨i,by rw [<- Array.getElem?_toList,Y4 hi,e]⟩
 unfold KS.ku
 rw [dif_pos x]
 exact x.choose_spec
theorem xi {xs:List V} {us:List Value} {keys:Array Value} (rv:bj xs us):∀ l:List Keyed,(∀ p∈l,p∈(keys.zip us.toArray).toList)->bj ((l.map (KS.ku (keys.zip us.toArray))).map λi=>xs.getD i .gu) (l.map (·.2))
 | [],_=>.nil
 | p :: l,h=>by
   refine .cons ?_ (xi rv l λq hq=>h q (Y8 _ hq))
   have e:=Ez (h p Zb)
   generalize KS.ku (keys.zip us.toArray) p=i at e ⊢
   rw [<- Array.getElem?_toList,ksk_zip,abG] at e
   have hi:i < xs.length:=by rw [rv.length]; exact (Zd.mp e.2).1
   obtain ⟨u,e3,r2⟩:=rv.get (Y4 hi)
   rw [e.2] at e3; cases e3
   show RelV (xs.getD i .gu) _
   rw [Y9,Y4 hi]
   exact r2
theorem M4 {ts:List KS.T2} {us:List Value} {keys:Array Value} {h:Heap} {kd:SortKind} {out:Array Keyed} (hsz:keys.size=us.length) (hl:us.length=ts.length) (hu:us.Nodup) (Oc:∀ (i:Nat) (v:Value) (t:KS.T2),keys.toList[i]?=some v->ts[i]?=some t->KS.KV h kd v t)
  (hp:out.Perm (keys.zip us.toArray)) (hi:KS.uu (KS.K2 (KS.qN h)) (KS.ku (keys.zip us.toArray)) out us.length):uw ts (out.toList.map (KS.ku (keys.zip us.toArray))):=by
 have MZ:(keys.zip us.toArray).size=us.length:=by rw [Array.size_zip,hsz,Zm,adf]
 have Ey:(keys.zip us.toArray).toList.Nodup:=by
  rw [ksk_zip]
  have:((keys.toList.zip us).map Prod.snd).Nodup:=by rw [List.map_snd_zip (acq (by rw [ZP]; exact hsz.symm))]; exact hu
  exact (aaw.mp this).imp λq z=>q (aam Prod.snd z)
 have i4:=abA.mp hp
 constructor
 .refine (i4.map _).trans (List.Perm.of_eq ?_)
  refine ac2 (by rw [Y7,ZP,MZ,Z9,hl]) λi h1 h2=>?_
  rw [ace,List.getElem_range]
  have AK:i < (keys.zip us.toArray).size:=by simpa using h1
  have:=KS.AO Ey AK
  unfold KS.OO at this
  rw [acr _ i AK] at this
  exact this
 .rw [aau]
  intro i j h1 h2 g7
  have hs:out.size=us.length:=hp.size_eq.trans MZ
  have Kc:i < out.size:=by simpa using h1
  have Gi:j < out.size:=by simpa using h2
  have key:∀ (m:Nat) (hm:m < out.size),KK (KS.K2 (KS.qN h)) out m=ts.getD (KS.ku (keys.zip us.toArray) out[m]) (0,0):=λm hm=>by
   have mem:out[m]∈(keys.zip us.toArray).toList:=i4.mem_iff.mp (by simp)
   have e:=Ez mem
   unfold KK
   rw [acr _ m hm]
   show KS.qN h out[m].1=_
   generalize KS.ku (keys.zip us.toArray) out[m]=q at e ⊢
   rw [<- Array.getElem?_toList,ksk_zip,abG] at e
   have hq:q < ts.length:=by rw [<- hl]; exact (Zd.mp e.2).1
   have et:ts[q]?=some ts[q]:=Y4 hq
   rw [KS.AN (Oc q _ _ e.1 et),Y9,et]; rfl
  have ord:∀ (m:Nat) (hm:m < out.size),KS.OO (KS.ku (keys.zip us.toArray)) out m=KS.ku (keys.zip us.toArray) out[m]:=λm hm=>by
   unfold KS.OO
   rw [acr _ m hm]; rfl
  have z:=hi i j g7 (by omega)
  rw [ace,ace,Array.getElem_toList,Array.getElem_toList]
  unfold KS.lx KS.TT at z
  rw [key i Kc,key j Gi,ord i Kc,ord j Gi] at z
  exact z.imp abv id
section
variable {X:Cx} {pins:List (Addr×Obj)} {σ:St} {H:Hp} {s:Shared} {B:Heap} {a:Addr}
theorem Co (hM:Mod X.K X.mg B) (Od:∀ b∈lJ X.stack,B.get? b=none) {f c:Addr} {fd:FuncData} {p q:Str} {k:Nat} {cvs:List V} {gb:DS->Option D} (F:lQ X.prog X.w X.K X.mg B o6 k f fd [p] (HW X.K c q 1 cvs gb)) (hb:Binds X.K fd [p] []) (hr:cJ k X.A.in1.in1)
  {A:List Addr} {us:List Value} {xs:List V} {ds xj kds:List D} {ts:List KS.T2} {n:Nat} {P:PySem.Fin->Shared->Prop} {E:Value->Shared->Prop}
  (I:Inv X pins σ H s) (bs:∀ b o,B.get? b=some o->s.heap.get? b=some o /\ H b=none) (Vn:B.objs.size<=a) (Xc:X.fE.heap.objs.size<=a) (ho:s.heap.get? a=some (seqObj "list" us.toArray n)) (fa:j0 X pins H a) (na:a∉lJ X.stack)
  (rv:bj xs us) (al:Ls A H) (hd:cg X.K (wo H A) xs ds) (yo:cg X.K (wo H A) cvs xj) (oY:H c=some (.code q))
  (hk:∀ (i:Nat) (d:D),ds[i]?=some d->∃ kd,kds[i]?=some kd /\ gb ((d :: xj).map some)=some kd) (hl:kds.length=ds.length) (hK:Gq kds ts) (vZ:us.length < 64) (hu:us.Nodup)
  (h:∀ (s':Shared) (H':Hp) (r:List Nat),Inv X pins σ (upd H' a (.lst (r.map λi=>xs.getD i .gu))) s'->aA H H'->H' a=none->uw ts r->P (.done (.ret .none)) s'):
  wpAny (model X.prog X.w) X.A.in1.in1 (ksk_tree a (.ref f) false) P E s:=by
 have hz:us.length<=sizeLine:=by rw [abx]; omega
 have YV:xs.length=us.length:=rv.length
 have Pg:xs.length=ds.length:=hd.len
 have ha:a < s.heap.objs.size:=Zf ho
 have sb:=ZK s.heap a (Obj.mapSeq λ_=>(#[]:Array Value))
 obtain ⟨e1,fO⟩:∃ e1,(s.heap.update a (Obj.mapSeq λ_=>(#[]:Array Value))).get? a=some (seqObj "list" #[] e1):=⟨_,get?_update_seq ho λ_=>#[]⟩
 have Vo:((s.heap.update a (Obj.mapSeq λ_=>(#[]:Array Value))).push (seqObj "tuple" us.toArray 0)).objs.size=s.heap.objs.size + 1:=by rw [size_push',Heap.size_update]
 unfold ksk_tree
 refine Y3 (listItems_at ho rfl ?_)
 refine Y3 (listUpdate_at ho rfl ?_ (by rw [Zm]; exact hz) (aah _))
 refine Y3 (seqEpoch_at fO rfl ?_)
 refine Y3 (wpAny_newTuple ?_ hz)
 refine Y3 (wpAny_newList ?_ (aah _))
 refine aaX ?_
 have o8:∀ b:Addr,s.heap.objs.size<=b->b∉lJ X.stack:=λb hb z=>by
  obtain ⟨_,o,e,_⟩:=I.stack.mem z
  exact ZU _ (Zi (Zf e) hb)
 have TL:KI X pins σ B a (s.heap.objs.size + 1) e1 H { s with heap:=((s.heap.update a (Obj.mapSeq λ_=>(#[]:Array Value))).push (seqObj "tuple" us.toArray 0)).push (seqObj "list" #[] 0) } #[] 0:=by
  have I1:=I.gM (t':=s.toks) (h':=s.heap.update a (Obj.mapSeq λ_=>(#[]:Array Value))) (ch:=[a]) (λb o hb eb=>(sb.2 b (by simpa using hb)).trans eb) (λb hb=>by rw [show b=a by simpa using hb]; exact fa)
  have I2:=(I1.kept (t':=s.toks) λb o eb=>Y5 (seqObj "tuple" us.toArray 0) eb).kept (t':=s.toks) λb o eb=>Y5 (seqObj "list" #[] 0) eb
  refine ⟨I2,λb o eb=>?_,aak (aaa Vn (aan ha)),fa,I.oZ (aaA _) (I.cf.fresh (aaA _)),na,o8 _ (aaA _),Y5 _ (Y5 _ fO),?_⟩
  .have ik:b≠a:=Zs (Zi (Zf eb) Vn)
   exact ⟨Y5 _ (Y5 _ ((sb.2 b ik).trans (bs b o eb).1)),(bs b o eb).2⟩
  .rw [<- Vo]; exact Zh _ rfl
 rw [Vo]
 generalize ({ s with heap:=((s.heap.update a (Obj.mapSeq λ_=>(#[]:Array Value))).push (seqObj "tuple" us.toArray 0)).push (seqObj "list" #[] 0) }:Shared)=s3 at TL
 have Gp:s.heap.objs.size + 1≠a:=aa2 (aan ha)
 generalize s.heap.objs.size + 1=kS at TL Gp
 show wpAny _ _ (ksk_rest a (.ref f) false us.toArray e1 (.ref kS)) _ _ _
 unfold ksk_rest
 refine Y3 (abl ?_)
 rw [List.forIn_toArray]
 refine Y3 (ksk_fold (λj s'=>∃ H' keys e aH,KI X pins σ B a kS e1 H' s' keys e /\ aA H H' /\ bj aH keys.toList /\ cg X.K (wo H' A) aH (kds.take j)) us 0 s3 ⟨H,#[],0,[],TL,aA.refl _,.nil,.nil⟩ ?step ?done)
 case step=>
  rintro j x s' hx ⟨H',keys,e,aH,J,sm,rk,M5⟩
  rw [aas] at M5 ⊢
  have hj:j < us.length:=(Zd.mp hx).1
  obtain ⟨d,Vp⟩:∃ d,ds[j]?=some d:=⟨_,Y4 (by omega)⟩
  obtain ⟨kd,Xd,eg⟩:=hk j d Vp
  obtain ⟨xv,ex,Xe⟩:=hd.get Vp
  obtain ⟨u,eu,rx⟩:=rv.get ex
  rw [hx] at eu; cases eu
  have YW:keys.size<=us.length:=by
   have h1:aH.length=keys.size:=rk.length.trans (ZP ..)
   have h2:aH.length=min j kds.length:=M5.len.trans (ZH ..)
   omega
  have sp:HW X.K c q 1 cvs gb [xv] H' (λv H2=>aA H' H2 /\ HD X.K (wo H2 A) v kd) E0:=⟨sm _ _ oY,rfl,A,d :: xj,kd,al.same sm,.cons (Xe.same (bR sm)) (yo.same (bR sm)),eg,λv H2 s2 h2=>⟨s2,h2⟩⟩
  refine Y3 (abQ ?_)
  refine wpAny_call (aa3 (F.run X.A.in1.in1 X.stack s' H' ⟨[x],[]⟩ [x] [xv] _ E0 hr (J.env hM Od) (hb s' [x] J.inv.rE rfl) (.cons rx .nil) sp) λr s2 hq=>?_)
  cases r with
  | error e=>exact hq.elim
  | ok fl=>
    cases fl with
    | next=>exact False.elim hq
    | brk=>exact False.elim hq
    | cont=>exact False.elim hq
    | ret u=>
      obtain ⟨v,H2,J2,PU,Qe,Tu⟩:=J.call Od hq
      obtain ⟨e',J3⟩:=J2.push Gp u
      refine Y3 (listUpdate_at J2.gk rfl ?_ (by rw [abx]; omega) (ZQ (acq (Array.size_push ..)) (by rw [abx]; omega)))
      refine Zc ⟨rfl,H2,keys.push u,e',aH ++ [v],J3,sm.trans Qe,by rw [acL]; exact rk.append (.cons PU .nil),?_⟩
      have et:kds.take (j + 1)=kds.take j ++ [kd]:=by rw [Z4,Xd]; rfl
      rw [et]
      exact (M5.same (bR Qe)).app (.cons Tu .nil)
 case done=>
  rintro s' ⟨H',keys,e,aH,J,sm,rk,M5⟩
  rw [aas,abn (by omega)] at M5
  have M6:keys.size=us.length:=by
   have h1:aH.length=keys.size:=rk.length.trans (ZP ..)
   have h2:aH.length=kds.length:=M5.len
   omega
  obtain ⟨kd,Oc⟩:=Kq J.inv M5 hK rk
  have YX:=hK.len
  refine Y3 (listItems_at J.gk rfl ?_)
  refine KS.HV (kd:=kd) J.gk J.ga Gp (λv hv=>?_) M6 vZ hu λh' out c' kp _ M0 eF TM=>?_
  .obtain ⟨i,hi,ev⟩:=ZY hv
   have AK:i < ts.length:=by rw [ZP] at hi; omega
   exact ⟨_,Oc i v _ (by rw [Y4 hi,ev]) (Y4 AK)⟩
  .have I4:=J.inv.gM (t':=s'.toks) (h':=h') (ch:=[a,kS]) (λb o hb eb=>kp b o (λz=>hb (by simp [z])) (λz=>hb (by simp [z])) eb) (λb hb=>by
    rcases Y6.mp hb with rfl | hb
    .exact J.fa
    .rw [show b=kS by simpa using hb]; exact J.fk)
   have HY:∀ x∈out.toList,x∈(keys.zip us.toArray).toList:=λx hx=>(abA.mp eF).mem_iff.mp hx
   have PU:=xi rv out.toList HY
   refine h _ H' _ (I4.J5 J.fa.1 Xc J.fa.2.1 J.fa.2.2.2.2.1 J.fa.2.2.2.2.2 (its:=out.toList.map (·.2)) (n:=c') ?_ PU ?_) sm J.fa.1 (M4 M6 (by omega) hu Oc eF TM)
   .show h'.get? a=_
    rw [M0,show out.map (·.2)=(out.toList.map (·.2)).toArray by rw [<- Array.toList_map,Array.toArray_toList]]
   .rw [Y7,Y7,ZP,eF.size_eq,Array.size_zip,M6,Zm,adf]; exact hz
end
theorem HZ {kds:List D} {ts Qf:List KS.T2} (h:Gq kds ts) (k:Gq kds Qf):ts=Qf:=by
 have TN:∀ {a b:List Int},a.map (PyData.int)=b.map PyData.int->a=b:=λ{a b} e=>List.map_inj_right (f:=PyData.int) (λx y z=>PyData.int.inj z) |>.mp e
 rcases h with ⟨ns,rfl,rfl⟩ | rfl
 .rcases k with ⟨ms,e,rfl⟩ | e
  .rw [TN e]
  .cases ns with
   | nil=>cases Qf with
     | nil=>rfl
     | cons _ _=>cases e
   | cons _ _=>cases Qf with
     | nil=>cases e
     | cons _ _=>simp at e
 .rcases k with ⟨ms,e,rfl⟩ | e
  .cases ms with
   | nil=>cases ts with
     | nil=>rfl
     | cons _ _=>cases e
   | cons _ _=>cases ts with
     | nil=>cases e
     | cons _ _=>simp at e
  .refine List.map_inj_right (f:=λt:KS.T2=>PyData.tuple [.int t.1,.int t.2]) (λx y z=>?_) |>.mp e
   simp only [PyData.tuple.injEq,List.cons.injEq,PyData.int.injEq,and_true] at z
   exact Prod.ext z.1 z.2
theorem pw_ext {α:Type} {R:α->α->Prop} (Oe:∀ a,¬ R a a) (tr:∀ a b c,R a b->R b c->R a c):∀ {l m:List α},l.Pairwise R->m.Pairwise R->(∀ z,z∈l↔z∈m)->l=m
 | [],[],_,_,_=>rfl
 | [],y :: m,_,_,h=>absurd ((h y).mpr Zb) (by simp)
 | x :: l,[],_,_,h=>absurd ((h x).mp Zb) (by simp)
 | x :: l,y :: m,hl,hm,h=>by
   rw [ZF] at hl hm
   have e:x=y:=by
    rcases Y6.mp ((h x).mp Zb) with a | a
    .exact a
    .rcases Y6.mp ((h y).mpr Zb) with b | b
     .exact b.symm
     .exact absurd (tr _ _ _ (hl.1 y b) (hm.1 x a)) (Oe _)
   subst e
   rw [pw_ext Oe tr hl.2 hm.2 λz=>⟨λhz=>?_,λhz=>?_⟩]
   .rcases Y6.mp ((h z).mp (Y8 _ hz)) with a | a
    .rw [a] at hz; exact absurd (hl.1 x hz) (Oe _)
    .exact a
   .rcases Y6.mp ((h z).mpr (Y8 _ hz)) with a | a
    .rw [a] at hz; exact absurd (hm.1 x hz) (Oe _)
    .exact a
theorem uw.one {ts:List KS.T2} {r r':List Nat} (h:uw ts r) (k:uw ts r'):r=r':=by
 refine pw_ext (λi z=>?_) (λi j l a b=>?_) h.2 k.2 λz=>h.1.mem_iff.trans k.1.mem_iff.symm
 .rcases z with z | ⟨_,z⟩
  .exact KS.fQ _ z
  .exact ZU _ z
 .rcases a with a | ⟨a,a'⟩
  .rcases b with b | ⟨b,_⟩
   .exact .inl (KS.ls a b)
   .rw [b] at a; exact .inl a
  .rcases b with b | ⟨b,b'⟩
   .rw [<- a] at b; exact .inl b
   .exact .inr ⟨a.trans b,aco a' b'⟩
def Cp:List Nat->DS->Option (List D)
 | [],_=>some []
 | i :: ix,δ=>(δ[i]?).bind λo=>o.bind λd=>(Cp ix δ).bind λr=>some (d :: r)
def r6 (g:D->Option D):List D->Option (List D)
 | []=>some []
 | d :: ds=>(g d).bind λk=>(r6 g ds).bind λks=>some (k :: ks)
def H8 (ds:List D):Prop:=∃ ts,Gq ds ts /\ ts.Nodup
def zg (ds kds:List D):Option (List D):=open Classical in if h:ds.length < 64 /\ H8 ds /\ ∃ r ts,Gq kds ts /\ uw ts r then some (h.2.2.choose.map λi=>ds.getD i .none) else none
theorem AQ {ds kds:List D} {ts:List KS.T2} {r:List Nat} (h1:ds.length < 64) (h2:H8 ds) (h3:Gq kds ts) (h4:uw ts r):zg ds kds=some (r.map λi=>ds.getD i .none):=by
 have h:ds.length < 64 /\ H8 ds /\ ∃ r ts,Gq kds ts /\ uw ts r:=⟨h1,h2,r,ts,h3,h4⟩
 unfold zg
 rw [dif_pos h]
 obtain ⟨Qf,k1,k2⟩:=h.2.2.choose_spec
 rw [HZ k1 h3] at k2
 rw [k2.one h4]
theorem EA {K:PySem.W.Frag} {O:List Nat} {U A0:List Addr} {σ:St} {δ:DS} {H:Hp} (R:Rel K O U A0 σ δ H):∀ {ix:List Nat} {xj:List D},(∀ i∈ix,i∉O)->Cp ix δ=some xj->∃ cvs,cg K (wo H (U ++ A0)) cvs xj /\ cvs.length=ix.length /\ ∀ (j i:Nat) (v:V),ix[j]?=some i->cvs[j]?=some v->σ[i]?=some (some v)
 | [],xj,_,h=>by cases h; exact ⟨[],.nil,rfl,λj i v h=>by simp at h⟩
 | i :: ix,xj,ho,h=>by
   unfold Cp at h
   obtain ⟨o,e1,h⟩:=bind1 h
   obtain ⟨d,e2,h⟩:=bind1 h
   obtain ⟨r,e3,e4⟩:=bind1 h
   cases e4
   subst e2
   obtain ⟨v,ev,hv⟩:=R.fz i d (ho i Zb) e1
   obtain ⟨cvs,h1,h2,h3⟩:=EA R (λj hj=>ho j (Y8 _ hj)) e3
   refine ⟨v :: cvs,.cons hv h1,by simp [h2],λj i' v' a b=>?_⟩
   cases j with
   | zero=>simp at a b; subst a b; exact ev
   | succ j=>exact h3 j i' v' (by simpa using a) (by simpa using b)
theorem AR {g:D->Option D}:∀ {ds kds:List D},r6 g ds=some kds->kds.length=ds.length /\ ∀ (i:Nat) (d:D),ds[i]?=some d->∃ k,kds[i]?=some k /\ g d=some k
 | [],kds,h=>by cases h; exact ⟨rfl,λi d e=>by simp at e⟩
 | d :: ds,kds,h=>by
   unfold r6 at h
   obtain ⟨k,e1,h⟩:=bind1 h
   obtain ⟨ks,e2,e3⟩:=bind1 h
   cases e3
   obtain ⟨h1,h2⟩:=AR e2
   refine ⟨by simp [h1],λi d' e=>?_⟩
   cases i with
   | zero=>simp at e; subst e; exact ⟨k,rfl,e1⟩
   | succ i=>exact h2 i d' (by simpa using e)
theorem M7 {X:Cx} {pins:List (Addr×Obj)} {σ:St} {H:Hp} {s:Shared} {A:List Addr} {ds:List D} {xs:List V} {us:List Value} (I:Inv X pins σ H s) (hd:cg X.K (wo H A) xs ds) (rv:bj xs us) (hn:H8 ds):us.Nodup:=by
 obtain ⟨ts,hk,Ey⟩:=hn
 obtain ⟨kd,h⟩:=Kq I hd hk rv
 have hl:us.length=ts.length:=by rw [<- rv.length,hd.len,hk.len]
 rw [List.Nodup,aau]
 intro i j hi hj g7 e
 have a:=h i _ _ (Y4 hi) (Y4 (by omega))
 have b:=h j _ _ (Y4 hj) (Y4 (by omega))
 rw [e] at a
 have:=(List.getElem?_inj (i:=i) (j:=j) (by omega) Ey).mp (by rw [Y4 (by omega),Y4 (by omega),KS.Ex a b])
 omega
theorem AS {K:PySem.W.Frag} {H:Hp} {xs:List V} {ds:List D} (h:cg K H xs ds):∀ {r:List Nat},(∀ i∈r,i < ds.length)->cg K H (r.map λi=>xs.getD i .gu) (r.map λi=>ds.getD i .none)
 | [],_=>.nil
 | i :: r,hr=>by
   refine .cons ?_ (AS h λj hj=>hr j (Y8 _ hj))
   have hi:=hr i Zb
   obtain ⟨x,e,q⟩:=h.get (Y4 hi)
   show HD K H (xs.getD i .gu) (ds.getD i .none)
   rw [Y9,Y9,e,Y4 hi]
   exact q
section
variable {X:Cx} {O:List Nat}
def Qg (X:Cx) (v:Value) (xs:List V) (s:Shared):Prop:=∀ (Q:List Value->Shared->Prop) (E:Value->Shared->Prop),(∀ us h' tk,(∀ b o,s.heap.get? b=some o->h'.get? b=some o)->s.heap.objs.size<=h'.objs.size->bj xs us->Q us { s with heap:=h',toks:=tk })->wpAny (model X.prog X.w) X.A.in1 (collect v) Q E s
set_option tactic.hygienic true in
theorem Cq {pins:List (Addr×Obj)} {σ:St} {H:Hp} {s:Shared} {f c:Addr} {fd:FuncData} {p q:Str} {k:Nat} {cvs:List V} {gb:DS->Option D} {v:Value} (F:lQ X.prog X.w X.K X.mg (qG X s H) o6 k f fd [p] (HW X.K c q 1 cvs gb)) (hb:Binds X.K fd [p] []) (hr:cJ k X.A.in1.in1)
  {A:List Addr} {xs:List V} {ds xj kds:List D} {Q:VK} {E:Value->Shared->Prop} (I:Inv X pins σ H s) (al:Ls A H) (hd:cg X.K (wo H A) xs ds) (yo:cg X.K (wo H A) cvs xj) (oY:H c=some (.code q)) (M8:Qg X v xs s)
  (hk:r6 (λd=>gb ((d :: xj).map some)) ds=some kds) {rs:List D} (hs:zg ds kds=some rs)
  (q':∀ r ys H',aA H H'->H r=none->H' r=some (.lst ys)->cg X.K (wo H' (r :: A)) ys rs->Q (.ref r) H') (hv:∃ l:Addr,v=.ref l):
  wpAny (model X.prog X.w) X.A (call (.builtin "sorted") [v] [(Str.ofString "key",.ref f)]) (EP X pins σ Q) E s:=by
 unfold zg at hs
 split at hs
 .rename_i hh
  cases hs
  obtain ⟨vZ,TQ,hex⟩:=id hh
  obtain ⟨ts,hK,hS⟩:=hh.2.2.choose_spec
  generalize hh.2.2.choose=r0 at hS q'
  obtain ⟨hl,Gp⟩:=AR hk
  obtain ⟨l0,rfl⟩:=hv
  have Pg:xs.length=ds.length:=hd.len
  refine call_function_entry_kw kind_sorted plain_sorted entry_sorted (ksk_s1 _ _) ?_
  unfold Builtin.«sorted»
  refine Y3 (m:=checkCount "sorted" 1 1 _) (Zc ?_)
  refine Y3 (M8 _ _ λus h' tk kp MT rv=>?_)
  have Xf:us.length < 64:=by rw [<- rv.length]; omega
  have hz:us.length<=sizeLine:=by rw [abx]; omega
  refine Y3 (wpAny_newList ?_ hz)
  have I1:=I.kept (t':=tk) (h':=h') kp
  have I2:Inv X pins σ H { s with heap:=h'.push (seqObj "list" us.toArray 0),toks:=tk }:=I1.kept (t':=tk) λb o e=>Y5 _ e
  have JP:(h'.push (seqObj "list" us.toArray 0)).get? h'.objs.size=some (seqObj "list" us.toArray 0):=Zh _ rfl
  show wpAny _ _ _ _ _ { s with heap:=h'.push (seqObj "list" us.toArray 0),toks:=tk }
  refine Y3 (aaX (wpAny_call_entry_kw slot_list_sort ⟨_,JP,rfl⟩ entry_list_sort ?body (ksk_l1 _ _)))
  case body=>
   show wpAny _ _ (Builtin.«list.sort» ⟨[.ref h'.objs.size],[(Str.ofString "key",.ref f)]⟩) _ _ _
   rw [ksk_t1]
   have o8:h'.objs.size∉lJ X.stack:=λz=>by
    obtain ⟨_,o,e,_⟩:=I1.stack.mem z
    exact ZU _ (Zf e)
   refine Co (I1.ok.mod.widen λ_ _ e=>I.wide e) (λb hb=>PySem.W.hideAll_none _ hb) F hb hr I2 (λb o e=>?_) ?_ I1.sz JP (I1.oZ (Ze _) (I1.cf.fresh (Ze _))) o8 rv al hd yo oY Gp hl hK Xf (M7 I2 hd rv TQ) λs' H' r J sm hn B3=>⟨_,rfl,Zc ⟨_,rfl,.ref h'.objs.size,_,J,rfl,?_⟩⟩
   .have:=Em e
    exact ⟨Y5 _ (kp b o this.1),this.2⟩
   .unfold qG; rw [PySem.W.hideAll_size,sv]; exact MT
   .rw [B3.one hS]
    have fg:∀ i∈r0,i < ds.length:=λi hi=>by
     have:=abf.mp (hS.1.mem_iff.mp hi)
     rw [<- hK.len,hl] at this
     exact this
    exact sP sm q' h'.objs.size _ hn (AS (hd.same (bR sm)) fg)
 .cases hs
end
section
variable {prog:Program} {w:World} {A:Around} {E:Value->Shared->Prop} {s:Shared}
theorem ux {Q:List Value->Shared->Prop} {r:Addr} {a b c:Int} {t u v:Tok} {n:Nat} (hh:A.handled=none) (hr:IsRange s.heap r a b c t u v) (M9:Builtin.Range.small a b c=true) (hn:Builtin.Range.rangeSize a b c=n) (hlen:n<=2 ^ 24)
  (hQ:∀ h' tk acc,(∀ b o,s.heap.get? b=some o->h'.get? b=some o)->s.heap.objs.size<=h'.objs.size->ItemsOf (λi v=>∃ t,v=.int (a + i * c) t) acc n->Q acc.toList { s with heap:=h',toks:=tk }):wpAny (model prog w) A (collect (.ref r)) Q E s:=by
 unfold collect
 refine Y3 (wpAny_runValue (aaL F.entry_proto_collect ?_))
 rw [aaE F.plain_proto_collect _]
 show wpAny _ A.in1 (newList [] >>= λl=>again (.builtin "list.__iadd__" ⟨[l,.ref r],[]⟩)) _ _ s
 refine Y3 (Z3 ?_)
 have key:∀ (R:Result->Shared->Prop),(∀ h' tk rY c',(∀ b o,s.heap.get? b=some o->h'.get? b=some o)->h'.get? s.heap.objs.size=some { cls:=.type "list",dict:=none,data:=.seq rY c',slots:=#[] }->ItemsOf (λi v=>∃ t,v=.int (a + i * c) t) rY n->R (.ok (.ret (.ref s.heap.objs.size))) { s with heap:=h',toks:=tk })->
   codeAny (model prog w) A (.builtin "list.__iadd__" ⟨[.ref s.heap.objs.size,.ref r],[]⟩) R { s with heap:=s.heap.push { cls:=.type "list",data:=.seq ([]:List Value).toArray } }:=by
  intro R hR
  refine aaL F.entry_list_iadd ?_
  rw [aaE abz _]
  show wpAny _ A.in1 (Builtin.List.listExtendWith (.ref s.heap.objs.size) (.ref r) (.ref s.heap.objs.size)) _ _ _
  exact wpAny_extend_range (R:=R) (s:={ s with heap:=s.heap.push { cls:=.type "list",data:=.seq ([]:List Value).toArray } }) hh (Y5 _ hr) M9 hn hlen _ _ _ (Zh _ rfl) λh' tk rY c' hk B3 l5=>hR h' tk rY c' (λb o e=>hk b o (Zs (Zf e)) (Y5 _ e)) B3 l5
 refine Zc ⟨abP abz _,key _ λh' tk rY c' hk B3 l5=>?_⟩
 show wpAny _ A (load s.heap.objs.size >>= _) _ _ _
 exact Y3 (wpAny_load B3 (Zc (hQ h' tk rY hk (aak (Zf B3)) l5)))
end
theorem qO:∀ {n:Nat} {k:Int} {l:List Value},l.length=n->(∀ (j:Nat) v,l[j]?=some v->∃ t,v=.int (k + j) t)->bj ((List.range n).map λi:Nat=>V.int (k + i)) l
 | 0,k,l,hl,_=>by rw [abW.mp hl]; exact .nil
 | n + 1,k,[],hl,_=>by cases hl
 | n + 1,k,x :: l,hl,h=>by
   rw [List.range_succ_eq_map,Zn,aay]
   refine .cons ?_ ?_
   .obtain ⟨t,e⟩:=h 0 x rfl
    exact ⟨t,e⟩
   .have:=qO (n:=n) (k:=k + 1) (l:=l) (by simpa using hl) λj v e=>by
     obtain ⟨t,q⟩:=h (j + 1) v (by simpa using e)
     exact ⟨t,by rw [q]; congr 1; push_cast; omega⟩
    have e:((λi:Nat=>V.int (k + i)) ∘ Nat.succ)=λi:Nat=>V.int (k + 1 + i):=by
     funext i
     show V.int (k + ((i + 1:Nat):Int))=_
     congr 1; push_cast; omega
    rw [e]; exact this
def Na (X:Cx) (arg:Expr) (O:List Nat) (ga:DS->Option (List D)):Prop:=∀ pins s σ H U A0 δ ds,Inv X pins σ H s->Rel X.K O U A0 σ δ H->ga δ=some ds->
 wpAny (model X.prog X.w) X.A (eval arg X.env) (λu s1=>∃ H1 xs pl,Inv X (pins ++ pl) σ H1 s1 /\ aA H H1 /\ (∃ l:Addr,u=.ref l) /\ cg X.K (wo H1 (U ++ A0)) xs ds /\ ∀ s2 H2,Inv X (pins ++ pl) σ H2 s2->aA H1 H2->Qg X u xs s2) X.xe s
def Ia (g:DS->Option D):DS->Option (List D):=λδ=>(g δ).bind λd=>match d with
 | .list ds=>some ds
 | _=>none
def Ib (g:DS->Option (List D)):DS->Option (List D):=λδ=>(g δ).bind λds=>match ds with
 | [.int n]=>if 0<=n /\ n<=100000 then some ((List.range n.toNat).map λi:Nat=>.int (0 + i)) else none
 | _=>none
def oh (ga:DS->Option (List D)) (ix:List Nat) (gb:DS->Option D):DS->Option (List D):=λδ=>(ga δ).bind λds=>(Cp ix δ).bind λxj=>(r6 (λd=>gb ((d :: xj).map some)) ds).bind λkds=>zg ds kds
section
variable {X:Cx} {O:List Nat}
set_option tactic.hygienic true in
theorem Cr {e:Expr} {g:DS->Option D} (he:PE X e (iT X.K O g)):Na X e O (Ia g):=by
 intro pins s σ H U A0 δ ds I R eg
 obtain ⟨d,e1,e2⟩:=bind1 eg
 split at e2
 .rename_i Sw
  cases e2
  refine d6 (he pins s σ H (λv H1=>aA H H1 /\ gK X.K (U ++ A0) H1 v (.list ds)) I ⟨U,A0,δ,_,R,e1,λv H1 s1 h1=>⟨s1,h1⟩⟩) λu s1 ⟨v,H1,I1,r1,sm,h1⟩=>?_
  obtain ⟨l,xs,rfl,hl,hx⟩:=h1.list
  cases r1
  refine ⟨H1,xs,[],by rw [Z7]; exact I1,sm,⟨l,rfl⟩,hx,λs2 H2 I2 Qe Q E hQ=>?_⟩
  obtain ⟨its,rv,pl,hz⟩:=I2.list (hl.same Qe).sq
  refine collect_list pl.isList ?_ (by simpa using (show its.length<=sizeLine by rw [<- rv.length]; exact hz))
  have hsz:((s2.heap.push (seqObj "list" #[] 0)).update s2.heap.objs.size (Obj.mapSeq (· ++ its.toArray))).objs.size=s2.heap.objs.size + 1:=by rw [Heap.size_update,size_push']
  have:=hQ its ((s2.heap.push (seqObj "list" #[] 0)).update s2.heap.objs.size (Obj.mapSeq (· ++ its.toArray))) s2.toks (λb o e=>by
   rw [Heap.get?_update_ne _ _ _ _ (Zs (Zf e))]
   exact Y5 _ e) (by rw [hsz]; exact aaA _) rv
  simpa using this
 .cases e2
set_option tactic.hygienic true in
theorem EB {a:Expr} {p2 q2:Pos} {gr:DS->Option (List D)} (m2:X.mg "range"=none) (ha:PA X [a] (vY X.K O gr)) (hc:X.calm=true:=by rfl) (g2:Gl X "range":=by rfl)
  (s2:starEach [a] X.env=(false,eval a X.env) :: starEach [] X.env:=by rfl) (s0:starEach ([]:List Expr) X.env=[]:=by rfl):Na X (.Call (.Name "range" p2) [a] [] q2) O (Ib gr):=by
 intro pins s σ H U A0 δ ds I R eg
 obtain ⟨as,e1,e2⟩:=bind1 eg
 split at e2
 .rename_i n
  split at e2
  .rename_i hn
   cases e2
   refine Call_ (iF I g2 m2 boot_range (aal (d6 (ha q2 pins s σ H (λvs H1=>aA H H1 /\ vs=[.int n]) I ⟨U,A0,δ,_,R,e1,λvs H1 s1 h1=>⟨s1,by
    cases h1 with
    | cons a b=>cases b; cases a; rfl⟩⟩) λus sA ⟨vs,H1,I1,r1,sm,e⟩=>?_) s2 (by rw [s0]; rfl)))
   subst e
   obtain ⟨x,rfl,t,rfl⟩:=vals1 r1
   refine call_range_1 ?_
   have hr:IsRange (sA.heap.push { cls:=.type "range",data:=.fields #[.int 0 sA.toks,.int n t,.int 1 (sA.toks + 1)] }) sA.heap.objs.size 0 n 1 sA.toks t (sA.toks + 1):=IsRange.new ..
   have I2:Inv X pins σ H1 { sA with heap:=sA.heap.push { cls:=.type "range",data:=.fields #[.int 0 sA.toks,.int n t,.int 1 (sA.toks + 1)] },toks:=sA.toks + 1 + 1 }:=I1.kept (t':=sA.toks + 1 + 1) λb o e=>Y5 _ e
   have I3:=I2.pinned (fp:=[sA.heap.objs.size]) (λb hb=>by rw [show b=sA.heap.objs.size by simpa using hb]; exact I1.oZ (Nat.le_refl _) (I1.cf.fresh (Nat.le_refl _))) (λb hb=>by
    have eb:b=sA.heap.objs.size:=by simpa using hb
    subst eb
    exact ⟨_,Zh _ rfl,λv z=>by cases z⟩)
   refine ⟨H1,(List.range n.toNat).map λi:Nat=>V.int (0 + i),_,I3,sm,⟨_,rfl⟩,?_,λs2 H2 J Qe Q E hQ=>?_⟩
   .have:=cg.ints (K:=X.K) (H:=wo H1 (U ++ A0)) ((List.range n.toNat).map λi:Nat=>(0 + i:Int))
    rw [aay,aay] at this
    exact this
   .have PQ:IsRange s2.heap sA.heap.objs.size 0 n 1 sA.toks t (sA.toks + 1):=(J.pin _ (Zg _ (Zg _ (fe (b:=sA.heap.objs.size) (by simp) (Zh _ rfl))))).1
    refine ux (n:=n.toNat) (J.ok.hd hc) PQ (small_one (by decide) (by decide) (by omega) (by omega)) (by rw [rangeSize_one]; split <;> omega) (by omega) λh' tk acc kp MT l5=>hQ _ h' tk kp MT (qO (by rw [ZP]; exact l5.1) λj v e=>?_)
    obtain ⟨t,q⟩:=l5.2 j v (by simpa using e)
    exact ⟨t,by rw [q,Int.mul_one]⟩
  .cases e2
 .cases e2
theorem xk {kk kc:Nat} {c P:Addr} {q pn:Str} {params:Arguments} {arg body:Expr} {scope:Scope} {Cs kp p1 pos:Pos} {fv:List Str} {ix:List Nat} {ga:DS->Option (List D)} {gb:DS->Option D} (sc:Scope)
  (hm:X.mg "sorted"=none) (hA:Na X arg O ga) (hr:cJ kk X.A) (hk:kc + 3<=kk) (hB:HL X.mg X.base) (Xg:PySem.W.codeHdIn X.K c P=true) (m:(P,Cs,q)∈bY) (S:P5 [pn] fv scope)
  (kf:∀ (base:Heap) (f c':Addr) (cl:List (Str×Addr)) (A:Around) (outer:List Env) (s:Shared) (H:Hp) (E:XK),cJ kc (A.deeper (PySem.W.envX q scope s.heap.objs.size f (.ref c') cl))->PE (Ek o6 X.prog X.w X.K X.mg base ([pn] ++ fv) q scope f (.ref c') cl A outer s H E) body (tE X.K [] gb))
  (hb:∀ (name qual:Str) (cl:List (Str×Addr)) (pm cd yn:Value) (us:List Value),us.length=[pn].length->bindArgs (PySem.W.kla_fn name qual params body scope cl pm cd yn) ⟨us,[]⟩=pure ([pn].zip us))
  (AH:X.env.code=.ref c:=by rfl) (hq:X.env.qual ++ Str.ofString "<lambda>"=q:=by rfl) (ym:ix.map (λi=>X.N[i]?)=fv.map some:=by rfl) (e0:X.env.scope=sc:=by rfl) (HX:∀ x∈fv,sc.names.lookup x=some .cell:=by decide +kernel) (o8:∀ y∈scope.names,y.2=.free->sc.names.lookup y.1=some .cell:=by decide +kernel)
  (Lp:∀ x,X.fn x=true:=by intro _; rfl) (hd:defaultsOf params X.env=([],[]):=by rfl) (g1:Gl X "sorted":=by rfl) (hO:∀ i∈ix,i∉O:=by decide)
  (he:starEach [arg] X.env=(false,eval arg X.env) :: starEach [] X.env:=by rfl) (s0:starEach ([]:List Expr) X.env=[]:=by rfl):
  PE X (.Call (.Name "sorted" p1) [arg] [⟨some "key",.Lambda params body scope Cs,kp⟩] pos) (tN X.K O (oh ga ix gb)):=by
 subst e0
 intro pins s σ H Q I ⟨U,A0,δ,rs,R,ed,q'⟩
 unfold oh at ed
 obtain ⟨ds,ea,ed⟩:=bind1 ed
 obtain ⟨xj,ec,ed⟩:=bind1 ed
 obtain ⟨kds,ek,es⟩:=bind1 ed
 refine abm (iF I g1 hm sX (callWith_kw (kws:=[⟨some "key",.Lambda params body scope Cs,kp⟩]) ?_ (by rw [he]; rfl) (by rw [he,s0]; rfl) rfl rfl))
 rw [he,s0]
 show wpAny _ _ (spliced ((false,eval arg X.env) :: backTo pos [])) _ _ s
 refine abT (d6 (hA pins s σ H U A0 δ ds I R ea) λu s1 ⟨H1,xs,pl,I1,sm,⟨l,el⟩,hxs,M8⟩=>Calls.spliced_nil ?_)
 have R1:=R.same sm
 refine kws_cons ?_
 have hP:H1 P=some (.lam Cs q):=R1.al.2.2 P Cs q m
 obtain ⟨YY,PZ,_⟩:=(show cw X.prog X.w H1 s1.heap P (.lam Cs q) from I1.cf P _ hP)
 obtain ⟨bm,ob,b1,b2,b3,b4,b5,b6⟩:=hB
 have MS:s1.heap.Ns mainGlobals X.mg:=Ns.widen I1.bk I1.ok.mod.glob
 have Vq:∀ {a:Addr},(∀ o es ep,s1.heap.get? a=some o->o.data≠.dict es ep)->a≠mainGlobals:=λ{a} h z=>by
  subst z
  obtain ⟨o,es,ep,e,d,_⟩:=MS
  exact h o es ep e d
 have RF:=I1.bk _ _ b3
 refine MR I1 hd (λy hy hf=>I1.ok.has _ (.inl (o8 y hy hf))) AH (PySem.W.codeHd_of_K I1.rE Xg) hP hq ⟨bm,ob,b1,b2,Vq λo es ep e z=>?_,λz=>?_,RF,b4,b5,b6⟩ (abd (Vq λo es ep e z=>?_)) λcl f c' yn s2 H2 h1 h2 I2 Qh hc hf Xh Dp=>kws_nil ?_
 .rw [RF] at e; cases e; rw [b6] at z; cases z
 .subst z
  rw [PZ] at RF; cases RF
  cases b6
 .rw [PZ] at e; cases e; cases z
 .have R2:=R1.same Qh
  obtain ⟨cvs,yo,n6,Xi⟩:=EA R2 hO ec
  have F:=M3 (k:=kc) (gb:=gb) (cvs:=cvs) I2.kb Dp hf Xh h1 h2 Lp S ym HX Xi n6 λbase=>kf base f c' cl
  subst el
  refine Cq F (Binds.all (hb _ _ _ _ _ _)) (hr.mono hk).in1.in1 I2.kb R2.al (hxs.same (bR Qh)) yo hc (M8 s2 H2 I2 Qh) ek es (λr ys H' a b c d=>q' r ys H' ((sm.trans Qh).trans a) ?_ c d) ⟨l,rfl⟩
  cases e:H r with
  | none=>rfl
  | some o=>rw [(sm.trans Qh) _ _ e] at b; cases b
end
theorem xl {P:Program} {w:World} {K:PySem.W.Frag} {mg:Str->Option Value} {base:Heap} {x:Str} {st:Stmt} {N ps:List Str} {k:Nat} {c:Addr} (O:List Nat) (g:DS->Option Res) (F:P6 K mg x st ps c) (S:az N ps (ai st))
  (body:∀ (f:Addr) (A:Around) (outer:List Env) (s:Shared) (H:Hp) (E:XK),cJ k (A.deeper (envOfC x (ai st) s.heap.objs.size f (.ref c)))->jk (o3 o6 P w K mg base N x (ai st) f (.ref c) A outer s H E).CY (cA st) (tS K O true g))
  (hO:∀ i∈O,ps.length<=i:=by decide) {n m:Nat} (hN:N.length=n:=by rfl) (hP:ps.length=m:=by rfl):Dn P w K mg base (k + 1) x ps (wG K m (i8 n g)):=by
 subst hN hP
 obtain ⟨f,fd,F,hc,m,b⟩:=F
 have kp:=F.kp
 obtain ⟨oc,od,kV,doc,pm,an,cH,ct,Dg,rfl,lk,oY⟩:=F.ex
 cases (show cH=.ref c from hc)
 refine ⟨f,_,JW lk oY S (λvs H Q E h=>h.1) λA outer s H vs Q E hr h=>⟨_,(body f A outer s H E hr).CY,?_⟩,m,kp,b⟩
 obtain ⟨hn,A',ds,d,al,hd,e,q⟩:=h
 obtain ⟨r,e1,e2⟩:=bind1 e
 refine ⟨H,[],A',_,r,Rel.start al hd (λi hi=>by have:=hO i hi; rw [<- hd.len,hn]; exact this),Fx.start al,e1,?_⟩
 cases r with
 | rt d'=>
   intro v H' h
   unfold lS at h
   rw [Zk rfl] at h
   rcases h with ⟨r,ob,rfl,a,b,c,f⟩ | ⟨_,_,_,_,_,_,_,_,_,_,_,_,_,rfl⟩
   .cases f with
    | lst f=>cases e2; exact q r _ H' a b c f
    | rF _ _=>cases e2
   .cases e2
 | nx δ=>cases e2
 | bk _=>cases e2
 | ct _=>cases e2
end L2
namespace L2
open PySem PySem.Spec PyProof.Rows
def EC:Res->Option D
 | .rt (.tuple (.list l :: ds))=>some (.tuple (.list l :: ds))
 | _=>none
def ED (n:Nat) (g:DS->Option Res):List D->Option D:=λds=>(g (ds.map some ++ List.replicate (n - ds.length) none)).bind EC
def tq (l ds:List D):D:=.tuple (.list l :: ds)
def Nb:Res->Option Res
 | .rt d=>some (.rt d)
 | _=>none
def zh (i:Nat) (gc:DS->Option Bool) (ga:DS->Option Res) (gb:DS->List D->List D->Option Res):DS->List D->List D->Option Res:=λδ l ds=>
 (gc (δ.set i (some (tq l ds)))).bind λb=>if b=true then (ga (δ.set i (some (tq l ds)))).bind Nb else gb δ l ds
def AU (i:Nat) (ge:DS->Option D) (gb:DS->Option Res):DS->List D->List D->Option Res:=λδ l ds=>
 (ge (δ.set i (some (tq l ds)))).bind λ_=>if l.length < 100000 then gb (δ.set i none) else none
def AV (i:Nat) (g:DS->Option D) (gb:DS->List D->List D->Option Res):DS->Option Res:=λδ=>(g δ).bind λd=>match d with
 | .tuple (.list l :: ds)=>if i < δ.length then gb δ l ds else none
 | _=>none
def Ic (K:PySem.W.Frag) (n:Nat) (G:List D->Option D):Sp:=λvs H Q _=>vs.length=n /\ ∃ A ds d,Ls A H /\ cg K (wo H A) vs ds /\ G ds=some d /\ ∀ v H',Hj K H A v d H'->Q v H'
theorem Rel.hide {K:PySem.W.Frag} {O:List Nat} {U A0:List Addr} {σ:St} {δ:DS} {H H':Hp} {r:Addr} {o:HO} (R:Rel K O U A0 σ δ H) (s:aA H H') (hr:H r=none) (ho:H' r=some o) (ow:DE o):Rel K O (r :: U) A0 σ δ H':=
 have low:aA (wo H (U ++ A0)) (wo H' (r :: U ++ A0)):=λc o hc=>by
  obtain ⟨c1,c2⟩:=fU hc
  rw [bp]
  .exact s _ _ c2
  .intro z
   rcases Y6.mp z with z | z
   .rw [z,hr] at c2; cases c2
   .exact c1 z
 { len:=R.len
   fz:=λj d hj e=>(R.fz j d hj e).imp λw q=>⟨q.1,q.2.same low⟩
   ow:=λj d hj e=>by
    obtain ⟨l,o,h1,h2,h3,h4⟩:=R.ow j d hj e
    exact ⟨l,o,h1,Y8 _ h2,s _ _ h3,h4.same low⟩
   inj:=R.inj
   al:=⟨λc hc=>by
    rcases Y6.mp hc with z | z
    .rw [z]; exact ⟨_,ho,ow⟩
    .exact (R.al.same s).1 c z,(R.al.same s).2⟩ }
theorem Rel.TR {K:PySem.W.Frag} {O:List Nat} {U A0:List Addr} {σ:St} {δ:DS} {H:Hp} {i:Nat} {v:V} (R:Rel K O U A0 σ δ H) (hi:i∉O):Rel K O U A0 (σ.set i (some v)) (δ.set i none) H where
 len:=by rw [aad,aad]; exact R.len
 fz:=λj d hj e=>by
  by_cases h:i=j
  .subst h
   have hl:i < δ.length:=by have:=(Zd.mp e).1; rwa [aad] at this
   rw [ZJ hl] at e; cases e
  .rw [Zv h] at e ⊢
   exact R.fz j d hj e
 ow:=λj d hj e=>by
  have h:i≠j:=λz=>hi (z ▸ hj)
  rw [Zv h] at e ⊢
  exact R.ow j d hj e
 inj:=λj k d e l hj hk J7 a b c z=>by
  have h1:i≠j:=λz=>hi (z ▸ hj)
  have h2:i≠k:=λz=>hi (z ▸ hk)
  simp only [Zv h1,Zv h2] at a b c z
  exact R.inj j k d e l hj hk J7 a b c z
 al:=R.al
section
variable {X:Cx} {O:List Nat} {st:Stmt} {rest:List Stmt} {e1:Expr} {es:List Expr} {gl:DS->Option (List D)} {gr:DS->Option (List D)} {pos jl:Pos}
set_option tactic.hygienic true in
theorem AW {x1} (h1:PE X e1 (tN X.K O gl)) (h2:PA X es (vY X.K O gr)) (hs:starEach (e1 :: es) X.env=(false,eval e1 X.env) :: starEach es X.env:=by rfl):
  PS X (.Return (some (.Tuple (e1 :: es) x1 jl)) pos) (tS X.K O true (bx (aQ (aa (bJ gl) gr)))):=(pU (Dd (bQ h1 h2 hs))).mono λE σ H hh=>hh.e λH0 U A0 δ res R F ed P=>by
 obtain ⟨d,e1,e2⟩:=bind1 ed
 cases e2
 obtain ⟨ds,e3,e4⟩:=bind1 e1
 split at e4
 rotate_left
 .cases e4
 rename_i hz
 cases e4
 obtain ⟨x,xs,e5,e6,e7⟩:=wz e3
 cases e7
 unfold bJ at e5
 cases e8:gl δ with
 | none=>rw [e8] at e5; cases e5
 | some l=>
 rw [e8] at e5
 cases e5
 refine ⟨U,A0,δ,l,R,e8,λr ys H1 s1 hr h1 h2=>⟨r :: U,A0,δ,xs,R.hide s1 hr h1 True.intro,e6,λvs H2 s2 hv=>⟨?_,λp hp=>P _ _ ?_⟩⟩⟩
 .have hl:=hv.len
  rw [Zp] at hz
  exact ZQ (m:=100000) (by show vs.length + 1<=100000; omega) (by decide)
 .have s3:=cx hp (HO.tup (.ref r :: vs))
  unfold lS
  rw [Zk rfl]
  refine .inr ⟨p,r,vs,ys,l,xs,rfl,F.same.trans (s1.trans (s2.trans s3)),F.same.free hr,.inl bC,s3 _ _ (s2 _ _ h1),?_,?_,rfl⟩
  .refine hv.same λb o hb=>?_
   obtain ⟨z1,z2⟩:=fU hb
   rw [bp λz=>z1 ?_]
   .exact s3 _ _ z2
   .rcases Y6.mp z with y | y
    .exact ZX _ (Y6.mpr (.inl y))
    .exact Zg _ y
  .refine h2.same λb o hb=>?_
   obtain ⟨z1,z2⟩:=fU hb
   rw [bp λz=>z1 ?_]
   .exact s3 _ _ (s2 _ _ z2)
   .rcases Y6.mp z with y | y
    .exact Y6.mpr (.inl y)
    .exact Y8 _ (Zg _ y)
end
section
variable {P:Program} {w:World} {K:PySem.W.Frag} {mg:Str->Option Value} {base:Heap} {x:Str} {st:Stmt} {N ps:List Str} {k:Nat}
theorem AX (O:List Nat) (g:DS->Option Res) (F:Df K mg x st ps) (S:az N ps (ai st))
  (body:∀ (f:Addr) (cH:Value) (A:Around) (outer:List Env) (s:Shared) (H:Hp) (E:XK),cJ k (A.deeper (envOfC x (ai st) s.heap.objs.size f cH))->jk (o3 o6 P w K mg base N x (ai st) f cH A outer s H E).CY (cA st) (tS K O true g))
  (hO:∀ i∈O,ps.length<=i:=by decide) {n m:Nat} (hN:N.length=n:=by rfl) (hP:ps.length=m:=by rfl):Dn P w K mg base (k + 1) x ps (Ic K m (ED n g)):=by
 subst hN hP
 refine F.ok S (λvs H Q E h=>h.1) (λf cH A outer s H vs Q E hr h=>⟨_,body f cH A outer s H E hr,?_⟩)
 obtain ⟨hn,A',ds,d,al,hd,e,q⟩:=h
 obtain ⟨r,e1,e2⟩:=bind1 e
 refine ⟨H,[],A',_,r,Rel.start al hd (λi hi=>by have:=hO i hi; rw [<- hd.len,hn]; exact this),Fx.start al,e1,?_⟩
 cases r with
 | rt d'=>
   intro v H' h
   unfold lS at h
   rw [Zk rfl] at h
   rcases h with ⟨r,ob,rfl,a,b,c,f⟩ | h
   .cases f <;> cases e2
   .have h':=h
    obtain ⟨_,_,_,_,_,_,_,_,_,_,_,_,_,rfl⟩:=h'
    cases e2
    exact q v H' h
 | nx δ=>cases e2
 | bk _=>cases e2
 | ct _=>cases e2
end
theorem Hj.hd {K:PySem.W.Frag} {H H':Hp} {A:List Addr} {v:V} {d:D} (h:Hj K H A v d H') (al:Ls A H):aA H H' /\ HD K (wo H' A) v d:=by
 obtain ⟨p,r,xs,ys,l,ds,rfl,sm,hr,ht,hl,hx,hy,rfl⟩:=h
 have sub:aA (wo H' (r :: A)) (wo H' A):=iG λa ha=>Y8 _ ha
 exact ⟨sm,.tup (m8 ht (al.same sm)) (.cons (.lst (.of (by rw [bp (al.free hr)]; exact hl)) (hy.same sub)) (hx.same sub))⟩
section
variable {X:Cx} {O:List Nat} {fr:Bool} {e:Expr} {es:List Expr} {gr:DS->Option (List D)} {pos p TU:Pos} {n k kk:Nat} {x:Str} {ps:List Str} {G:List D->Option D}
set_option tactic.hygienic true in
theorem EE (F:Dn X.prog X.w X.K X.mg X.base k x ps (Ic X.K n G)) (hr:cJ kk X.A) (hk:k<=kk) (ha:PA X (e :: es) (vY X.K O gr)) (hg:Gl X x:=by rfl)
  (mU:(x == ("__debug__":Str))=false:=by decide) (he:starEach (e :: es) X.env=(false,eval e X.env) :: starEach es X.env:=by rfl) (i4:(backTo pos (starEach es X.env)).any (·.1)=false:=by rfl):
  PE X (.Call (.Name x p) (e :: es) [] pos) (tE X.K O (ay G n gr)):=(qc F hr hk ha hg mU he i4).mono λσ H Q hh=>hh.e λU A0 δ d R ed q=>by
 obtain ⟨ds,e1,e2⟩:=bind1 ed
 split at e2
 .rename_i hn
  refine ⟨U,A0,δ,ds,R,e1,λvs H' s h=>?_⟩
  show Ic X.K n G (vs ++ []) H' Q E0
  rw [Z7]
  refine ⟨by rw [h.len]; exact hn,U ++ A0,ds,d,(R.same s).al,h,e2,λv H2 h2=>?_⟩
  obtain ⟨s2,h3⟩:=h2.hd (R.same s).al
  exact q v H2 (s.trans s2) h3
 .cases e2
set_option tactic.hygienic true in
theorem Ie (F:Dn X.prog X.w X.K X.mg X.base k x ps (Ic X.K n G)) (hr:cJ kk X.A) (hk:k<=kk) (ha:PA X (e :: es) (vY X.K O gr)) (hg:Gl X x:=by rfl)
  (mU:(x == ("__debug__":Str))=false:=by decide) (he:starEach (e :: es) X.env=(false,eval e X.env) :: starEach es X.env:=by rfl) (i4:(backTo pos (starEach es X.env)).any (·.1)=false:=by rfl):
  PS X (.Return (some (.Call (.Name x p) (e :: es) [] pos)) TU) (tS X.K O true (bx (ay G n gr))):=(pU (qc F hr hk ha hg mU he i4)).mono λE σ H hh=>hh.e λH0 U A0 δ res R Fx ed P=>by
 obtain ⟨d,TV,e0⟩:=bind1 ed
 cases e0
 obtain ⟨ds,e1,e2⟩:=bind1 TV
 split at e2
 .rename_i hn
  refine ⟨U,A0,δ,ds,R,e1,λvs H' s h=>?_⟩
  show Ic X.K n G (vs ++ []) H' _ E0
  rw [Z7]
  refine ⟨by rw [h.len]; exact hn,U ++ A0,ds,d,(R.same s).al,h,e2,λv H2 h2=>P v H2 ?_⟩
  unfold lS
  rw [Zk rfl]
  obtain ⟨p,r,xs,ys,l,ds,e3,sm,hr,ht,hl,hx,hy,e4⟩:=h2
  have sub:aA (wo H2 (r :: (U ++ A0))) (wo H2 (r :: A0)):=iG λa ha=>by
   rcases Y6.mp ha with z | z
   .exact Y6.mpr (.inl z)
   .exact Y8 _ (Zg _ z)
  exact .inr ⟨p,r,xs,ys,l,ds,e3,Fx.same.trans (s.trans sm),Fx.same.free (s.free hr),ht,hl,hx.same sub,hy.same sub,e4⟩
 .cases e2
def Of (K:PySem.W.Frag) (O:List Nat) (fr:Bool) (i:Nat) (g:DS->List D->List D->Option Res):TS:=λE σ H=>∃ H0 U A0 δ Hb CQ p r xs ys l ds res,Rel K O U A0 CQ δ Hb /\ Fx H0 A0 U Hb /\ i < δ.length /\ i∉O /\ aA Hb H /\ Hb r=none /\ cV H p (.ref r :: xs) /\ H r=some (.lst ys) /\
 cg K (wo H (r :: (U ++ A0))) xs ds /\ cg K (wo H (r :: (U ++ A0))) ys l /\ σ=CQ.set i (some (.ref p)) /\ g δ l ds=some res /\ Mc K O fr H0 A0 E res
set_option tactic.hygienic true in
theorem Ig {i:Nat} {a:Str} {pa wX:Pos} {rest:List Stmt} {gb:DS->List D->List D->Option Res} (F:Dn X.prog X.w X.K X.mg X.base k x ps (Ic X.K n G)) (hr:cJ kk X.A) (hk:k<=kk) (ha:PA X (e :: es) (vY X.K O gr)) (hN:X.N.Nodup) (hi:X.N[i]?=some a) (la:Loc X.env.scope a)
  (hb:jk X rest (Of X.K O fr i gb)) (Xj:i∉O:=by decide) (hg:Gl X x:=by rfl) (mU:(x == ("__debug__":Str))=false:=by decide) (he:starEach (e :: es) X.env=(false,eval e X.env) :: starEach es X.env:=by rfl) (i4:(backTo pos (starEach es X.env)).any (·.1)=false:=by rfl)
  (hs:swapsWith (.Call (.Name x p) (e :: es) [] pos) (some (.Name a pa)) wX.line X.env=pure false:=by rfl) (hf:X.fn a=true \/ X.env.scope.names.lookup a=some .local:=by first | exact .inl rfl | exact .inr rfl | assumption):
  jk X (.Assign [.Name a pa] (.Call (.Name x p) (e :: es) [] pos) wX :: rest) (tS X.K O fr (AV i (ay G n gr) gb)):=(ka (fc hN hi la (qc F hr hk ha hg mU he i4) hs hf) hb).mono λE σ H hh=>hh.e λH0 U A0 δ res R Fx ed P=>by
 obtain ⟨d,TV,e0⟩:=bind1 ed
 obtain ⟨dl,e1,e2⟩:=bind1 TV
 split at e2
 .rename_i hn
  refine ⟨U,A0,δ,dl,R,e1,λvs H' s h=>?_⟩
  show Ic X.K n G (vs ++ []) H' _ E0
  rw [Z7]
  refine ⟨by rw [h.len]; exact hn,U ++ A0,dl,d,(R.same s).al,h,e2,λv H2 h2=>?_⟩
  obtain ⟨p,r,xs,ys,l,ds,rfl,sm,hr,ht,hl,hx,hy,rfl⟩:=h2
  have e0:(if i < δ.length then gb δ l ds else none)=some res:=e0
  split at e0
  .rename_i fg
   exact ⟨H0,U,A0,δ,H,σ,p,r,xs,ys,l,ds,res,R,Fx,fg,Xj,s.trans sm,s.free hr,ht,hl,hx,hy,rfl,e0,P⟩
  .cases e0
 .cases e2
end
section
variable {X:Cx} {O:List Nat} {fr:Bool} {i:Nat} {c:Expr} {a rest:List Stmt} {s3:Stmt} {pos:Pos} {gc:DS->Option Bool} {ga:DS->Option Res} {ge:DS->Option D} {gb:DS->List D->List D->Option Res} {gr:DS->Option Res}
theorem xm {K:PySem.W.Frag} {O:List Nat} {U A0:List Addr} {CQ:St} {δ:DS} {Hb H:Hp} {i:Nat} {p r:Addr} {xs ys:List V} {l ds:List D} (R:Rel K O U A0 CQ δ Hb) (hi:i∉O) (s:aA Hb H) (hr:Hb r=none) (ht:cV H p (.ref r :: xs)) (hl:H r=some (.lst ys)) (hx:cg K (wo H (r :: (U ++ A0))) xs ds)
  (hy:cg K (wo H (r :: (U ++ A0))) ys l):Rel K O U A0 (CQ.set i (some (.ref p))) (δ.set i (some (tq l ds))) H:=by
 have sub:aA (wo H (r :: (U ++ A0))) (wo H (U ++ A0)):=iG λa ha=>Y8 _ ha
 exact (R.same s).set hi (.tup (m8 ht (R.al.same s)) (.cons (.lst (.of (by rw [bp (R.al.free hr)]; exact hl)) (hy.same sub)) (hx.same sub)))
theorem uy (hc:PT X c (tT X.K O gc)) (ha:jk X a (tS X.K O fr ga)) (hb:jk X rest (Of X.K O fr i gb)):jk X (.If c a [] pos :: rest) (Of X.K O fr i (zh i gc ga gb)):=(ka (JQ hc ha Af) hb).mono<|by
 rintro E σ H ⟨H0,U,A0,δ,Hb,CQ,p,r,xs,ys,l,ds,res,R,F,fg,hi,s,hr,ht,hl,hx,hy,rfl,ed,P⟩
 obtain ⟨b,e1,ed⟩:=bind1 ed
 have R3:=xm R hi s hr ht hl hx hy
 refine ⟨U,A0,_,b,R3,e1,λH4 t4=>?_⟩
 cases b with
 | true=>
   rw [Zk rfl] at ed ⊢
   obtain ⟨q,e3,ed⟩:=bind1 ed
   cases q with
   | rt d=>cases ed; exact ⟨H0,U,A0,_,_,R3.same t4,(F.grow s).grow t4,e3,P⟩
   | _=>cases ed
 | false=>
   rw [Zj Zt] at ed ⊢
   exact ⟨H0,U,A0,δ,Hb,CQ,p,r,xs,ys,l,ds,res,R,F,fg,hi,s.trans t4,hr,t4.kj ht,t4 _ _ hl,hx.same (bR t4),hy.same (bR t4),rfl,ed,P⟩
set_option tactic.hygienic true in
theorem Ih (h3:PS X s3 (sC (O0 X.K "list" tX (JR (Rn X.K) (pT i) (tC (.int 0))) (pY (tE X.K O ge) BF)))) (hb:jk X rest (tS X.K O fr gr)):jk X (s3 :: rest) (Of X.K O fr i (AU i ge gr)):=(ka h3 hb).mono<|by
 rintro E σ H ⟨H0,U,A0,δ,Hb,CQ,p,r,xs,ys,l,ds,res,R,F,fg,hi,s,hr,ht,hl,hx,hy,rfl,ed,P⟩
 obtain ⟨w,e3,ed⟩:=bind1 ed
 have R3:=xm R hi s hr ht hl hx hy
 split at ed
 .rename_i hz
  have TX:(CQ.set i (some (.ref p)))[i]?=some (some (.ref p)):=ZJ (by rw [R.len]; exact fg)
  refine ⟨.ref p,TX,.inr (.inl ⟨p,.ref r :: xs,0,.ref r,rfl,rfl,?_,d8 (j:=0) rfl,.inl ⟨rfl,ys,iW.of hl⟩,U,A0,_,w,R3,e3,λv H5 t5 _=>⟨r,ys,v,rfl,rfl,t5 _ _ hl,yJ (by have:=hy.len; omega),?_⟩⟩)⟩
  .rcases ht with z | z
   .exact .inl (.inl z)
   .exact .inl (.inr z)
  .have s6:aA Hb (upd H5 r (.lst (ys ++ [v]))):=(s.trans t5).upd hr _
   have R6:=((R.hide s6 hr bC True.intro).TR (v:=.ref p) hi)
   exact ⟨H0,r :: U,A0,_,res,R6,F.more s6 hr,ed,P⟩
 .cases ed
end
def zi (j:Nat) (gb:DS->List D->List D->Option Res):DS->List D->List D->Option Res:=λδ l ds=>gb (δ.set j (some (.list l))) l ds
section
variable {X:Cx} {O:List Nat} {fr:Bool} {i j:Nat} {rest:List Stmt} {st:Stmt} {gb:DS->List D->List D->Option Res}
theorem EF (h3:PS X st (pW (OU (λxs H Q=>∃ p ys,xs=[.ref p] /\ (iW X.K H p ys \/ iX X.K H p ys) /\ ∀ l,H l=none->Q (.ref l) (upd H l (.lst ys))) (pY (JR (Rn X.K) (pT i) (tC (.int 0))) BF)) (iY j))) (hb:jk X rest (Of X.K O fr i gb)) (hj:j∉O:=by decide) (g7:i≠j:=by decide):
  jk X (st :: rest) (Of X.K O fr i (zi j gb)):=(ka h3 hb).mono<|by
 rintro E σ H ⟨H0,U,A0,δ,Hb,CQ,p,r,xs,ys,l,ds,res,R,F,fg,hi,s,hr,ht,hl,hx,hy,rfl,ed,P⟩
 have TX:(CQ.set i (some (.ref p)))[i]?=some (some (.ref p)):=ZJ (by rw [R.len]; exact fg)
 have hT:iX X.K H p (.ref r :: xs):=by
  rcases ht with z | z
  .exact .inl (.inl z)
  .exact .inl (.inr z)
 refine ⟨.ref p,TX,.inr (.inl ⟨p,.ref r :: xs,0,.ref r,rfl,rfl,hT,d8 (j:=0) rfl,⟨r,ys,rfl,.inl (iW.of hl),λq hq=>?_⟩⟩)⟩
 have s1:aA H (upd H q (.lst ys)):=cx hq _
 have Xk:q≠r:=λz=>by rw [z,hl] at hq; cases hq
 have s2:aA Hb (wo (upd H q (.lst ys)) [r]):=λa o e=>by
  rw [bp λz=>by rw [ZW.mp z,hr] at e; cases e]
  exact s1 _ _ (s _ _ e)
 have Xl:q∉U ++ A0:=R.al.free (s.free hq)
 have R2:=(R.same s2).set (i:=j) (d:=.list l) (v:=.ref q) hj (.lst (.of (by rw [bp Xl,bp λz=>Xk (ZW.mp z)]; exact bC)) (hy.same λa o e=>by
  obtain ⟨z1,z2⟩:=fU e
  rw [bp λz=>z1 (Y8 _ z),bp λz=>z1 (by rw [ZW.mp z]; exact Zb)]
  exact s1 _ _ z2))
 exact ⟨H0,U,A0,δ.set j (some (.list l)),wo (upd H q (.lst ys)) [r],CQ.set j (some (.ref q)),p,r,xs,ys,l,ds,res,R2,F.grow s2,by rw [aad]; exact fg,hi,cB,jU Zb,s1.kj ht,s1 _ _ hl,hx.same (bR s1),hy.same (bR s1),List.set_comm _ _ g7,ed,P⟩
end
end L2
namespace Q1
structure l9 (n d t b:Int):Prop where
 pos:1<=d
 EG:Int.gcd n d=1
 eq:n * b=t * d
theorem pB {a b:Int}:Int.gcd a b=1↔Nat.Coprime a.natAbs b.natAbs:=Iff.rfl
theorem fH {a b:Int} (h:Int.gcd a b=1):Int.gcd b a=1:=by rw [Int.gcd_comm]; exact h
theorem nA {a b c:Int} (h1:Int.gcd a c=1) (h2:Int.gcd b c=1):Int.gcd (a * b) c=1:=by
 rw [pB] at *
 rw [Int.natAbs_mul]
 exact Nat.Coprime.mul_left h1 h2
theorem jd {a b c:Int} (h1:Int.gcd a b=1) (h2:Int.gcd a c=1):Int.gcd a (b * c)=1:=fH (nA (fH h1) (fH h2))
theorem pE {a b c:Int} (h:Int.gcd b c=1) (d:a ∣ b):Int.gcd a c=1:=by
 rw [pB] at *
 exact Nat.Coprime.coprime_dvd_left (aca.mpr d) h
theorem nB {a b c:Int} (h:Int.gcd c b=1) (d:a ∣ b):Int.gcd c a=1:=fH (pE (fH h) d)
theorem jv {a b c:Int} (h:Int.gcd a b=1) (d:a ∣ b * c):a ∣ c:=by
 rw [pB] at h
 rw [<- Int.natAbs_dvd_natAbs] at *
 rw [Int.natAbs_mul] at d
 exact Nat.Coprime.dvd_of_dvd_mul_left h d
theorem l9.pF {n d t b:Int} (h:l9 n d t b):n ∣ t:=jv h.EG ⟨b,by rw [h.eq]; exact aa9 _ _⟩
theorem l9.pG {n d t b:Int} (h:l9 n d t b):d ∣ b:=jv (fH h.EG) ⟨t,by rw [h.eq]; exact aa9 _ _⟩
theorem bP {a b:Int} (h:a ∣ b) (hb:b≠0):a.natAbs<=b.natAbs:=ach (by omega) (aca.mpr h)
theorem l9.uz {n d t b:Int} (h:l9 n d t b) (hb:b≠0):n.natAbs<=t.natAbs:=by
 by_cases ht:t=0
 .have e:=h.eq
  rw [ht,adg] at e
  rcases Int.mul_eq_zero.mp e with z | z
  .rw [z,ht]; exact Ze _
  .exact absurd z hb
 .exact bP h.pF ht
theorem l9.bot_le {n d t b:Int} (h:l9 n d t b) (hb:b≠0):d.natAbs<=b.natAbs:=bP h.pG hb
theorem l9.uniq {n d n' d' t b:Int} (h:l9 n d t b) (h':l9 n' d' t b) (hb:b≠0):n=n' /\ d=d':=by
 have e:n * d'=n' * d:=by
  have e1:=h.eq
  have e2:=h'.eq
  have:b * (n * d')=b * (n' * d):=by grind
  exact abH hb this
 have hd:d=d':=by
  have a1:d ∣ d':=jv (fH h.EG) ⟨n',by rw [e]; exact aa9 _ _⟩
  have a2:d' ∣ d:=jv (fH h'.EG) ⟨n,by rw [<- e]; exact aa9 _ _⟩
  have p:=h.pos
  have p':=h'.pos
  have b1:=bP a1 (by omega)
  have b2:=bP a2 (by omega)
  omega
 subst hd
 have p:=h.pos
 exact ⟨aaK (by omega) e,rfl⟩
theorem tu {t b:Int} (hb:b≠0):∃ t' b':Int,0 < (Int.gcd t b:Int) /\ t=t' * (Int.gcd t b:Int) /\ b=b' * (Int.gcd t b:Int) /\ Int.gcd t' b'=1:=by
 have hp:0 < Int.gcd t b:=abp _ hb
 refine ⟨t / (Int.gcd t b:Int),b / (Int.gcd t b:Int),by omega,(Int.ediv_mul_cancel (Int.gcd_dvd_left _ _)).symm,(Int.ediv_mul_cancel (Int.gcd_dvd_right _ _)).symm,Int.gcd_ediv_gcd_ediv_gcd hp⟩
def dv (t b:Int):Int:=if b < 0 then -(Int.gcd t b:Int) else (Int.gcd t b:Int)
theorem Qi {t b:Int} (hb:b≠0):dv t b≠0:=by
 have hp:0 < Int.gcd t b:=abp _ hb
 unfold dv; split <;> omega
theorem Ii {t b:Int} (hb:b≠0):l9 (t.fdiv (dv t b)) (b.fdiv (dv t b)) t b:=by
 obtain ⟨t',b',hp,et,eb,c⟩:=tu (t:=t) hb
 unfold dv
 generalize (Int.gcd t b:Int)=g at *
 subst et eb
 by_cases hs:b' * g < 0
 .rw [Zk hs]
  have e1:(t' * g).fdiv (-g)= -t':=by
   have:t' * g=(-t') * (-g):=by grind
   rw [this]; exact abK _ (by omega)
  have e2:(b' * g).fdiv (-g)= -b':=by
   have:b' * g=(-b') * (-g):=by grind
   rw [this]; exact abK _ (by omega)
  rw [e1,e2]
  have qH:b' < 0:=by
   rcases ab8 b' 0 with z | z | z
   .exact z
   .subst z; simp at hb
   .have:=aai z hp; omega
  refine ⟨by omega,?_,by grind⟩
  rw [Int.neg_gcd,Int.gcd_neg]; exact c
 .rw [Zj hs]
  rw [abK _ (by omega),abK _ (by omega)]
  have qH:0 < b':=by
   rcases ab8 b' 0 with z | z | z
   .exact absurd (abI z hp) hs
   .subst z; simp at hb
   .exact z
  exact ⟨by omega,c,by grind⟩
theorem EH {n1 d1 n2 d2 l0 l1 r0 r1:Int} (h1:Int.gcd n1 d1=1) (h2:Int.gcd n2 d2=1) (hl:l9 l0 l1 n1 d2) (hr:l9 r0 r1 n2 d1):l9 (l0 * r0) (l1 * r1) (n1 * n2) (d1 * d2):=by
 have p1:=hl.pos
 have p2:=hr.pos
 have e1:=hl.eq
 have e2:=hr.eq
 refine ⟨?_,nA (jd hl.EG ?_) (jd ?_ hr.EG),?_⟩
 .have:=aai (show 0 < l1 by omega) (show 0 < r1 by omega); omega
 .exact pE (nB h1 hr.pG) hl.pF
 .exact pE (nB h2 hl.pG) hr.pF
 .grind
theorem oQ {a b c p:Int} (h:Int.gcd (a * b) p=1):Int.gcd (a * b + c * p) p=1:=by
 rw [abB]
 exact h
theorem Ij {n1 d1 n2 d2 g p1 p2 r0 r1:Int} (h1:Int.gcd n1 d1=1) (h2:Int.gcd n2 d2=1) (D3:1<=d1) (hd2:1<=d2) (hg:0 < g) (e1:d1=p1 * g) (e2:d2=p2 * g) (hc:Int.gcd p1 p2=1) (hr:l9 r0 r1 (n1 * p2 + n2 * p1) g):
  l9 r0 (p1 * p2 * r1) (n1 * d2 + n2 * d1) (d1 * d2):=by
 have p:=hr.pos
 have q1:0 < p1:=by
  rcases ab8 p1 0 with z | z | z
  .have:=abI z hg; omega
  .subst z; simp at e1; omega
  .exact z
 have q2:0 < p2:=by
  rcases ab8 p2 0 with z | z | z
  .have:=abI z hg; omega
  .subst z; simp at e2; omega
  .exact z
 have c1:Int.gcd n1 p1=1:=nB h1 ⟨g,e1⟩
 have c2:Int.gcd n2 p2=1:=nB h2 ⟨g,e2⟩
 have t1:Int.gcd (n1 * p2 + n2 * p1) p1=1:=oQ (nA c1 (fH hc))
 have t2:Int.gcd (n1 * p2 + n2 * p1) p2=1:=by rw [Int.add_comm]; exact oQ (nA c2 hc)
 refine ⟨?_,?_,?_⟩
 .have a:=aai q1 q2
  have b:=aai a (show 0 < r1 by omega)
  omega
 .exact jd (pE (jd t1 t2) hr.pF) hr.EG
 .have e:=hr.eq
  subst e1 e2
  grind
theorem EI {a b:Int}:Int.gcd b (a % b)=Int.gcd a b:=by
 have e:a=a % b + (a / b) * b:=by have:=Int.emod_add_ediv_mul a b; omega
 have h:Int.gcd (a % b + (a / b) * b) b=Int.gcd (a % b) b:=abB ..
 rw [<- e] at h
 rw [h,Int.gcd_comm]
end Q1
namespace Q1
def be (t b:Int):Int×Int:=(t.fdiv (dv t b),b.fdiv (dv t b))
theorem bG {t b:Int} (hb:b≠0):l9 (be t b).1 (be t b).2 t b:=Ii hb
theorem l9.qm {n d t b:Int} (h:l9 n d t b) (hb:b≠0):(n,d)=be t b:=by
 obtain ⟨a,c⟩:=h.uniq (bG hb) hb
 exact Prod.ext a c
abbrev Qz:Int×Int:=(0,1)
theorem EJ {t b:Int} (hb:b≠0):be t b=Qz↔t=0:=by
 constructor
 .intro h
  have e:=(bG (t:=t) hb).eq
  rw [h] at e
  simpa using e.symm
 .rintro rfl
  exact ((⟨by decide,by decide,by simp⟩:l9 0 1 0 b).qm hb).symm
def uA (a b:Int×Int):Int×Int:=be (a.1 * b.2 + b.1 * a.2) (a.2 * b.2)
def r8 (a b:Int×Int):Int×Int:=be (a.1 * b.1) (a.2 * b.2)
def RG (l:List (Int×Int)) (k:Nat):Int×Int:=l.getD k Qz
def Og (q:Int×Int):Prop:=1<=q.2 /\ Int.gcd q.1 q.2=1
theorem EK {t b:Int} (hb:b≠0):Og (be t b):=⟨(bG hb).pos,(bG hb).EG⟩
theorem xn {q:Int×Int} (h:Og q):be q.1 q.2=q:=((⟨h.1,h.2,rfl⟩:l9 q.1 q.2 q.1 q.2).qm (by have:=h.1; omega)).symm
theorem nD {t b t' b':Int} (hb:b≠0) (qH:b'≠0) (h:t * b'=t' * b):be t b=be t' b':=by
 have q:=bG (t:=t) hb
 refine (l9.qm (n:=(be t b).1) (d:=(be t b).2) ⟨q.pos,q.EG,?_⟩ qH)
 have e:=q.eq
 refine abH hb ?_
 grind
end Q1
namespace Q1
end Q1
namespace Q1
def tab (n:Nat) (T:Nat->Int):List Int:=(List.range n).map T
def gy:List (Int×Int)->Nat->Nat
 | [],B=>B
 | q :: l,B=>gy l (Nat.lcm B q.2.natAbs)
theorem xo:∀ (l:List (Int×Int)) (B:Nat),B ∣ gy l B /\ ∀ q∈l,q.2 ∣ (gy l B:Int)
 | [],B=>⟨Nat.dvd_refl B,λq hq=>by simp at hq⟩
 | a :: l,B=>by
   obtain ⟨h1,h2⟩:=xo l (Nat.lcm B a.2.natAbs)
   refine ⟨Nat.dvd_trans (Nat.dvd_lcm_left _ _) h1,λq hq=>?_⟩
   rcases Y6.mp hq with z | z
   .subst z
    have:q.2.natAbs ∣ gy l (Nat.lcm B q.2.natAbs):=Nat.dvd_trans (Nat.dvd_lcm_right _ _) h1
    rw [<- Int.natAbs_dvd]
    exact Int.natCast_dvd_natCast.mpr this
   .exact h2 q z
theorem qP:∀ (l:List (Int×Int)) (B:Nat),0 < B->(∀ q∈l,q.2≠0)->0 < gy l B
 | [],_,h,_=>h
 | a :: l,B,h,hq=>qP l _ (Nat.lcm_pos h (by have:=hq a Zb; omega)) λq z=>hq q (Y8 _ z)
theorem EL (l m:List (Int×Int)) (B:Nat):gy (l ++ m) B=gy m (gy l B):=by
 induction l generalizing B with
 | nil=>rfl
 | cons a l ih=>rw [abi,gy,ih,gy]
end Q1
namespace Q1
def jZ (b g:Nat) (s:Int×Int):Int×Int:=(s.1 ^ b * (s.2 - s.1) ^ g,s.2 ^ b * s.2 ^ g)
structure Ct (s:Int×Int):Prop where
 low:Og s
 pos:0 < s.1
 RH:s.1 < s.2
theorem Ct.rest {s:Int×Int} (h:Ct s):Int.gcd (s.2 - s.1) s.2=1:=by
 have:=h.low.2
 rw [show s.2 - s.1= -s.1 + 1 * s.2 by omega,abB,Int.neg_gcd]
 exact this
theorem nF {x y:Int} (h:Int.gcd x y=1) (m n:Nat):Int.gcd (x ^ m) (y ^ n)=1:=by
 rw [pB] at *
 rw [Int.natAbs_pow,Int.natAbs_pow]
 exact Nat.Coprime.pow m n h
theorem pH {s:Int×Int} (h:Ct s) (b g:Nat):Og (jZ b g s):=by
 have h1:0 < s.2:=by have:=h.low.1; omega
 refine ⟨?_,nA (jd (nF h.low.2 b b) (nF h.low.2 b g)) (jd (nF h.rest g b) (nF h.rest g g))⟩
 have a:=(aax h1:0 < s.2 ^ b)
 have c:=(aax h1:0 < s.2 ^ g)
 have:=aai a c
 show 1<=s.2 ^ b * s.2 ^ g
 omega
theorem AY {s:Int×Int} (h:Ct s) (b g:Nat):0 < (jZ b g s).1:=aai (aax h.pos) (aax (by have:=h.RH; omega))
theorem qQ {t c:Int} (h1:0 < t) (h2:t < c):Ct (be t c):=by
 have ok:=bG (t:=t) (show c≠0 by omega)
 have p:=ok.pos
 have e:=ok.eq
 refine ⟨EK (by omega),?_,?_⟩
 .have:0 < t * (be t c).2:=aai h1 (by omega)
  rw [<- e] at this
  exact Int.pos_of_mul_pos_left this (by omega)
 .have:t * (be t c).2 < c * (be t c).2:=aaF h2 (by omega)
  rw [<- e,aa9 c] at this
  exact aao this (by omega)
theorem EM {s:Int×Int} (h:Ct s):uA (1,1) (-s.1,s.2)=(s.2 - s.1,s.2):=by
 unfold uA
 have h1:0 < s.2:=by have:=h.low.1; omega
 refine ((⟨by show 1<=s.2; omega,h.rest,?_⟩:l9 (s.2 - s.1) s.2 (1 * s.2 + -s.1 * 1) (1 * s.2)).qm (by omega)).symm
 grind
theorem zj {t c:Int} (h1:0 < t) (h2:t < c) (b g:Nat):(jZ b g (be t c)).1 * (c ^ b * c ^ g)=(t ^ b * (c - t) ^ g) * (jZ b g (be t c)).2:=by
 have e:=(bG (t:=t) (show c≠0 by omega)).eq
 unfold jZ
 generalize be t c=s at *
 have e1:s.1 ^ b * c ^ b=t ^ b * s.2 ^ b:=by rw [<- Int.mul_pow,e,Int.mul_pow]
 have e2:(s.2 - s.1) ^ g * c ^ g=(c - t) ^ g * s.2 ^ g:=by
  rw [<- Int.mul_pow,<- Int.mul_pow]
  congr 1
  grind
 show s.1 ^ b * (s.2 - s.1) ^ g * (c ^ b * c ^ g)=t ^ b * (c - t) ^ g * (s.2 ^ b * s.2 ^ g)
 generalize s.1 ^ b=x1 at *
 generalize (s.2 - s.1) ^ g=x2 at *
 generalize c ^ b=x3 at *
 generalize c ^ g=x4 at *
 generalize t ^ b=x5 at *
 generalize (c - t) ^ g=x6 at *
 generalize s.2 ^ b=x7 at *
 generalize s.2 ^ g=x8 at *
 have:x1 * x2 * (x3 * x4)=(x1 * x3) * (x2 * x4):=by grind
 rw [this,e1,e2]
 grind
def rat (b g:Nat) (lo hi:Int×Int):Int×Int:=r8 (jZ b g hi) ((jZ b g lo).2,(jZ b g lo).1)
theorem EN {l h c:Int} (h1:0 < l) (h2:l < c) (h3:0 < h) (h4:h < c) (b g:Nat):l9 (rat b g (be l c) (be h c)).1 (rat b g (be l c) (be h c)).2 (h ^ b * (c - h) ^ g) (l ^ b * (c - l) ^ g):=by
 have s1:=qQ h1 h2
 have s2:=qQ h3 h4
 have p1:=AY s1 b g
 have p2:=(pH s2 b g).1
 have p3:=(pH s1 b g).1
 have e1:=zj h1 h2 b g
 have e2:=zj h3 h4 b g
 have ok:=bG (t:=(jZ b g (be h c)).1 * (jZ b g (be l c)).2) (b:=(jZ b g (be h c)).2 * (jZ b g (be l c)).1) (Z1 (by omega) (by omega))
 unfold rat r8
 refine ⟨ok.pos,ok.EG,?_⟩
 have e:=ok.eq
 have hc:0 < c ^ b * c ^ g:=aai (aax (by omega)) (aax (by omega))
 generalize be ((jZ b g (be h c)).1 * (jZ b g (be l c)).2) ((jZ b g (be h c)).2 * (jZ b g (be l c)).1)=f at *
 generalize (jZ b g (be h c)).1=N' at *
 generalize (jZ b g (be h c)).2=D' at *
 generalize (jZ b g (be l c)).1=N at *
 generalize (jZ b g (be l c)).2=D at *
 generalize c ^ b * c ^ g=C at *
 generalize h ^ b * (c - h) ^ g=T at *
 generalize l ^ b * (c - l) ^ g=B at *
 have ik:C * (D' * D)≠0:=Z1 (by omega) (Z1 (by omega) (by omega))
 refine abH ik ?_
 have k1:C * (D' * D) * (f.1 * B)=C * (f.1 * (D' * N) * C):=by
  have:C * (D' * D) * (f.1 * B)=C * (D' * f.1 * (B * D)):=by grind
  rw [this,<- e1]; grind
 rw [k1,e]
 have:C * (N' * D * f.2 * C)=C * ((N' * C) * (D * f.2)):=by grind
 rw [this,e2]; grind
end Q1
namespace Q1
theorem Ik {a b c d:Int} (hb:b≠0) (hd:d≠0):r8 (be a b) (be c d)=be (a * c) (b * d):=by
 have e1:=(bG (t:=a) hb).eq
 have e2:=(bG (t:=c) hd).eq
 have p1:=(bG (t:=a) hb).pos
 have p2:=(bG (t:=c) hd).pos
 unfold r8
 generalize be a b=x at *
 generalize be c d=y at *
 refine nD (Z1 (by omega) (by omega)) (Z1 hb hd) ?_
 have:x.1 * y.1 * (b * d)=(x.1 * b) * (y.1 * d):=by grind
 rw [this,e1,e2]; grind
theorem Il {a b c d:Int} (hb:b≠0) (hd:d≠0):uA (be a b) (be c d)=be (a * d + c * b) (b * d):=by
 have e1:=(bG (t:=a) hb).eq
 have e2:=(bG (t:=c) hd).eq
 have p1:=(bG (t:=a) hb).pos
 have p2:=(bG (t:=c) hd).pos
 unfold uA
 generalize be a b=x at *
 generalize be c d=y at *
 refine nD (Z1 (by omega) (by omega)) (Z1 hb hd) ?_
 have:(x.1 * y.2 + y.1 * x.2) * (b * d)=(x.1 * b) * (y.2 * d) + (y.1 * d) * (x.2 * b):=by grind
 rw [this,e1,e2]; grind
end Q1
namespace au
open PySem L2 Q1
abbrev bt (x:Int):Nat:=Builtin.Int.intBits x
theorem c8 {m:Nat} {x:Int} (h:x.natAbs < 2 ^ m):bt x<=m:=intBits_le_iff.mpr h
theorem Qj {m:Nat} {x:Int} (h:bt x<=m):x.natAbs < 2 ^ m:=intBits_le_iff.mp h
theorem gz {m n:Nat} {x y:Int} (h1:bt x<=m) (h2:bt y<=n):bt (x * y)<=m + n:=intBits_mul_le h1 h2
theorem Nc {m:Nat} {x:Int} (h:bt x<=m):bt (-x)<=m:=intBits_neg_le h
theorem de {m:Nat} {x y:Int} (h:x.natAbs<=y.natAbs) (hy:bt y<=m):bt x<=m:=intBits_le_of_natAbs h hy
theorem bo {m n:Nat} {x:Int} (h:bt x<=m) (h2:m<=n):bt x<=n:=ZQ h h2
theorem zk {m:Nat} {x:Int} (h:bt x<=m) (k:Nat):bt (x ^ k)<=m * k + 1:=by
 have:=intBits_pow_le h k
 omega
theorem b0 {m n:Nat} {x y:Int} (h1:bt x<=m) (h2:bt y<=n) (h:m + n<=134217728:=by omega):IntMulOk x y:=IntMulOk.of_le h1 h2 h
theorem uB (i:Int):(if i < 0 then -i else i)=(i.natAbs:Nat):=by split <;> omega
theorem cE {a b:Int} (h:IntMulOk a b):bh (.int a) (.int b)=some (.int (a * b)):=qf h
theorem eO {a b:Int} (h:0 < b):c5 (.int a) (.int b)=some (.int (a % b)):=by
 rw [<- Int.fmod_eq_emod_of_nonneg _ (adh h)]
 exact qf (C:=λ_ j=>j≠0) (by omega)
theorem oR {a b:Int} (h:0 < b) (hb:bt b<=9000):dQ (.int a) (.int b)=some (.int (a / b)):=by
 rw [<- Int.fdiv_eq_ediv_of_nonneg _ (adh h)]
 exact qf (C:=Al) ⟨by omega,sO hb⟩
theorem uC {a b:Int} (h:b≠0) (hb:bt b<=9000):dQ (.int a) (.int b)=some (.int (a.fdiv b)):=qf (C:=Al) ⟨h,sO hb⟩
theorem Kr {a:Int} {k:Nat} (h:a.natAbs < 2 ^ 64) (hk:k<=1000000):wB (.int a) (.int k)=some (.int (a ^ k)):=by
 have:=qf (C:=LF) (g:=λi j=>.int (i ^ j.toNat)) (a:=a) (b:=k) ⟨by omega,by omega,h⟩
 simpa using this
theorem xp {α:Type} {x:α} {xs:List α}:o4 (x :: xs) 0=some x:=d8 (j:=0) rfl
theorem zl {α:Type} {x y:α} {xs:List α}:o4 (x :: y :: xs) 1=some y:=d8 (j:=1) rfl
theorem Im {α:Type} {xs:List α} {x:α} (h:xs[xs.length - 1]?=some x):o4 xs (-1)=some x:=DB h
def dj {β:Type} (x:Option β) (P:β->Prop):Prop:=∃ d,x=some d /\ P d
theorem aY {β:Type} {x:Option β} {d:β} (h:dj x λy=>y=d):x=some d:=by
 obtain ⟨y,e,rfl⟩:=h; exact e
theorem dj.mk {β:Type} {x:Option β} {P:β->Prop} {d:β} (e:x=some d) (h:P d):dj x P:=⟨d,e,h⟩
theorem jw {a b:DS->Option Res} {δ δ':DS} (h:a δ=some (.nx δ')):aw a b δ=b δ':=by
 unfold aw; rw [h]; rfl
theorem Io {a b:DS->Option Res} {δ:DS} {d:D} (h:a δ=some (.rt d)):aw a b δ=some (.rt d):=by
 unfold aw; rw [h]; rfl
theorem qR {c:DS->Option Bool} {b:DS->Option Res} (W:Nat->DS->Prop) (Z:DS->Prop) (m:Nat) {δ:DS} (h:W m δ)
  (hs:∀ m δ,W m δ->(c δ=some false /\ Z δ) \/ (c δ=some true /\ ∃ δ' m',b δ=some (.nx δ') /\ m' < m /\ W m' δ')):∃ δ',eG c b δ=some (.nx δ') /\ Z δ':=by
 obtain ⟨q,h1,δ',rfl,h2⟩:=BV W (λ_ q=>∃ δ',q=.nx δ' /\ Z δ') m δ h (λm δ hW=>by
  rcases hs m δ hW with ⟨a,z⟩ | ⟨a,δ',m',e,l,w⟩
  .exact .inl ⟨a,δ,rfl,z⟩
  .exact .inr ⟨a,.inl ⟨δ',m',.inl e,l,w,λq hq=>hq⟩⟩)
 exact ⟨δ',h1,h2⟩
theorem xq {t:D->DS->Option DS} {b:DS->Option Res} (W:Nat->DS->Prop):∀ (ds:List D) (k:Nat) {δ:DS},W k δ->(∀ i d δ,ds[i]?=some d->W (k + i) δ->∃ fD δ',t d δ=some fD /\ b fD=some (.nx δ') /\ W (k + i + 1) δ')->
  ∃ δ',j5 t b ds δ=some (.nx δ') /\ W (k + ds.length) δ'
 | [],k,δ,h,_=>⟨δ,rfl,h⟩
 | d :: ds,k,δ,h,hs=>by
   obtain ⟨fD,δ',e1,e2,h'⟩:=hs 0 d δ rfl h
   obtain ⟨RI,e3,h2⟩:=xq W ds (k + 1) h' (λi d δ e w=>by
    have:=hs (i + 1) d δ (by simpa using e) (by rw [show k + (i + 1)=k + 1 + i by omega]; exact w)
    rw [show k + (i + 1) + 1=k + 1 + i + 1 by omega] at this
    exact this)
   refine ⟨RI,?_,by rw [Zp,show k + (ds.length + 1)=k + 1 + ds.length by omega]; exact h2⟩
   rw [j5,e1,Za,e2,Za]
   exact e3
theorem uD {α:Type} {t:D->DS->Option DS} {b:DS->Option Res} (enc:α->D) (W:Nat->DS->Prop) (xs:List α) {δ:DS} (h:W 0 δ)
  (hs:∀ i x δ,xs[i]?=some x->W i δ->∃ fD δ',t (enc x) δ=some fD /\ b fD=some (.nx δ') /\ W (i + 1) δ'):∃ δ',j5 t b (xs.map enc) δ=some (.nx δ') /\ W xs.length δ':=by
 obtain ⟨δ',e,w⟩:=xq (t:=t) (b:=b) W (xs.map enc) 0 h (λi d δ e w=>by
  rw [Zl] at e
  cases ex:xs[i]? with
  | none=>rw [ex] at e; cases e
  | some x=>
    rw [ex] at e; cases e
    rw [aas] at w ⊢
    exact hs i x δ ex w)
 rw [aas,Y7] at w
 exact ⟨δ',e,w⟩
theorem EO {t:D->DS->Option DS} {b:DS->Option Res} {lo:Int} {n:Nat} (W:Nat->DS->Prop) {δ:DS} (h:W 0 δ)
  (hs:∀ i δ,i < n->W i δ->∃ fD δ',t (.int (lo + i)) δ=some fD /\ b fD=some (.nx δ') /\ W (i + 1) δ'):∃ δ',j5 t b (fG lo n) δ=some (.nx δ') /\ W n δ':=by
 obtain ⟨δ',e,w⟩:=uD (t:=t) (b:=b) (λk:Nat=>PyData.int (lo + k)) W (List.range n) h (λi x δ e w=>by
  have hi:=(Zd.mp e).1
  rw [Z9] at hi
  rw [aaT hi] at e
  cases e
  exact hs i δ hi w)
 rw [Z9] at w
 exact ⟨δ',e,w⟩
theorem lu {c:DS->Option Bool} {b rest:DS->Option Res} {β:Type} {f:Res->Option β} {R:β->Prop} {δ:DS} (W:Nat->DS->Prop) (Z:DS->Prop) (m:Nat) (h:W m δ)
  (hs:∀ m δ,W m δ->(c δ=some false /\ Z δ) \/ (c δ=some true /\ ∃ δ' m',b δ=some (.nx δ') /\ m' < m /\ W m' δ')) (k:∀ δ',Z δ'->dj ((rest δ').bind f) R):dj ((aw (eG c b) rest δ).bind f) R:=by
 obtain ⟨δ',h1,h2⟩:=qR W Z m h hs
 rw [jw h1]
 exact k δ' h2
theorem iq {α:Type} {t:D->DS->Option DS} {gi:DS->Option (List D)} {b rest:DS->Option Res} {β:Type} {f:Res->Option β} {R:β->Prop} {δ:DS} (enc:α->D) (xs:List α) (W:Nat->DS->Prop) (hi:gi δ=some (xs.map enc)) (h:W 0 δ)
  (hs:∀ i x δ,xs[i]?=some x->W i δ->∃ fD δ',t (enc x) δ=some fD /\ b fD=some (.nx δ') /\ W (i + 1) δ') (k:∀ δ',W xs.length δ'->dj ((rest δ').bind f) R):dj ((aw (eI gi t b) rest δ).bind f) R:=by
 obtain ⟨δ',h1,h2⟩:=uD (t:=t) (b:=b) enc W xs h hs
 rw [jw (δ':=δ') (by unfold eI; rw [hi]; exact h1)]
 exact k δ' h2
theorem je {t:D->DS->Option DS} {gi:DS->Option (List D)} {b rest:DS->Option Res} {β:Type} {f:Res->Option β} {R:β->Prop} {δ:DS} (lo:Int) (n:Nat) (W:Nat->DS->Prop) (hi:gi δ=some (fG lo n)) (h:W 0 δ)
  (hs:∀ i δ,i < n->W i δ->∃ fD δ',t (.int (lo + i)) δ=some fD /\ b fD=some (.nx δ') /\ W (i + 1) δ') (k:∀ δ',W n δ'->dj ((rest δ').bind f) R):dj ((aw (eI gi t b) rest δ).bind f) R:=by
 obtain ⟨δ',h1,h2⟩:=EO (t:=t) (b:=b) W h hs
 rw [jw (δ':=δ') (by unfold eI; rw [hi]; exact h1)]
 exact k δ' h2
theorem aB {a rest:DS->Option Res} {β:Type} {f:Res->Option β} {R:β->Prop} {δ:DS} (δ':DS) (h:a δ=some (.nx δ')) (k:dj ((rest δ').bind f) R):dj ((aw a rest δ).bind f) R:=by
 rw [jw h]; exact k
theorem qS {c:DS->Option Bool} {a rest:DS->Option Res} {β:Type} {f:Res->Option β} {R:β->Prop} {δ:DS} (h:c δ=some false) (k:dj ((rest δ).bind f) R):dj ((aw (iV c a cn) rest δ).bind f) R:=by
 rw [jw (δ':=δ) (by unfold iV; rw [h]; rfl)]; exact k
theorem jx {c:DS->Option Bool} {a b rest:DS->Option Res} {β:Type} {f:Res->Option β} {R:β->Prop} {δ:DS} (x:Bool) (h:c δ=some x) (k1:x=true->dj ((aw a rest δ).bind f) R) (k2:x=false->dj ((aw b rest δ).bind f) R):dj ((aw (iV c a b) rest δ).bind f) R:=by
 have e:iV c a b δ=if x=true then a δ else b δ:=by unfold iV; rw [h]; rfl
 cases x with
 | true=>rw [if_pos rfl] at e; have:=k1 rfl; unfold aw at this ⊢; rw [e]; exact this
 | false=>rw [if_neg Bool.false_ne_true] at e; have:=k2 rfl; unfold aw at this ⊢; rw [e]; exact this
theorem ly {g:DS->Option D} {rest:DS->Option Res} {β:Type} {f:Res->Option β} {R:β->Prop} {δ:DS} (d:D) (h:g δ=some d) (k:dj (f (.rt d)) R):dj ((aw (bx g) rest δ).bind f) R:=by
 rw [Io (d:=d) (by unfold bx; rw [h]; rfl)]; exact k
theorem ret {g:DS->Option D} {β:Type} {f:Res->Option β} {R:β->Prop} {δ:DS} (d:D) (h:g δ=some d) (k:dj (f (.rt d)) R):dj ((bx g δ).bind f) R:=by
 unfold bx; rw [h]; exact k
theorem b7 {a b:DS->Option Res} {δ:DS} {r:Option Res} (δ':DS) (h:a δ=some (.nx δ')) (k:b δ'=r):aw a b δ=r:=(jw h).trans k
theorem xr {c:DS->Option Bool} {a:DS->Option Res} {δ:DS} (h:c δ=some false):iV c a cn δ=some (.nx δ):=by unfold iV; rw [h]; rfl
theorem kx {rest:DS->Option Res} {δ:DS}:aw cn rest δ=rest δ:=rfl
theorem seq_assoc {a b c:DS->Option Res} {δ:DS}:aw (aw a b) c δ=aw a (aw b c) δ:=by
 unfold aw
 cases a δ with
 | none=>rfl
 | some r=>cases r <;> rfl
theorem AZ {α β:Type} {f:D->Option D} (enc:α->D) (ma:β->D) (h:α->β):∀ (l:List α),(∀ a∈l,f (enc a)=some (ma (h a)))->DR f (l.map enc)=some ((l.map h).map ma)
 | [],_=>rfl
 | a :: l,hf=>by
   rw [Zn,DR,hf a Zb,Za,AZ enc ma h l λb hb=>hf b (Y8 _ hb)]
   rfl
theorem ir {α β:Type} (enc:α->D) (ma:β->D) (h:α->β) {gi:DS->Option (List D)} {ix:List Nat} {ge:DS->Option D} {δ:DS} (l:List α) (hi:gi δ=some (l.map enc)) (hn:l.length<=100000)
  (hf:∀ a∈l,ge (some (enc a) :: gg ix δ)=some (ma (h a))):eM gi ix ge δ=some ((l.map h).map ma):=by
 unfold eM
 rw [hi,Za,Zk (by rw [Y7]; exact hn)]
 exact AZ enc ma h l hf
theorem A1 (i:Int):yO "int" [.int i]=some (.bool true):=rfl
theorem A2 (i:Int):yO "bool" [.int i]=some (.bool false):=rfl
theorem A3 (l:List D):yO "tuple" [.tuple l]=some (.bool true):=rfl
theorem Ip (l:List D):yO "list" [.list l]=some (.bool true):=rfl
theorem Iq (i:Bool):yO "bool" [.bool i]=some (.bool true):=rfl
theorem Ir (i:Str):yO "str" [.str i]=some (.bool true):=rfl
theorem qT (a b:Int):rS (.int a) (.int b)=some (.bool (decide (a=b))):=rfl
theorem oi (a b:Int):BQ (.int a) (.int b)=some (.bool (!decide (a=b))):=rfl
theorem Nd {a b:D} {c:Bool} (h:rS a b=some (.bool c)):BQ a b=some (.bool (!c)):=by unfold BQ; rw [h]; rfl
theorem lz {g:DS->Option (List D)} {δ:DS} {n:Nat} (h:g δ=some [.int (n:Nat)]) (hn:n<=100000):jq g δ=some (fG 0 n):=by
 unfold jq
 rw [h,Za]
 show (if -(2 ^ 62)<=((n:Nat):Int) /\ ((n:Nat):Int) < 2 ^ 62 then some (fG 0 ((n:Nat):Int).toNat) else none)=_
 rw [ZD,Zk ⟨by omega,by omega⟩]
theorem tw {g:DS->Option (List D)} {δ:DS} {a b:Int} (h:g δ=some [.int a,.int b]) (h1: -100000<=a) (h2:a<=100000) (h3: -100000<=b) (h4:b<=100000):lb g δ=some (fG a (b - a).toNat):=by
 unfold lb
 rw [h,Za]
 show (if -(2 ^ 62)<=a /\ a < 2 ^ 62 /\ -(2 ^ 62)<=b /\ b < 2 ^ 62 then some (fG a (b - a).toNat) else none)=_
 rw [Zk ⟨by omega,by omega,by omega,by omega⟩]
theorem call_of {G:List D->Option D} {n:Nat} {g:DS->Option (List D)} {δ:DS} {ds:List D} {r:Option D} (h:g δ=some ds) (hn:ds.length=n) (hG:G ds=r):ay G n g δ=r:=by
 unfold ay; rw [h,Option.bind_some,if_pos hn]; exact hG
theorem eP {G:List D->Option (List D)} {n:Nat} {g:DS->Option (List D)} {δ:DS} {ds:List D} {r:Option (List D)} (h:g δ=some ds) (hn:ds.length=n) (hG:G ds=r):c6 G n g δ=r:=by
 unfold c6; rw [h,Option.bind_some,if_pos hn]; exact hG
theorem bH {g:DS->Option (List D)} {δ:DS} {l:List D} (h:g δ=some l):bJ g δ=some (.list l):=by unfold bJ; rw [h]; rfl
theorem cons_of {a:DS->Option D} {r:DS->Option (List D)} {δ:DS} {x:D} {xs:List D} (h:a δ=some x) (h2:r δ=some xs):aa a r δ=some (x :: xs):=by unfold aa; rw [h,h2]; rfl
theorem aD {i:Nat} {g:DS->Option D} {δ:DS} {d:D} (h:g δ=some d):aG i g δ=some (.nx (δ.set i (some d))):=by unfold aG; rw [h]; rfl
theorem zm (l:List D):dh [.list l]=some (.int l.length):=rfl
theorem ER (l:List D):dh [.tuple l]=some (.int l.length):=rfl
theorem Nf (l:List iS):dh [dP l]=some (.int (l.length:Nat)):=by unfold dP; rw [zm,List.length_map]
theorem Iu (a b:Int):DJ (.int a) (.int b)=some (.int (a + b)):=rfl
theorem Ks (l:List D) (i:Int):aO (.list l) (.int i)=o4 l i:=rfl
theorem A4 (l:List D) (i:Int):aO (.tuple l) (.int i)=o4 l i:=rfl
theorem Qk (l:List iS) (i:Int):aO (dP l) (.int i)=o4 (l.map dF) i:=rfl
theorem fI (q:iS):aO (dF q) (.int 0)=some (.int q.1):=rfl
theorem dW (q:iS):aO (dF q) (.int 1)=some (.int q.2):=rfl
theorem Iv (a b:List D):wC (.list a) (.list b)=if a.length + b.length<=100000 then some (a ++ b) else none:=rfl
theorem Iw (a b:List D):DJ (.list a) (.list b)=if a.length + b.length<=100000 then some (.list (a ++ b)) else none:=rfl
theorem A5 {a b:DS->Option Bool} {δ:DS} {r:Option Bool} (h1:a δ=some false) (h2:b δ=r):Ar a b δ=r:=by unfold Ar; rw [h1]; exact h2
theorem qU {a b:DS->Option Bool} {δ:DS} {r:Option Bool} (h1:a δ=some true) (h2:b δ=r):lV a b δ=r:=by unfold lV; rw [h1]; exact h2
theorem lA {a:DS->Option Bool} {δ:DS} {x:Bool} (h:a δ=some x):j4 a δ=some (!x):=by unfold j4; rw [h]; rfl
theorem dE {g:DS->Option D} {δ:DS} {b:Bool} (h:g δ=some (.bool b)):gB g δ=some b:=by unfold gB; rw [h]; rfl
theorem eX {g:DS->Option D} {δ:DS} {b:Bool} (h:g δ=some (.bool b)):il g δ=some b:=by unfold il; rw [h]; rfl
theorem ah {f:D->D->Option D} {a b:DS->Option D} {δ:DS} {x y:D} {r:Option D} (h1:a δ=some x) (h2:b δ=some y) (h3:f x y=r):g2 f a b δ=r:=by unfold g2; rw [h1,h2]; exact h3
abbrev ES:DS->Option Res:=(aw (aG 2 (g2 cy (g1 wL (ae 0)) (gC (.int (240)))))
  (aw (aG 3 (aQ (aa (g2 Mo (ae 0) (ae 2)) (aa (gC (.int (1))) (aa (gC (.int (0))) af)))))
  (aw (aG 4 (aQ (aa (g2 Mo (ae 1) (ae 2)) (aa (gC (.int (0))) (aa (gC (.int (1))) af)))))
  (aw (eG (gB (g2 BQ (g2 Mo (g2 aO (ae 4) (gC (.int (0)))) (gC (.int (120)))) (gC (.int (0))))) (aw (aG 5 (g2 dQ (g2 aO (ae 3) (gC (.int (0)))) (g2 aO (ae 4) (gC (.int (0))))))
  (aw (aG 6 (aQ (aa (g2 cy (g2 aO (ae 3) (gC (.int (0)))) (g2 bh (ae 5) (g2 aO (ae 4) (gC (.int (0)))))) (aa (g2 cy (g2 aO (ae 3) (gC (.int (1)))) (g2 bh (ae 5) (g2 aO (ae 4) (gC (.int (1)))))) (aa (g2 cy (g2 aO (ae 3) (gC (.int (2)))) (g2 bh (ae 5) (g2 aO (ae 4) (gC (.int (2)))))) af)))))
  (aw (aG 3 (ae 4))
  (aG 4 (ae 6))))))
  (bx (aQ (aa (d7 ng (aa (g2 aU (g2 bh (g2 aO (ae 3) (gC (.int (1)))) (ae 0)) (g2 bh (g2 aO (ae 3) (gC (.int (2)))) (ae 1))) af)) (aa (d7 ng (aa (g2 aU (g2 bh (g2 aO (ae 4) (gC (.int (1)))) (ae 0)) (g2 bh (g2 aO (ae 4) (gC (.int (2)))) (ae 1))) af)) af))))))))
def ET:List D->Option D:=d9 7 ES
abbrev fh:DS->Option Res:=(aw (aG 0 (d7 ng (aa (ae 0) af)))
  (aw (aG 1 (d7 ng (aa (ae 1) af)))
  (aw (eG (gB (g2 BQ (ae 1) (gC (.int (0))))) (aw (aG 2 (g2 c5 (ae 0) (ae 1)))
  (aw (aG 0 (ae 1))
  (aw (aG 1 (ae 2))
  (iV (gB (g2 sQ (g1 wL (ae 1)) (gC (.int (4000))))) (aw (aG 3 (ay ET 2 (aa (ae 0) (aa (ae 1) af))))
  (aw (aG 0 (g2 aO (ae 3) (gC (.int (0)))))
  (aG 1 (g2 aO (ae 3) (gC (.int (1))))))) cn)))))
  (bx (ae 0)))))
def b8:List D->Option D:=d9 4 fh
theorem md (a0 a1:D):b8 [a0,a1]=(fh [some a0,some a1,none,none]).bind di:=rfl
abbrev zo:DS->Option Res:=(aw (iV (gB (g2 rS (ae 1) (gC (.int (0))))) (λ_=>none) cn)
  (aw (aG 2 (ay b8 2 (aa (ae 0) (aa (ae 1) af))))
  (aw (iV (gB (g2 rG (ae 1) (gC (.int (0))))) (aG 2 (g1 wF (ae 2))) cn)
  (bx (aQ (aa (g2 dQ (ae 0) (ae 2)) (aa (g2 dQ (ae 1) (ae 2)) af)))))))
def me:List D->Option D:=d9 3 zo
theorem Ng (a0 a1:D):me [a0,a1]=(zo [some a0,some a1,none]).bind di:=rfl
abbrev zp:DS->Option Res:=(aw (aG 2 (ay b8 2 (aa (g2 aO (ae 0) (gC (.int (1)))) (aa (g2 aO (ae 1) (gC (.int (1)))) af))))
  (aw (aG 3 (g2 dQ (g2 aO (ae 0) (gC (.int (1)))) (ae 2)))
  (aw (aG 4 (g2 dQ (g2 aO (ae 1) (gC (.int (1)))) (ae 2)))
  (aw (aG 5 (ay me 2 (aa (g2 aU (g2 bh (g2 aO (ae 0) (gC (.int (0)))) (ae 4)) (g2 bh (g2 aO (ae 1) (gC (.int (0)))) (ae 3))) (aa (ae 2) af))))
  (bx (aQ (aa (g2 aO (ae 5) (gC (.int (0)))) (aa (g2 bh (g2 bh (ae 3) (ae 4)) (g2 aO (ae 5) (gC (.int (1))))) af))))))))
def mf:List D->Option D:=d9 6 zp
theorem Nh (a0 a1:D):mf [a0,a1]=(zp [some a0,some a1,none,none,none,none]).bind di:=rfl
abbrev uE:DS->Option Res:=(bx (ay mf 2 (aa (ae 0) (aa (aQ (aa (g1 wF (g2 aO (ae 1) (gC (.int (0))))) (aa (g2 aO (ae 1) (gC (.int (1)))) af))) af))))
def pJ:List D->Option D:=d9 2 uE
theorem Iy (a0 a1:D):pJ [a0,a1]=(uE [some a0,some a1]).bind di:=rfl
abbrev uF:DS->Option Res:=(aw (aG 2 (ay me 2 (aa (g2 aO (ae 0) (gC (.int (0)))) (aa (g2 aO (ae 1) (gC (.int (1)))) af))))
  (aw (aG 3 (ay me 2 (aa (g2 aO (ae 1) (gC (.int (0)))) (aa (g2 aO (ae 0) (gC (.int (1)))) af))))
  (bx (aQ (aa (g2 bh (g2 aO (ae 2) (gC (.int (0)))) (g2 aO (ae 3) (gC (.int (0))))) (aa (g2 bh (g2 aO (ae 2) (gC (.int (1)))) (g2 aO (ae 3) (gC (.int (1))))) af))))))
def lB:List D->Option D:=d9 4 uF
theorem Iz (a0 a1:D):lB [a0,a1]=(uF [some a0,some a1,none,none]).bind di:=rfl
abbrev zq:DS->Option Res:=(bx (ay lB 2 (aa (ae 0) (aa (ay me 2 (aa (g2 aO (ae 1) (gC (.int (1)))) (aa (g2 aO (ae 1) (gC (.int (0)))) af))) af))))
def uG:List D->Option D:=d9 2 zq
theorem Ni (a0 a1:D):uG [a0,a1]=(zq [some a0,some a1]).bind di:=rfl
abbrev uH:DS->Option Res:=(aw (aG 2 (gC (.int (1))))
  (aw (aG 3 (gC (.int (1))))
  (aw (eI (jq (aa (ae 1) af)) (aR 4)
   (aw (aG 2 (g2 bh (ae 2) (g2 aO (ae 0) (gC (.int (0))))))
  (aG 3 (g2 bh (ae 3) (g2 aO (ae 0) (gC (.int (1))))))))
  (bx (aQ (aa (ae 2) (aa (ae 3) af)))))))
def nG:List D->Option D:=d9 5 uH
theorem IA (a0 a1:D):nG [a0,a1]=(uH [some a0,some a1,none,none,none]).bind di:=rfl
abbrev uI:DS->Option Res:=(bx (g2 rG (g2 bh (g2 aO (ae 0) (gC (.int (0)))) (g2 aO (ae 1) (gC (.int (1))))) (g2 bh (g2 aO (ae 1) (gC (.int (0)))) (g2 aO (ae 0) (gC (.int (1)))))))
def gP:List D->Option D:=d9 2 uI
theorem IB (a0 a1:D):gP [a0,a1]=(uI [some a0,some a1]).bind di:=rfl
abbrev oj:DS->Option Res:=(aw (aG 2 (g2 aU (g2 aO (ae 1) (gC (.int (0)))) (g2 aO (ae 1) (gC (.int (1))))))
  (bx (qg (nZ SA rG (gC (.int (0))) (ae 2) (d7 dh (aa (ae 0) af))) (g2 Mq (g2 aO (ae 1) (gC (.int (0)))) (g2 aO (ae 0) (ae 2))))))
def jf:List D->Option D:=d9 3 oj
theorem Cu (a0 a1:D):jf [a0,a1]=(oj [some a0,some a1,none]).bind di:=rfl
abbrev qV:DS->Option Res:=(bx (bJ (ME (bJ (Hk wC (bJ (wH lW (aa (ae 0) af))) (bJ (eM (bb (ae 0)) [] (g2 aU (ae 0) (gC (.int (1)))))))))))
def jg:List D->Option (List D):=i8 1 qV
theorem EU (a0:D):jg [a0]=(qV [some a0]).bind i7:=rfl
abbrev om:DS->Option Res:=(aw (jV 1 (gI (aa (aQ (aa (gC (.int (0))) (aa (gC (.int (0))) af))) af)))
  (aw (eI (Ef (ae 0)) (jW 2 (c7 (aR 2) (c7 (aR 3) ko)))
   (BY 1 (eM (bb (bJ (c6 jg 1 (aa (ae 3) af)))) [2] (aQ (aa (ae 0) (aa (g2 cy (ae 1) (ae 0)) af))))))
  (bx (ae 1))))
def g5:List D->Option (List D):=i8 4 om
theorem Cv (a0:D):g5 [a0]=(om [some a0,none,none,none]).bind i7:=rfl
abbrev zr:DS->Option Res:=(bx (bJ (dS (bb (bJ (c6 g5 1 (aa (ae 0) af)))) 1 [0] (aR 0) (j4 (il (ay jf 2 (aa (ae 1) (aa (ae 0) af))))) (ae 0))))
def uJ:List D->Option (List D):=i8 1 zr
theorem Nj (a0:D):uJ [a0]=(zr [some a0]).bind i7:=rfl
abbrev mh:DS->Option Res:=(aw (jV 1 (gI af))
  (aw (eI (zc (ae 0)) (jW 2 (c7 (aR 2) (c7 (aR 3) ko)))
   (BY 1 (eM (bb (ae 3)) [2] (aQ (aa (ae 0) (aa (g2 cy (ae 1) (ae 0)) af))))))
  (bx (ae 1))))
def hV:List D->Option (List D):=i8 4 mh
theorem zt (a0:D):hV [a0]=(mh [some a0,none,none,none]).bind i7:=rfl
abbrev uK:DS->Option Res:=(aw (iV (gB (g2 rS (ae 1) (gC (.str "b")))) (bx (aQ (aa (g2 aU (g2 aO (ae 0) (gC (.int (0)))) (gC (.int (1)))) (aa (g2 aO (ae 0) (gC (.int (1)))) af)))) cn)
  (bx (aQ (aa (g2 aO (ae 0) (gC (.int (0)))) (aa (g2 aU (g2 aO (ae 0) (gC (.int (1)))) (gC (.int (1)))) af)))))
def fZ:List D->Option D:=d9 2 uK
theorem A6 (a0 a1:D):fZ [a0,a1]=(uK [some a0,some a1]).bind di:=rfl
abbrev gA:DS->Option Res:=(aw (aG 1 (gC (.int (1))))
  (aw (eI (bb (ae 0)) (aR 2)
   (aG 1 (g2 bh (g2 dQ (ae 1) (ay b8 2 (aa (ae 1) (aa (g2 aO (ae 2) (gC (.int (1)))) af)))) (g2 aO (ae 2) (gC (.int (1)))))))
  (bx (ae 1))))
def eY:List D->Option D:=d9 3 gA
theorem pe (a0:D):eY [a0]=(gA [some a0,none,none]).bind di:=rfl
abbrev ky:DS->Option Res:=(bx (bJ (eM (bb (ae 0)) [1] (g2 bh (g2 aO (ae 0) (gC (.int (0)))) (g2 dQ (ae 1) (g2 aO (ae 0) (gC (.int (1)))))))))
def iu:List D->Option (List D):=i8 2 ky
theorem xt (a0 a1:D):iu [a0,a1]=(ky [some a0,some a1]).bind i7:=rfl
abbrev kz:DS->Option Res:=(aw (Ec 2 (zd (ae 1) (gC (.int (1)))))
  (aw (eI (bb (bJ (c6 hV 1 (aa (ae 0) af)))) (aR 3)
   (aw (aG 4 (l7 (ae 2) (ae 3) (gC (.int (0)))))
  (eI (bb (aQ (aa (ay fZ 2 (aa (ae 3) (aa (gC (.str "b")) af))) (aa (ay fZ 2 (aa (ae 3) (aa (gC (.str "g")) af))) af)))) (aR 5)
   (ti 2 (ae 5) (g2 aU (l7 (ae 2) (ae 5) (gC (.int (0)))) (ae 4))))))
  (bx (ae 2))))
def gm:List D->Option D:=d9 6 kz
theorem xu (a0 a1:D):gm [a0,a1]=(kz [some a0,some a1,none,none,none,none]).bind di:=rfl
abbrev fJ:DS->Option Res:=(iV (j4 (lV (il (ay gP 2 (aa (gC (.tuple [(.int (0)),(.int (1))])) (aa (ae 0) af)))) (lV (il (ay gP 2 (aa (ae 0) (aa (ae 1) af)))) (il (ay gP 2 (aa (ae 1) (aa (gC (.tuple [(.int (1)),(.int (1))])) af))))))) (λ_=>none) cn)
def dX:List D->Option D:=d9 2 fJ
theorem qW (a0 a1:D):dX [a0,a1]=(fJ [some a0,some a1]).bind di:=rfl
abbrev uL:DS->Option Res:=(aw (aG 2 (ay nG 2 (aa (ae 1) (aa (g2 aO (ae 0) (gC (.int (0)))) af))))
  (aw (aG 3 (ay nG 2 (aa (ay pJ 2 (aa (gC (.tuple [(.int (1)),(.int (1))])) (aa (ae 1) af))) (aa (g2 aO (ae 0) (gC (.int (1)))) af))))
  (bx (aQ (aa (g2 bh (g2 aO (ae 2) (gC (.int (0)))) (g2 aO (ae 3) (gC (.int (0))))) (aa (g2 bh (g2 aO (ae 2) (gC (.int (1)))) (g2 aO (ae 3) (gC (.int (1))))) af))))))
def jy:List D->Option D:=d9 4 uL
theorem IC (a0 a1:D):jy [a0,a1]=(uL [some a0,some a1,none,none]).bind di:=rfl
abbrev uM:DS->Option Res:=(aw (qq (ay dX 2 (aa (ae 1) (aa (ae 2) af))))
  (bx (ay uG 2 (aa (ay jy 2 (aa (ae 0) (aa (ae 2) af))) (aa (ay jy 2 (aa (ae 0) (aa (ae 1) af))) af)))))
def pK:List D->Option D:=d9 3 uM
theorem ID (a0 a1 a2:D):pK [a0,a1,a2]=(uM [some a0,some a1,some a2]).bind di:=rfl
abbrev fi:DS->Option Res:=(aw (aG 1 (bJ (eM (bb (ae 0)) [] (g2 aO (ae 0) (gC (.int (1)))))))
  (aw (aG 2 (bJ (c6 iu 2 (aa (ae 1) (aa (ay eY 1 (aa (ae 1) af)) af)))))
  (aw (aG 3 (bJ (oh (Ib (aa (d7 dh (aa (ae 0) af)) af)) [2] (g1 wF (g2 aO (ae 1) (ae 0))))))
  (bx (bJ (eM (bb (ae 3)) [0] (g2 aO (ae 1) (ae 0))))))))
def dn:List D->Option (List D):=i8 4 fi
theorem ml (a0:D):dn [a0]=(fi [some a0,none,none,none]).bind i7:=rfl
abbrev gQ:DS->Option Res:=(iV (Ar (il (ay gP 2 (aa (ae 0) (aa (gC (.tuple [(.int (0)),(.int (1))])) af)))) (il (ay gP 2 (aa (gC (.tuple [(.int (1)),(.int (1))])) (aa (ae 0) af))))) (λ_=>none) cn)
def gR:List D->Option D:=d9 1 gQ
theorem uN (a0:D):gR [a0]=(gQ [some a0]).bind di:=rfl
abbrev mn:DS->Option Res:=(bx (bJ (oh (Ia (ae 0)) [] (aQ (aa (g2 aU (g2 aO (ae 0) (gC (.int (0)))) (g2 aO (ae 0) (gC (.int (1))))) (aa (g2 aO (ae 0) (gC (.int (0)))) af))))))
def fR:List D->Option (List D):=i8 1 mn
theorem zu (a0:D):fR [a0]=(mn [some a0]).bind i7:=rfl
abbrev uO:DS->Option Res:=(aw (jV 2 (gI af))
  (aw (aG 3 (gC (.tuple [(.int (0)),(.int (1))])))
  (aw (aG 4 (gC (.tuple [(.int (0)),(.int (1))])))
  (aw (eI (bb (ae 0)) (jW 4 (c7 (aR 5) (c7 (aR 6) (c7 (aR 7) (c7 (aR 8) ko)))))
   (aw (aG 9 (ay mf 2 (aa (ae 3) (aa (ae 7) af))))
  (aw (iV (il (ay gP 2 (aa (ae 1) (aa (ae 9) af)))) (bx (aQ (aa (bJ (g8 fR 1 (aa (ae 2) af))) (aa (ae 6) (aa (ae 3) (aa (ae 4) af)))))) cn)
  (aw (rV 2 (ae 5))
  (aw (aG 3 (ae 9))
  (aG 4 (ay mf 2 (aa (ae 4) (aa (ae 8) af)))))))))
  (bx (aQ (aa (bJ (g8 fR 1 (aa (ae 2) af))) (aa (gC (.tuple [(.int (0)),(.int (1))])) (aa (ae 3) (aa (ae 4) af))))))))))
def nH:List D->Option D:=ED 10 uO
theorem IE (a0 a1:D):nH [a0,a1]=(uO [some a0,some a1,none,none,none,none,none,none,none,none]).bind EC:=rfl
abbrev gD:DS->Option Res:=(aw (qq (ay dX 2 (aa (ae 1) (aa (ae 2) af))))
  (aw (qq (ay gR 1 (aa (ae 3) af)))
  (aw (aG 4 (ay gm 2 (aa (ae 0) (aa (aQ (aa (gC (.int (0))) (aa (gC (.int (0))) af))) af))))
  (aw (jV 5 (gI af))
  (aw (eI (bb (bJ (c6 uJ 1 (aa (ae 0) af)))) (aR 6)
   (aw (aG 7 (aQ (aa (qC (ae 4) (ae 6)) (aa (gC (.int (1))) af))))
  (rV 5 (aQ (aa (ae 6) (aa (ay pK 3 (aa (ae 6) (aa (ae 1) (aa (ae 2) af)))) (aa (ay lB 2 (aa (ae 7) (aa (ay jy 2 (aa (ae 6) (aa (ae 1) af))) af))) (aa (ay lB 2 (aa (ae 7) (aa (ay jy 2 (aa (ae 6) (aa (ae 2) af))) af))) af))))))))
  (bx (ay nH 2 (aa (bJ (g8 dn 1 (aa (ae 5) af))) (aa (ae 3) af)))))))))
def cN:List D->Option D:=ED 8 gD
theorem pf (a0 a1 a2 a3:D):cN [a0,a1,a2,a3]=(gD [some a0,some a1,some a2,some a3,none,none,none,none]).bind EC:=rfl
abbrev mo:DS->Option Res:=(aw (iV (gB (g2 rG (ae 1) (d7 dh (aa (ae 0) af)))) (bx (g2 aO (ae 0) (ae 1))) cn)
  (bx (gC (.int (0)))))
def cS:List D->Option D:=d9 2 mo
theorem zv (a0 a1:D):cS [a0,a1]=(mo [some a0,some a1]).bind di:=rfl
abbrev jz:DS->Option Res:=(aw (jV 3 (gI af))
  (aw (eI (jq (aa (ae 2) af)) (aR 4)
   (aw (rV 3 (g2 c5 (ae 0) (ae 1)))
  (aG 0 (g2 dQ (ae 0) (ae 1)))))
  (bx (ae 3))))
def fK:List D->Option (List D):=i8 5 jz
theorem uP (a0 a1 a2:D):fK [a0,a1,a2]=(jz [some a0,some a1,some a2,none,none]).bind i7:=rfl
abbrev kA:DS->Option Res:=(aw (jV 3 (gI af))
  (aw (eI (jq (aa (ae 2) af)) (aR 4)
   (aw (aG 5 (g2 c5 (g2 aU (g2 aU (g2 bh (g2 c5 (ae 0) (gC (.int (1000003)))) (gC (.int (48271)))) (g2 bh (g2 bh (ae 4) (ae 4)) (gC (.int (69621))))) (g2 bh (ae 4) (gC (.int (16807))))) (gC (.int (2147483647)))))
  (rV 3 (g2 c5 (g2 dQ (g2 c5 (g2 aU (g2 bh (ae 5) (gC (.int (39373)))) (ae 0)) (gC (.int (2147483629)))) (gC (.int (13)))) (ae 1)))))
  (bx (ae 3))))
def iw:List D->Option (List D):=i8 6 kA
theorem xw (a0 a1 a2:D):iw [a0,a1,a2]=(kA [some a0,some a1,some a2,none,none,none]).bind i7:=rfl
abbrev mq:DS->Option Res:=(aw (aG 2 (g2 dQ (ae 0) (gC (.int (4)))))
  (aw (aG 3 (g2 aU (gC (.int (100))) (g2 bh (gC (.int (200))) (d7 wI (aa (g2 sQ (ae 1) (gC (.int (12)))) af)))))
  (aw (aG 4 (bJ (c6 iw 3 (aa (ae 2) (aa (gC (.int (3))) (aa (ae 3) af))))))
  (aw (iV (gB (g2 SD (d7 ng (aa (ae 0) af)) (g2 wB (gC (.int (10))) (gC (.int (18)))))) (aG 4 (bJ (c6 fK 3 (aa (ae 2) (aa (gC (.int (3))) (aa (ae 3) af)))))) cn)
  (aw (jV 5 (gI (aa (aQ (aa (gC (.int (0))) af)) af)))
  (aw (aG 6 (bJ (gI (aa (gC (.int (0))) (aa (gC (.int (1))) af)))))
  (aw (aG 7 (gC (.int (0))))
  (aw (eG (lV (gB (g2 rG (d7 dh (aa (ae 5) af)) (ae 1))) (gB (g2 sQ (d7 dh (aa (ae 6) af)) (gC (.int (0)))))) (aw (aG 8 (bJ (dS (js (ae 6)) 2 [4,3,7] (jW 2 (c7 (aR 0) (c7 (aR 1) ko))) (gB (g2 sQ (g2 aO (ae 2) (g2 c5 (g2 aU (ae 4) (ae 0)) (ae 3))) (gC (.int (0))))) (ae 1))))
  (aw (aG 7 (g2 aU (ae 7) (d7 dh (aa (ae 6) af))))
  (aw (iV (gB (g2 sQ (g2 c5 (ae 0) (gC (.int (4)))) (gC (.int (1))))) (aG 8 (bJ (BS (ae 6) (kn (g2 aO (ae 4) (g2 c5 (ae 7) (ae 3)))) (kn (d7 oK (aa (gC (.int (0))) (aa (g2 cy (d7 dh (aa (ae 6) af)) (g2 aO (ae 4) (g2 c5 (g2 aU (ae 7) (gC (.int (1)))) (ae 3)))) af))))))) cn)
  (aw (aG 6 (bJ (ME (bJ (Hk wC (ae 8) (bJ (eM (bb (ae 8)) [] (g2 aU (ae 0) (gC (.int (1)))))))))))
  (iV (gB (g2 sQ (d7 dh (aa (ae 8) af)) (gC (.int (0))))) (rV 5 (d7 km (aa (ae 8) af))) cn))))))
  (bx (d7 km (aa (ae 5) af)))))))))))
def hX:List D->Option D:=d9 9 mq
theorem zw (a0 a1:D):hX [a0,a1]=(mq [some a0,some a1,none,none,none,none,none,none,none]).bind di:=rfl
abbrev mr:DS->Option Res:=(aw (iV (gB (g2 rS (g2 c5 (g2 dQ (ae 0) (gC (.int (7)))) (gC (.int (8)))) (gC (.int (1))))) (bx (g2 aU (gC (.int (1))) (g2 c5 (g2 dQ (ae 0) (gC (.int (56)))) (gC (.int (12)))))) cn)
  (bx (g2 aU (gC (.int (1))) (g2 c5 (ae 0) (gC (.int (7)))))))
def jA:List D->Option D:=d9 1 mr
theorem qX (a0:D):jA [a0]=(mr [some a0]).bind di:=rfl
abbrev mw:DS->Option Res:=(aw (jV 1 (gI af))
  (aw (eI (lb (aa (gC (.int (1))) (aa (g2 aU (d7 dh (aa (ae 0) af)) (gC (.int (1)))) af))) (aR 2)
   (aw (aG 3 (aQ af))
  (aw (iV (gB (g2 rG (ae 2) (d7 dh (aa (ae 0) af)))) (aG 3 (g2 aO (ae 0) (ae 2))) cn)
  (aw (aG 4 (bJ (ME (bJ (Hk wC (bJ (wH lW (aa (g2 aO (ae 0) (g2 cy (ae 2) (gC (.int (1))))) af))) (bJ (eM (bb (g2 aO (ae 0) (g2 cy (ae 2) (gC (.int (1)))))) [] (g2 aU (ae 0) (gC (.int (1)))))))))))
  (BY 1 (dS (bb (ae 4)) 1 [2,3] (aR 0) (gB (g2 uc (ae 0) (ae 2))) (aQ (aa (ae 0) (aa (g2 cy (ae 1) (ae 0)) af)))))))))
  (bx (ae 1))))
def fS:List D->Option (List D):=i8 5 mw
theorem zx (a0:D):fS [a0]=(mw [some a0,none,none,none,none]).bind i7:=rfl
abbrev mx:DS->Option Res:=(aw (Ec 1 (zd (aQ (aa (gC (.int (0))) (aa (gC (.int (0))) af))) (gC (.int (1)))))
  (aw (eI (zc (ae 0)) (jW 2 (c7 (aR 2) (c7 (aR 3) ko)))
   (eI (bb (ae 3)) (aR 4)
   (aw (aG 5 (qC (ae 1) (aQ (aa (ae 4) (aa (g2 cy (ae 2) (ae 4)) af)))))
  (eI (bb (aQ (aa (aQ (aa (g2 aU (ae 4) (gC (.int (1)))) (aa (g2 cy (ae 2) (ae 4)) af))) (aa (aQ (aa (ae 4) (aa (g2 aU (g2 cy (ae 2) (ae 4)) (gC (.int (1)))) af))) af)))) (aR 6)
   (ti 1 (ae 6) (g2 aU (l7 (ae 1) (ae 6) (gC (.int (0)))) (ae 5)))))))
  (bx (ae 1))))
def hZ:List D->Option D:=d9 7 mx
theorem zy (a0:D):hZ [a0]=(mx [some a0,none,none,none,none,none,none]).bind di:=rfl
abbrev kB:DS->Option Res:=(bx (qg (t8 "int" (ae 0)) (g1 Hq (t8 "bool" (ae 0)))))
def gn:List D->Option D:=d9 1 kB
theorem xx (a0:D):gn [a0]=(kB [some a0]).bind di:=rfl
abbrev iH:DS->Option Res:=(aw (eG (gB (g2 BQ (ae 1) (gC (.int (0))))) (Hv 0 1 (aa (ae 1) (aa (g2 c5 (ae 0) (ae 1)) af))))
  (bx (d7 ng (aa (ae 0) af))))
def eQ:List D->Option D:=d9 2 iH
theorem r9 (a0 a1:D):eQ [a0,a1]=(iH [some a0,some a1]).bind di:=rfl
abbrev iI:DS->Option Res:=(aw (iV (Ar (j4 (il (t8 "tuple" (ae 0)))) (Ar (gB (g2 BQ (d7 dh (aa (ae 0) af)) (gC (.int (2))))) (Ar (j4 (il (ay gn 1 (aa (g2 aO (ae 0) (gC (.int (0)))) af)))) (j4 (il (ay gn 1 (aa (g2 aO (ae 0) (gC (.int (1)))) af))))))) (bx (gC (.bool false))) cn)
  (aw (iV (Ar (gB (g2 rG (g2 aO (ae 0) (gC (.int (1)))) (gC (.int (1))))) (gB (g2 BQ (ay eQ 2 (aa (g2 aO (ae 0) (gC (.int (0)))) (aa (g2 aO (ae 0) (gC (.int (1)))) af))) (gC (.int (1)))))) (bx (gC (.bool false))) cn)
  (bx (g2 rS (g2 bh (g2 aO (ae 0) (gC (.int (0)))) (ae 2)) (g2 bh (ae 1) (g2 aO (ae 0) (gC (.int (1)))))))))
def cj:List D->Option D:=d9 3 iI
theorem sd (a0 a1 a2:D):cj [a0,a1,a2]=(iI [some a0,some a1,some a2]).bind di:=rfl
abbrev jB:DS->Option Res:=(aw (aG 1 (g2 aU (gC (.int (3))) (g2 c5 (g2 dQ (ae 0) (gC (.int (2)))) (gC (.int (12))))))
  (aw (aG 2 (g2 dQ (ae 0) (gC (.int (24)))))
  (aw (iV (gB (g2 rS (g2 c5 (ae 0) (gC (.int (2)))) (gC (.int (1))))) (aw (aG 1 (g2 aU (gC (.int (3))) (g2 c5 (g2 dQ (ae 0) (gC (.int (2)))) (g2 wB (gC (.int (10))) (gC (.int (12)))))))
  (aG 2 (g2 aU (g2 dQ (g2 dQ (ae 0) (gC (.int (2)))) (g2 wB (gC (.int (10))) (gC (.int (12))))) (g2 dQ (ae 0) (gC (.int (7))))))) cn)
  (aw (aG 3 (g2 aU (gC (.int (1))) (g2 c5 (ae 2) (g2 cy (ae 1) (gC (.int (2)))))))
  (aw (aG 4 (g2 aU (g2 aU (ae 3) (gC (.int (1)))) (g2 c5 (g2 dQ (ae 2) (g2 cy (ae 1) (gC (.int (2))))) (g2 cy (g2 cy (ae 1) (gC (.int (1)))) (ae 3)))))
  (bx (aQ (aa (ae 3) (aa (ae 4) (aa (ae 1) af))))))))))
def eA:List D->Option D:=d9 5 jB
theorem uQ (a0:D):eA [a0]=(jB [some a0,none,none,none,none]).bind di:=rfl
abbrev my:DS->Option Res:=(aw (aG 2 (ay eQ 2 (aa (ae 0) (aa (ae 1) af))))
  (bx (aQ (aa (g2 dQ (ae 0) (ae 2)) (aa (g2 dQ (ae 1) (ae 2)) af)))))
def cb:List D->Option D:=d9 3 my
theorem zz (a0 a1:D):cb [a0,a1]=(my [some a0,some a1,none]).bind di:=rfl
abbrev kC:DS->Option Res:=(aw (aG 2 (gC (.int (1))))
  (aw (eI (jq (aa (ae 1) af)) (aR 3)
   (aG 2 (g2 bh (ae 2) (ae 0))))
  (bx (ae 2))))
def dY:List D->Option D:=d9 4 kC
theorem xy (a0 a1:D):dY [a0,a1]=(kC [some a0,some a1,none,none]).bind di:=rfl
abbrev jC:DS->Option Res:=(bx (g2 bh (ay dY 2 (aa (ae 1) (aa (g2 aO (ae 0) (gC (.int (0)))) af))) (ay dY 2 (aa (g2 cy (ae 2) (ae 1)) (aa (g2 aO (ae 0) (gC (.int (1)))) af)))))
def cQ:List D->Option D:=d9 3 jC
theorem uR (a0 a1 a2:D):cQ [a0,a1,a2]=(jC [some a0,some a1,some a2]).bind di:=rfl
abbrev kD:DS->Option Res:=(aw (jV 2 (gI af))
  (aw (eI (bb (ae 0)) (aR 3)
   (aw (aG 4 (ay cQ 3 (aa (ae 3) (aa (g2 aO (ae 1) (gC (.int (1)))) (aa (g2 aO (ae 1) (gC (.int (2)))) af)))))
  (aw (aG 5 (ay cQ 3 (aa (ae 3) (aa (g2 aO (ae 1) (gC (.int (0)))) (aa (g2 aO (ae 1) (gC (.int (2)))) af)))))
  (aw (aG 6 (d7 dh (aa (ae 2) af)))
  (aw (eG (lV (gB (g2 sQ (ae 6) (gC (.int (0))))) (gB (g2 rG (g2 bh (g2 aO (g2 aO (ae 2) (g2 cy (ae 6) (gC (.int (1))))) (gC (.int (1)))) (ae 5)) (g2 bh (ae 4) (g2 aO (g2 aO (ae 2) (g2 cy (ae 6) (gC (.int (1))))) (gC (.int (2)))))))) (aG 6 (g2 cy (ae 6) (gC (.int (1))))))
  (HJ 2 (ae 6) (aQ (aa (ae 3) (aa (ae 4) (aa (ae 5) af))))))))))
  (bx (ae 2))))
def gp:List D->Option (List D):=i8 7 kD
theorem xA (a0 a1:D):gp [a0,a1]=(kD [some a0,some a1,none,none,none,none,none]).bind i7:=rfl
abbrev mz:DS->Option Res:=(bx (g2 bh (g2 bh (qC (ae 0) (ae 1)) (ay cQ 3 (aa (ae 1) (aa (ae 2) (aa (g2 aO (ae 3) (gC (.int (2)))) af))))) (ay dY 2 (aa (g2 aO (ae 3) (gC (.int (2)))) (aa (g2 cy (g2 cy (ae 4) (g2 aO (ae 1) (gC (.int (0))))) (g2 aO (ae 1) (gC (.int (1))))) af)))))
def h8:List D->Option D:=d9 5 mz
theorem zA (a0 a1 a2 a3 a4:D):h8 [a0,a1,a2,a3,a4]=(mz [some a0,some a1,some a2,some a3,some a4]).bind di:=rfl
abbrev iJ:DS->Option Res:=(aw (aG 3 (g2 c5 (ae 0) (gC (.int (5)))))
  (aw (iV (gB (g2 rG (ae 3) (gC (.int (2))))) (bx (ay cb 2 (aa (ae 3) (aa (gC (.int (1))) af)))) cn)
  (aw (iV (gB (g2 rS (ae 3) (gC (.int (2))))) (bx (ay cb 2 (aa (g2 aO (ae 1) (g2 c5 (g2 dQ (ae 0) (gC (.int (5)))) (d7 dh (aa (ae 1) af)))) (aa (ae 2) af)))) cn)
  (aw (iV (gB (g2 rS (ae 3) (gC (.int (3))))) (bx (ay cb 2 (aa (d7 ql (aa (ae 2) (aa (g2 aU (g2 aO (ae 1) (g2 c5 (g2 dQ (ae 0) (gC (.int (5)))) (d7 dh (aa (ae 1) af)))) (gC (.int (1)))) af))) (aa (ae 2) af)))) cn)
  (bx (ay cb 2 (aa (g2 c5 (g2 dQ (ae 0) (gC (.int (5)))) (gC (.int (101)))) (aa (gC (.int (100))) af))))))))
def eU:List D->Option D:=d9 4 iJ
theorem se (a0 a1 a2:D):eU [a0,a1,a2]=(iJ [some a0,some a1,some a2,none]).bind di:=rfl
abbrev kF:DS->Option Res:=(aw (aG 3 (d7 dh (aa (ae 0) af)))
  (aw (aG 4 (ay hZ 1 (aa (ae 0) af)))
  (aw (aG 5 (ay dY 2 (aa (g2 aO (ae 1) (gC (.int (2)))) (aa (ae 3) af))))
  (aw (aG 6 (bJ (c6 gp 2 (aa (bJ (c6 fS 1 (aa (ae 0) af))) (aa (ae 1) af)))))
  (aw (jV 7 (gI (aa (gC (.int (0))) af)))
  (aw (eI (bb (ae 6)) (aR 8)
   (rV 7 (g2 aU (g2 aO (ae 7) (g1 wF (gC (.int (1))))) (ay h8 5 (aa (ae 4) (aa (g2 aO (ae 8) (gC (.int (0)))) (aa (g2 aO (ae 1) (gC (.int (0)))) (aa (ae 1) (aa (ae 3) af)))))))))
  (aw (aG 9 (nc eU 3 (aa (ae 2) (aa (ae 7) (aa (ae 5) af)))))
  (aw (aG 10 (gC (.int (0))))
  (aw (eG (lV (gB (g2 rG (ae 10) (d7 dh (aa (ae 6) af)))) (gB (g2 SA (g2 bh (g2 aO (ae 7) (g2 aU (ae 10) (gC (.int (1))))) (g2 aO (ae 9) (gC (.int (1))))) (g2 bh (g2 aO (ae 9) (gC (.int (0)))) (ae 5))))) (aG 10 (g2 aU (ae 10) (gC (.int (1))))))
  (aw (aG 11 (bJ (eM (bb (bJ (BS (ae 6) t9 (kn (ae 10))))) [] (g2 aO (ae 0) (gC (.int (0)))))))
  (aw (aG 12 (aQ (aa (gC (.int (0))) (aa (gC (.int (1))) af))))
  (aw (iV (gB (g2 rG (ae 10) (d7 dh (aa (ae 6) af)))) (aG 12 (aQ (aa (g2 aO (g2 aO (ae 6) (ae 10)) (gC (.int (1)))) (aa (g2 aO (g2 aO (ae 6) (ae 10)) (gC (.int (2)))) af)))) cn)
  (aw (aG 13 (d7 HM (aa (bJ (eM (bb (ae 11)) [4,1,3] (ay h8 5 (aa (ae 1) (aa (ae 0) (aa (g2 aO (ae 2) (gC (.int (1)))) (aa (ae 2) (aa (ae 3) af)))))))) af)))
  (AV 14 (ay cN 4 (aa (ae 0) (aa (ay cb 2 (aa (g2 aO (ae 1) (gC (.int (0)))) (aa (g2 aO (ae 1) (gC (.int (2)))) af))) (aa (ay cb 2 (aa (g2 aO (ae 1) (gC (.int (1)))) (aa (g2 aO (ae 1) (gC (.int (2)))) af))) (aa (ae 9) af)))))
  (zh 14 (Ar (j4 (il (t8 "tuple" (ae 14)))) (Ar (gB (g2 BQ (d7 dh (aa (ae 14) af)) (gC (.int (4))))) (j4 (il (t8 "list" (g2 aO (ae 14) (gC (.int (0))))))))) (bx (gC (.bool false)))
  (zh 14 (gB (g2 BQ (g2 aO (ae 14) (gC (.int (0)))) (bJ (dS (bb (bJ (c6 fS 1 (aa (ae 0) af)))) 1 [11] (aR 0) (gB (g2 (Ei false) (ae 0) (ae 1))) (ae 0))))) (bx (gC (.bool false)))
  (zh 14 (Ar (j4 (il (ay cj 3 (aa (g2 aO (ae 14) (gC (.int (1)))) (aa (g2 aO (ae 12) (gC (.int (0)))) (aa (g2 aO (ae 12) (gC (.int (1)))) af)))))) (j4 (il (ay cj 3 (aa (g2 aO (ae 14) (gC (.int (2)))) (aa (g2 aO (ae 7) (ae 10)) (aa (ae 5) af))))))) (bx (gC (.bool false)))
  (zh 14 (j4 (il (ay cj 3 (aa (g2 aO (ae 14) (gC (.int (3)))) (aa (ae 13) (aa (ae 5) af)))))) (bx (gC (.bool false)))
  (zi 15 (AU 14 (aQ (aa (gC (.int (0))) (aa (gC (.int (0))) af)))
  (bx (g2 rS (g2 aO (ay cN 4 (aa (ae 0) (aa (ay cb 2 (aa (g2 aO (ae 1) (gC (.int (0)))) (aa (g2 aO (ae 1) (gC (.int (2)))) af))) (aa (ay cb 2 (aa (g2 aO (ae 1) (gC (.int (1)))) (aa (g2 aO (ae 1) (gC (.int (2)))) af))) (aa (ae 9) af))))) (gC (.int (0)))) (ae 15)))))))))))))))))))))))
def gq:List D->Option D:=d9 16 kF
theorem xB (a0 a1 a2:D):gq [a0,a1,a2]=(kF [some a0,some a1,some a2,none,none,none,none,none,none,none,none,none,none,none,none,none]).bind di:=rfl
abbrev EV:DS->Option Res:=(aw (aG 1 (ay jA 1 (aa (ay cS 2 (aa (ae 0) (aa (gC (.int (0))) af))) af)))
  (aw (iV (gB (g2 rS (g2 c5 (g2 dQ (ay cS 2 (aa (ae 0) (aa (gC (.int (0))) af))) (gC (.int (700)))) (gC (.int (16)))) (gC (.int (1))))) (aw (aG 2 (ay cS 2 (aa (ae 0) (aa (gC (.int (2))) af))))
  (aw (aG 3 (ay hX 2 (aa (g2 aU (g2 bh (g2 dQ (ay cS 2 (aa (ae 0) (aa (gC (.int (1))) af))) (gC (.int (4)))) (gC (.int (4)))) (gC (.int (2)))) (aa (g2 aU (gC (.int (13))) (g2 c5 (g2 dQ (ay cS 2 (aa (ae 0) (aa (gC (.int (0))) af))) (gC (.int (11200)))) (gC (.int (12))))) af))))
  (bx (ay gq 3 (aa (ae 3) (aa (ay eA 1 (aa (g2 dQ (ae 2) (gC (.int (5)))) af)) (aa (ae 2) af))))))) cn)
  (aw (eI (lb (aa (gC (.int (1))) (aa (d7 oK (aa (gC (.int (2))) (aa (d7 ql (aa (g2 aO (bJ (gI (aa (gC (.int (11))) (aa (gC (.int (4))) af)))) (d7 wI (aa (g2 sQ (ae 1) (gC (.int (7)))) af))) (aa (d7 dh (aa (ae 0) af)) af))) af))) af))) (aR 4)
   (aw (aG 2 (ay cS 2 (aa (ae 0) (aa (g2 aU (ae 4) (gC (.int (1)))) af))))
  (iV (j4 (il (ay gq 3 (aa (ay hX 2 (aa (ay cS 2 (aa (ae 0) (aa (ae 4) af))) (aa (ae 1) af))) (aa (ay eA 1 (aa (g2 dQ (ae 2) (gC (.int (5)))) af)) (aa (ae 2) af)))))) (bx (gC (.bool false))) cn)))
  (bx (gC (.bool true))))))
def tz:List D->Option D:=d9 5 EV
theorem Ql (a0:D):tz [a0]=(EV [some a0,none,none,none,none]).bind di:=rfl
end au
open L2
local macro_rules | `(tactic| walk_at "pu")=>`(tactic| simp only [aw,cn,iV,aG,jV,bx,qq,SH,ae,gC,bJ,g2,Hk,g1,gB,j4,lV,Ar,qg,SF,SG,il,Hs,aa,af,aQ,gI,ay,c6,nc,g8,d7,wH,Hv,rV,SI,Ml,Pe,eI,bb,BZ,BS,kn,t9,nZ,t8,aR,jW,c7,ko,gg,wA,au.zm,au.ER,au.Nf,au.Iu,au.Ks,au.A4,au.Qk,au.fI,au.dW,au.Iv,au.Iw,ng,oK,ql,wI,lW,km,wF,Hq,au.A1,au.A2,au.A3,au.Ip,au.Iq,au.Ir,au.xp,au.zl,au.qT,au.oi,di,i7,wL,yj,nX,
 Zo,Zw,aac,aap,Zn,ab2,Zy,Za,Z0,Zp,aaq,Option.bind_none,aaW,aaN,ZL,ab7,abX,acT,Bool.not_false,reduceIte,Nat.reduceAdd,Nat.reduceLeDiff,Nat.reduceEqDiff,ZN,Bool.and_true,Bool.and_self,abb,Bool.and_false,Bool.or_false,Bool.or_true,Bool.false_or,Bool.true_or])
namespace au
open PySem L2 Q1
theorem h9 (ns:List Int) (k:Nat):cS [.list (ns.map .int),.int k]=some (.int (ns.getD k 0)):=by
 rw [zv]
 simp only [aw,iV,gB,g2,ae,Zw,Zo,Zy,d7,aa,af,Za,zm,wA,bx,Ks,cn,ZL,gC]
 rw [Y7,Y9]
 by_cases h:k < ns.length
 .rw [Zk (by omega),d8 (v:=.int ns[k]) (by rw [Zl,Y4 h]; rfl),Y4 h]
  rfl
 .rw [Zj (by omega),aaO (by omega)]
  rfl
theorem xC (i:Int):gn [.int i]=some (.bool true):=by
 rw [xx]
 simp only [bx,qg,gB,t8,ae,Zo,Zy,Za,A1,g1,A2,Hq,Bool.not_false,aaW,di]
theorem lL (a b:Int) (hb:0<=b):eQ [.int a,.int b]=some (.int (Int.gcd a b:Nat)):=by
 rw [r9]
 refine aY ?_
 refine lu (λm δ=>∃ x:Int,δ=[some (.int x),some (.int (m:Nat))] /\ Int.gcd x (m:Int)=Int.gcd a b) (λδ=>∃ x:Int,δ=[some (.int x),some (.int 0)] /\ x.natAbs=Int.gcd a b) b.toNat ?_ ?_ ?_
 .exact ⟨a,by rw [aaV hb],by rw [aaV hb]⟩
 .rintro m δ ⟨x,rfl,hg⟩
  by_cases hm:m=0
  .subst hm
   exact .inl ⟨by simp only [gB,g2,ae,List.getElem?_cons_succ,List.getElem?_cons_zero,Option.join_some,gC,Option.bind_some,oi]; rfl,x,rfl,by simpa using hg⟩
  .have h1:0<=x % (m:Int):=Z2 _ (by omega)
   have h2:x % (m:Int) < m:=ZO _ (by omega)
   refine .inr ⟨by simp only [gB,g2,ae,Zw,Zo,Zy,gC,Za,oi]; simp; omega,[some (.int m),some (.int (x % (m:Int)))],(x % (m:Int)).toNat,by simp only [Hv,aa,ae,Zw,Zo,Zy,g2,Za,af,aac,aap]; rw [eO (by omega)]; rfl,by omega,m,by rw [aaV h1],?_⟩
   rw [aaV h1,EI,hg]
 .rintro δ' ⟨x,rfl,h2⟩
  exact ret _ (by simp only [d7,aa,ae,Zo,Zy,af,Za,ng]; rw [uB,h2]) (.mk rfl rfl)
theorem iK {n d t b:Int} (hq:l9 n d t b) (m1:IntMulOk n b) (m2:IntMulOk t d):cj [dF (n,d),.int t,.int b]=some (.bool true):=by
 rw [sd]
 refine aY ?_
 have hp:=hq.pos
 have hg:=lL n d (by omega)
 rw [hq.EG] at hg
 unfold dF
 refine qS ?_ (qS ?_ (ret (.bool true) ?_ (.mk rfl rfl)))
 .simp only [Ar,j4,il,t8,ae,Zo,Zy,Za,A3,Hs,Z0,acT,gB,g2,d7,aa,af,ER,Zp,aaq,Nat.reduceAdd,gC,oi,ay,A4,xp,aaW,zl,ab7,abX,ZN,aaN]
  simp only [xC]
  simp only [Za,Hs,Z0,acT,ZN,aaN]
  rfl
 .simp only [Ar,gB,g2,ae,Zo,Zy,gC,Za,A4,zl,wA,ay,aa,xp,af,Zp,aaq,Nat.reduceAdd,aaW,ZL]
  rw [Zj (by omega),hg]
  rfl
 .simp only [g2,ae,Zo,Zy,gC,Za,A4,xp,Zw,zl]
  rw [cE m1,cE m2,hq.eq]
  simp only [Za,qT]
  simp
theorem fT (t b:Int) (hb:1<=b) (TY:bt b<=9000):cb [.int t,.int b]=some (dF (be t b)):=by
 rw [zz]
 refine aY ?_
 have Gk:b≠0:=by omega
 have hg:0 < Int.gcd t b:=abp _ Gk
 have Gr:bt ((Int.gcd t b:Nat):Int)<=9000:=by
  refine de ?_ TY
  have:(Int.gcd t b) ∣ b.natAbs:=acO _ _
  have:=ach (by omega) this
  omega
 have e:dv t b=(Int.gcd t b:Int):=by unfold dv; rw [if_neg (by omega)]
 refine aB [some (.int t),some (.int b),some (.int (Int.gcd t b:Nat))] (by walk_at "pu"; rw [lL t b (by omega)]; rfl) (ret (dF (be t b)) ?_ (.mk rfl rfl))
 walk_at "pu"
 rw [uC (by omega) Gr,uC (by omega) Gr,<- e]
 rfl
def dR (r:List Int):D:=.tuple (r.map .int)
def cM (p:List (List Int)):D:=.tuple (p.map dR)
def iL (l:List Int):Prop:=l.Pairwise (· < ·)
def led (r:List Int):List Int:=ss (r ++ r.map (· + 1))
def Nx (r s:List Int):Prop:=s≠[] /\ iL s /\ ∀ x∈s,x∈led r
def EW:List Int->List (List Int)->Prop
 | _,[]=>True
 | r,s :: q=>Nx r s /\ EW s q
def lst:List Int->List (List Int)->List Int
 | r,[]=>r
 | _,s :: q=>lst s q
theorem xD {s:List Int}:∀ {q:List (List Int)} {r:List Int},EW r q->Nx (lst r q) s->EW r (q ++ [s])
 | [],_,_,h=>⟨h,trivial⟩
 | _ :: _,_,h1,h2=>⟨h1.1,xD h1.2 h2⟩
theorem lst_snoc {s:List Int}:∀ {q:List (List Int)} {r:List Int},lst r (q ++ [s])=s
 | [],_=>rfl
 | _ :: q,_=>lst_snoc (q:=q)
structure Pl (p:List (List Int)):Prop where
 ex:∃ q,p=[0] :: q /\ EW [0] q
theorem f7 {x:Int} {r:List Int}:x∈led r↔x∈r \/ x - 1∈r:=by
 unfold led
 rw [y4,ZC,ZG]
 constructor
 .rintro (h | ⟨y,h,e⟩)
  .exact .inl h
  .exact .inr (by have:x - 1=y:=(by omega); rw [this]; exact h)
 .rintro (h | h)
  .exact .inl h
  .exact .inr ⟨x - 1,h,by omega⟩
theorem xE:∀ {l:List Int} {a b:Int},iL l->(∀ x∈l,a<=x /\ x<=b)->(l.length:Int)<=max 0 (b - a + 1)
 | [],a,b,_,_=>by simp; omega
 | x :: l,a,b,h,hb=>by
   obtain ⟨h1,h2⟩:=ZF.mp h
   have hx:=hb x Zb
   have:=xE (l:=l) (a:=x + 1) (b:=b) h2 λy hy=>⟨by have:=h1 y hy; omega,(hb y (Y8 _ hy)).2⟩
   rw [Zp]
   push_cast
   omega
theorem oo {i:Nat} {g:DS->Option D} {δ:DS} {ds:List D} {d:D} (h1:ae i δ=some (.list ds)) (h2:g δ=some d) (h3:ds.length < 100000):rV i g δ=some (.nx (δ.set i (some (.list (ds ++ [d]))))):=by
 unfold rV
 rw [h1,h2]
 show (if ds.length < 100000 then _ else _)=_
 rw [Zk h3]
theorem Qm {g:DS->Option D} {δ:DS} {d:D} {ns:List Int} (h:g δ=some d) (h2:MD d=some (ns.map .int)) (h3:ns.length < 64):ME g δ=some ((ss ns).map .int):=by
 unfold ME
 rw [h,Za,h2,Za,jb,Za,Zk h3]
theorem Nk {a b:DS->Option D} {δ:DS} {x y:List D} (h1:a δ=some (.list x)) (h2:b δ=some (.list y)) (h3:x.length + y.length<=100000):Hk wC a b δ=some (x ++ y):=by
 unfold Hk
 rw [h1,h2]
 show (if x.length + y.length<=100000 then _ else _)=_
 rw [Zk h3]
theorem oS {c:DS->Option Bool} {a b:DS->Option Res} {δ:DS} {r:Option Res} (x:Bool) (h:c δ=some x) (h1:x=true->a δ=r) (h2:x=false->b δ=r):iV c a b δ=r:=by
 unfold iV
 rw [h]
 cases x with
 | true=>exact h1 rfl
 | false=>exact h2 rfl
theorem kG {f:List D->Option D} {g:DS->Option (List D)} {δ:DS} {ds:List D} {r:Option D} (h:g δ=some ds) (h2:f ds=r):d7 f g δ=r:=by unfold d7; rw [h]; exact h2
theorem part_of {g:DS->Option D} {δ:DS} {i:Int} (h:g δ=some (.int i)):kn g δ=some (some i):=by unfold kn; rw [h]; rfl
theorem zB {a b:DS->Option D} {δ:DS} {r:List Int} (h1:a δ=some (.list (r.map .int))) (h2:b δ=some (.list (r.map .int)) \/ b δ=some (dR r)) (hl:r.length < 32):ME (bJ (Hk wC a (bJ (eM (bb b) [] (g2 aU (ae 0) (gC (.int 1))))))) δ=some ((led r).map .int):=by
 have hi:bb b δ=some (r.map .int):=by
  unfold bb
  rcases h2 with h2 | h2
  .rw [h2]; rfl
  .rw [h2]; rfl
 have hc:eM (bb b) [] (g2 aU (ae 0) (gC (.int 1))) δ=some ((r.map (· + 1)).map .int):=ir PyData.int PyData.int (λx=>x + 1) r hi (by omega) (λx _=>rfl)
 have TZ:=Nk h1 (bH hc) (by simp; omega)
 refine Qm (bH TZ) ?_ (by simp; omega)
 rw [ZI]
 rfl
theorem xF (c b:Int) (n:Nat) (hb:0 < b) (hn:n<=1000):dj (iw [.int c,.int b,.int (n:Nat)]) λds=>∃ l:List Int,ds=l.map .int /\ l.length=n /\ ∀ x∈l,0<=x /\ x < b:=by
 rw [xw]
 refine aB [some (.int c),some (.int b),some (.int (n:Nat)),some (.list []),none,none] rfl ?_
 refine je 0 n (λi δ=>∃ (l:List Int) (x y:Option D),δ=[some (.int c),some (.int b),some (.int (n:Nat)),some (.list (l.map .int)),x,y] /\ l.length=i /\ ∀ x∈l,0<=x /\ x < b) (lz rfl (by omega)) ⟨[],none,none,rfl,rfl,by simp⟩ ?_ ?_
 .rintro i δ hi ⟨l,x,y,rfl,hl,hx⟩
  have m1:bh (.int (c % 1000003)) (.int 48271)=some (.int (c % 1000003 * 48271)):=cE (mul_right (by decide) (by decide))
  have m2:bh (.int (0 + (i:Int))) (.int (0 + (i:Int)))=some (.int ((0 + (i:Int)) * (0 + (i:Int)))):=cE (mul_right (by omega) (by omega))
  have m3:bh (.int ((0 + (i:Int)) * (0 + (i:Int)))) (.int 69621)=some (.int ((0 + (i:Int)) * (0 + (i:Int)) * 69621)):=cE (mul_right (by decide) (by decide))
  have m4:bh (.int (0 + (i:Int))) (.int 16807)=some (.int ((0 + (i:Int)) * 16807)):=cE (mul_right (by decide) (by decide))
  refine ⟨_,[some (.int c),some (.int b),some (.int (n:Nat)),some (.list ((l ++ [_]).map .int)),some (.int (0 + (i:Int))),some (.int ((c % 1000003 * 48271 + (0 + (i:Int)) * (0 + (i:Int)) * 69621 + (0 + (i:Int)) * 16807) % 2147483647))],rfl,
   b7 [some (.int c),some (.int b),some (.int (n:Nat)),some (.list (l.map .int)),some (.int (0 + (i:Int))),some (.int ((c % 1000003 * 48271 + (0 + (i:Int)) * (0 + (i:Int)) * 69621 + (0 + (i:Int)) * 16807) % 2147483647))]
    (aD (ah (ah (ah (ah (ah rfl rfl (eO (by decide))) rfl m1) (ah (ah rfl rfl m2) rfl m3) rfl) (ah rfl rfl m4) rfl) rfl (eO (by decide))))
    ((oo (d:=.int (((c % 1000003 * 48271 + (0 + (i:Int)) * (0 + (i:Int)) * 69621 + (0 + (i:Int)) * 16807) % 2147483647 * 39373 + c) % 2147483629 / 13 % b)) rfl
      (ah (ah (ah (ah (ah rfl rfl (cE (mul_right (by decide) (by decide)))) rfl rfl) rfl (eO (by decide))) rfl (oR (by decide) (bo (c8 (m:=4) (by decide)) (by decide)))) rfl (eO hb)) (by simp; omega)).trans (by rw [ZI]; rfl)),l ++ [_],_,_,rfl,by simp [hl],?_⟩
  intro z hz
  rcases ZC.mp hz with q | q
  .exact hx z q
  .rw [ZW.mp q]
   exact ⟨Z2 _ (by omega),ZO _ hb⟩
 .rintro δ' ⟨l,x,y,rfl,hl,hx⟩
  exact ret (.list (l.map .int)) rfl (.mk rfl ⟨l,rfl,hl,hx⟩)
theorem uS (c b:Int) (n:Nat) (hb:0 < b) (TY:bt b<=9000) (hn:n<=1000):dj (fK [.int c,.int b,.int (n:Nat)]) λds=>∃ l:List Int,ds=l.map .int /\ l.length=n /\ ∀ x∈l,0<=x /\ x < b:=by
 rw [uP]
 refine aB [some (.int c),some (.int b),some (.int (n:Nat)),some (.list []),none] rfl ?_
 refine je 0 n (λi δ=>∃ (c:Int) (l:List Int) (x:Option D),δ=[some (.int c),some (.int b),some (.int (n:Nat)),some (.list (l.map .int)),x] /\ l.length=i /\ ∀ x∈l,0<=x /\ x < b) (lz rfl (by omega)) ⟨c,[],none,rfl,rfl,by simp⟩ ?_ ?_
 .rintro i δ hi ⟨c,l,x,rfl,hl,hx⟩
  refine ⟨_,[some (.int (c / b)),some (.int b),some (.int (n:Nat)),some (.list ((l ++ [c % b]).map .int)),some (.int (0 + (i:Int)))],rfl,
   b7 [some (.int c),some (.int b),some (.int (n:Nat)),some (.list ((l ++ [c % b]).map .int)),some (.int (0 + (i:Int)))] ((oo (d:=.int (c % b)) rfl (ah rfl rfl (eO hb)) (by simp; omega)).trans (by rw [ZI]; rfl)) (aD (ah rfl rfl (oR hb TY))),c / b,l ++ [c % b],_,rfl,by simp [hl],?_⟩
  intro z hz
  rcases ZC.mp hz with q | q
  .exact hx z q
  .rw [ZW.mp q]
   exact ⟨Z2 _ (by omega),ZO _ hb⟩
 .rintro δ' ⟨c,l,x,rfl,hl,hx⟩
  exact ret (.list (l.map .int)) rfl (.mk rfl ⟨l,rfl,hl,hx⟩)
theorem A7 {f:D->Option (Option D)} (hf:∀ (k:Nat) (x:Int),∃ b:Bool,f (.tuple [.int (k:Nat),.int x])=some (if b=true then some (.int x) else none)):∀ (l:List Int) (n:Nat),∃ m:List Int,qA f (((l.map PyData.int).zipIdx n).map λp=>.tuple [.int (p.2:Nat),p.1])=some (m.map .int) /\ m.Sublist l
 | [],n=>⟨[],rfl,.slnil⟩
 | x :: l,n=>by
   obtain ⟨m,e,hs⟩:=A7 hf l (n + 1)
   obtain ⟨b,hb⟩:=hf n x
   rw [Zn,List.zipIdx_cons,Zn,qA,hb,Za,e,Za]
   cases b with
   | true=>exact ⟨x :: m,rfl,hs.cons₂ x⟩
   | false=>exact ⟨m,rfl,hs.cons x⟩
theorem zC {l:List Int} {i:Int} (h0:0<=i) (h1:i < l.length):∃ x,x∈l /\ aO (.list (l.map .int)) (.int i)=some (.int x):=by
 obtain ⟨k,rfl⟩:∃ k:Nat,i=(k:Int):=⟨i.toNat,by omega⟩
 have hk:k < l.length:=by omega
 exact ⟨l[k],aae hk,d8 (by rw [Zl,Y4 hk]; rfl)⟩
theorem T1:led [0]=[0,1]:=Kj (by simp) (by intro z; simp)
theorem IF {i:Int} {T:List Int}:Mq (.int i) (.list (T.map .int))=some (.bool (decide (i∈T))):=by
 have hf:(kq (.int i) && (T.map PyData.int).all kq)=true:=by simp [kq]
 show (if (kq (.int i) && (T.map PyData.int).all kq)=true then some (PyData.bool ((T.map PyData.int).any λz=>Mp z (.int i))) else none)=_
 rw [Zk hf,List.any_map]
 congr 2
 rw [Bool.eq_iff_iff,List.any_eq_true,ZL]
 constructor
 .rintro ⟨x,hx,e⟩
  rw [Function.comp,Ay,ZL] at e
  rw [<- e]; exact hx
 .intro h
  exact ⟨i,h,by rw [Function.comp,Ay]; simp⟩
theorem EX {i:Int} {T:List Int}:Mq (.int i) (dR T)=some (.bool (decide (i∈T))):=IF
theorem dd {a:Int} (b:Int) (h:0 < b) (h2:b.natAbs < 2 ^ 70):dQ (.int a) (.int b)=some (.int (a / b)):=oR h (bo (c8 h2) (by decide))
theorem Nl {a b:DS->Option D} {δ:DS} {x y:Bool} (h1:a δ=some (.bool x)) (h2:x=true->b δ=some (.bool y)):qg a b δ=some (.bool (x && y)):=by
 unfold qg
 rw [dE h1,Za]
 cases x with
 | true=>rw [Zk rfl,h2 rfl]; rfl
 | false=>rfl
theorem EY {p:List (List Int)} {i:Int} (h0:0<=i) (h1:i < (p.length:Int)):aO (cM p) (.int i)=some (dR (p.getD i.toNat [])):=by
 obtain ⟨k,rfl⟩:∃ k:Nat,i=(k:Int):=⟨i.toNat,by omega⟩
 have hk:k < p.length:=by omega
 refine d8 ?_
 rw [Zl,ZD,Y9,Y4 hk]
 rfl
theorem zD (c:Int):∃ m:Nat,1<=m /\ m<=12 /\ jA [.int c]=some (.int (m:Nat)):=by
 by_cases h:c / 7 % 8=1
 .have h0:=Z2 (c / 56) (b:=12) (by decide)
  have h1:=ZO (c / 56) (show (0:Int) < 12 by decide)
  refine ⟨(1 + c / 56 % 12).toNat,by omega,by omega,?_⟩
  rw [qX]
  refine aY (jx true (dE (b:=true) ?_) (λ_=>ly (.int (1 + c / 56 % 12)) (ah rfl (ah (ah rfl rfl (dd 56 (by decide) (by decide))) rfl (eO (by decide))) rfl) (.mk rfl ?_)) λz=>nomatch z)
  .refine (ah (ah (ah rfl rfl (dd 7 (by decide) (by decide))) rfl (eO (by decide))) rfl rfl).trans ?_
   rw [qT,Zu h]
  .rw [show (((1 + c / 56 % 12).toNat:Nat):Int)=1 + c / 56 % 12 by omega]
 .have h0:=Z2 c (b:=7) (by decide)
  have h1:=ZO c (show (0:Int) < 7 by decide)
  refine ⟨(1 + c % 7).toNat,by omega,by omega,?_⟩
  rw [qX]
  refine aY (qS (dE (b:=false) ?_) (ret (.int (1 + c % 7)) (ah rfl (ah rfl rfl (eO (by decide))) rfl) (.mk rfl ?_)))
  .refine (ah (ah (ah rfl rfl (dd 7 (by decide) (by decide))) rfl (eO (by decide))) rfl rfl).trans ?_
   rw [qT,Zr h]
  .rw [show (((1 + c % 7).toNat:Nat):Int)=1 + c % 7 by omega]
abbrev WF:=Int->Int->Int
def dC (c:Int×Int):D:=.tuple [.int c.1,.int c.2]
def cU (F:WF) (c:Int×Int):WF:=λx y=>F x y + (if x=c.1 + 1 /\ y=c.2 then F c.1 c.2 else 0) + (if x=c.1 /\ y=c.2 + 1 then F c.1 c.2 else 0)
def j6 (c:Int×Int):WF:=λx y=>if x=c.1 /\ y=c.2 then 1 else 0
def ia (n:Nat) (r:List Int):List (Int×Int):=r.map λb=>(b,(n:Int) - b)
def bq:Nat->List (List Int)->List (Int×Int)
 | _,[]=>[]
 | n,r :: p=>ia n r ++ bq (n + 1) p
theorem g6 (r:List Int):∀ (p:List (List Int)) (n:Nat),bq n (p ++ [r])=bq n p ++ ia (n + p.length) r
 | [],n=>by simp [bq]
 | s :: p,n=>by
   rw [abi,bq,bq,g6 r p (n + 1),acN,Zp,show n + 1 + p.length=n + (p.length + 1) by omega]
theorem qY:∀ (p:List (List Int)) (n:Nat),(∀ r∈p,r.length<=25)->(bq n p).length<=25 * p.length
 | [],_,_=>by simp [bq]
 | r :: p,n,h=>by
   have h1:=qY p (n + 1) λs hs=>h s (Y8 _ hs)
   have h2:=h r Zb
   rw [bq,Zz,Zp,ia,Y7]
   omega
def lv (A:Int->Int) (r:List Int) (b:Int):Int:=(if b - 1∈r then A (b - 1) else 0) + (if b∈r then A b else 0)
theorem EZ (A:Int->Int) (b:Int):lv A [] b=0:=by simp [lv]
theorem E1 {A:Int->Int} {r s:List Int} (h:∀ x,x∈r↔x∈s) (b:Int):lv A r b=lv A s b:=by simp only [lv,h]
def WW:(Int->Int)->List (List Int)->Nat->Int->Int
 | A,_,0,b=>A b
 | _,[],_ + 1,_=>0
 | A,r :: p,k + 1,b=>WW (lv A r) p k b
theorem WW_0 (A:Int->Int) (p:List (List Int)):WW A p 0=A:=by funext b; cases p <;> rfl
theorem jD:∀ (p:List (List Int)) (A:Int->Int) (k:Nat) (b:Int),WW A p (k + 1) b=lv (WW A p k) (p.getD k []) b
 | [],A,k,b=>by
   rw [show ([]:List (List Int)).getD k []=[] from rfl,EZ]; rfl
 | r :: p,A,0,b=>by
   show WW (lv A r) p 0 b=lv (WW A (r :: p) 0) r b
   rw [WW_0,WW_0]
 | r :: p,A,k + 1,b=>by
   show WW (lv A r) p (k + 1) b=lv (WW (lv A r) p k) (p.getD k []) b
   exact jD p (lv A r) k b
structure Qn (n:Nat) (F:WF) (A B:Int->Int):Prop where
 RG:∀ x y:Int,x + y=(n:Int)->F x y=A x
 Vr:∀ x y:Int,x + y=(n:Int) + 1->F x y=B x
 up:∀ x y:Int,(n:Int) + 1 < x + y->F x y=0
theorem E2 {n:Nat} {F:WF} {A:Int->Int} {bs:List Int} {b:Int} (h:Qn n F A (lv A bs)) (hb:b∉bs):Qn n (cU F (b,(n:Int) - b)) A (lv A (b :: bs)) /\ ∀ x y:Int,x + y < (n:Int)->cU F (b,(n:Int) - b) x y=F x y:=by
 have e:∀ x y,cU F (b,(n:Int) - b) x y=F x y + (if x=b + 1 /\ y=(n:Int) - b then A b else 0) + (if x=b /\ y=(n:Int) - b + 1 then A b else 0):=by
  intro x y
  unfold cU
  rw [h.RG b ((n:Int) - b) (by omega)]
 refine ⟨⟨?_,?_,?_⟩,?_⟩
 .intro x y B6
  rw [e,Zj (by omega),Zj (by omega),h.RG x y B6]; omega
 .intro x y B6
  rw [e,h.Vr x y B6]
  have e1:(x=b + 1 /\ y=(n:Int) - b)↔x - 1=b:=by constructor <;> intro z <;> omega
  have e2:(x=b /\ y=(n:Int) - b + 1)↔x=b:=by constructor <;> intro z <;> omega
  simp only [e1,e2,lv,Y6]
  by_cases c1:x - 1=b
  .have c2:¬ x=b:=by omega
   have c3:x - 1∉bs:=by rw [c1]; exact hb
   simp only [c1,c2,true_or,false_or,aaW,aaN,Zj hb]
   omega
  .by_cases c2:x=b
   .subst c2
    simp only [c1,true_or,false_or,aaW,aaN,Zj hb]
    omega
   .simp only [c1,c2,false_or,aaN]
    omega
 .intro x y B6
  rw [e,Zj (by omega),Zj (by omega),h.up x y B6]; rfl
 .intro x y B6
  rw [e,Zj (by omega),Zj (by omega)]; omega
theorem A8 {n:Nat} {A:Int->Int}:∀ (r bs:List Int) (F:WF),Qn n F A (lv A bs)->(∀ x∈r,x∉bs)->r.Nodup->Qn n ((ia n r).foldl cU F) A (lv A (r ++ bs)) /\ ∀ x y:Int,x + y < (n:Int)->(ia n r).foldl cU F x y=F x y
 | [],bs,F,h,_,_=>⟨h,λ_ _ _=>rfl⟩
 | b :: r,bs,F,h,hd,nd=>by
   obtain ⟨h1,h2⟩:=E2 h (hd b Zb)
   obtain ⟨n1,n2⟩:=ack.mp nd
   obtain ⟨h3,h4⟩:=A8 r (b :: bs) _ h1 (λx hx z=>by
    rcases Y6.mp z with q | q
    .subst q; exact n1 hx
    .exact hd x (Y8 _ hx) q) n2
   refine ⟨?_,λx y B6=>(h4 x y B6).trans (h2 x y B6)⟩
   have:lv A (r ++ b :: bs)=lv A ((b :: r) ++ bs):=by
    funext x
    exact E1 (λz=>by simp only [ZC,Y6,abi]; constructor <;> rintro (q | q | q) <;> simp [q]) x
   rw [<- this]
   exact h3
theorem qZ:∀ (p:List (List Int)) (n:Nat) (A:Int->Int) (F:WF),(∀ r∈p,r.Nodup)->(∀ x y:Int,x + y=(n:Int)->F x y=A x)->(∀ x y:Int,(n:Int) < x + y->F x y=0)->
  ∀ x y:Int,(x + y < (n:Int)->(bq n p).foldl cU F x y=F x y) /\ ∀ k:Nat,x + y=(n:Int) + (k:Int)->(bq n p).foldl cU F x y=WW A p k x
 | [],n,A,F,_,h0,h1,x,y=>by
   refine ⟨λ_=>rfl,λk hk=>?_⟩
   show F x y=_
   cases k with
   | zero=>rw [WW_0]; exact h0 x y (by omega)
   | succ k=>exact h1 x y (by omega)
 | r :: p,n,A,F,hn,h0,h1,x,y=>by
   have L0:Qn n F A (lv A []):=⟨h0,λx y q=>by rw [EZ]; exact h1 x y (by omega),λx y q=>h1 x y (by omega)⟩
   obtain ⟨L1,K1⟩:=A8 r [] F L0 (λx _ z=>by simp at z) (hn r Zb)
   rw [Z7] at L1
   have ih:=qZ p (n + 1) (lv A r) ((ia n r).foldl cU F) (λs hs=>hn s (Y8 _ hs)) (λx y q=>L1.Vr x y (by push_cast at q; omega)) (λx y q=>L1.up x y (by push_cast at q; omega)) x y
   rw [bq,abw]
   refine ⟨λq=>(ih.1 (by push_cast; omega)).trans (K1 x y q),λk hk=>?_⟩
   cases k with
   | zero=>
     rw [WW_0,ih.1 (by push_cast; omega)]
     exact L1.RG x y (by omega)
   | succ k=>exact ih.2 k (by push_cast; push_cast at hk; omega)
theorem gS {l:List Int} (h:iL l):l.Nodup:=h.imp λz e=>by omega
theorem A9:∀ {q:List (List Int)} {r:List Int} {n:Nat},(∀ x∈r,0<=x /\ x<=(n:Int))->EW r q->(∀ s∈q,s.Nodup) /\ ∀ k,∀ x∈q.getD k [],0<=x /\ x<=((n + 1 + k:Nat):Int)
 | [],_,_,_,_=>⟨by simp,λk x hx=>by simp at hx⟩
 | s :: q,r,n,hr,hc=>by
   have hs:∀ x∈s,0<=x /\ x<=((n + 1:Nat):Int):=λx hx=>by
    rcases f7.mp (hc.1.2.2 x hx) with h | h
    .have:=hr x h; omega
    .have:=hr _ h; omega
   obtain ⟨i1,i2⟩:=A9 (n:=n + 1) hs hc.2
   refine ⟨λt ht=>?_,λk x hx=>?_⟩
   .rcases Y6.mp ht with z | z
    .rw [z]; exact gS hc.1.2.1
    .exact i1 t z
   .cases k with
    | zero=>exact hs x (by simpa using hx)
    | succ k=>
      have:=i2 k x (by simpa using hx)
      omega
theorem nI {p:List (List Int)} (h:Pl p):(∀ s∈p,s.Nodup) /\ ∀ k,∀ x∈p.getD k [],0<=x /\ x<=(k:Int):=by
 obtain ⟨q,rfl,hc⟩:=h.ex
 obtain ⟨i1,i2⟩:=A9 (q:=q) (r:=[0]) (n:=0) (by simp) hc
 refine ⟨λs hs=>?_,λk x hx=>?_⟩
 .rcases Y6.mp hs with z | z
  .rw [z]; simp
  .exact i1 s z
 .cases k with
  | zero=>simp at hx; subst hx; simp
  | succ k=>
    have:=i2 k x (by simpa using hx)
    omega
structure Dt (kds:List (D×D)) (F:WF):Prop where
 fn:BP kds=false
 T3:∀ b g:Int,(cq kds [.inl b,.inl g]).getD (.int 0)=.int (F b g)
instance {kds:List (D×D)} {F:WF}:CoeFun (Dt kds F) (λ_=>∀ b g:Int,(cq kds [.inl b,.inl g]).getD (.int 0)=.int (F b g)):=⟨Dt.T3⟩
theorem IG {kds:List (D×D)} {k:List Key} {d:D} (h:BP kds=false):BP (gj kds k d)=false:=by
 unfold gj
 split
 .cases kds with
  | nil=>rfl
  | cons p r=>
    obtain ⟨p1,p2⟩:=p
    rw [Zn]
    split <;> (cases p1 with
     | list l=>
       cases l with
       | nil=>cases h
       | cons _ _=>rfl
     | _=>rfl)
 .cases kds with
  | nil=>rfl
  | cons p r=>
    obtain ⟨p1,p2⟩:=p
    cases p1 with
    | list l=>
      cases l with
      | nil=>cases h
      | cons _ _=>rfl
    | _=>rfl
theorem kH {gd gk ge:DS->Option D} {δ:DS} {kds:List (D×D)} {c:Int×Int} {z:D} (h1:gd δ=some (.dict kds)) (h2:gk δ=some (dC c)) (h3:ge δ=some z) (hf:BP kds=false:=by first | assumption | exact Dt.fn (by assumption)):l7 gd gk ge δ=some ((cq kds [.inl c.1,.inl c.2]).getD z):=by
 unfold l7; rw [h1,h2,h3]
 show (if BP kds=true then none else _)=_
 rw [hf]; rfl
theorem uT {gd gk:DS->Option D} {δ:DS} {kds:List (D×D)} {c:Int×Int} (h1:gd δ=some (.dict kds)) (h2:gk δ=some (dC c)) (hf:BP kds=false:=by first | assumption | exact Dt.fn (by assumption)):qC gd gk δ=cq kds [.inl c.1,.inl c.2]:=by
 unfold qC; rw [h1,h2]
 show (if BP kds=true then none else _)=_
 rw [hf]; rfl
theorem pL {i:Nat} {gk ge:DS->Option D} {δ:DS} {kds:List (D×D)} {c:Int×Int} {d:D} (h1:ae i δ=some (.dict kds)) (h2:gk δ=some (dC c)) (h3:ge δ=some d) (h4:kds.length < 100000):ti i gk ge δ=some (.nx (δ.set i (some (.dict (gj kds [.inl c.1,.inl c.2] d))))):=by
 unfold ti; rw [h1,h2,h3]
 show (if kds.length < 100000 then _ else _)=_
 rw [Zk h4]
theorem E3 {b g x y:Int}:(([.inl b,.inl g]:List Key)=[.inl x,.inl y])↔b=x /\ g=y:=by simp
theorem Qo {t:D->DS->Option DS} {b:DS->Option Res} {d1 d2:D} {δ:DS} (fD RI Vs Vt:DS) (h1:t d1 δ=some fD) (h2:b fD=some (.nx RI)) (h3:t d2 RI=some Vs) (h4:b Vs=some (.nx Vt)):j5 t b [d1,d2] δ=some (.nx Vt):=by
 simp only [j5,h1,h2,h3,h4,Za]
theorem Dt.put {kds:List (D×D)} {F:WF} (h:Dt kds F) (x y v:Int):Dt (gj kds [.inl x,.inl y] (.int v)) (λb g=>if b=x /\ g=y then v else F b g):=by
 refine ⟨IG h.fn,λb g=>?_⟩
 show _=PyData.int (if b=x /\ g=y then v else F b g)
 rw [Cd]
 by_cases e:b=x /\ g=y
 .rw [Zk (E3.mpr e),Zk e]; rfl
 .rw [Zj (λz=>e (E3.mp z)),Zj e]; exact h b g
theorem zE {i:Nat} {g:DS->Option (List D)} {δ:DS} {ds zs:List D} (h1:ae i δ=some (.list ds)) (h2:g δ=some zs) (h3:ds.length + zs.length<=100000):BY i g δ=some (.nx (δ.set i (some (.list (ds ++ zs))))):=by
 unfold BY
 rw [h1,h2]
 show (if ds.length + zs.length<=100000 then _ else _)=_
 rw [Zk h3]
theorem IH (p:List (List Int)):i9 (p.map dR)=p.zipIdx.map λx=>.tuple [.int (x.2:Nat),dR x.1]:=by
 unfold i9
 rw [List.zipIdx_map,aay]
 rfl
theorem zF {p:List (List Int)} (hl:p.length<=24) (j8:∀ r∈p,r.length<=25):hV [cM p]=some ((bq 0 p).map dC):=by
 rw [zt]
 refine aY ?_
 refine aB [some (cM p),some (.list []),none,none] rfl ?_
 refine iq (λx:List Int×Nat=>PyData.tuple [.int (x.2:Nat),dR x.1]) p.zipIdx (λi δ=>∃ a b,δ=[some (cM p),some (.list ((bq 0 (p.take i)).map dC)),a,b]) ?_ ⟨none,none,rfl⟩ ?_ ?_
 .show some (i9 (p.map dR))=_
  rw [IH]
 .rintro i ⟨r,n⟩ δ hi ⟨a,b,rfl⟩
  rw [aa7] at hi
  cases er:p[i]? with
  | none=>rw [er] at hi; cases hi
  | some r'=>
    rw [er] at hi
    simp only [Z0,aas,aa4,abq] at hi
    obtain ⟨rfl,rfl⟩:=hi
    have Km:=(Zd.mp er).1
    have hr:=j8 r' (Zq er)
    have ht:p.take (i + 1)=p.take i ++ [r']:=by
     rw [Z4,er]; rfl
    have II:(p.take i).length=i:=by rw [ZH]; omega
    have T4:=qY (p.take i) 0 λs hs=>j8 s (Z5 hs)
    refine ⟨_,[some (cM p),some (.list ((bq 0 (p.take (i + 1))).map dC)),some (.int (i:Nat)),some (dR r')],rfl,?_,_,_,rfl⟩
    have hc:eM (bb (ae 3)) [2] (aQ (aa (ae 0) (aa (g2 cy (ae 1) (ae 0)) af))) [some (cM p),some (.list ((bq 0 (p.take i)).map dC)),some (.int (i:Nat)),some (dR r')]=some ((r'.map λb=>(b,(i:Int) - b)).map dC):=
     ir PyData.int dC (λb=>(b,(i:Int) - b)) r' rfl (by omega) λx _=>rfl
    refine (zE rfl hc (by simp only [Y7]; omega)).trans ?_
    rw [ht,g6,II,aas,ZI]
    rfl
 .rintro δ' ⟨a,b,rfl⟩
  refine ret (.list ((bq 0 p).map dC)) ?_ (.mk rfl rfl)
  rw [acA,Z8]
  rfl
theorem E4 {a b:Str} (ha:PyData.strOk a=true) (hb:PyData.strOk b=true) {c:Bool} (hc:(a == b)=c):rS (.str a) (.str b)=some (.bool c):=by
 unfold rS
 simp [SeqAt.shaped,PyData.canLay0,PyData.depth,PyData.eqv,ha,hb,hc]
theorem Cw (c:Int×Int):fZ [dC c,.str "b"]=some (dC (c.1 + 1,c.2)):=by
 rw [A6]
 exact aY (jx true (dE (b:=true) (ah rfl rfl (E4 (by decide +kernel) (by decide +kernel) (by decide +kernel)))) (λ_=>ly (dC (c.1 + 1,c.2)) rfl (.mk rfl rfl)) λz=>nomatch z)
theorem Cy (c:Int×Int):fZ [dC c,.str "g"]=some (dC (c.1,c.2 + 1)):=by
 rw [A6]
 exact aY (qS (dE (b:=false) (ah rfl rfl (E4 (by decide +kernel) (by decide +kernel) (by decide +kernel)))) (ret (dC (c.1,c.2 + 1)) rfl (.mk rfl rfl)))
theorem xG {p:List (List Int)} (hl:p.length<=24) (j8:∀ r∈p,r.length<=25) (c:Int×Int):∃ kds,gm [cM p,dC c]=some (.dict kds) /\ Dt kds ((bq 0 p).foldl cU (j6 c)):=by
 have n6:=qY p 0 j8
 have main:dj (gm [cM p,dC c]) λd=>∃ kds,d=.dict kds /\ Dt kds ((bq 0 p).foldl cU (j6 c)):=by
  rw [xu]
  refine aB [some (cM p),some (dC c),some (.dict [(dC c,.int 1)]),none,none,none] rfl ?_
  refine iq dC (bq 0 p) (λi δ=>∃ kds a b e,δ=[some (cM p),some (dC c),some (.dict kds),a,b,e] /\ Dt kds (((bq 0 p).take i).foldl cU (j6 c)) /\ kds.length<=1 + 2 * i) ?_ ⟨_,_,_,_,rfl,?_,by simp⟩ ?_ ?_
  .have ec:bJ (c6 hV 1 (aa (ae 0) af)) [some (cM p),some (dC c),some (.dict [(dC c,.int 1)]),none,none,none]=some (.list ((bq 0 p).map dC)):=bH (eP (cons_of rfl rfl) rfl (zF hl j8))
   unfold bb
   rw [ec]
   rfl
  .refine ⟨rfl,λb g=>?_⟩
   have:gj [] [.inl c.1,.inl c.2] (.int 1)=[(dC c,.int 1)]:=rfl
   rw [<- this]
   exact (Dt.put (kds:=[]) (F:=λ_ _=>0) ⟨rfl,λb g=>rfl⟩ c.1 c.2 1) b g
  .rintro i k δ hi ⟨kds,a,b,e,rfl,hd,hlen⟩
   have Km:=(Zd.mp hi).1
   obtain ⟨F,hF⟩:∃ F,F=((bq 0 p).take i).foldl cU (j6 c):=⟨_,rfl⟩
   rw [<- hF] at hd
   have E5:((bq 0 p).take (i + 1)).foldl cU (j6 c)=cU F k:=by
    rw [Z4,hi,abw,<- hF]; rfl
   obtain ⟨k1,yk⟩:∃ k1,k1=gj kds [.inl (k.1 + 1),.inl k.2] (.int (F (k.1 + 1) k.2 + F k.1 k.2)):=⟨_,rfl⟩
   have D3:=hd.put (k.1 + 1) k.2 (F (k.1 + 1) k.2 + F k.1 k.2)
   rw [<- yk] at D3
   have hd2:=D3.put k.1 (k.2 + 1) (F k.1 (k.2 + 1) + F k.1 k.2)
   have l1:k1.length<=kds.length + 1:=by rw [yk]; exact lq _ _ _
   have l2:=lq k1 [.inl k.1,.inl (k.2 + 1)] (.int (F k.1 (k.2 + 1) + F k.1 k.2))
   refine ⟨_,[some (cM p),some (dC c),some (.dict (gj k1 [.inl k.1,.inl (k.2 + 1)] (.int (F k.1 (k.2 + 1) + F k.1 k.2)))),some (dC k),some (.int (F k.1 k.2)),some (dC (k.1,k.2 + 1))],rfl,?_,_,_,_,_,rfl,?_,by omega⟩
   .refine b7 [some (cM p),some (dC c),some (.dict kds),some (dC k),some (.int (F k.1 k.2)),e] (aD ((kH rfl rfl rfl).trans (aam some (hd k.1 k.2)))) ?_
    unfold eI
    have hit:bb (aQ (aa (ay fZ 2 (aa (ae 3) (aa (gC (.str "b")) af))) (aa (ay fZ 2 (aa (ae 3) (aa (gC (.str "g")) af))) af))) [some (cM p),some (dC c),some (.dict kds),some (dC k),some (.int (F k.1 k.2)),e]=some [dC (k.1 + 1,k.2),dC (k.1,k.2 + 1)]:=by
     have e1:ay fZ 2 (aa (ae 3) (aa (gC (.str "b")) af)) [some (cM p),some (dC c),some (.dict kds),some (dC k),some (.int (F k.1 k.2)),e]=some (dC (k.1 + 1,k.2)):=call_of (cons_of rfl (cons_of rfl rfl)) rfl (Cw k)
     have e2:ay fZ 2 (aa (ae 3) (aa (gC (.str "g")) af)) [some (cM p),some (dC c),some (.dict kds),some (dC k),some (.int (F k.1 k.2)),e]=some (dC (k.1,k.2 + 1)):=call_of (cons_of rfl (cons_of rfl rfl)) rfl (Cy k)
     unfold bb aQ
     rw [cons_of e1 (cons_of e2 rfl)]
     rfl
    rw [hit,Za]
    refine Qo [some (cM p),some (dC c),some (.dict kds),some (dC k),some (.int (F k.1 k.2)),some (dC (k.1 + 1,k.2))] [some (cM p),some (dC c),some (.dict k1),some (dC k),some (.int (F k.1 k.2)),some (dC (k.1 + 1,k.2))] [some (cM p),some (dC c),some (.dict k1),some (dC k),some (.int (F k.1 k.2)),some (dC (k.1,k.2 + 1))] _ rfl ?_ rfl ?_
    .refine (pL (c:=(k.1 + 1,k.2)) rfl rfl (ah ((kH (c:=(k.1 + 1,k.2)) rfl rfl rfl).trans (aam some (hd (k.1 + 1) k.2))) rfl rfl) (by omega)).trans ?_
     rw [yk]; rfl
    .have h5:(cq k1 [.inl k.1,.inl (k.2 + 1)]).getD (.int 0)=.int (F k.1 (k.2 + 1)):=by
      have:=D3 k.1 (k.2 + 1)
      rw [this]
      show PyData.int (if k.1=k.1 + 1 /\ k.2 + 1=k.2 then _ else _)=_
      rw [Zj (by omega)]
     exact pL (c:=(k.1,k.2 + 1)) rfl rfl (ah ((kH (c:=(k.1,k.2 + 1)) rfl rfl rfl).trans (aam some h5)) rfl rfl) (by omega)
   .rw [E5]
    refine ⟨hd2.fn,λx y=>?_⟩
    rw [hd2 x y]
    congr 1
    show (if x=k.1 /\ y=k.2 + 1 then _ else if x=k.1 + 1 /\ y=k.2 then _ else F x y)=F x y + _ + _
    by_cases c1:x=k.1 /\ y=k.2 + 1
    .rw [Zk c1,Zk c1,Zj (by omega),c1.1,c1.2]; omega
    .rw [Zj c1,Zj c1]
     by_cases c2:x=k.1 + 1 /\ y=k.2
     .rw [Zk c2,Zk c2,c2.1,c2.2]; omega
     .rw [Zj c2,Zj c2]; omega
  .rintro δ' ⟨kds,a,b,e,rfl,hd,_⟩
   rw [Z8] at hd
   exact ret (.dict kds) rfl (.mk rfl ⟨kds,rfl,hd⟩)
 obtain ⟨_,e,kds,rfl,hd⟩:=main
 exact ⟨kds,e,hd⟩
def A0:Int->Int:=λb=>if b=0 then 1 else 0
theorem E6 {p:List (List Int)} (h:Pl p) {x y:Int} {k:Nat} (e:x + y=(k:Int)):(bq 0 p).foldl cU (j6 (0,0)) x y=WW A0 p k x:=by
 refine (qZ p 0 A0 (j6 (0,0)) (nI h).1 ?_ ?_ x y).2 k (by push_cast; omega)
 .intro x y q
  unfold j6 A0
  by_cases c:x=0
  .rw [Zk ⟨c,by push_cast at q; show y=0; omega⟩,Zk c]
  .rw [Zj (λz=>c z.1),Zj c]
 .intro x y q
  unfold j6
  rw [Zj]
  rintro ⟨z1,z2⟩
  have Xm:x=0:=z1
  have Xn:y=0:=z2
  push_cast at q
  omega
theorem E7 {α β:Type} (enc:α->D) (ma:β->D) (h:α->β) (P:α->Bool) {f:D->Option (Option D)}:∀ l:List α,(∀ a∈l,f (enc a)=some (if P a=true then some (ma (h a)) else none))->qA f (l.map enc)=some (((l.filter P).map h).map ma)
 | [],_=>rfl
 | a :: l,q=>by
   have ih:=E7 enc ma h P l λb hb=>q b (Y8 _ hb)
   rw [Zn,qA,q a Zb,Za,ih,Za,abj]
   cases P a <;> rfl
theorem ra {α β:Type} (enc:α->D) (ma:β->D) (h:α->β) (P:α->Bool) {gi:DS->Option (List D)} {ix:List Nat} {gc:DS->Option Bool} {ge:DS->Option D} {δ:DS} (l:List α) (hi:gi δ=some (l.map enc)) (hl:l.length<=100000)
  (hc:∀ a∈l,gc (some (enc a) :: gg ix δ)=some (P a)) (he:∀ a∈l,P a=true->ge (some (enc a) :: gg ix δ)=some (ma (h a))):dS gi 1 ix (aR 0) gc ge δ=some (((l.filter P).map h).map ma):=by
 unfold dS
 rw [hi,Za,Zk (by rw [Y7]; exact hl)]
 refine E7 enc ma h P l λa ha=>?_
 show (Option.bind (some (some (enc a) :: gg ix δ)) _)=_
 rw [Za,hc a ha,Za]
 cases q:P a with
 | true=>rw [Zk rfl,Zk rfl,he a ha q]; rfl
 | false=>rfl
theorem IJ {f f':D->D->Option D} {a b c:DS->Option D} {δ:DS} {x y w:D} {u v:Bool} (h1:a δ=some x) (h2:b δ=some y) (h3:f x y=some (.bool u)) (h4:c δ=some w) (h5:f' y w=some (.bool v)):nZ f f' a b c δ=some (.bool (u && v)):=by
 unfold nZ
 rw [h1,h2]
 simp only [Za,h3]
 cases u with
 | true=>simp only [h4,Za,h5,abb]
 | false=>rfl
theorem E8 {r:List Int} (h:r.length < 32):jg [dR r]=some ((led r).map .int):=by
 rw [EU]
 exact aY (ret (.list ((led r).map .int)) (bH (zB (a:=bJ (wH lW (aa (ae 0) af))) (b:=ae 0) (r:=r) rfl (.inr rfl) h)) (.mk rfl rfl))
def xH (p:List (List Int)) (c:Int×Int):Bool:=(decide (0<=c.1 + c.2) && decide (c.1 + c.2 < (p.length:Int))) && decide (c.1∈p.getD (c.1 + c.2).toNat [])
theorem Cz (p:List (List Int)) (c:Int×Int):jf [cM p,dC c]=some (.bool (xH p c)):=by
 rw [Cu]
 refine aY ?_
 refine aB [some (cM p),some (dC c),some (.int (c.1 + c.2))] rfl ?_
 refine ret (.bool (xH p c)) ?_ (.mk rfl rfl)
 refine Nl (x:=decide (0<=c.1 + c.2) && decide (c.1 + c.2 < (p.length:Int))) ?_ λh=>?_
 .have e2:rG (.int (c.1 + c.2)) (.int (((p.map dR).length:Nat):Int))=some (.bool (decide (c.1 + c.2 < (p.length:Int)))):=by
   rw [Y7]; rfl
  exact IJ rfl rfl rfl rfl e2
 .rw [ZE,ZL,ZL] at h
  exact ah rfl (ah rfl rfl (EY h.1 h.2)) EX
theorem lC:∀ (p:List (List Int)) (n:Nat),(∀ r∈p,r.length<=50)->(bq n p).length<=50 * p.length
 | [],_,_=>by simp [bq]
 | r :: p,n,h=>by
   have h1:=lC p (n + 1) λs hs=>h s (Y8 _ hs)
   have h2:=h r Zb
   rw [bq,Zz,Zp,ia,Y7]
   omega
theorem E9 (p:List (List Int)):oN (p.map dR)=(p.zipIdx 1).map λx=>.tuple [.int (x.2:Nat),dR x.1]:=by
 unfold oN
 rw [List.zipIdx_map,aay]
 rfl
theorem Bb (x:Int):∀ l:List Int,(ins x l).length<=l.length + 1
 | []=>by simp [ins]
 | y :: l=>by
   have:=Bb x l
   rw [ins]
   split
   .simp
   .split
    .simp
    .simp only [Zp]; omega
theorem Fb:∀ l:List Int,(ss l).length<=l.length
 | []=>by simp [ss]
 | x :: l=>by
   have h1:=Fb l
   have h2:=Bb x (ss l)
   rw [ss,Zp]; omega
theorem lD {r:List Int}:(led r).length<=2 * r.length:=by
 have h:((led r):List Int).length<=(r ++ r.map (· + 1)).length:=Fb _
 rw [Zz,Y7] at h
 omega
theorem CA {p:List (List Int)} (hl:p.length<=24) (j8:∀ r∈p,r.length<=25):g5 [cM p]=some (((0,0) :: bq 1 (p.map led)).map dC):=by
 rw [Cv]
 refine aY ?_
 refine aB [some (cM p),some (.list [dC (0,0)]),none,none] rfl ?_
 refine iq (λx:List Int×Nat=>PyData.tuple [.int (x.2:Nat),dR x.1]) (p.zipIdx 1) (λi δ=>∃ a b,δ=[some (cM p),some (.list (((0,0) :: bq 1 ((p.take i).map led)).map dC)),a,b]) ?_ ⟨none,none,rfl⟩ ?_ ?_
 .show some (oN (p.map dR))=_
  rw [E9]
 .rintro i ⟨r,n⟩ δ hi ⟨a,b,rfl⟩
  rw [aa7] at hi
  cases er:p[i]? with
  | none=>rw [er] at hi; cases hi
  | some r'=>
    rw [er] at hi
    simp only [Z0,aa4,abq] at hi
    obtain ⟨rfl,rfl⟩:=hi
    have Km:=(Zd.mp er).1
    have hr:=j8 r' (Zq er)
    have ht:p.take (i + 1)=p.take i ++ [r']:=by
     rw [Z4,er]; rfl
    have II:(p.take i).length=i:=by rw [ZH]; omega
    have Vu:(led r').length<=50:=by have:=lD (r:=r'); omega
    have n6:(bq 1 ((p.take i).map led)).length<=1200:=by
     have:=lC ((p.take i).map led) 1 (λs hs=>by
      obtain ⟨t,ht,rfl⟩:=ZG.mp hs
      have:=lD (r:=t)
      have:=j8 t (Z5 ht)
      omega)
     rw [Y7,II] at this
     omega
    refine ⟨_,[some (cM p),some (.list (((0,0) :: bq 1 ((p.take (i + 1)).map led)).map dC)),some (.int ((1 + i:Nat):Int)),some (dR r')],rfl,?_,_,_,rfl⟩
    have hc:eM (bb (bJ (c6 jg 1 (aa (ae 3) af)))) [2] (aQ (aa (ae 0) (aa (g2 cy (ae 1) (ae 0)) af))) [some (cM p),some (.list (((0,0) :: bq 1 ((p.take i).map led)).map dC)),some (.int ((1 + i:Nat):Int)),some (dR r')]=some (((led r').map λb=>(b,((1 + i:Nat):Int) - b)).map dC):=by
     refine ir PyData.int dC (λb=>(b,((1 + i:Nat):Int) - b)) (led r') ?_ (by omega) λx _=>rfl
     have ec:bJ (c6 jg 1 (aa (ae 3) af)) [some (cM p),some (.list (((0,0) :: bq 1 ((p.take i).map led)).map dC)),some (.int ((1 + i:Nat):Int)),some (dR r')]=some (.list ((led r').map .int)):=bH (eP (cons_of rfl rfl) rfl (E8 (by omega)))
     unfold bb
     rw [ec]
     rfl
    refine (zE rfl hc (by simp only [Y7,Zp]; omega)).trans ?_
    have key:bq 1 ((p.take (i + 1)).map led)=bq 1 ((p.take i).map led) ++ ia (1 + i) (led r'):=by
     rw [ht,ZI,show List.map led [r']=[led r'] from rfl,g6,Y7,II]
    simp only [key,Zn,ZI,abi]
    rfl
 .rintro δ' ⟨a,b,rfl⟩
  refine ret (.list (((0,0) :: bq 1 (p.map led)).map dC)) ?_ (.mk rfl rfl)
  rw [acA,Z8]
  rfl
def bz (p:List (List Int)):List (Int×Int):=((0,0) :: bq 1 (p.map led)).filter λc=> !xH p c
theorem Nm {p:List (List Int)} (hl:p.length<=24) (j8:∀ r∈p,r.length<=25):uJ [cM p]=some ((bz p).map dC):=by
 rw [Nj]
 have n6:(bq 1 (p.map led)).length<=1200:=by
  have:=lC (p.map led) 1 (λs hs=>by
   obtain ⟨t,ht,rfl⟩:=ZG.mp hs
   have:=lD (r:=t)
   have:=j8 t ht
   omega)
  rw [Y7] at this
  omega
 have hc:dS (bb (bJ (c6 g5 1 (aa (ae 0) af)))) 1 [0] (aR 0) (j4 (il (ay jf 2 (aa (ae 1) (aa (ae 0) af))))) (ae 0) [some (cM p)]=some (((((0,0) :: bq 1 (p.map led)).filter λc=> !xH p c).map id).map dC):=by
  refine ra dC dC id (λc=> !xH p c) ((0,0) :: bq 1 (p.map led)) ?_ (by simp only [Zp]; omega) (λc _=>?_) λc _ _=>rfl
  .have ec:bJ (c6 g5 1 (aa (ae 0) af)) [some (cM p)]=some (.list (((0,0) :: bq 1 (p.map led)).map dC)):=bH (eP (cons_of rfl rfl) rfl (CA hl j8))
   unfold bb
   rw [ec]
   rfl
  .exact lA (eX (call_of (cons_of rfl (cons_of rfl rfl)) rfl (Cz p c)))
 rw [List.map_id] at hc
 exact aY (ret (.list ((bz p).map dC)) (bH hc) (.mk rfl rfl))
def rb (p:List (List Int)) (c:Int×Int):Bool:=(decide (0<=c.1 + c.2) && decide (c.1 + c.2 < (p.length:Int))) && decide (c.1∈p.getD (c.1 + c.2).toNat [])
theorem IK (p:List (List Int)) (n:Nat) (b:Int):rb p (b,(n:Int) - b)=decide (b∈p.getD n []):=by
 unfold rb
 simp only
 rw [show b + ((n:Int) - b)=(n:Int) by omega,ZD,Zu (show (0:Int)<=(n:Int) by omega),abb]
 rcases Nat.lt_or_ge n p.length with q | q
 .rw [Zu (show (n:Int) < (p.length:Int) by omega),abb]
 .rw [Zr (show ¬ (n:Int) < (p.length:Int) by omega),acu,Y9,aaO q]
  simp
theorem oq {L:Nat} (h:L<=24): -100000<=((L:Nat):Int) + 1 /\ ((L:Nat):Int) + 1<=100000 /\ ((((L:Nat):Int) + 1) - 1).toNat=L:=⟨by omega,by omega,by omega⟩
theorem IL {N:Int} {i L:Nat} (h:N=1 + (i:Int)) (hi:i < L):0<=N /\ N.toNat=i + 1 /\ 0<=N - 1 /\ N - 1 < (L:Int) /\ (N - 1).toNat=i /\ (¬ N < (L:Int)->L<=i + 1):=⟨by omega,by omega,by omega,by omega,by omega,λ_=>by omega⟩
theorem IM {a b i L:Nat} (h1:a<=50 * i) (h2:b<=a) (hi:i < L) (hL:L<=24):b<=1200:=by omega
theorem uU {l r f:Nat} (h:l<=2 * r) (hr:r<=25):l<=50 /\ r < 32 /\ (f<=l->∀ a,a<=1200->a + f<=100000):=⟨by omega,by omega,λ_ _ _=>by omega⟩
theorem zG {p:List (List Int)} (hl:p.length<=24) (j8:∀ r∈p,r.length<=25):fS [cM p]=some (((bq 1 (p.map led)).filter λc=> !rb p c).map dC):=by
 rw [zx]
 refine aY ?_
 refine aB [some (cM p),some (.list []),none,none,none] rfl ?_
 refine je 1 p.length (λi δ=>∃ a b c,δ=[some (cM p),some (.list (((bq 1 ((p.take i).map led)).filter λc=> !rb p c).map dC)),a,b,c]) ?_ ⟨none,none,none,rfl⟩ ?_ ?_
 .have e:aa (gC (.int (1))) (aa (g2 aU (d7 dh (aa (ae 0) af)) (gC (.int (1)))) af) [some (cM p),some (.list []),none,none,none]=some [.int 1,.int (((p.length:Nat):Int) + 1)]:=by
   show some [PyData.int 1,PyData.int ((((p.map dR).length:Nat):Int) + 1)]=_
   rw [Y7]
  refine (tw e (by decide) (by decide) (oq hl).1 (oq hl).2.1).trans ?_
  rw [(oq hl).2.2]
 .rintro i δ hi ⟨a,b,c,rfl⟩
  obtain ⟨r,er⟩:∃ r,p[i]?=some r:=⟨_,Y4 hi⟩
  have hr:=j8 r (Zq er)
  have ht:p.take (i + 1)=p.take i ++ [r]:=by rw [Z4,er]; rfl
  have II:(p.take i).length=i:=by rw [ZH]; exact Nat.min_eq_left (aak hi)
  obtain ⟨acc,l5⟩:∃ acc,acc=((bq 1 ((p.take i).map led)).filter λc=> !rb p c).map dC:=⟨_,rfl⟩
  rw [<- l5]
  have Qp:acc.length<=1200:=by
   have h1:=lC ((p.take i).map led) 1 (λs hs=>by
    obtain ⟨t,ht,rfl⟩:=ZG.mp hs
    exact (uU (f:=0) (lD (r:=t)) (j8 t (Z5 ht))).1)
   rw [Y7,II] at h1
   have h2:=acb (λc=> !rb p c) (bq 1 ((p.take i).map led))
   rw [l5,Y7]
   exact IM h1 h2 hi hl
  obtain ⟨Vu,Xo,_⟩:=uU (f:=0) (lD (r:=r)) hr
  obtain ⟨N,hN⟩:∃ N:Int,N=1 + (i:Int):=⟨_,rfl⟩
  obtain ⟨m1,m2,m3,m4,m5,m6⟩:=IL hN hi
  rw [<- hN]
  obtain ⟨on,T5⟩:∃ on,on=p.getD (i + 1) []:=⟨_,rfl⟩
  have st:iV (gB (g2 rG (ae 2) (d7 dh (aa (ae 0) af)))) (aG 3 (g2 aO (ae 0) (ae 2))) cn [some (cM p),some (.list acc),some (.int N),some (.tuple []),c]=some (.nx [some (cM p),some (.list acc),some (.int N),some (dR on),c]):=by
   have hc:gB (g2 rG (ae 2) (d7 dh (aa (ae 0) af))) [some (cM p),some (.list acc),some (.int N),some (.tuple []),c]=some (decide (N < (p.length:Int))):=by
    refine dE ?_
    show some (PyData.bool (decide (N < (((p.map dR).length:Nat):Int))))=_
    rw [Y7]
   by_cases q:N < (p.length:Int)
   .refine oS true (hc.trans (aam some (Zu q))) (λ_=>?_) λz=>nomatch z
    refine (aD (ah rfl rfl (EY m1 q))).trans ?_
    rw [m2,<- T5]
    rfl
   .refine oS false (hc.trans (aam some (Zr q))) (λz=>nomatch z) λ_=>?_
    have:on=[]:=by rw [T5,Y9,aaO (m6 q)]; rfl
    rw [this]; rfl
  have ix:g2 aO (ae 0) (g2 cy (ae 2) (gC (.int (1)))) [some (cM p),some (.list acc),some (.int N),some (dR on),c]=some (dR r):=by
   refine (ah rfl rfl (EY (p:=p) (i:=N - 1) m3 m4)).trans ?_
   rw [m5,Y9,er]
   rfl
  have Xp:=zB (a:=bJ (wH lW (aa (g2 aO (ae 0) (g2 cy (ae 2) (gC (.int (1))))) af))) (b:=g2 aO (ae 0) (g2 cy (ae 2) (gC (.int (1))))) (δ:=[some (cM p),some (.list acc),some (.int N),some (dR on),c]) (r:=r) (by
   unfold bJ wH
   rw [cons_of ix rfl]
   rfl) (.inr ix) Xo
  refine ⟨_,[some (cM p),some (.list (((bq 1 ((p.take (i + 1)).map led)).filter λc=> !rb p c).map dC)),some (.int N),some (dR on),some (.list ((led r).map .int))],rfl,?_,_,_,_,rfl⟩
  refine b7 [some (cM p),some (.list acc),some (.int N),some (.tuple []),c] rfl ?_
  refine b7 _ st ?_
  refine b7 [some (cM p),some (.list acc),some (.int N),some (dR on),some (.list ((led r).map .int))] (aD (bH Xp)) ?_
  have Xq:dS (bb (ae 4)) 1 [2,3] (aR 0) (gB (g2 uc (ae 0) (ae 2))) (aQ (aa (ae 0) (aa (g2 cy (ae 1) (ae 0)) af))) [some (cM p),some (.list acc),some (.int N),some (dR on),some (.list ((led r).map .int))]=some ((((led r).filter λb=> !decide (b∈on)).map λb=>(b,N - b)).map dC):=by
   refine ra PyData.int dC (λb=>(b,N - b)) (λb=> !decide (b∈on)) (led r) rfl (ZQ Vu (by decide)) (λb _=>?_) λb _ _=>rfl
   refine dE (ah rfl rfl ?_)
   unfold uc
   rw [EX]
   rfl
  refine (zE rfl Xq (by simp only [Y7]; exact (uU (lD (r:=r)) hr).2.2 (acb (λb=> !decide (b∈on)) (led r)) _ Qp)).trans ?_
  have key:((bq 1 ((p.take (i + 1)).map led)).filter λc=> !rb p c).map dC=acc ++ (((led r).filter λb=> !decide (b∈on)).map λb=>(b,N - b)).map dC:=by
   rw [ht,ZI,show List.map led [r]=[led r] from rfl,g6,Y7,II,acB,ZI,<- l5]
   congr 2
   unfold ia
   rw [List.filter_map]
   have ef:((λc:Int×Int=> !rb p c) ∘ λb:Int=>(b,((1 + i:Nat):Int) - b))=λb=> !decide (b∈on):=by
    funext b
    show (!rb p (b,((1 + i:Nat):Int) - b))=_
    rw [IK,T5,Nat.add_comm 1 i]
   rw [ef]
   congr 1
   funext b
   rw [hN]
   push_cast
   rfl
  rw [key]
  rfl
 .rintro δ' ⟨a,b,c,rfl⟩
  refine ret (.list (((bq 1 (p.map led)).filter λc=> !rb p c).map dC)) ?_ (.mk rfl rfl)
  rw [Z8]
  rfl
theorem uV {g:DS->Option D} {δ:DS} {d:D} (h:g δ=some d):qq g δ=some (.nx δ):=by unfold qq; rw [h]; rfl
theorem IP {a b c:DS->Option D} {δ:DS} {x y z:D} (h1:a δ=some x) (h2:b δ=some y) (h3:c δ=some z):aQ (aa a (aa b (aa c af))) δ=some (.tuple [x,y,z]):=by
 unfold aQ; rw [cons_of h1 (cons_of h2 (cons_of h3 rfl))]; rfl
theorem gT {a b:DS->Option D} {δ:DS} {x y:D} (h1:a δ=some x) (h2:b δ=some y):aQ (aa a (aa b af)) δ=some (.tuple [x,y]):=by
 unfold aQ; rw [cons_of h1 (cons_of h2 rfl)]; rfl
structure Sz (m:Nat) (q:iS):Prop where
 low:Og q
 top:bt q.1<=m
 bot:bt q.2<=m
theorem Sz.ne {m:Nat} {q:iS} (h:Sz m q):q.2≠0:=by have:=h.low.1; omega
theorem Sz.up {m n:Nat} {q:iS} (h:Sz m q) (hn:m<=n):Sz n q:=⟨h.low,bo h.top hn,bo h.bot hn⟩
theorem tD {m:Nat} {t b:Int} (hb:b≠0) (h1:bt t<=m) (h2:bt b<=m):Sz m (be t b):=⟨EK hb,de ((bG hb).uz hb) h1,de ((bG hb).bot_le hb) h2⟩
theorem Nn {m:Nat} {a b:iS} (ha:Sz m a) (hb:Sz m b):Sz (m + m) (r8 a b):=tD (Z1 ha.ne hb.ne) (gz ha.top hb.top) (gz ha.bot hb.bot)
theorem zH (a b:Int) (hb:bt b<=4000):b8 [.int a,.int b]=some (.int (Int.gcd a b:Nat)):=by
 rw [md]
 refine aY ?_
 refine aB [some (.int (a.natAbs:Nat)),some (.int b),none,none] (by simp only [aG,d7,aa,ae,Zo,Zy,af,Za,ng,aac]; rw [uB]) ?_
 refine aB [some (.int (a.natAbs:Nat)),some (.int (b.natAbs:Nat)),none,none] (by simp only [aG,d7,aa,ae,Zw,Zo,Zy,af,Za,ng,aap,aac]; rw [uB]) ?_
 refine lu (λm δ=>∃ (x:Nat) (r p:Option D),δ=[some (.int (x:Nat)),some (.int (m:Nat)),r,p] /\ bt (m:Int)<=4000 /\ Nat.gcd x m=Int.gcd a b) (λδ=>∃ (x:Nat) (r p:Option D),δ=[some (.int (x:Nat)),some (.int 0),r,p] /\ x=Int.gcd a b) b.natAbs ?_ ?_ ?_
 .exact ⟨_,none,none,rfl,de (by simp) hb,rfl⟩
 .rintro m δ ⟨x,r,p,rfl,Tz,hg⟩
  by_cases hm:m=0
  .subst hm
   exact .inl ⟨by simp only [gB,g2,ae,List.getElem?_cons_succ,List.getElem?_cons_zero,Option.join_some,gC,Option.bind_some,oi]; rfl,x,r,p,rfl,by simpa using hg⟩
  .have fg:x % m < m:=Nat.mod_lt _ (by omega)
   have e:((x:Int) % (m:Int))=((x % m:Nat):Int):=by omega
   have qH:bt ((x % m:Nat):Int)<=4000:=de (by simp; omega) Tz
   refine .inr ⟨by simp only [gB,g2,ae,Zw,Zo,Zy,gC,Za,oi]; simp; omega,[some (.int m),some (.int ((x % m:Nat):Int)),some (.int ((x % m:Nat):Int)),p],x % m,?_,fg,m,_,_,rfl,qH,?_⟩
   .simp only [aw,aG,g2,ae,Zo,Zy,Zw,Za,aap,aac,iV,gB,g1,gC,ay,aa,af,cn]
    rw [eO (by omega),e]
    simp only [Za,Zw,Zo,Zy,aac,aap,wL,wA,Zp,aaq,Nat.reduceAdd,aaW,ZL]
    have Xr:Builtin.Int.intBits ((x % m:Nat):Int)<=4000:=qH
    rw [Zj (by omega)]
   .rw [<- hg,Nat.gcd_comm x m,Nat.gcd_rec m x,Nat.gcd_comm]
 .rintro δ' ⟨x,r,p,rfl,h2⟩
  exact ret _ (by simp only [ae,Zo,Zy]; rw [h2]) (.mk rfl rfl)
theorem pM (t b:Int) (Gk:b≠0) (hb:bt b<=4000):me [.int t,.int b]=some (dF (be t b)):=by
 rw [Ng]
 refine aY ?_
 have hg:=zH t b hb
 have Vv:dv t b≠0:=Qi Gk
 have Gr:bt (dv t b)<=9000:=by
  refine bo (de ?_ hb) (by decide)
  have:(Int.gcd t b) ∣ b.natAbs:=acO _ _
  have:=ach (by omega) this
  unfold dv; split <;> omega
 refine qS (by simp only [gB,g2,ae,Zw,Zo,Zy,gC,Za,qT]; rw [Zr Gk]) ?_
 refine aB [some (.int t),some (.int b),some (.int (Int.gcd t b:Nat))] (by simp only [aG,ay,aa,ae,Zo,Zy,Zw,af,Za,Zp,aaq,Nat.reduceAdd,aaW,aap,aac]; rw [hg]; rfl) ?_
 refine aB [some (.int t),some (.int b),some (.int (dv t b))] ?_ ?_
 .simp only [iV,gB,g2,ae,Zw,Zo,Zy,gC,Za,wA,aG,g1,wF,aap,aac,cn,ZL]
  unfold dv
  split <;> rfl
 .refine ret (dF (be t b)) ?_ (.mk rfl rfl)
  simp only [aQ,aa,g2,ae,Zo,Zy,Zw,Za,af]
  rw [uC Vv Gr,uC Vv Gr]
  rfl
theorem rf (a b:iS) (ha:Sz 4000 a) (hb:Sz 4000 b):lB [dF a,dF b]=some (dF (r8 a b)):=by
 rw [Iz]
 refine aY ?_
 have f1:=pM a.1 b.2 hb.ne hb.bot
 have f2:=pM b.1 a.2 ha.ne ha.bot
 have o1:=bG (t:=a.1) hb.ne
 have o2:=bG (t:=b.1) ha.ne
 have hq:=(EH ha.low.2 hb.low.2 o1 o2).qm (Z1 ha.ne hb.ne)
 have c1:=de (o1.uz hb.ne) ha.top
 have c2:=de (o1.bot_le hb.ne) hb.bot
 have c3:=de (o2.uz ha.ne) hb.top
 have c4:=de (o2.bot_le ha.ne) ha.bot
 refine aB [some (dF a),some (dF b),some (dF (be a.1 b.2)),none] (by simp only [aG,ay,aa,g2,ae,Zo,Zy,gC,Za,fI,Zw,dW,af,Zp,aaq,Nat.reduceAdd,aaW,aap,aac]; rw [f1]; rfl) ?_
 refine aB [some (dF a),some (dF b),some (dF (be a.1 b.2)),some (dF (be b.1 a.2))] (by simp only [aG,ay,aa,g2,ae,Zw,Zo,Zy,gC,Za,fI,dW,af,Zp,aaq,Nat.reduceAdd,aaW,aap,aac]; rw [f2]; rfl) ?_
 refine ret (dF (r8 a b)) ?_ (.mk rfl rfl)
 unfold r8
 rw [<- hq]
 simp only [aQ,aa,g2,ae,Zw,Zo,Zy,gC,Za,fI,dW,af]
 rw [cE (b0 c1 c3),cE (b0 c2 c4)]
 rfl
theorem xI (q:iS) (k:Nat) (h1:bt q.1<=1000) (h2:bt q.2<=1000) (hk:k<=1000):nG [dF q,.int (k:Nat)]=some (dF (q.1 ^ k,q.2 ^ k)):=by
 rw [IA]
 refine aY ?_
 refine aB [some (dF q),some (.int (k:Nat)),some (.int 1),none,none] rfl (aB [some (dF q),some (.int (k:Nat)),some (.int 1),some (.int 1),none] rfl ?_)
 refine je 0 k (λi δ=>∃ z:Option D,δ=[some (dF q),some (.int (k:Nat)),some (.int (q.1 ^ i)),some (.int (q.2 ^ i)),z]) (lz rfl (by omega)) ⟨none,by rw [Int.pow_zero,Int.pow_zero]⟩ ?_ ?_
 .rintro i δ hi ⟨z,rfl⟩
  have hm:∀ {u:Int},bt u<=1000->IntMulOk (u ^ i) u:=λh=>b0 (zk h i) h (by have:1000 * i<=1000 * 1000:=Nat.mul_le_mul_left _ (by omega); omega)
  refine ⟨_,[some (dF q),some (.int (k:Nat)),some (.int (q.1 ^ (i + 1))),some (.int (q.2 ^ (i + 1))),some (.int (0 + (i:Int)))],rfl,?_,_,rfl⟩
  exact b7 [some (dF q),some (.int (k:Nat)),some (.int (q.1 ^ (i + 1))),some (.int (q.2 ^ i)),some (.int (0 + (i:Int)))] (aD (ah rfl (ah rfl rfl (fI q)) ((cE (hm h1)).trans (by rw [abF])))) (aD (ah rfl (ah rfl rfl (dW q)) ((cE (hm h2)).trans (by rw [abF]))))
 .rintro δ' ⟨z,rfl⟩
  exact ret (dF (q.1 ^ k,q.2 ^ k)) rfl (.mk rfl rfl)
theorem jh (a b:iS) (m1:IntMulOk a.1 b.2) (m2:IntMulOk b.1 a.2):gP [dF a,dF b]=some (.bool (decide (a.1 * b.2 < b.1 * a.2))):=by
 rw [IB]
 exact aY (ret _ (ah (ah (ah rfl rfl (fI a)) (ah rfl rfl (dW b)) (cE m1)) (ah (ah rfl rfl (fI b)) (ah rfl rfl (dW a)) (cE m2)) rfl) (.mk rfl rfl))
theorem uW (a b:iS) (ha:Sz 4000 a) (hb:Sz 4000 b):mf [dF a,dF b]=some (dF (uA a b)):=by
 rw [Nh]
 refine aY ?_
 obtain ⟨x,y,hg,e1,e2,hc⟩:=tu (t:=a.2) (b:=b.2) hb.ne
 have vg:=zH a.2 b.2 hb.bot
 have Gr:bt (Int.gcd a.2 b.2:Int)<=4000:=de (bP ⟨y,by rw [aa9]; exact e2⟩ hb.ne) hb.bot
 generalize (Int.gcd a.2 b.2:Int)=g at *
 have ex:a.2 / g=x:=by rw [e1]; exact abL _ (by omega)
 have ey:b.2 / g=y:=by rw [e2]; exact abL _ (by omega)
 have hx:bt x<=4000:=de (bP ⟨g,e1⟩ ha.ne) ha.bot
 have hy:bt y<=4000:=de (bP ⟨g,e2⟩ hb.ne) hb.bot
 have vf:=pM (a.1 * y + b.1 * x) g (by omega) Gr
 have ok:=bG (t:=a.1 * y + b.1 * x) (show g≠0 by omega)
 have hq:=(Ij ha.low.2 hb.low.2 ha.low.1 hb.low.1 hg e1 e2 hc ok).qm (Z1 ha.ne hb.ne)
 have c2:=de (ok.bot_le (by omega)) Gr
 refine aB [some (dF a),some (dF b),some (.int g),none,none,none] (aD (call_of (cons_of (ah rfl rfl (dW a)) (cons_of (ah rfl rfl (dW b)) rfl)) rfl vg)) ?_
 refine aB [some (dF a),some (dF b),some (.int g),some (.int x),none,none] (aD ((ah (ah rfl rfl (dW a)) rfl (oR hg (bo Gr (by decide)))).trans (by rw [ex]))) ?_
 refine aB [some (dF a),some (dF b),some (.int g),some (.int x),some (.int y),none] (aD ((ah (ah rfl rfl (dW b)) rfl (oR hg (bo Gr (by decide)))).trans (by rw [ey]))) ?_
 refine aB [some (dF a),some (dF b),some (.int g),some (.int x),some (.int y),some (dF (be (a.1 * y + b.1 * x) g))]
  (aD (call_of (cons_of (ah (ah (ah rfl rfl (fI a)) rfl (cE (b0 ha.top hy))) (ah (ah rfl rfl (fI b)) rfl (cE (b0 hb.top hx))) rfl) (cons_of rfl rfl)) rfl vf)) ?_
 refine ret (dF (uA a b)) ?_ (.mk rfl rfl)
 unfold uA
 rw [<- hq]
 exact gT (ah rfl rfl (fI _)) (ah (ah rfl rfl (cE (b0 hx hy))) (ah rfl rfl (dW _)) (cE (b0 (gz hx hy) c2)))
theorem Np {m:Nat} {q:iS} (h:Sz m q):Sz m (-q.1,q.2):=⟨⟨h.low.1,by show Int.gcd (-q.1) q.2=1; rw [Int.neg_gcd]; exact h.low.2⟩,Nc h.top,h.bot⟩
theorem Fc (a b:iS) (ha:Sz 4000 a) (hb:Sz 4000 b):pJ [dF a,dF b]=some (dF (uA a (-b.1,b.2))):=by
 rw [Iy]
 refine aY (ret _ (call_of (cons_of rfl (cons_of (gT (x:=.int (-b.1)) (y:=.int b.2) rfl rfl) rfl)) rfl (uW a (-b.1,b.2) ha (Np hb))) (.mk rfl rfl))
theorem IQ (a b:iS) (ha:Sz 4000 a) (hb:Sz 4000 b) (h0:b.1≠0):uG [dF a,dF b]=some (dF (r8 a (be b.2 b.1))):=by
 rw [Ni]
 refine aY (ret _ (call_of (cons_of rfl (cons_of (call_of (cons_of rfl (cons_of rfl rfl)) rfl (pM b.2 b.1 h0 hb.top)) rfl)) rfl (rf a _ ha (tD h0 hb.bot hb.top))) (.mk rfl rfl))
theorem Nq {gi:DS->Option (List D)} {t:D->DS->Option DS} {b:DS->Option Res} {δ:DS} {ds:List D} {r:Option Res} (h1:gi δ=some ds) (h2:j5 t b ds δ=r):eI gi t b δ=r:=by unfold eI; rw [h1]; exact h2
theorem Qq {A:Int->Int} {r:List Int} (h:∀ x,0<=A x) (b:Int):0<=lv A r b:=by
 have h1:=h (b - 1)
 have h2:=h b
 unfold lv
 split <;> split <;> omega
theorem xJ {p:List (List Int)} {A:Int->Int} (h:∀ x,0<=A x):∀ (k:Nat) (b:Int),0<=WW A p k b
 | 0,b=>by rw [WW_0]; exact h b
 | k + 1,b=>by rw [jD]; exact Qq (xJ h k) b
theorem Bc (x:Int):0<=A0 x:=by unfold A0; split <;> omega
theorem Fd {A:Int->Int} {r:List Int} (h:∀ x,0<=A x) (hr:∀ x∈r,0 < A x) {b:Int} (hb:b∈led r):0 < lv A r b:=by
 have h1:=h (b - 1)
 have h2:=h b
 unfold lv
 rcases f7.mp hb with z | z
 .have:=hr b z
  rw [Zk z]; split <;> omega
 .have:=hr _ z
  rw [Zk z]; split <;> omega
theorem Bd:∀ {q:List (List Int)} {r:List Int},EW r q->∀ k x,x∈(r :: q).getD (k + 1) []->x∈led ((r :: q).getD k [])
 | [],_,_,k,x,hx=>by simp at hx
 | s :: q,r,hc,0,x,hx=>hc.1.2.2 x (by simpa using hx)
 | s :: q,r,hc,k + 1,x,hx=>by
   have:=Bd hc.2 k x (by simpa using hx)
   simpa using this
theorem Nr {p:List (List Int)} (h:Pl p) (k:Nat) (x:Int) (hx:x∈p.getD (k + 1) []):x∈led (p.getD k []):=by
 obtain ⟨q,rfl,hc⟩:=h.ex
 exact Bd hc k x hx
theorem zI {p:List (List Int)} (h:Pl p):∀ (k:Nat) (x:Int),x∈p.getD k []->0 < WW A0 p k x
 | 0,x,hx=>by
   obtain ⟨q,rfl,hc⟩:=h.ex
   rw [WW_0]
   have:x=0:=by simpa using hx
   subst this; decide
 | k + 1,x,hx=>by
   rw [jD]
   exact Fd (xJ Bc k) (zI h k) (Nr h k x hx)
theorem Nt {p:List (List Int)} (h:Pl p) (k:Nat) (x:Int) (hx:x∈led (p.getD k [])):0 < WW A0 p (k + 1) x:=by
 rw [jD]
 exact Fd (xJ Bc k) (zI h k) hx
theorem Be {A:Int->Int} {p q:List (List Int)}:∀ (k:Nat),(∀ j,j < k->p.getD j []=q.getD j [])->WW A p k=WW A q k
 | 0,_=>by rw [WW_0,WW_0]
 | k + 1,h=>by
   funext b
   rw [jD,jD,h k (by omega),Be k λj hj=>h j (by omega)]
theorem Dt.get {kds:List (D×D)} {F:WF} (h:Dt kds F) {b g:Int} (hp:F b g≠0):cq kds [.inl b,.inl g]=some (.int (F b g)):=by
 have:=h b g
 cases e:cq kds [.inl b,.inl g] with
 | none=>rw [e] at this; exact absurd (by injection this with z; exact z.symm) hp
 | some d=>rw [e] at this; rw [show d=.int (F b g) from this]
def cI (p:List (List Int)):WF:=(bq 0 p).foldl cU (j6 (0,0))
theorem xK {p:List (List Int)} (h:Pl p) {x y:Int} {k:Nat} (e:x + y=(k:Int)):cI p x y=WW A0 p k x:=E6 h e
theorem CD {p:List (List Int)} (h:Pl p) {n:Nat} {bs cs:List Int} (hr:p[n]?=some (bs ++ cs)) {x y:Int} (e:x + y=(n:Int)):(ia n bs).foldl cU ((bq 0 (p.take n)).foldl cU (j6 (0,0))) x y=WW A0 p n x:=by
 have hn:=(Zd.mp hr).1
 have hl:(p.take n).length=n:=by rw [ZH]; omega
 have e1:(ia n bs).foldl cU ((bq 0 (p.take n)).foldl cU (j6 (0,0)))=(bq 0 (p.take n ++ [bs])).foldl cU (j6 (0,0)):=by
  rw [g6,abw,hl,aas]
 rw [e1]
 have nd:=(nI h).1
 have Ey:∀ s∈p.take n ++ [bs],s.Nodup:=by
  intro s hs
  rcases ZC.mp hs with z | z
  .exact nd s (Z5 z)
  .rw [ZW.mp z]
   have:=nd _ (Zq hr)
   exact (acM.mp this).1
 refine ((qZ (p.take n ++ [bs]) 0 A0 (j6 (0,0)) Ey ?_ ?_ x y).2 n (by push_cast; omega)).trans ?_
 .intro x y q
  unfold j6 A0
  by_cases c:x=0
  .rw [Zk ⟨c,by push_cast at q; show y=0; omega⟩,Zk c]
  .rw [Zj (λz=>c z.1),Zj c]
 .intro x y q
  unfold j6
  rw [Zj]
  rintro ⟨z1,z2⟩
  have Xm:x=0:=z1
  have Xn:y=0:=z2
  push_cast at q
  omega
 .rw [Be (q:=p) n λj hj=>?_]
  rw [Y9,Y9,aa0 (by omega),List.getElem?_take_of_lt hj]
theorem Fe (p:List (List Int)):i9 (p.map dR)=p.zipIdx.map λx=>.tuple [.int (x.2:Nat),dR x.1]:=by
 unfold i9
 rw [List.zipIdx_map,aay]
 rfl
theorem Xs {x y z n j:Nat} (l2:x<=y + 1) (l1:y<=z + 1) (h:z<=n + 2 * j):x<=n + 2 * (j + 1):=by omega
theorem Xu {z i j L r:Nat} (h:z<=1 + 50 * i + 2 * j) (hi:i < L) (hL:L<=24) (hj:j < r) (hr:r<=25):z + 1 < 100000:=by omega
theorem zJ {p:List (List Int)} (hp:Pl p) (hl:p.length<=24) (j8:∀ r∈p,r.length<=25):∃ kds,hZ [cM p]=some (.dict kds) /\ Dt kds (cI p):=by
 have main:dj (hZ [cM p]) λd=>∃ kds,d=.dict kds /\ Dt kds (cI p):=by
  rw [zy]
  refine aB [some (cM p),some (.dict [(dC (0,0),.int 1)]),none,none,none,none,none] rfl ?_
  refine iq (λx:List Int×Nat=>PyData.tuple [.int (x.2:Nat),dR x.1]) p.zipIdx (λi δ=>∃ kds a b c d e,δ=[some (cM p),some (.dict kds),a,b,c,d,e] /\ Dt kds ((bq 0 (p.take i)).foldl cU (j6 (0,0))) /\ kds.length<=1 + 50 * i) ?_ ⟨_,_,_,_,_,_,rfl,?_,by simp⟩ ?_ ?_
  .show some (i9 (p.map dR))=_
   rw [Fe]
  .refine ⟨rfl,λb g=>?_⟩
   have:gj [] [.inl 0,.inl 0] (.int 1)=[(dC (0,0),.int 1)]:=rfl
   rw [<- this]
   exact (Dt.put (kds:=[]) (F:=λ_ _=>0) ⟨rfl,λb g=>rfl⟩ 0 0 1) b g
  .rintro i ⟨r,n⟩ δ hi ⟨kds,a,b,c,d,e,rfl,hd,hlen⟩
   rw [aa7] at hi
   cases er:p[i]? with
   | none=>rw [er] at hi; cases hi
   | some r'=>
   rw [er] at hi
   simp only [Z0,aas,aa4,abq] at hi
   obtain ⟨rfl,rfl⟩:=hi
   have Km:=(Zd.mp er).1
   have yp:=j8 r' (Zq er)
   have ht:p.take (i + 1)=p.take i ++ [r']:=by rw [Z4,er]; rfl
   have II:(p.take i).length=i:=by rw [ZH]; omega
   obtain ⟨G,hG⟩:∃ G,G=(bq 0 (p.take i)).foldl cU (j6 (0,0)):=⟨_,rfl⟩
   rw [<- hG] at hd
   obtain ⟨δ',e2,Qr,c2,d2,N8,rfl,hd2,Pj⟩:=uD (t:=aR 4)
    (b:=(aw (aG 5 (qC (ae 1) (aQ (aa (ae 4) (aa (g2 cy (ae 2) (ae 4)) af)))))
     (eI (bb (aQ (aa (aQ (aa (g2 aU (ae 4) (gC (.int (1)))) (aa (g2 cy (ae 2) (ae 4)) af))) (aa (aQ (aa (ae 4) (aa (g2 aU (g2 cy (ae 2) (ae 4)) (gC (.int (1)))) af))) af)))) (aR 6)
      (ti 1 (ae 6) (g2 aU (l7 (ae 1) (ae 6) (gC (.int (0)))) (ae 5)))))) PyData.int
    (λj δ=>∃ kds c d e,δ=[some (cM p),some (.dict kds),some (.int (i:Nat)),some (dR r'),c,d,e] /\ Dt kds ((ia i (r'.take j)).foldl cU G) /\ kds.length<=1 + 50 * i + 2 * j) r' (δ:=[some (cM p),some (.dict kds),some (.int (i:Nat)),some (dR r'),c,d,e]) ⟨kds,c,d,e,rfl,hd,by omega⟩ (by
     rintro j x δ hj ⟨kds,c,d,e,rfl,hd,hlen⟩
     have Xv:=(Zd.mp hj).1
     have Xw:x∈r':=Zq hj
     obtain ⟨F,hF⟩:∃ F,F=(ia i (r'.take j)).foldl cU G:=⟨_,rfl⟩
     rw [<- hF] at hd
     obtain ⟨k,hk⟩:∃ k:Int×Int,k=(x,(i:Int) - x):=⟨_,rfl⟩
     have E5:(ia i (r'.take (j + 1))).foldl cU G=cU F k:=by
      rw [Z4,hj]
      unfold ia at hF ⊢
      rw [ZI,abw,<- hF,hk]; rfl
     have HB:F k.1 k.2=WW A0 p i x:=by
      rw [hF,hG,hk]
      exact CD hp (cs:=r'.drop j) (by rw [abr]; exact er) (by show x + ((i:Int) - x)=_; omega)
     have Ff:F k.1 k.2≠0:=by
      have:=zI hp i x (by rw [Y9,er]; exact Xw)
      omega
     have Vl:x=k.1:=by rw [hk]
     have Xx:(i:Int) - x=k.2:=by rw [hk]
     obtain ⟨k1,yk⟩:∃ k1,k1=gj kds [.inl (k.1 + 1),.inl k.2] (.int (F (k.1 + 1) k.2 + F k.1 k.2)):=⟨_,rfl⟩
     have D3:=hd.put (k.1 + 1) k.2 (F (k.1 + 1) k.2 + F k.1 k.2)
     rw [<- yk] at D3
     have hd2:=D3.put k.1 (k.2 + 1) (F k.1 (k.2 + 1) + F k.1 k.2)
     have l1:k1.length<=kds.length + 1:=by rw [yk]; exact lq _ _ _
     have hz:=Xu hlen Km hl Xv yp
     have l2:=lq k1 [.inl k.1,.inl (k.2 + 1)] (.int (F k.1 (k.2 + 1) + F k.1 k.2))
     refine ⟨_,[some (cM p),some (.dict (gj k1 [.inl k.1,.inl (k.2 + 1)] (.int (F k.1 (k.2 + 1) + F k.1 k.2)))),some (.int (i:Nat)),some (dR r'),some (.int x),some (.int (F k.1 k.2)),some (dC (k.1,k.2 + 1))],rfl,?_,_,_,_,_,rfl,?_,Xs l2 l1 hlen⟩
     .refine b7 [some (cM p),some (.dict kds),some (.int (i:Nat)),some (dR r'),some (.int x),some (.int (F k.1 k.2)),e] (aD ((uT (c:=k) rfl (by rw [hk]; rfl)).trans (hd.get Ff))) ?_
      unfold eI
      have hit:bb (aQ (aa (aQ (aa (g2 aU (ae 4) (gC (.int (1)))) (aa (g2 cy (ae 2) (ae 4)) af))) (aa (aQ (aa (ae 4) (aa (g2 aU (g2 cy (ae 2) (ae 4)) (gC (.int (1)))) af))) af))) [some (cM p),some (.dict kds),some (.int (i:Nat)),some (dR r'),some (.int x),some (.int (F k.1 k.2)),e]=some [dC (k.1 + 1,k.2),dC (k.1,k.2 + 1)]:=by
       show some [dC (x + 1,(i:Int) - x),dC (x,(i:Int) - x + 1)]=_
       rw [hk]
      rw [hit,Za]
      refine Qo [some (cM p),some (.dict kds),some (.int (i:Nat)),some (dR r'),some (.int x),some (.int (F k.1 k.2)),some (dC (k.1 + 1,k.2))] [some (cM p),some (.dict k1),some (.int (i:Nat)),some (dR r'),some (.int x),some (.int (F k.1 k.2)),some (dC (k.1 + 1,k.2))] [some (cM p),some (.dict k1),some (.int (i:Nat)),some (dR r'),some (.int x),some (.int (F k.1 k.2)),some (dC (k.1,k.2 + 1))] _ rfl ?_ rfl ?_
      .refine (pL (c:=(k.1 + 1,k.2)) rfl rfl (ah ((kH (c:=(k.1 + 1,k.2)) rfl rfl rfl).trans (aam some (hd (k.1 + 1) k.2))) rfl rfl) (Nat.lt_of_succ_lt hz)).trans ?_
       rw [yk]; rfl
      .have h5:(cq k1 [.inl k.1,.inl (k.2 + 1)]).getD (.int 0)=.int (F k.1 (k.2 + 1)):=by
        have:=D3 k.1 (k.2 + 1)
        rw [this]
        show PyData.int (if k.1=k.1 + 1 /\ k.2 + 1=k.2 then _ else _)=_
        rw [Zj (by omega)]
       exact pL (c:=(k.1,k.2 + 1)) rfl rfl (ah ((kH (c:=(k.1,k.2 + 1)) rfl rfl rfl).trans (aam some h5)) rfl rfl) (aaa l1 hz)
     .rw [E5]
      refine ⟨hd2.fn,λx y=>?_⟩
      rw [hd2 x y]
      congr 1
      show (if x=k.1 /\ y=k.2 + 1 then _ else if x=k.1 + 1 /\ y=k.2 then _ else F x y)=F x y + _ + _
      by_cases c1:x=k.1 /\ y=k.2 + 1
      .rw [Zk c1,Zk c1,Zj (by omega),c1.1,c1.2]; omega
      .rw [Zj c1,Zj c1]
       by_cases c2:x=k.1 + 1 /\ y=k.2
       .rw [Zk c2,Zk c2,c2.1,c2.2]; omega
       .rw [Zj c2,Zj c2]; omega)
   refine ⟨_,[some (cM p),some (.dict Qr),some (.int (i:Nat)),some (dR r'),c2,d2,N8],rfl,?_,Qr,_,_,_,_,_,rfl,?_,by omega⟩
   .exact Nq rfl e2
   .rw [ht,g6,abw,II,aas,<- hG]
    rw [Z8] at hd2
    exact hd2
  .rintro δ' ⟨kds,a,b,c,d,e,rfl,hd,_⟩
   rw [acA,Z8] at hd
   exact ret (.dict kds) rfl (.mk rfl ⟨kds,rfl,hd⟩)
 obtain ⟨_,e,kds,rfl,hd⟩:=main
 exact ⟨kds,e,hd⟩
theorem kI {c:Int×Int}:∀ {q:List (List Int)} {n:Nat},c∈bq n q->∃ k,k < q.length /\ c.1∈q.getD k [] /\ c.1 + c.2=((n + k:Nat):Int)
 | [],n,h=>by simp [bq] at h
 | r :: q,n,h=>by
   rw [bq,ZC] at h
   rcases h with h | h
   .obtain ⟨b,hb,rfl⟩:=ZG.mp h
    exact ⟨0,by simp,by simpa using hb,by show b + ((n:Int) - b)=_; omega⟩
   .obtain ⟨k,h1,h2,h3⟩:=kI h
    exact ⟨k + 1,by simpa using h1,by simpa using h2,by rw [h3]; omega⟩
theorem Fg {p:List (List Int)}:∀ (k:Nat) (b:Int),WW A0 p k b<=2 ^ k
 | 0,b=>by rw [WW_0]; unfold A0; split <;> decide
 | k + 1,b=>by
   have h1:=Fg (p:=p) k (b - 1)
   have h2:=Fg (p:=p) k b
   have h3:=xJ (p:=p) Bc k (b - 1)
   have h4:=xJ (p:=p) Bc k b
   rw [jD,abF]
   unfold lv
   split <;> split <;> omega
structure rg (p:List (List Int)) (c:Int×Int) (b g:Nat):Prop where
 eq:c=((b:Int),(g:Int))
 dr:b + g<=p.length
 d1:1<=b + g
 led:(b:Int)∈led (p.getD (b + g - 1) [])
 ww:cI p c.1 c.2=WW A0 p (b + g) b
 pos:0 < cI p c.1 c.2
 le:cI p c.1 c.2<=2 ^ (b + g)
theorem IS {x y:Int} {k:Nat} (h:(0<=x /\ x<=(k:Int)) \/ (0<=x - 1 /\ x - 1<=(k:Int))) (e:x + y=((1 + k:Nat):Int)):∃ b g:Nat,x=(b:Int) /\ y=(g:Int) /\ b + g=k + 1 /\ x + y=((b + g:Nat):Int):=⟨x.toNat,y.toNat,by omega,by omega,by omega,by omega⟩
theorem Nu {p:List (List Int)} (hp:Pl p) {c:Int×Int} (h:c∈bq 1 (p.map led)):∃ b g:Nat,rg p c b g:=by
 obtain ⟨k,h1,h2,h3⟩:=kI h
 rw [Y7] at h1
 have e:(p.map led).getD k []=led (p.getD k []):=by
  rw [Y9,Y9,Zl,Y4 h1]; rfl
 rw [e] at h2
 have hr:=(nI hp).2 k
 obtain ⟨b,g,qH,Xy,hn,hs⟩:=IS ((f7.mp h2).imp (hr _) (hr _)) h3
 have hw:cI p c.1 c.2=WW A0 p (b + g) b:=by rw [xK hp (k:=b + g) hs,qH]
 refine ⟨b,g,Prod.ext qH Xy,hn ▸ h1,hn ▸ Nat.succ_le_succ (aah k),?_,hw,?_,?_⟩
 .rw [hn,acC,<- qH]; exact h2
 .rw [hw,hn,<- qH]; exact Nt hp k _ h2
 .rw [hw]; exact Fg _ _
theorem Fh (p:List (List Int)) (n:Nat) (b:Int):xH p (b,(n:Int) - b)=decide (b∈p.getD n []):=by
 unfold xH
 simp only
 rw [show b + ((n:Int) - b)=(n:Int) by omega,ZD,Zu (show (0:Int)<=(n:Int) by omega),abb]
 rcases Nat.lt_or_ge n p.length with q | q
 .rw [Zu (show (n:Int) < (p.length:Int) by omega),abb]
 .rw [Zr (show ¬ (n:Int) < (p.length:Int) by omega),acu,Y9,aaO q]
  simp
theorem nJ {p:List (List Int)} (hp:Pl p):bz p=(bq 1 (p.map led)).filter λc=> !xH p c:=by
 obtain ⟨q,rfl,_⟩:=hp.ex
 unfold bz
 rw [List.filter_cons_of_neg]
 have:xH ([0] :: q) (0,0)=true:=by unfold xH; simp
 rw [this]; decide
theorem mB {p:List (List Int)} (hp:Pl p) {c:Int×Int} (h:c∈bz p):∃ b g:Nat,rg p c b g:=by
 rw [nJ hp] at h
 exact Nu hp (aaR.mp h).1
theorem oT {p:List (List Int)} (hp:Pl p) (hl:p.length<=24) (j8:∀ r∈p,r.length<=25):fS [cM p]=some ((bz p).map dC):=by
 rw [zG hl j8,nJ hp]; rfl
theorem CF {G:List D->Option D} {n:Nat} {g:DS->Option (List D)} {δ:DS} {ds:List D} {d:D} (h:g δ=some ds) (hn:ds.length=n) (hG:G ds=some d) (hd:yj d=true):nc G n g δ=some d:=by
 unfold nc; rw [h,Option.bind_some,if_pos hn,hG,Option.bind_some,if_pos hd]
theorem mC {G:List D->Option (List D)} {n:Nat} {g:DS->Option (List D)} {δ:DS} {ds r:List D} (h:g δ=some ds) (hn:ds.length=n) (hG:G ds=some r) (hd:nX r=true):g8 G n g δ=some r:=by
 unfold g8; rw [h,Option.bind_some,if_pos hn,hG,Option.bind_some,if_pos hd]
theorem uX:∀ l:List (Int×Int),nX (l.map dC)=true
 | []=>rfl
 | c :: l=>by
   have:=uX l
   rw [Zn]
   simp [nX,yj,dC] at this ⊢
   exact this
theorem kJ {g:DS->Option D} {δ:DS} {l:List D} (h:g δ=some (.list l)):bb g δ=some l:=by unfold bb; rw [h]; rfl
theorem uY {p:List (List Int)} (hl:p.length<=24) {c:Int×Int} {b g:Nat} (he:rg p c b g):bt (cI p c.1 c.2)<=25:=by
 have h1:=he.pos
 have h2:=he.le
 have h3:=he.dr
 have:(2:Int) ^ (b + g)<=2 ^ 24:=by exact_mod_cast Nat.pow_le_pow_right (by decide) (by omega)
 exact c8 (by omega)
def xM (l:List iS) (B:Int):List Int:=l.map λq=>q.1 * (B / q.2)
theorem IT (l:List iS) (B:Nat) (hp:∀ q∈l,1<=q.2) (h:∀ q∈l,bt q.2<=9000) (h1:∀ q∈l,bt q.1<=100000) (hB:bt (B:Int)<=9001) (hn:l.length<=100000):iu [dP l,.int (B:Nat)]=some ((xM l B).map .int) /\ ∀ t∈xM l B,bt t<=109001:=by
 have hd:∀ q∈l,bt ((B:Int) / q.2)<=9001:=λq hq=>by
  rw [<- Int.fdiv_eq_ediv_of_nonneg _ (show 0<=q.2 by have:=hp q hq; omega)]
  exact intBits_fdiv_le hB
 constructor
 .rw [xt]
  refine aY (ret (.list ((xM l B).map .int)) (bH ?_) (.mk rfl rfl))
  refine ir dF PyData.int (λq=>q.1 * ((B:Int) / q.2)) l rfl hn λq hq=>?_
  exact ah (ah rfl rfl (fI q)) (ah rfl (ah rfl rfl (dW q)) (oR (by have:=hp q hq; omega) (h q hq))) (cE (b0 (h1 q hq) (hd q hq)))
 .intro t ht
  obtain ⟨q,hq,rfl⟩:=ZG.mp ht
  exact gz (h1 q hq) (hd q hq)
end au
namespace au
theorem tF:∀ (l:List Int) (a b:Int),iL l->(∀ x∈l,a<=x /\ x<=b)->a<=b + 1->(l.length:Int)<=b - a + 1
 | [],a,b,_,_,h=>by simp; omega
 | x :: l,a,b,hr,hx,h=>by
   have h1:=hx x Zb
   have ih:=tF l (x + 1) b (ZF.mp hr).2 (λy hy=>⟨by have:=(ZF.mp hr).1 y hy; omega,(hx y (Y8 _ hy)).2⟩) (by omega)
   rw [Zp]
   push_cast
   omega
theorem Fi {p:List (List Int)} (hp:Pl p) (k:Nat):(led (p.getD k [])).length<=k + 2:=by
 have hr:=(nI hp).2 k
 have:=tF (led (p.getD k [])) 0 ((k:Int) + 1) ee (λx hx=>by
  rcases f7.mp hx with z | z
  .have:=hr _ z; omega
  .have:=hr _ z; omega) (by omega)
 omega
end au
namespace au
open PySem L2 Q1
theorem Fj (ts:List KS.T2):∃ r,uw ts r:=by
 let L:Nat->Nat->Prop:=λi j=>KS.lr (ts.getD i (0,0)) (ts.getD j (0,0)) \/ ts.getD i (0,0)=ts.getD j (0,0) /\ i < j
 have dec:∀ i j,Decidable (L i j):=λi j=>by unfold L; exact inferInstance
 have Xz:∀ i j,¬ L i j->¬ L j i->i=j:=λi j a b=>by
  unfold L KS.lr at a b
  have e:ts.getD i (0,0)=ts.getD j (0,0):=KS.og (λz=>a (.inl z)) (λz=>b (.inl z))
  have h1:¬ i < j:=λz=>a (.inr ⟨e,z⟩)
  have h2:¬ j < i:=λz=>b (.inr ⟨e.symm,z⟩)
  omega
 have XA:∀ i j k,L i k->L i j \/ L j k:=λi j k h=>by
  rcases h with h | ⟨h,h'⟩
  .rcases KS.AM (ts.getD j (0,0)) h with z | z
   .exact .inl (.inl z)
   .exact .inr (.inl z)
  .by_cases z:KS.lr (ts.getD i (0,0)) (ts.getD j (0,0))
   .exact .inl (.inl z)
   .by_cases y:KS.lr (ts.getD j (0,0)) (ts.getD i (0,0))
    .rw [h] at y; exact .inr (.inl y)
    .have e:=KS.og z y
     by_cases x:i < j
     .exact .inl (.inr ⟨e,x⟩)
     .exact .inr (.inr ⟨e.symm.trans h,by omega⟩)
 let le:Nat->Nat->Bool:=λi j=> !(@decide (L j i) (dec j i))
 have hle:∀ i j,le i j=true↔¬ L j i:=λi j=>by
  show (!(@decide (L j i) (dec j i)))=true↔_
  rw [ab7,abX]
 refine ⟨(List.range ts.length).mergeSort le,List.mergeSort_perm _ _,?_⟩
 have h1:((List.range ts.length).mergeSort le).Pairwise λi j=>le i j=true:=List.pairwise_mergeSort (λa b c x y=>by
  rw [hle] at *
  intro z
  rcases XA _ b _ z with q | q
  .exact y q
  .exact x q) (λa b=>by
  rw [Bool.or_eq_true,hle,hle]
  by_cases q:L b a
  .right
   intro z
   rcases q with q | ⟨q,q'⟩
   .rcases z with z | ⟨z,_⟩
    .exact KS.fQ _ (KS.ls q z)
    .rw [z] at q; exact KS.fQ _ q
   .rcases z with z | ⟨_,z'⟩
    .rw [q] at z; exact KS.fQ _ z
    .omega
  .exact .inl q) _
 have h2:((List.range ts.length).mergeSort le).Nodup:=(List.mergeSort_perm _ _).nodup_iff.mpr List.nodup_range
 refine (h1.and h2).imp λ{i j} z=>?_
 obtain ⟨z1,z2⟩:=z
 rw [hle] at z1
 exact Classical.byContradiction λw=>z2 (Xz i j w z1)
theorem xN {ga:DS->Option (List D)} {ix:List Nat} {gb:DS->Option D} {δ:DS} {ds xj kds rs:List D} (h1:ga δ=some ds) (h2:Cp ix δ=some xj) (h3:r6 (λd=>gb ((d :: xj).map some)) ds=some kds) (h4:zg ds kds=some rs):oh ga ix gb δ=some rs:=by
 unfold oh
 rw [h1]
 show (Cp ix δ).bind _=_
 rw [h2]
 show (r6 _ ds).bind _=_
 rw [h3]
 exact h4
theorem uZ {α:Type} (enc k:α->D) {g:D->Option D}:∀ l:List α,(∀ a∈l,g (enc a)=some (k a))->r6 g (l.map enc)=some (l.map k)
 | [],_=>rfl
 | a :: l,h=>by
   rw [Zn,r6,h a Zb]
   show (r6 g (l.map enc)).bind _=_
   rw [uZ enc k l λb hb=>h b (Y8 _ hb)]
   rfl
theorem Nv {g:DS->Option (List D)} {δ:DS} {n:Nat} (h:g δ=some [.int (n:Nat)]) (hn:n<=100000):Ib g δ=some ((List.range n).map λi:Nat=>.int (0 + i)):=by
 unfold Ib
 rw [h]
 show (if _ then _ else _)=_
 rw [Zk ⟨by omega,by omega⟩,ZD]
theorem Nw {g:DS->Option D} {δ:DS} {l:List D} (h:g δ=some (.list l)):Ia g δ=some l:=by unfold Ia; rw [h]; rfl
def Gs (c:Int×Int):KS.T2:=(c.1 + c.2,c.1)
def yq (a b:Int×Int):Prop:=KS.lr (Gs a) (Gs b)
theorem IU {a b:Int×Int} (h:Gs a=Gs b):a=b:=by
 unfold Gs at h
 have h1:=aam Prod.fst h
 have h2:=aam Prod.snd h
 simp only at h1 h2
 exact Prod.ext h2 (by omega)
theorem u5 (a:Int×Int):¬ yq a a:=KS.fQ _
theorem Fk (a b c:Int×Int) (h:yq a b) (k:yq b c):yq a c:=KS.ls h k
theorem xO:∀ (q:List (List Int)) (n:Nat),(∀ r∈q,iL r)->(bq n q).Pairwise yq
 | [],n,_=>by simp [bq]
 | r :: q,n,h=>by
   rw [bq,aaD]
   refine ⟨?_,xO q (n + 1) λs hs=>h s (Y8 _ hs),λa ha b hb=>?_⟩
   .unfold ia
    rw [aaw]
    refine (h r Zb).imp λ{x y} z=>?_
    unfold yq KS.lr Gs
    simp only
    omega
   .unfold ia at ha
    obtain ⟨x,_,rfl⟩:=ZG.mp ha
    obtain ⟨k,_,_,e⟩:=kI hb
    unfold yq KS.lr Gs
    simp only
    left
    omega
theorem kK {p:List (List Int)} (hp:Pl p):(bz p).Pairwise yq:=by
 rw [nJ hp]
 refine List.Pairwise.filter _ (xO _ _ λr hr=>?_)
 obtain ⟨s,_,rfl⟩:=ZG.mp hr
 exact ee
theorem IV {p:List (List Int)} (hp:Pl p):(bz p).Nodup:=(kK hp).imp λ{a b} (h:yq a b) (e:a=b)=>by rw [e] at h; exact u5 _ h
theorem getD_map {α:Type} (enc:α->D) (l:List α) (z:α) (i:Nat) (hi:i < l.length):(l.map enc).getD i .none=enc (l.getD i z):=by
 rw [Y9,Y9,Zl,Y4 hi]; rfl
theorem zK {E R:List (Int×Int)} (hE:E.Pairwise yq) (hR:R.Nodup) (hs:∀ x∈R,x∈E) (vZ:R.length < 64):fR [.list (R.map dC)]=some ((E.filter λx=>decide (x∈R)).map dC):=by
 obtain ⟨r,hr⟩:=Fj (R.map Gs)
 have fg:∀ i∈r,i < R.length:=λi hi=>by
  have:=abf.mp (hr.1.mem_iff.mp hi)
  rwa [Y7] at this
 have e1:zg (R.map dC) (R.map λx=>.tuple [.int (x.1 + x.2),.int x.1])=some (r.map λi=>(R.map dC).getD i .none):=
  AQ (by rw [Y7]; exact vZ) ⟨R,.inr rfl,hR⟩ (.inr (by rw [aay]; rfl)) hr
 have e2:(r.map λi=>(R.map dC).getD i .none)=(r.map λi=>R.getD i (0,0)).map dC:=by
  rw [aay]
  exact acm λi hi=>getD_map dC R (0,0) i (fg i hi)
 have gk:∀ i,i < R.length->(R.map Gs).getD i (0,0)=Gs (R.getD i (0,0)):=λi hi=>by
  rw [Y9,Y9,Zl,Y4 hi]; rfl
 have e3:(r.map λi=>R.getD i (0,0))=E.filter λx=>decide (x∈R):=by
  refine pw_ext u5 Fk ?_ (List.Pairwise.filter _ hE) λz=>?_
  .rw [aaw]
   refine abR (λ{i j} hi hj z=>?_) hr.2
   rw [gk i (fg i hi),gk j (fg j hj)] at z
   rcases z with z | ⟨z,z'⟩
   .exact z
   .have:=IU z
    rw [Y9,Y9,Y4 (fg i hi),Y4 (fg j hj)] at this
    have:=(List.getElem?_inj (i:=i) (j:=j) (fg i hi) hR).mp (by rw [Y4 (fg i hi),Y4 (fg j hj)]; exact aam some this)
    omega
  .rw [aaR,decide_eq_true_iff]
   constructor
   .intro h
    obtain ⟨i,hi,rfl⟩:=ZG.mp h
    have:R.getD i (0,0)∈R:=by
     rw [Y9,Y4 (fg i hi)]; exact aae _
    exact ⟨hs _ this,this⟩
   .rintro ⟨_,h⟩
    obtain ⟨i,hi,e⟩:=ZY h
    refine ZG.mpr ⟨i,hr.1.mem_iff.mpr (abf.mpr (by rw [Y7]; exact hi)),?_⟩
    rw [Y9,Y4 hi]; exact e
 rw [zu]
 refine aY (ret (.list ((E.filter λx=>decide (x∈R)).map dC)) (bH ?_) (.mk rfl rfl))
 rw [<- e3,<- e2]
 refine xN (Nw rfl) rfl (uZ dC (λx=>.tuple [.int (x.1 + x.2),.int x.1]) R λx _=>?_) e1
 exact gT (ah (ah rfl rfl xp) (ah rfl rfl zl) rfl) (ah rfl rfl xp)
theorem Ny (m:Nat) (h:1<=m):Sz m (1,1):=⟨⟨by decide,by decide⟩,bo (c8 (m:=1) (by decide)) h,bo (c8 (m:=1) (by decide)) h⟩
structure Gu (l h c:Int):Prop where
 p1:0 < l
 p2:l < h
 p3:h < c
 p4:c < 2 ^ 40
theorem u6 {s:iS} (hs:Ct s) (zL:bt s.2<=40):bt s.1<=40 /\ bt (s.2 - s.1)<=40:=by
 have hp:=hs.pos
 have hl:=hs.RH
 exact ⟨de (by omega) zL,de (by omega) zL⟩
theorem pw_bt {u:Int} {k:Nat} (h:bt u<=40) (hk:k<=24):bt (u ^ k)<=961:=bo (zk h _) (by omega)
theorem Kt {l h c:Int} (H:Gu l h c):bt (be l c).2<=40 /\ bt (be h c).2<=40 /\ Ct (be l c) /\ Ct (be h c) /\ bt c<=40:=by
 have ⟨a1,a2,a3,a4⟩:=H
 have bc:bt c<=40:=c8 (by omega)
 exact ⟨de ((bG (t:=l) (show c≠0 by omega)).bot_le (by omega)) bc,de ((bG (t:=h) (show c≠0 by omega)).bot_le (by omega)) bc,qQ a1 (by omega),qQ (by omega) a3,bc⟩
theorem u7 (b g:Nat) (s:iS) (hs:Ct s) (zL:bt s.2<=40) (hb:b<=24) (hg:g<=24):Sz 1922 (jZ b g s):=by
 obtain ⟨t1,t2⟩:=u6 hs zL
 exact ⟨pH hs b g,gz (pw_bt t1 hb) (pw_bt t2 hg),gz (pw_bt zL hb) (pw_bt zL hg)⟩
theorem pN (b g:Nat) (s:iS) (hs:Ct s) (zL:bt s.2<=40) (hb:b<=24) (hg:g<=24):jy [.tuple [.int (b:Nat),.int (g:Nat)],dF s]=some (dF (jZ b g s)):=by
 rw [IC]
 refine aY ?_
 obtain ⟨t1,t2⟩:=u6 hs zL
 have vp:=xI s b (bo t1 (by decide)) (bo zL (by decide)) (by omega)
 have vm:=Fc (1,1) s (Ny 4000 (by decide)) ⟨hs.low,bo t1 (by decide),bo zL (by decide)⟩
 rw [EM hs] at vm
 have vq:=xI (s.2 - s.1,s.2) g (bo t2 (by decide)) (bo zL (by decide)) (by omega)
 refine aB [some (.tuple [.int (b:Nat),.int (g:Nat)]),some (dF s),some (dF (s.1 ^ b,s.2 ^ b)),none] (aD (call_of (cons_of rfl (cons_of (ah rfl rfl xp) rfl)) rfl vp)) ?_
 refine aB [some (.tuple [.int (b:Nat),.int (g:Nat)]),some (dF s),some (dF (s.1 ^ b,s.2 ^ b)),some (dF ((s.2 - s.1) ^ g,s.2 ^ g))] (aD (call_of (cons_of (call_of (cons_of rfl (cons_of rfl rfl)) rfl vm) (cons_of (ah rfl rfl zl) rfl)) rfl vq)) ?_
 exact ret (dF (jZ b g s)) (gT (ah (ah rfl rfl (fI _)) (ah rfl rfl (fI _)) (cE (b0 (pw_bt t1 hb) (pw_bt t2 hg)))) (ah (ah rfl rfl (dW _)) (ah rfl rfl (dW _)) (cE (b0 (pw_bt zL hb) (pw_bt zL hg))))) (.mk rfl rfl)
theorem kL (lo hi:iS) (h1:Ct lo) (h2:Ct hi) (b1:bt lo.2<=40) (b2:bt hi.2<=40) (fg:lo.1 * hi.2 < hi.1 * lo.2):dX [dF lo,dF hi]=some .none:=by
 rw [qW]
 have p1:=h1.pos
 have p2:=h2.pos
 have q1:=h1.RH
 have q2:=h2.RH
 obtain ⟨t1,_⟩:=u6 h1 b1
 obtain ⟨t2,_⟩:=u6 h2 b2
 have o0:bt (0:Int)<=40:=c8 (by decide)
 have o1:bt (1:Int)<=40:=c8 (by decide)
 have u1:=jh (0,1) lo (b0 o0 b1) (b0 t1 o1)
 have u2:=jh lo hi (b0 t1 b2) (b0 t2 b1)
 have u3:=jh hi (1,1) (b0 t2 o1) (b0 o1 b2)
 rw [Zu (by omega)] at u1 u3
 rw [Zu fg] at u2
 have:fJ [some (dF lo),some (dF hi)]=some (.nx [some (dF lo),some (dF hi)]):=
  xr (lA (qU (eX (call_of (cons_of rfl (cons_of rfl rfl)) rfl u1)) (qU (eX (call_of (cons_of rfl (cons_of rfl rfl)) rfl u2)) (eX (call_of (cons_of rfl (cons_of rfl rfl)) rfl u3)))))
 rw [this]
 rfl
theorem Fl {l h c:Int} (h1:0 < l) (h2:l < h) (h3:h < c):(be l c).1 * (be h c).2 < (be h c).1 * (be l c).2:=by
 have e1:=(bG (t:=l) (show c≠0 by omega)).eq
 have e2:=(bG (t:=h) (show c≠0 by omega)).eq
 have p1:=(bG (t:=l) (show c≠0 by omega)).pos
 have p2:=(bG (t:=h) (show c≠0 by omega)).pos
 generalize be l c=a at *
 generalize be h c=b at *
 refine aao (a:=c) ?_ (by omega)
 have k1:a.1 * b.2 * c=(a.2 * b.2) * l:=by
  have:a.1 * b.2 * c=a.1 * c * b.2:=by grind
  rw [this,e1]; grind
 have k2:b.1 * a.2 * c=(a.2 * b.2) * h:=by
  have:b.1 * a.2 * c=b.1 * c * a.2:=by grind
  rw [this,e2]; grind
 rw [k1,k2]
 exact Int.mul_lt_mul_of_pos_left h2 (aai (by omega) (by omega))
theorem Bg {l h c:Int} (H:Gu l h c) (b g:Nat) (hb:b<=24) (hg:g<=24):pK [.tuple [.int (b:Nat),.int (g:Nat)],dF (be l c),dF (be h c)]=some (dF (rat b g (be l c) (be h c))) /\ Sz 3844 (rat b g (be l c) (be h c)):=by
 obtain ⟨b1,b2,s1,s2,_⟩:=Kt H
 have z1:=u7 b g _ s1 b1 hb hg
 have z2:=u7 b g _ s2 b2 hb hg
 have p1:=AY s1 b g
 have vo:=IQ (jZ b g (be h c)) (jZ b g (be l c)) (z2.up (by decide)) (z1.up (by decide)) (by omega)
 have lw:Og ((jZ b g (be l c)).2,(jZ b g (be l c)).1):=⟨by show 1<=(jZ b g (be l c)).1; omega,by show Int.gcd _ _=1; rw [Int.gcd_comm]; exact z1.low.2⟩
 have e:be (jZ b g (be l c)).2 (jZ b g (be l c)).1=((jZ b g (be l c)).2,(jZ b g (be l c)).1):=xn lw
 rw [e] at vo
 refine ⟨?_,Nn z2 ⟨lw,z1.bot,z1.top⟩⟩
 rw [ID]
 refine aY ?_
 refine aB [some (.tuple [.int (b:Nat),.int (g:Nat)]),some (dF (be l c)),some (dF (be h c))] ?_ (ret _ (call_of (cons_of (call_of (cons_of rfl (cons_of rfl rfl)) rfl (pN b g _ s2 b2 hb hg)) (cons_of (call_of (cons_of rfl (cons_of rfl rfl)) rfl (pN b g _ s1 b1 hb hg)) rfl)) rfl vo) (.mk rfl rfl))
 exact uV (call_of (cons_of rfl (cons_of rfl rfl)) rfl (kL _ _ s1 s2 b1 b2 (Fl H.p1 H.p2 H.p3)))
theorem Ku {f:D->Option D} {g:DS->Option D} {δ:DS} {x:D} {r:Option D} (h:g δ=some x) (h2:f x=r):g1 f g δ=r:=by unfold g1; rw [h]; exact h2
theorem Fm {α:Type} {t:D->DS->Option DS} {b:DS->Option Res} (enc:α->D) (W:Nat->DS->Prop) (P:D->Prop):∀ (xs:List α) (k:Nat) {δ:DS},W k δ->(∀ i x δ,xs[i]?=some x->W (k + i) δ->∃ fD,t (enc x) δ=some fD /\ ((∃ δ',b fD=some (.nx δ') /\ W (k + i + 1) δ') \/ ∃ d,b fD=some (.rt d) /\ P d))->
  (∃ δ',j5 t b (xs.map enc) δ=some (.nx δ') /\ W (k + xs.length) δ') \/ ∃ d,j5 t b (xs.map enc) δ=some (.rt d) /\ P d
 | [],k,δ,h,_=>.inl ⟨δ,rfl,h⟩
 | x :: xs,k,δ,h,hs=>by
   obtain ⟨fD,e1,h1⟩:=hs 0 x δ rfl h
   rw [Zn,j5,e1]
   rcases h1 with ⟨δ',e2,h2⟩ | ⟨d,e2,h2⟩
   .show (∃ δ',(b fD).bind _=_ /\ _) \/ ∃ d,(b fD).bind _=_ /\ _
    rw [e2]
    have:=Fm enc W P xs (k + 1) (δ:=δ') h2 λi y δ hy hw=>by
     have:=hs (i + 1) y δ hy (by rw [show k + (i + 1)=k + 1 + i by omega]; exact hw)
     rwa [show k + (i + 1) + 1=k + 1 + i + 1 by omega] at this
    rw [show k + (x :: xs).length=k + 1 + xs.length by rw [Zp]; omega]
    exact this
   .right
    refine ⟨d,?_,h2⟩
    show (b fD).bind _=_
    rw [e2]; rfl
theorem Fn {α:Type} {t:D->DS->Option DS} {gi:DS->Option (List D)} {b rest:DS->Option Res} {β:Type} {f:Res->Option β} {R:β->Prop} {δ:DS} (enc:α->D) (xs:List α) (W:Nat->DS->Prop) (P:D->Prop) (hi:gi δ=some (xs.map enc)) (h:W 0 δ)
  (hs:∀ i x δ,xs[i]?=some x->W i δ->∃ fD,t (enc x) δ=some fD /\ ((∃ δ',b fD=some (.nx δ') /\ W (i + 1) δ') \/ ∃ d,b fD=some (.rt d) /\ P d)) (k1:∀ δ',W xs.length δ'->dj ((rest δ').bind f) R) (k2:∀ d,P d->dj (f (.rt d)) R):dj ((aw (eI gi t b) rest δ).bind f) R:=by
 rcases Fm (t:=t) (b:=b) enc W P xs 0 h (λi x δ hx hw=>by rw [aas] at hw ⊢; exact hs i x δ hx hw) with ⟨δ',e,hw⟩ | ⟨d,e,hp⟩
 .rw [jw (δ':=δ') (by unfold eI; rw [hi]; exact e)]
  rw [aas] at hw
  exact k1 δ' hw
 .have:aw (eI gi t b) rest δ=some (.rt d):=by
   unfold aw eI
   rw [hi]
   show (j5 t b (xs.map enc) δ).bind _=_
   rw [e]; rfl
  rw [this]
  exact k2 d hp
theorem u9:∀ (l:List iS) (B M:Nat),B ∣ M->(∀ q∈l,q.2.natAbs ∣ M)->gy l B ∣ M
 | [],B,M,h,_=>h
 | q :: l,B,M,h,k=>u9 l _ M (Nat.lcm_dvd h (k q Zb)) λr hr=>k r (Y8 _ hr)
theorem Qs (l:List iS) (M:Nat) (hM:0 < M) (hb:bt (M:Int)<=3990) (hp:∀ q∈l,1<=q.2) (hd:∀ q∈l,q.2 ∣ (M:Int)):eY [dP l]=some (.int (gy l 1:Nat)) /\ bt ((gy l 1:Nat):Int)<=3990:=by
 have T6:∀ q∈l,q.2.natAbs ∣ M:=λq hq=>by
  have:=aca.mpr (hd q hq)
  rwa [aaP] at this
 have small:∀ B:Nat,B ∣ M->bt (B:Int)<=3990:=λB h=>de (by rw [aaP,aaP]; exact ach hM h) hb
 have pre:∀ i,gy (l.take i) 1 ∣ M:=λi=>u9 _ _ _ (Nat.one_dvd _) λq hq=>T6 q (Z5 hq)
 refine ⟨?_,small _ (u9 _ _ _ (Nat.one_dvd _) T6)⟩
 rw [pe]
 refine aY ?_
 refine aB [some (dP l),some (.int 1),none] rfl ?_
 refine iq dF l (λi δ=>∃ (x:Option D),δ=[some (dP l),some (.int (gy (l.take i) 1:Nat)),x]) rfl ⟨none,rfl⟩ ?_ ?_
 .rintro i q δ hq ⟨x,rfl⟩
  have hm:=Zq hq
  have h2:=hp q hm
  have hB:0 < gy (l.take i) 1:=qP _ 1 (by decide) λq hq=>by have:=hp q (Z5 hq); omega
  have e1:gy (l.take (i + 1)) 1=Nat.lcm (gy (l.take i) 1) q.2.natAbs:=by
   rw [List.take_succ,hq]
   show gy (l.take i ++ [q]) 1=_
   rw [EL]; rfl
  have hb:bt ((gy (l.take i) 1:Nat):Int)<=3990:=small _ (pre i)
  generalize gy (l.take i) 1=B at *
  obtain ⟨c,hc⟩:∃ c:Nat,q.2=c:=⟨q.2.toNat,by omega⟩
  have h3:bt (c:Int)<=3990:=small c (by have:=T6 q hm; rwa [hc,aaP] at this)
  have hg:0 < Nat.gcd B c:=Nat.gcd_pos_of_pos_left _ hB
  have XB:bt ((Nat.gcd B c:Nat):Int)<=3990:=by
   refine de ?_ h3
   have:=ach (by omega) (acO B c)
   omega
  have Vw:bt ((B / Nat.gcd B c:Nat):Int)<=3990:=de (by rw [aaP,aaP]; exact Nat.div_le_self _ _) hb
  have ed:B / Nat.gcd B c * c=Nat.lcm B c:=by
   unfold Nat.lcm
   obtain ⟨k,hk⟩:=Nat.gcd_dvd_left B c
   conv=>lhs; lhs; lhs; rw [hk]
   conv=>rhs; lhs; rw [hk]
   rw [Nat.mul_div_cancel_left _ hg,Nat.mul_assoc,Nat.mul_div_cancel_left _ hg]
  have i1:aO (dF q) (.int 1)=some (.int (c:Nat)):=by rw [dW,hc]
  refine ⟨_,[some (dP l),some (.int (gy (l.take (i + 1)) 1:Nat)),some (dF q)],rfl,?_,some (dF q),rfl⟩
  rw [e1,hc,aaP,<- ed]
  refine aD (ah (ah rfl (call_of (cons_of rfl (cons_of (ah rfl rfl i1) rfl)) rfl (zH _ _ (bo h3 (by decide)))) (oR (a:=(B:Int)) (b:=((Nat.gcd B c:Nat):Int)) (by omega) (bo XB (by decide)))) (ah rfl rfl i1) ?_)
  rw [<- Int.natCast_ediv,cE (b0 Vw h3),<- Int.natCast_mul]
 .rintro δ' ⟨x,rfl⟩
  rw [Z8]
  exact ret _ rfl (.mk rfl rfl)
theorem Nz {a b:DS->Option Res} {δ:DS} {d:D} (h:a δ=some (.rt d)):aw a b δ=some (.rt d):=by unfold aw; rw [h]; rfl
theorem Fo {c:DS->Option Bool} {a b:DS->Option Res} {δ:DS} {r:Option Res} (h:c δ=some true) (h2:a δ=r):iV c a b δ=r:=by unfold iV; rw [h]; exact h2
theorem Fp {g:DS->Option D} {δ:DS} {d:D} (h:g δ=some d):bx g δ=some (.rt d):=by unfold bx; rw [h]; rfl
theorem tH {a b U:Int} (hU:U≠0):uA (be a U) (be b U)=be (a + b) U:=by
 rw [Il hU hU]
 refine nD (Z1 hU hU) hU ?_
 grind
theorem Fq {m:iS} {t U:Int} (hU:0 < U):m.1 * (be t U).2 < (be t U).1 * m.2↔m.1 * U < t * m.2:=by
 have e:=(bG (t:=t) (show U≠0 by omega)).eq
 have p:=(bG (t:=t) (show U≠0 by omega)).pos
 generalize be t U=q at *
 have k:(q.1 * m.2) * U=(t * m.2) * q.2:=by
  have:(q.1 * m.2) * U=(q.1 * U) * m.2:=by grind
  rw [this,e]; grind
 have k2:(m.1 * q.2) * U=(m.1 * U) * q.2:=by grind
 constructor
 .intro h
  have:(m.1 * q.2) * U < (q.1 * m.2) * U:=aaF h hU
  rw [k,k2] at this
  exact aao this (by omega)
 .intro h
  have:(m.1 * U) * q.2 < (t * m.2) * q.2:=aaF h (by omega)
  rw [<- k,<- k2] at this
  exact aao this (by omega)
theorem rh {M:Nat}:∀ (l:List Int),(∀ x∈l,x.natAbs<=M)->l.sum.natAbs<=l.length * M
 | [],_=>by simp
 | x :: l,h=>by
   have h1:=h x Zb
   have h2:=rh l λy hy=>h y (Y8 _ hy)
   rw [aaG,Zp,Nat.succ_mul]
   have:=Int.natAbs_add_le x l.sum
   omega
theorem Fs {l:List Int} {m:Nat} (h:∀ x∈l,bt x<=m) (hl:l.length < 64):bt l.sum<=m + 6:=by
 refine c8 ?_
 have h1:=rh (M:=2 ^ m) l λx hx=>aak (Qj (h x hx))
 have h2:l.length * 2 ^ m < 64 * 2 ^ m:=Nat.mul_lt_mul_of_pos_right hl (Nat.two_pow_pos m)
 rw [Nat.pow_add]
 omega
def yr (rt:Int×Int->iS) (lo hi:Int×Int->Int) (U:Int) (e:Int×Int):D:=.tuple [dC e,dF (rt e),dF (be (lo e) U),dF (be (hi e) U)]
def IW (rt:Int×Int->iS):List (Int×Int)->iS
 | []=>(0,1)
 | e :: _=>rt e
theorem ix4_1 {a b c d:D}:aO (.tuple [a,b,c,d]) (.int 1)=some b:=rfl
theorem vb {a b c d:DS->Option D} {δ:DS} {x y z w:D} (h1:a δ=some x) (h2:b δ=some y) (h3:c δ=some z) (h4:d δ=some w):aQ (aa a (aa b (aa c (aa d af)))) δ=some (.tuple [x,y,z,w]):=by
 unfold aQ
 rw [cons_of h1 (cons_of h2 (cons_of h3 (cons_of h4 rfl)))]; rfl
def aV (p:List (List Int)) (t c:Int) (e:Int×Int):Int:=cI p e.1 e.2 * c ^ (p.length - e.1.toNat - e.2.toNat) * (t ^ e.1.toNat * (c - t) ^ e.2.toNat)
def dG (l h c:Int) (e:Int×Int):iS:=rat e.1.toNat e.2.toNat (be l c) (be h c)
theorem IX {t c:Int} (h1:0 < t) (h2:t < c) (b g:Nat):jZ b g (be t c)=be (t ^ b * (c - t) ^ g) (c ^ b * c ^ g):=by
 have hs:=qQ h1 h2
 have lw:=pH hs b g
 exact (⟨lw.1,lw.2,zj h1 h2 b g⟩:l9 (jZ b g (be t c)).1 (jZ b g (be t c)).2 _ _).qm (Z1 (abS (by omega)) (abS (by omega)))
theorem xP {p:List (List Int)} {e:Int×Int} {b g:Nat} (ok:rg p e b g) {t c:Int} (h1:0 < t) (h2:t < c):r8 (cI p e.1 e.2,1) (jZ b g (be t c))=be (aV p t c e) (c ^ p.length):=by
 have hb:e.1.toNat=b:=by rw [ok.eq]; exact ZD b
 have hg:e.2.toNat=g:=by rw [ok.eq]; exact ZD g
 have hc:c≠0:=by omega
 have hw:((cI p e.1 e.2,1):iS)=be (cI p e.1 e.2) 1:=(xn (q:=(cI p e.1 e.2,1)) ⟨abY 1,by show Int.gcd _ 1=1; exact Int.gcd_one_right _⟩).symm
 have Lq:c ^ b * c ^ g≠0:=Z1 (abS hc) (abS hc)
 rw [hw,IX h1 h2,Ik (by decide) Lq]
 unfold aV
 rw [hb,hg]
 refine nD (Z1 (by decide) Lq) (abS hc) ?_
 have e1:c ^ p.length=c ^ (p.length - b - g) * (c ^ b * c ^ g):=by
  rw [<- Int.pow_add,<- Int.pow_add]
  congr 1
  have:=ok.dr
  omega
 rw [e1]
 grind
theorem gU {p:List (List Int)} {e:Int×Int} {b g:Nat} (ok:rg p e b g):e.1.toNat=b /\ e.2.toNat=g:=by
 rw [ok.eq]; exact ⟨ZD b,ZD g⟩
theorem zM {p:List (List Int)} (hl:p.length<=24) {e:Int×Int} {b g:Nat} (ok:rg p e b g) {t c:Int} (h1:0 < t) (h2:t < c) (h3:c < 2 ^ 40):bt (aV p t c e)<=3000 /\ 0 < aV p t c e:=by
 obtain ⟨hb,hg⟩:=gU ok
 have hd:=ok.dr
 have bc:bt c<=40:=c8 (by omega)
 have b1:bt t<=40:=c8 (by omega)
 have b2:bt (c - t)<=40:=c8 (by omega)
 unfold aV
 rw [hb,hg]
 exact ⟨bo (gz (gz (uY hl ok) (pw_bt bc (show p.length - b - g<=24 by omega))) (gz (pw_bt b1 (show b<=24 by omega)) (pw_bt b2 (show g<=24 by omega)))) (by decide),aai (aai ok.pos (aax (by omega))) (aai (aax h1) (aax (by omega)))⟩
theorem nK {x:Int} {m n:Nat} (h:m<=n):x ^ m ∣ x ^ n:=⟨x ^ (n - m),by rw [<- Int.pow_add]; congr 1; omega⟩
theorem IY {p:List (List Int)} {e:Int×Int} {b g:Nat} (ok:rg p e b g) {l h c:Int} (H:Gu l h c):1<=(dG l h c e).2 /\ (dG l h c e).2 ∣ l ^ p.length * (c - l) ^ p.length:=by
 obtain ⟨hb,hg⟩:=gU ok
 have hd:=ok.dr
 unfold dG
 rw [hb,hg]
 have q:=EN H.p1 (show l < c by have:=H.p2; have:=H.p3; omega) (show 0 < h by have:=H.p1; have:=H.p2; omega) H.p3 b g
 refine ⟨q.pos,Int.dvd_trans q.pG ?_⟩
 exact Int.mul_dvd_mul (nK (by omega)) (nK (by omega))
theorem Ft {x y:iS} {B:Int} (hB:0 < B) (hx:1<=x.2) (hy:1<=y.2) (dx:x.2 ∣ B) (dy:y.2 ∣ B):∃ c:Int,0 < c /\ y.1 * (B / y.2) * c=y.1 * x.2 * B /\ x.1 * (B / x.2) * c=x.1 * y.2 * B:=by
 obtain ⟨k,hk⟩:=dx
 obtain ⟨m,hm⟩:=dy
 refine ⟨x.2 * y.2,aai (by omega) (by omega),?_,?_⟩
 .rw [show B / y.2=m by rw [hm,aa9]; exact abL _ (by omega),hm]; grind
 .rw [show B / x.2=k by rw [hk,aa9]; exact abL _ (by omega),hk]; grind
theorem CG {α:Type} (enc:α->D) (rt:α->iS) (E:List α) (z:α) (M:Nat) (hM:0 < M) (Vx:bt (M:Int)<=3990) (h1:∀ a∈E,aO (enc a) (.int 1)=some (dF (rt a))) (h2:∀ a∈E,1<=(rt a).2 /\ (rt a).2 ∣ (M:Int) /\ bt (rt a).1<=9000) (vZ:E.length < 64) {Bf:α->α->Prop} (hE:E.Pairwise Bf):
  ∃ F:List α,dn [.list (E.map enc)]=some (F.map enc) /\ F.Perm E /\ F.Pairwise λa b=>(rt b).1 * (rt a).2 < (rt a).1 * (rt b).2 \/ (rt b).1 * (rt a).2=(rt a).1 * (rt b).2 /\ Bf a b:=by
 have hp:∀ q∈E.map rt,1<=q.2:=λq hq=>by obtain ⟨a,ha,rfl⟩:=ZG.mp hq; exact (h2 a ha).1
 have hd:∀ q∈E.map rt,q.2 ∣ (M:Int):=λq hq=>by obtain ⟨a,ha,rfl⟩:=ZG.mp hq; exact (h2 a ha).2.1
 obtain ⟨v1,b1⟩:=Qs (E.map rt) M hM Vx hp hd
 have XC:∀ q∈E.map rt,bt q.2<=9000:=λq hq=>bo (de (bP (hd q hq) (by omega)) Vx) (by decide)
 have YZ:0 < gy (E.map rt) 1:=qP _ 1 (by decide) λq hq=>by have:=hp q hq; omega
 have Vy:=(xo (E.map rt) 1).2
 obtain ⟨v2,b2⟩:=IT (E.map rt) (gy (E.map rt) 1) hp XC (λq hq=>by obtain ⟨a,ha,rfl⟩:=ZG.mp hq; exact bo (h2 a ha).2.2 (by decide)) (bo b1 (by decide)) (by rw [Y7]; omega)
 generalize gy (E.map rt) 1=B at *
 have eT:xM (E.map rt) B=E.map λa=>(rt a).1 * ((B:Int) / (rt a).2):=by unfold xM; rw [List.map_map]; rfl
 rw [eT] at v2
 generalize hT:(λa:α=>(rt a).1 * ((B:Int) / (rt a).2))=T at v2
 obtain ⟨r,hr⟩:=Fj ((List.range E.length).map λi=>(-(T (E.getD i z)),0))
 have yp:∀ i∈r,i < E.length:=λi hi=>by
  have:=abf.mp (hr.1.mem_iff.mp hi)
  rwa [Y7,Z9] at this
 have gE:∀ i,i < E.length->E[i]?=some (E.getD i z):=λi hi=>by rw [Y9,Y4 hi]; rfl
 have Vz:∀ i,i < E.length->((List.range E.length).map λi=>((-(T (E.getD i z)),0):KS.T2)).getD i (0,0)=(-(T (E.getD i z)),0):=λi hi=>by
  rw [Y9,Zl,aaT hi]; rfl
 refine ⟨r.map λi=>E.getD i z,?_,?_,?_⟩
 .rw [ml]
  refine aY ?_
  refine aB [some (.list (E.map enc)),some (dP (E.map rt)),none,none] (aD (bH ?_)) ?_
  .show eM _ _ _ _=some ((E.map rt).map dF)
   rw [aay]
   exact ir enc (λa=>dF (rt a)) id E rfl (by omega) (λa ha=>ah rfl rfl (h1 a ha)) |>.trans (by rw [List.map_id]; rfl)
  refine aB [some (.list (E.map enc)),some (dP (E.map rt)),some (.list ((E.map T).map .int)),none] (aD (bH (eP (cons_of rfl (cons_of (call_of (cons_of rfl rfl) rfl v1) rfl)) rfl v2))) ?_
  refine aB [some (.list (E.map enc)),some (dP (E.map rt)),some (.list ((E.map T).map .int)),some (.list (r.map λi:Nat=>.int (0 + i)))] (aD (bH ?_)) ?_
  .have e1:(r.map λi=>(((List.range E.length).map λi:Nat=>(PyData.int (0 + i))):List D).getD i .none)=r.map λi:Nat=>.int (0 + i):=acm λi hi=>by
    rw [Y9,Zl,aaT (yp i hi)]; rfl
   rw [<- e1]
   refine xN (Nv (cons_of (kG (cons_of rfl rfl) (by show some (PyData.int _)=_; rw [Y7])) rfl) (by omega)) rfl (uZ (λi:Nat=>.int (0 + i)) (λi=>.int (-(T (E.getD i z)))) _ λi hi=>?_) (AQ (by rw [Y7,Z9]; exact vZ) ?_ (.inl ⟨(List.range E.length).map λi=> -(T (E.getD i z)),by rw [aay]; rfl,by rw [aay]; rfl⟩) hr)
   .have hi:=abf.mp hi
    have:aO (.list ((E.map T).map .int)) (.int (0 + (i:Int)))=some (.int (T (E.getD i z))):=by
     rw [Int.zero_add]
     exact d8 (by rw [Zl,Zl,gE i hi]; rfl)
    show g1 wF _ _=_
    exact Ku (ah rfl rfl this) rfl
   .refine ⟨((List.range E.length).map λi:Nat=>((0 + i:Int),0)),.inl ⟨(List.range E.length).map λi:Nat=>(0 + i:Int),by rw [aay]; rfl,by rw [aay]; rfl⟩,?_⟩
    rw [List.Nodup,aaw]
    refine List.nodup_range.imp λ{i j} h e=>h ?_
    have:=aam Prod.fst e
    simp only at this
    omega
  .refine ret (.list ((r.map λi=>E.getD i z).map enc)) (bH ?_) (.mk rfl rfl)
   exact ir (λi:Nat=>.int (0 + i)) enc (λi=>E.getD i z) r rfl (by rw [hr.1.length_eq,Z9,Y7,Z9]; omega) λi hi=>ah rfl rfl (by
    rw [Int.zero_add]
    exact d8 (by rw [Zl,gE i (yp i hi)]; rfl))
 .refine (hr.1.map _).trans (List.Perm.of_eq ?_)
  rw [Y7,Z9]
  refine ac2 (by simp) λi h1 h2=>?_
  rw [ace,List.getElem_range,Y9,Y4 h2]; rfl
 .rw [aaw]
  refine abR (λ{i j} hi hj w=>?_) hr.2
  rw [Vz i (yp i hi),Vz j (yp j hj)] at w
  have mi:=Zq (gE i (yp i hi))
  have mj:=Zq (gE j (yp j hj))
  obtain ⟨c,hc,k1,k2⟩:=Ft (by omega) (h2 _ mi).1 (h2 _ mj).1 (Vy _ (ZG.mpr ⟨_,mi,rfl⟩)) (Vy _ (ZG.mpr ⟨_,mj,rfl⟩))
  have hB:(0:Int) < B:=by omega
  rw [<- hT] at w
  rcases w with w | ⟨w,w'⟩
  .left
   have:(rt (E.getD j z)).1 * ((B:Int) / (rt (E.getD j z)).2) < (rt (E.getD i z)).1 * ((B:Int) / (rt (E.getD i z)).2):=by
    unfold KS.lr at w; simp only at w; omega
   have:=aaF this hc
   rw [k1,k2] at this
   exact aao this (by omega)
  .right
   have:(rt (E.getD j z)).1 * ((B:Int) / (rt (E.getD j z)).2)=(rt (E.getD i z)).1 * ((B:Int) / (rt (E.getD i z)).2):=by
    have:=aam Prod.fst w; simp only at this; omega
   have:=aam (· * c) this
   rw [k1,k2] at this
   refine ⟨aaK (by omega) this,?_⟩
   have:=aau.mp hE i j (yp i hi) (yp j hj) w'
   have g1:=gE i (yp i hi)
   have g2:=gE j (yp j hj)
   rw [Y4 (yp i hi)] at g1
   rw [Y4 (yp j hj)] at g2
   rw [<- Option.some.inj g1,<- Option.some.inj g2]
   exact this
theorem Fu (rt:Int×Int->iS) (lo hi:Int×Int->Int) {U:Int} (hU:0 < U) (bU:bt U<=3000) (E F:List (Int×Int)) (m:iS) (hm:Sz 1000 m) (h0:0<=m.1) (hE:E.Pairwise yq) (Ey:F.Nodup) (hs:∀ x∈F,x∈E) (vZ:F.length < 64)
  (hb:∀ e∈F,bt (lo e)<=3000 /\ bt (hi e)<=3000):∃ R S,F=R ++ S /\ nH [.list (F.map (yr rt lo hi U)),dF m]=some (.tuple [.list ((E.filter λx=>decide (x∈R)).map dC),dF (IW rt S),dF (be (R.map lo).sum U),dF (be (R.map hi).sum U)]) /\ ((R.map lo).sum * m.2<=m.1 * U /\ ∀ e S',S=e :: S'->m.1 * U < ((R.map lo).sum + lo e) * m.2):=by
 have bs:∀ (f:Int×Int->Int) (i:Nat),(∀ e∈F,bt (f e)<=3000)->bt ((F.take i).map f).sum<=3006:=λf i hf=>Fs (λx hx=>by
  obtain ⟨e,he,rfl⟩:=ZG.mp hx
  exact hf e (Z5 he)) (by rw [Y7,ZH]; omega)
 have Ro:∀ e∈F,bt (lo e)<=3000:=λe he=>(hb e he).1
 have VA:∀ e∈F,bt (hi e)<=3000:=λe he=>(hb e he).2
 have Qt:∀ {t:Int},bt t<=3006->Sz 4000 (be t U):=λ{t} h=>tD (by omega) (bo h (by decide)) (bo bU (by decide))
 have io:∀ i,fR [.list ((F.take i).map dC)]=some ((E.filter λx=>decide (x∈F.take i)).map dC):=λi=>
  zK hE (Ey.sublist (acG i F)) (λx hx=>hs x (Z5 hx)) (by rw [ZH]; omega)
 have q0:(0,1)=be 0 U:=((EJ (t:=0) (show U≠0 by omega)).mpr rfl).symm
 suffices key:dj (nH [.list (F.map (yr rt lo hi U)),dF m]) λd=>∃ R S,F=R ++ S /\ d=.tuple [.list ((E.filter λx=>decide (x∈R)).map dC),dF (IW rt S),dF (be (R.map lo).sum U),dF (be (R.map hi).sum U)] /\ ((R.map lo).sum * m.2<=m.1 * U /\ ∀ e S',S=e :: S'->m.1 * U < ((R.map lo).sum + lo e) * m.2) by
  obtain ⟨_,e,R,S,h1,rfl,h2⟩:=key
  exact ⟨R,S,h1,e,h2⟩
 rw [IE]
 refine aB [some (.list (F.map (yr rt lo hi U))),some (dF m),some (.list []),none,none,none,none,none,none,none] rfl ?_
 refine aB [some (.list (F.map (yr rt lo hi U))),some (dF m),some (.list []),some (dF (0,1)),none,none,none,none,none,none] rfl ?_
 refine aB [some (.list (F.map (yr rt lo hi U))),some (dF m),some (.list []),some (dF (0,1)),some (dF (0,1)),none,none,none,none,none] rfl ?_
 refine Fn (yr rt lo hi U) F (λi δ=>((F.take i).map lo).sum * m.2<=m.1 * U /\ ∃ a b c d e:Option D,δ=[some (.list (F.map (yr rt lo hi U))),some (dF m),some (.list ((F.take i).map dC)),some (dF (be ((F.take i).map lo).sum U)),some (dF (be ((F.take i).map hi).sum U)),a,b,c,d,e])
  (λd=>∃ R S,F=R ++ S /\ d=.tuple [.list ((E.filter λx=>decide (x∈R)).map dC),dF (IW rt S),dF (be (R.map lo).sum U),dF (be (R.map hi).sum U)] /\ ((R.map lo).sum * m.2<=m.1 * U /\ ∀ e S',S=e :: S'->m.1 * U < ((R.map lo).sum + lo e) * m.2)) rfl ?_ ?_ ?_ ?_
 .refine ⟨?_,none,none,none,none,none,?_⟩
  .show (0:Int) * m.2<=m.1 * U
   rw [adg]; exact Int.mul_nonneg h0 (by omega)
  .show _=[_,_,some (.list []),some (dF (be 0 U)),some (dF (be 0 U)),none,none,none,none,none]
   rw [<- q0]
 .rintro i e δ he ⟨hle,a,b,c,d,x,rfl⟩
  have HY:=Zq he
  have AK:i < F.length:=(Zd.mp he).1
  have et:F.take (i + 1)=F.take i ++ [e]:=by rw [Z4,he]; rfl
  have Qu:((F.take (i + 1)).map lo).sum=((F.take i).map lo).sum + lo e:=by rw [et,ZI,List.sum_append]; simp
  have XD:((F.take (i + 1)).map hi).sum=((F.take i).map hi).sum + hi e:=by rw [et,ZI,List.sum_append]; simp
  have vp:=uW (be ((F.take i).map lo).sum U) (be (lo e) U) (Qt (bs lo i Ro)) (Qt (bo (Ro e HY) (by decide)))
  rw [tH (by omega),<- Qu] at vp
  have vh:=uW (be ((F.take i).map hi).sum U) (be (hi e) U) (Qt (bs hi i VA)) (Qt (bo (VA e HY) (by decide)))
  rw [tH (by omega),<- XD] at vh
  have z:=Qt (bs lo (i + 1) Ro)
  have vu:=jh m (be ((F.take (i + 1)).map lo).sum U) (b0 hm.top z.bot) (b0 z.top hm.bot)
  refine ⟨[some (.list (F.map (yr rt lo hi U))),some (dF m),some (.list ((F.take i).map dC)),some (dF (be ((F.take i).map lo).sum U)),some (dF (be ((F.take i).map hi).sum U)),some (dC e),some (dF (rt e)),some (dF (be (lo e) U)),some (dF (be (hi e) U)),x],rfl,?_⟩
  have s1:aG 9 (ay mf 2 (aa (ae 3) (aa (ae 7) af))) [some (.list (F.map (yr rt lo hi U))),some (dF m),some (.list ((F.take i).map dC)),some (dF (be ((F.take i).map lo).sum U)),some (dF (be ((F.take i).map hi).sum U)),some (dC e),some (dF (rt e)),some (dF (be (lo e) U)),some (dF (be (hi e) U)),x]=some (.nx [some (.list (F.map (yr rt lo hi U))),some (dF m),some (.list ((F.take i).map dC)),some (dF (be ((F.take i).map lo).sum U)),some (dF (be ((F.take i).map hi).sum U)),some (dC e),some (dF (rt e)),some (dF (be (lo e) U)),some (dF (be (hi e) U)),some (dF (be ((F.take (i + 1)).map lo).sum U))]):=aD (call_of (cons_of rfl (cons_of rfl rfl)) rfl vp)
  by_cases hc:m.1 * U < ((F.take (i + 1)).map lo).sum * m.2
  .right
   rw [Zu ((Fq hU).mpr hc)] at vu
   have ed:F.drop i=e :: F.drop (i + 1):=by rw [aaM AK]; rw [Y4 AK] at he; cases he; rfl
   refine ⟨_,b7 _ s1 ?_,F.take i,F.drop i,(abr i F).symm,rfl,hle,λe' S' es=>?_⟩
   rotate_left
   .rw [ed] at es
    cases es
    rw [<- Qu]; exact hc
   have er:IW rt (F.drop i)=rt e:=by rw [ed]; rfl
   rw [er]
   exact Nz (Fo (eX (call_of (cons_of rfl (cons_of rfl rfl)) rfl vu)) (Fp (vb (bH (mC (cons_of rfl rfl) rfl (io i) (uX _))) rfl rfl rfl)))
  .left
   rw [Zr λw=>hc ((Fq hU).mp w)] at vu
   refine ⟨_,b7 _ s1 (b7 _ (xr (eX (call_of (cons_of rfl (cons_of rfl rfl)) rfl vu))) (b7 _ (oo rfl rfl (by rw [Y7,ZH]; omega)) (b7 _ (aD rfl) (aD (call_of (cons_of rfl (cons_of rfl rfl)) rfl vh))))),by omega,some (dC e),some (dF (rt e)),some (dF (be (lo e) U)),some (dF (be (hi e) U)),some (dF (be ((F.take (i + 1)).map lo).sum U)),?_⟩
   rw [show (F.take (i + 1)).map dC=(F.take i).map dC ++ [dC e] by rw [et,ZI]; rfl]
   rfl
 .rintro δ' ⟨hle,a,b,c,d,x,rfl⟩
  rw [Z8] at hle
  have vi:=io F.length
  rw [Z8] at vi ⊢
  refine ret (.tuple [.list ((E.filter λx=>decide (x∈F)).map dC),dF (0,1),dF (be (F.map lo).sum U),dF (be (F.map hi).sum U)]) (vb (bH (mC (cons_of rfl rfl) rfl vi (uX _))) rfl rfl rfl) (.mk rfl ⟨F,[],by simp,rfl,hle,λ_ _ z=>nomatch z⟩)
 .rintro d ⟨R,S,h1,rfl,h2⟩
  exact .mk rfl ⟨R,S,h1,rfl,h2⟩
theorem sf (m:iS) (hm:Sz 1000 m) (h0:0<=m.1) (h1:m.1<=m.2):gR [dF m]=some .none:=by
 rw [uN]
 have p:=hm.low.1
 have o0:bt (0:Int)<=40:=c8 (by decide)
 have o1:bt (1:Int)<=40:=c8 (by decide)
 have u1:=jh m (0,1) (b0 hm.top o1) (b0 o0 hm.bot)
 have u2:=jh (1,1) m (b0 o1 hm.bot) (b0 hm.top o1)
 rw [Zr (by show ¬ m.1 * 1 < 0 * m.2; omega)] at u1
 rw [Zr (by show ¬ 1 * m.2 < m.1 * 1; omega)] at u2
 have:gQ [some (dF m)]=some (.nx [some (dF m)]):=xr (A5 (eX (call_of (cons_of rfl (cons_of rfl rfl)) rfl u1)) (eX (call_of (cons_of rfl (cons_of rfl rfl)) rfl u2)))
 rw [this]
 rfl
def TE (n:Nat) (x:D):Prop:=PyData.canLay0 x=true /\ PyData.depth x<=n
theorem TE.sh {n:Nat} {x:D} (h:TE n x) (hn:n<=60):SeqAt.shaped x=true:=by
 obtain ⟨a,b⟩:=h
 unfold SeqAt.shaped
 rw [a]; simp; omega
theorem Fv (c:Int×Int):TE 2 (dC c):=by
 have e:dC c=.tuple (([c.1,c.2]:List Int).map .int):=rfl
 rw [e]
 simp [TE,PyData.canLay0,PyData.canLayAll0,PyData.depth,PyData.depthAll]
theorem Qv (cs:List (Int×Int)):TE 3 (.list (cs.map dC)):=by
 have h:PyData.canLayAll0 (cs.map dC)=true /\ PyData.depthAll (cs.map dC)<=2:=by
  induction cs with
  | nil=>simp [PyData.canLayAll0,PyData.depthAll]
  | cons c cs ih=>
    obtain ⟨a,b⟩:=Fv c
    rw [Zn,PyData.canLayAll0,PyData.depthAll,a,ih.1]
    exact ⟨rfl,by have:=ih.2; omega⟩
 unfold TE
 rw [PyData.canLay0,PyData.depth]
 exact ⟨h.1,by have:=h.2; omega⟩
theorem Bh (a c:Int×Int):PyData.eqv (dC a) (dC c)=decide (a=c):=by
 obtain ⟨a1,a2⟩:=a
 obtain ⟨c1,c2⟩:=c
 simp [dC,PyData.eqv,PyData.eqvAll]
 rfl
theorem IZ (neg:Bool) (c:Int×Int) (es:List (Int×Int)):Ei neg (dC c) (.list (es.map dC))=some (.bool (decide (c∈es) != neg)):=by
 unfold Ei
 simp only
 rw [Zk (by rw [(Fv c).sh (by decide),abb,List.all_map]; simp [Function.comp,λc=>(Fv c).sh (show 2<=60 by decide)])]
 congr 3
 rw [List.any_map,Bool.eq_iff_iff]
 simp [Function.comp,Bh]
theorem Fw (cs:List (Int×Int)):BQ (.list (cs.map dC)) (.list (cs.map dC))=some (.bool false):=by
 have h:=(Qv cs).sh (by decide)
 have e:rS (.list (cs.map dC)) (.list (cs.map dC))=some (.bool (PyData.eqv (.list (cs.map dC)) (.list (cs.map dC)))):=by
  show (if (SeqAt.shaped _ && SeqAt.shaped _)=true then _ else _)=_
  rw [Zk (by rw [h]; rfl)]
 refine (Nd e).trans ?_
 have ea:∀ l:List (Int×Int),PyData.eqvAll (l.map dC) (l.map dC)=true:=λl=>by
  induction l with
  | nil=>rfl
  | cons a l ih=>rw [Zn,PyData.eqvAll,ih,Bh]; simp
 rw [PyData.eqv,ea]
 rfl
theorem Bi:∀ l:List Int,l8 l=l.sum
 | []=>rfl
 | x :: l=>by rw [l8,Bi l,aaG]
theorem jb:∀ l:List Int,jY (l.map .int)=some l
 | []=>rfl
 | x :: l=>by rw [Zn,jY,jb l]; rfl
theorem NA {g:DS->Option (List D)} {δ:DS} {l:List Int} (h:g δ=some (l.map .int)):d7 HM (aa (bJ g) af) δ=some (.int l.sum):=by
 refine kG (cons_of (bH h) rfl) ?_
 show (jY (l.map .int)).map _=_
 rw [jb,<- Bi]; rfl
theorem Fy {l m:List Int} (h:l.Perm m):l.sum=m.sum:=by
 induction h with
 | nil=>rfl
 | cons x _ ih=>rw [aaG,aaG,ih]
 | swap x y l=>rw [aaG,aaG,aaG,aaG]; omega
 | trans _ _ a b=>exact a.trans b
theorem NB {i:Nat} {gk g:DS->Option D} {δ:DS} {ds:List D} {k:Int} {d:D} (h1:ae i δ=some (.list ds)) (h2:gk δ=some (.int k)) (h3:g δ=some d) (RA:0<=k) (hk:k.toNat<=ds.length) (hl:ds.length < 100000):
  HJ i gk g δ=some (.nx (δ.set i (some (.list (ds.take k.toNat ++ d :: ds.drop k.toNat))))):=by
 unfold HJ
 rw [h1,h2,h3]
 show (if _ then _ else _)=_
 rw [Zk ⟨RA,hk,hl⟩]
section
variable (lo hi:Int×Int->Int)
def Bj (a b:Int×Int):Prop:=0 < lo a /\ 0 < lo b /\ (hi b * lo a < hi a * lo b \/ hi b * lo a=hi a * lo b /\ yq a b)
variable {lo hi}
theorem xQ {a b c x y z:Int} (hx:0 < x) (hy:0 < y) (hz:0 < z) (h1:a * y<=b * x) (h2:b * z<=c * y):a * z<=c * x /\ (a * z=c * x->a * y=b * x /\ b * z=c * y):=by
 have k1:a * z * y=a * y * z:=by grind
 have k2:c * x * y=c * y * x:=by grind
 have k3:b * x * z=b * z * x:=by grind
 have m1:a * y * z<=b * x * z:=abk h1 (by omega)
 have m2:b * z * x<=c * y * x:=abk h2 (by omega)
 refine ⟨abC (a:=y) (by omega) hy,λe=>?_⟩
 rw [e] at k1
 refine ⟨aaK (a:=z) (by omega) (by omega),aaK (a:=x) (by omega) (by omega)⟩
theorem Bj.Oe (a:Int×Int):¬ Bj lo hi a a:=λ⟨_,_,h⟩=>by
 rcases h with h | ⟨_,h⟩
 .exact Int.lt_irrefl _ h
 .exact u5 _ h
theorem Bj.tr (a b c:Int×Int) (h:Bj lo hi a b) (k:Bj lo hi b c):Bj lo hi a c:=by
 obtain ⟨p1,p2,h⟩:=h
 obtain ⟨_,p3,k⟩:=k
 refine ⟨p1,p3,?_⟩
 obtain ⟨u,v⟩:=xQ p3 p2 p1 (show hi c * lo b<=hi b * lo c by omega) (show hi b * lo a<=hi a * lo b by omega)
 rcases Int.lt_or_eq_of_le u with z | z
 .exact .inl z
 .obtain ⟨z1,z2⟩:=v z
  exact .inr ⟨z,Fk _ _ _ ((h.resolve_left (by omega)).2) ((k.resolve_left (by omega)).2)⟩
theorem Ja {R:List (Int×Int)} {e:Int×Int} {k:Nat} (hk:k<=R.length) (hR:R.Pairwise (Bj lo hi)) (he:0 < lo e) (hp:∀ a∈R,0 < lo a /\ yq a e) (h1:∀ a∈R.drop k,hi a * lo e < hi e * lo a) (h2:∀ a,R[k - 1]?=some a->0 < k->¬ hi a * lo e < hi e * lo a):
  (R.take k ++ e :: R.drop k).Pairwise (Bj lo hi):=by
 have hb:∀ a∈R.take k,¬ hi a * lo e < hi e * lo a:=λa ha z=>by
  have k0:0 < k:=by
   cases k with
   | zero=>simp at ha
   | succ k=>omega
  have hl:k - 1 < R.length:=by omega
  have:=h2 R[k - 1] (Y4 hl) k0
  obtain ⟨i,AK,rfl⟩:=ZY ha
  rw [ZH] at AK
  rw [abu] at z
  by_cases q:i=k - 1
  .subst q; exact this z
  .have w:=aau.mp hR i (k - 1) (by omega) hl (by omega)
   obtain ⟨p1,p2,w⟩:=w
   have:=(xQ he p2 p1 (show hi e * lo R[k - 1]<=hi R[k - 1] * lo e by omega) (show hi R[k - 1] * lo R[i]<=hi R[i] * lo R[k - 1] by omega)).1
   omega
 have Kv:=hR
 rw [<- List.take_append_drop k R] at Kv
 rw [aaD] at Kv
 refine aaD.mpr ⟨Kv.1,ZF.mpr ⟨λb qH=>?_,Kv.2.1⟩,λa ha b qH=>?_⟩
 .exact ⟨he,(hp b (List.mem_of_mem_drop qH)).1,.inl (h1 b qH)⟩
 .rcases Y6.mp qH with rfl | qH
  .obtain ⟨q1,q2⟩:=hp a (Z5 ha)
   have:=hb a ha
   refine ⟨q1,he,?_⟩
   rcases Int.lt_or_eq_of_le (show hi b * lo a<=hi a * lo b by omega) with z | z
   .exact .inl z
   .exact .inr ⟨z,q2⟩
  .exact Kv.2.2 a ha b qH
end
def tS (f:Int×Int->Int) (O:List (Int×Int)) (k:Nat):Int:=((O.take k).map f).sum
theorem ve {f:Int×Int->Int} {O:List (Int×Int)} {k:Nat} {e:Int×Int} (h:O[k]?=some e):tS f O (k + 1)=tS f O k + f e:=by
 unfold tS
 rw [Z4,h,ZI,List.sum_append]; simp
theorem vj {f:Int×Int->Int} {O:List (Int×Int)} (h:∀ e∈O,0<=f e) {i j:Nat} (g7:i<=j):tS f O i<=tS f O j:=by
 induction j with
 | zero=>rw [show i=0 by omega]; exact abY _
 | succ j ih=>
   by_cases q:i=j + 1
   .rw [q]; exact abY _
   .have h1:=ih (by omega)
    cases e:O[j]? with
    | none=>
      have:O.length<=j:=List.getElem?_eq_none_iff.mp e
      unfold tS at *
      rw [abn (show O.length<=j + 1 by omega)]
      rw [abn this] at h1
      exact h1
    | some x=>
      rw [ve e]
      have:=h x (Zq e)
      omega
theorem CH {g:Nat->Int} (hg:∀ i j,i<=j->g i<=g j) {c:Int} {n r k:Nat} (hr:r<=n) (hk:k<=n) (h1:g r<=c) (h2:r < n->c < g (r + 1)) (h3:g k<=c) (h4:k < n->c < g (k + 1)):r=k:=by
 rcases Nat.lt_trichotomy r k with z | z | z
 .have:=hg (r + 1) k z
  have:=h2 (by omega)
  omega
 .exact z
 .have:=hg (k + 1) r z
  have:=h4 (by omega)
  omega
theorem Qw {n d t b n' d' t' b':Int} (h:l9 n d t b) (h':l9 n' d' t' b') (hb:0 < b) (qH:0 < b'):∃ x y:Int,0 < x /\ 0 < y /\ n * d' * x=t * b' * y /\ n' * d * x=t' * b * y:=by
 have e:=h.eq
 have e':=h'.eq
 have p:=h.pos
 have p':=h'.pos
 refine ⟨b * b',d * d',aai hb qH,aai (by omega) (by omega),?_,?_⟩
 .have:n * d' * (b * b')=n * b * (d' * b'):=by grind
  rw [this,e]; grind
 .have:n' * d * (b * b')=n' * b' * (d * b):=by grind
  rw [this,e']; grind
theorem NC {u v x y:Int} {u' v':Int} (hx:0 < x) (hy:0 < y) (h1:u * x=u' * y) (h2:v * x=v' * y):(u < v->u' < v') /\ (u=v->u'=v'):=by
 constructor
 .intro h
  have:=aaF h hx
  rw [h1,h2] at this
  exact aao this (by omega)
 .intro h
  rw [h,h2] at h1
  exact (aaK (by omega) h1).symm
theorem Jb {i:Nat} {g:DS->Option D} {gb:DS->List D->List D->Option Res} {δ:DS} {l ds:List D} (h:g δ=some (.tuple (.list l :: ds))) (hi:i < δ.length):AV i g gb δ=gb δ l ds:=by
 unfold AV
 rw [h]
 show (if i < δ.length then _ else _)=_
 rw [Zk hi]
theorem vk {i:Nat} {gc:DS->Option Bool} {ga:DS->Option Res} {gb:DS->List D->List D->Option Res} {δ:DS} {l ds:List D} (h:gc (δ.set i (some (tq l ds)))=some false):zh i gc ga gb δ l ds=gb δ l ds:=by
 unfold zh; rw [h]; rfl
theorem Jc {i:Nat} {ge:DS->Option D} {gb:DS->Option Res} {δ:DS} {l ds:List D} {d:D} (h:ge (δ.set i (some (tq l ds)))=some d) (hl:l.length < 100000):AU i ge gb δ l ds=gb (δ.set i none):=by
 unfold AU; rw [h]
 show (if _ then _ else _)=_
 rw [Zk hl]
theorem Fz {α:Type} (enc:α->D) (l:List α) (b:Nat) (hb:b<=l.length):cutD (l.map enc) none (some (b:Int))=(l.take b).map enc:=by
 unfold cutD
 rw [HT.GS,Y7,show HT.p0 l.length 0 none=0 from rfl,Nat.sub_zero,List.drop_zero,Nat.min_eq_left hb,List.map_take]
theorem Qx (cs:List (Int×Int)):rS (.list (cs.map dC)) (.list (cs.map dC))=some (.bool true):=by
 have h:=Fw cs
 unfold BQ at h
 obtain ⟨x,e1,e2⟩:=bind1 h
 rw [e1]
 cases x with
 | bool b=>cases b with
   | true=>rfl
   | false=>cases e2
 | _=>cases e2
theorem ND {g:DS->Option D} {δ:DS} {a b:Int} (h:g δ=some (.int a)):gB (g2 rS g (gC (.int b))) δ=some (decide (a=b)):=dE (ah h rfl rfl)
theorem ri {g h:DS->Option D} {δ:DS} {a b:Int} (h1:g δ=some (.int a)) (h2:h δ=some (.int b)) (hb:0 < b):g2 c5 g h δ=some (.int (a % b)):=ah h1 h2 (eO hb)
theorem Jd {t u:Int} (h0:0<=t) (h1:t<=u) (hu:1<=u) (bu:bt u<=1000):Sz 1000 (be t u) /\ 0<=(be t u).1 /\ (be t u).1<=(be t u).2:=by
 have ok:=bG (t:=t) (show u≠0 by omega)
 have e:=ok.eq
 have p:=ok.pos
 refine ⟨tD (by omega) (de (by omega) bu) bu,?_,?_⟩
 .refine abC (a:=u) ?_ (by omega)
  rw [e,adg]; exact Int.mul_nonneg h0 (by omega)
 .refine abC (a:=u) ?_ (by omega)
  rw [e,aa9]; exact Int.mul_le_mul_of_nonneg_left h1 (by omega)
theorem CI (c:Int) (ts:List Int) (u:Int) (hu:1<=u) (bu:bt u<=1000) (hn:0 < ts.length) (hl:ts.length<=100000) (ht:∀ t∈ts,0<=t /\ t<=u):∃ m:iS,eU [.int c,.list (ts.map .int),.int u]=some (dF m) /\ Sz 1000 m /\ 0<=m.1 /\ m.1<=m.2:=by
 suffices key:dj (eU [.int c,.list (ts.map .int),.int u]) λd=>∃ m:iS,d=dF m /\ Sz 1000 m /\ 0<=m.1 /\ m.1<=m.2 by
  obtain ⟨_,e,m,rfl,q⟩:=key
  exact ⟨m,e,q⟩
 rw [se]
 have w1:=Z2 c (show (5:Int)≠0 by decide)
 have w2:=ZO c (show (0:Int) < 5 by decide)
 refine aB [some (.int c),some (.list (ts.map .int)),some (.int u),some (.int (c % 5))] (aD (ri rfl rfl (by decide))) ?_
 generalize c % 5=w at *
 have bi:∀ {δ:DS},ae 0 δ=some (.int c)->ae 1 δ=some (.list (ts.map .int))->∃ t∈ts,g2 aO (ae 1) (g2 c5 (g2 dQ (ae 0) (gC (.int (5)))) (d7 dh (aa (ae 1) af))) δ=some (.int t):=λ{δ} h0 h1=>by
  have q1:=Z2 (c / 5) (show ((ts.length:Nat):Int)≠0 by omega)
  have q2:=ZO (c / 5) (show 0 < ((ts.length:Nat):Int) by omega)
  obtain ⟨k,hk⟩:∃ k:Nat,c / 5 % ((ts.length:Nat):Int)=k:=⟨(c / 5 % ((ts.length:Nat):Int)).toNat,by omega⟩
  have Hx:k < ts.length:=by omega
  refine ⟨ts[k],aae Hx,ah h1 (ri (b:=((ts.length:Nat):Int)) (ah h0 rfl (dd 5 (by decide) (by decide))) (kG (cons_of h1 rfl) (by show some (PyData.int _)=_; rw [Y7])) (by omega)) ?_⟩
  rw [hk]
  exact d8 (by rw [Zl,Y4 Hx]; rfl)
 have fin:∀ {t v:Int},0<=t->t<=v->1<=v->bt v<=1000->dj (di (.rt (dF (be t v)))) λd=>∃ m:iS,d=dF m /\ Sz 1000 m /\ 0<=m.1 /\ m.1<=m.2:=λa b c d=>.mk rfl ⟨_,rfl,Jd a b c d⟩
 have b1:bt (1:Int)<=1000:=bo (c8 (m:=1) (by decide)) (by decide)
 have Qy:bt (100:Int)<=1000:=bo (c8 (m:=7) (by decide)) (by decide)
 refine jx (decide (w < 2)) (dE (ah rfl rfl rfl)) (λhw=>?_) λhw=>?_
 .have hw:=abv hw
  exact ly _ (call_of (cons_of rfl (cons_of rfl rfl)) rfl (fT w 1 (abY 1) (bo b1 (by decide)))) (fin w1 (by omega) (by omega) b1)
 rw [kx]
 refine jx (decide (w=2)) (ND rfl) (λhw=>?_) λhw=>?_
 .obtain ⟨t,hm,et⟩:=bi (δ:=[some (.int c),some (.list (ts.map .int)),some (.int u),some (.int w)]) rfl rfl
  exact ly _ (call_of (cons_of et (cons_of rfl rfl)) rfl (fT t u hu (bo bu (by decide)))) (fin (ht t hm).1 (ht t hm).2 hu bu)
 rw [kx]
 refine jx (decide (w=3)) (ND rfl) (λhw=>?_) λhw=>?_
 .obtain ⟨t,hm,et⟩:=bi (δ:=[some (.int c),some (.list (ts.map .int)),some (.int u),some (.int w)]) rfl rfl
  obtain ⟨t1,t2⟩:=ht t hm
  obtain ⟨v,ev,v1,v2⟩:∃ v:Int,ql [.int u,.int (t + 1)]=some (.int v) /\ 0<=v /\ v<=u:=⟨_,rfl,by split <;> omega,by split <;> omega⟩
  exact ly _ (call_of (cons_of (kG (cons_of rfl (cons_of (ah et rfl rfl) rfl)) ev) (cons_of rfl rfl)) rfl (fT v u hu (bo bu (by decide)))) (fin v1 v2 hu bu)
 rw [kx]
 have q1:=Z2 (c / 5) (show (101:Int)≠0 by decide)
 have q2:=ZO (c / 5) (show (0:Int) < 101 by decide)
 exact ret _ (call_of (cons_of (ri (ah rfl rfl (dd 5 (by decide) (by decide))) rfl (by decide)) (cons_of rfl rfl)) rfl (fT (c / 5 % 101) 100 (by decide) (bo Qy (by decide)))) (fin q1 (by omega) (by decide) Qy)
theorem nL (n:Int):∃ l h c:Int,eA [.int n]=some (.tuple [.int l,.int h,.int c]) /\ Gu l h c:=by
 suffices key:dj (eA [.int n]) λd=>∃ l h c:Int,d=.tuple [.int l,.int h,.int c] /\ Gu l h c by
  obtain ⟨_,e,l,h,c,rfl,H⟩:=key
  exact ⟨l,h,c,e,H⟩
 rw [uQ]
 have VB:wB (.int 10) (.int 12)=some (.int (10 ^ 12)):=Kr (k:=12) (by decide) (by decide)
 refine aB [some (.int n),some (.int (3 + n / 2 % 12)),none,none,none] (aD (ah rfl (ah (ah rfl rfl (dd 2 (by decide) (by decide))) rfl (eO (by decide))) rfl)) ?_
 refine aB [some (.int n),some (.int (3 + n / 2 % 12)),some (.int (n / 24)),none,none] (aD (ah rfl rfl (dd 24 (by decide) (by decide)))) ?_
 have hc:gB (g2 rS (g2 c5 (ae 0) (gC (.int (2)))) (gC (.int (1)))) [some (.int n),some (.int (3 + n / 2 % 12)),some (.int (n / 24)),none,none]=some (decide (n % 2=1)):=dE (ah (ah rfl rfl (eO (by decide))) rfl rfl)
 have rest:∀ (c r:Int),3<=c->c < 2 ^ 40->dj (((aw (aG 3 (g2 aU (gC (.int (1))) (g2 c5 (ae 2) (g2 cy (ae 1) (gC (.int (2)))))))
  (aw (aG 4 (g2 aU (g2 aU (ae 3) (gC (.int (1)))) (g2 c5 (g2 dQ (ae 2) (g2 cy (ae 1) (gC (.int (2))))) (g2 cy (g2 cy (ae 1) (gC (.int (1)))) (ae 3)))))
  (bx (aQ (aa (ae 3) (aa (ae 4) (aa (ae 1) af))))))) [some (.int n),some (.int c),some (.int r),none,none]).bind di) λd=>∃ l h c:Int,d=.tuple [.int l,.int h,.int c] /\ Gu l h c:=by
  intro c r h3 zL
  have m0:=Z2 r (show c - 2≠0 by omega)
  have m1:=ZO r (show 0 < c - 2 by omega)
  obtain ⟨x,hx⟩:∃ x,x=r % (c - 2):=⟨_,rfl⟩
  rw [<- hx] at m0 m1
  have m2:=Z2 (r / (c - 2)) (show c - 1 - (1 + x)≠0 by omega)
  have m3:=ZO (r / (c - 2)) (show 0 < c - 1 - (1 + x) by omega)
  refine aB [some (.int n),some (.int c),some (.int r),some (.int (1 + x)),none] (aD (ah rfl (ah rfl (ah rfl rfl rfl) (eO (by omega))) (by rw [hx]; rfl))) ?_
  refine aB [some (.int n),some (.int c),some (.int r),some (.int (1 + x)),some (.int (1 + x + 1 + r / (c - 2) % (c - 1 - (1 + x))))] (aD (ah (ah rfl rfl rfl) (ah (ah rfl (ah rfl rfl rfl) (dd (c - 2) (by omega) (by omega))) (ah (ah rfl rfl rfl) rfl rfl) (eO (by omega))) rfl)) ?_
  exact ret _ (IP rfl rfl rfl) (.mk rfl ⟨_,_,_,rfl,by omega,by omega,by omega,zL⟩)
 refine jx (decide (n % 2=1)) hc (λ_=>?_) (λ_=>?_)
 .refine (show ∀ {x y:Option D},x=y->dj y _->dj x _ from λe h=>e ▸ h) (aam (λz:Option Res=>z.bind di) seq_assoc) ?_
  refine aB [some (.int n),some (.int (3 + n / 2 % 10 ^ 12)),some (.int (n / 24)),none,none] (aD (ah rfl (ah (ah rfl rfl (dd 2 (by decide) (by decide))) VB (eO (by decide))) rfl)) ?_
  refine aB [some (.int n),some (.int (3 + n / 2 % 10 ^ 12)),some (.int (n / 2 / 10 ^ 12 + n / 7)),none,none] (aD (ah (ah (ah rfl rfl (dd 2 (by decide) (by decide))) VB (dd (10 ^ 12) (by decide) (by decide))) (ah rfl rfl (dd 7 (by decide) (by decide))) rfl)) ?_
  exact rest _ _ (by omega) (by omega)
 .refine (show ∀ {x y:Option D},x=y->dj y _->dj x _ from λe h=>e ▸ h) (aam (λz:Option Res=>z.bind di) kx) ?_
  exact rest _ _ (by omega) (by omega)
theorem iy (u:Int) (k:Nat) (hu:bt u<=1000) (hk:k<=1000):dY [.int u,.int (k:Nat)]=some (.int (u ^ k)):=by
 rw [xy]
 refine aY ?_
 refine aB [some (.int u),some (.int (k:Nat)),some (.int 1),none] rfl ?_
 refine je 0 k (λi δ=>∃ z:Option D,δ=[some (.int u),some (.int (k:Nat)),some (.int (u ^ i)),z]) (lz rfl (by omega)) ⟨none,by rw [Int.pow_zero]⟩ ?_ ?_
 .rintro i δ hi ⟨z,rfl⟩
  have hm:IntMulOk (u ^ i) u:=b0 (zk hu i) hu (by have:1000 * i<=1000 * 1000:=Nat.mul_le_mul_left _ (by omega); omega)
  exact ⟨_,[some (.int u),some (.int (k:Nat)),some (.int (u ^ (i + 1))),some (.int (0 + (i:Int)))],rfl,aD (ah rfl rfl ((cE hm).trans (by rw [abF]))),_,rfl⟩
 .rintro δ' ⟨z,rfl⟩
  exact ret (.int (u ^ k)) rfl (.mk rfl rfl)
theorem fL (b g:Nat) (t c:Int) (h1:0 < t) (h2:t < c) (h3:c < 2 ^ 40) (hb:b<=24) (hg:g<=24):cQ [.tuple [.int (b:Nat),.int (g:Nat)],.int t,.int c]=some (.int (t ^ b * (c - t) ^ g)) /\ bt (t ^ b * (c - t) ^ g)<=1922 /\ 0 < t ^ b * (c - t) ^ g:=by
 have t1:bt t<=40:=c8 (by omega)
 have t2:bt (c - t)<=40:=c8 (by omega)
 refine ⟨?_,gz (pw_bt t1 hb) (pw_bt t2 hg),aai (aax h1) (aax (by omega))⟩
 rw [uR]
 exact aY (ret _ (ah (call_of (cons_of rfl (cons_of (ah rfl rfl xp) rfl)) rfl (iy t b (bo t1 (by decide)) (by omega))) (call_of (cons_of (ah rfl rfl rfl) (cons_of (ah rfl rfl zl) rfl)) rfl (iy (c - t) g (bo t2 (by decide)) (by omega))) (cE (b0 (pw_bt t1 hb) (pw_bt t2 hg)))) (.mk rfl rfl))
theorem Je {p:List (List Int)} (hp:Pl p) (hl:p.length<=24) (j8:∀ r∈p,r.length<=25) (vZ:(bz p).length < 64) {l h c:Int} (H:Gu l h c) (m:iS) (hm:Sz 1000 m) (h0:0<=m.1) (h1:m.1<=m.2):
  ∃ F R S,F.Perm (bz p) /\ (F.Pairwise λa b=>(dG l h c b).1 * (dG l h c a).2 < (dG l h c a).1 * (dG l h c b).2 \/ (dG l h c b).1 * (dG l h c a).2=(dG l h c a).1 * (dG l h c b).2 /\ yq a b) /\ F=R ++ S /\ cN [cM p,dF (be l c),dF (be h c),dF m]=some (.tuple [.list (((bz p).filter λx=>decide (x∈R)).map dC),dF (IW (dG l h c) S),dF (be (R.map (aV p l c)).sum (c ^ p.length)),dF (be (R.map (aV p h c)).sum (c ^ p.length))]) /\ (R.map (aV p l c)).sum * m.2<=m.1 * c ^ p.length /\ ∀ e S',S=e :: S'->m.1 * c ^ p.length < ((R.map (aV p l c)).sum + aV p l c e) * m.2:=by
 have ⟨a1,a2,a3,a4⟩:=H
 obtain ⟨b1,b2,s1,s2,bc⟩:=Kt H
 have hU:0 < c ^ p.length:=aax (by omega)
 have bU:bt (c ^ p.length)<=3000:=bo (pw_bt bc hl) (by decide)
 obtain ⟨kds,ew,hD⟩:=xG hl j8 (0,0)
 have vs:=kL _ _ s1 s2 b1 b2 (Fl a1 a2 a3)
 have vm:=sf m hm h0 h1
 have MM:0 < l ^ p.length * (c - l) ^ p.length:=aai (aax a1) (aax (by omega))
 obtain ⟨M,hM⟩:∃ M:Nat,(M:Int)=l ^ p.length * (c - l) ^ p.length:=⟨(l ^ p.length * (c - l) ^ p.length).toNat,by omega⟩
 have bM:bt (M:Int)<=3990:=by
  rw [hM]
  exact bo (gz (pw_bt (c8 (m:=40) (by omega)) hl) (pw_bt (c8 (m:=40) (by omega)) hl)) (by decide)
 obtain ⟨F,vF,eF,Kw⟩:=CG (yr (dG l h c) (aV p l c) (aV p h c) (c ^ p.length)) (dG l h c) (bz p) (0,0) M (by omega) bM (λa _=>ix4_1) (λe he=>by
  obtain ⟨b,g,ok⟩:=mB hp he
  obtain ⟨r1,r2⟩:=IY ok H
  have hd:=ok.dr
  rw [hM]
  refine ⟨r1,r2,?_⟩
  have:=(Bg H b g (by omega) (by omega)).2.top
  unfold dG
  rw [(gU ok).1,(gU ok).2]
  exact bo this (by decide)) vZ (kK hp)
 have VC:F.length < 64:=by rw [eF.length_eq]; exact vZ
 obtain ⟨R,S,FA,vT,hle,NF⟩:=Fu (dG l h c) (aV p l c) (aV p h c) hU bU (bz p) F m hm h0 (kK hp) (eF.nodup_iff.mpr (IV hp)) (λx hx=>eF.mem_iff.mp hx) VC λe he=>by
  obtain ⟨b,g,ok⟩:=mB hp (eF.mem_iff.mp he)
  exact ⟨(zM hl ok a1 (by omega) a4).1,(zM hl ok (by omega) a3 a4).1⟩
 refine ⟨F,R,S,eF,Kw,FA,?_,hle,NF⟩
 rw [pf]
 refine aY ?_
 refine aB [some (cM p),some (dF (be l c)),some (dF (be h c)),some (dF m),none,none,none,none] (uV (call_of (cons_of rfl (cons_of rfl rfl)) rfl vs)) ?_
 refine aB [some (cM p),some (dF (be l c)),some (dF (be h c)),some (dF m),none,none,none,none] (uV (call_of (cons_of rfl rfl) rfl vm)) ?_
 refine aB [some (cM p),some (dF (be l c)),some (dF (be h c)),some (dF m),some (.dict kds),none,none,none] (aD (call_of (cons_of rfl (cons_of (gT rfl rfl) rfl)) rfl ew)) ?_
 refine aB [some (cM p),some (dF (be l c)),some (dF (be h c)),some (dF m),some (.dict kds),some (.list []),none,none] rfl ?_
 refine iq dC (bz p) (λi δ=>∃ x y:Option D,δ=[some (cM p),some (dF (be l c)),some (dF (be h c)),some (dF m),some (.dict kds),some (.list (((bz p).take i).map (yr (dG l h c) (aV p l c) (aV p h c) (c ^ p.length)))),x,y]) (kJ (bH (eP (cons_of rfl rfl) rfl (Nm hl j8)))) ⟨none,none,rfl⟩ ?_ ?_
 .rintro i e δ he ⟨x,y,rfl⟩
  obtain ⟨b,g,ok⟩:=mB hp (Zq he)
  have hd:=ok.dr
  have hi:i < (bz p).length:=(Zd.mp he).1
  have Ff:=ok.pos
  have hw:cq kds [.inl e.1,.inl e.2]=some (.int (cI p e.1 e.2)):=hD.get (by show cI p e.1 e.2≠0; omega)
  have eC:dC e=.tuple [.int (b:Nat),.int (g:Nat)]:=by rw [ok.eq]; rfl
  have vr:=(Bg H b g (by omega) (by omega)).1
  have VD:=pN b g _ s1 b1 (by omega) (by omega)
  have VE:=pN b g _ s2 b2 (by omega) (by omega)
  have VF:Sz 4000 ((cI p e.1 e.2,1):iS):=⟨⟨abY 1,by show Int.gcd _ 1=1; exact Int.gcd_one_right _⟩,bo (uY hl ok) (by decide),bo (show bt (1:Int)<=1 from c8 (by decide)) (by decide)⟩
  have VG:=rf (cI p e.1 e.2,1) (jZ b g (be l c)) VF ((u7 b g _ s1 b1 (by omega) (by omega)).up (by decide))
  have VH:=rf (cI p e.1 e.2,1) (jZ b g (be h c)) VF ((u7 b g _ s2 b2 (by omega) (by omega)).up (by decide))
  rw [xP ok a1 (by omega)] at VG
  rw [xP ok (show 0 < h by omega) a3] at VH
  rw [<- eC] at vr VD VE
  have er:rat b g (be l c) (be h c)=dG l h c e:=by unfold dG; rw [(gU ok).1,(gU ok).2]
  rw [er] at vr
  refine ⟨_,[some (cM p),some (dF (be l c)),some (dF (be h c)),some (dF m),some (.dict kds),some (.list (((bz p).take i).map (yr (dG l h c) (aV p l c) (aV p h c) (c ^ p.length)) ++ [yr (dG l h c) (aV p l c) (aV p h c) (c ^ p.length) e])),some (dC e),some (dF (cI p e.1 e.2,1))],rfl,?_,some (dC e),some (dF (cI p e.1 e.2,1)),?_⟩
  .refine b7 [some (cM p),some (dF (be l c)),some (dF (be h c)),some (dF m),some (.dict kds),some (.list (((bz p).take i).map (yr (dG l h c) (aV p l c) (aV p h c) (c ^ p.length)))),some (dC e),some (dF (cI p e.1 e.2,1))] (aD (gT ((uT (c:=e) rfl rfl).trans hw) rfl)) ?_
   refine oo rfl (vb rfl (call_of (cons_of rfl (cons_of rfl (cons_of rfl rfl))) rfl vr) (call_of (cons_of rfl (cons_of (call_of (cons_of rfl (cons_of rfl rfl)) rfl VD) rfl)) rfl VG) (call_of (cons_of rfl (cons_of (call_of (cons_of rfl (cons_of rfl rfl)) rfl VE) rfl)) rfl VH)) (by rw [Y7,ZH]; omega)
  .rw [Z4,he,ZI]; rfl
 .rintro δ' ⟨x,y,rfl⟩
  rw [Z8]
  have nl:nX (F.map (yr (dG l h c) (aV p l c) (aV p h c) (c ^ p.length)))=true:=by
   clear Kw FA vT eF vF VC
   induction F with
   | nil=>rfl
   | cons e F ih=>exact ih
  exact ret _ (call_of (cons_of (bH (mC (cons_of rfl rfl) rfl vF nl)) (cons_of rfl rfl)) rfl vT) (.mk rfl rfl)
def cO (t c:Int) (e:Int×Int):Int:=t ^ e.1.toNat * (c - t) ^ e.2.toNat
section
variable {p:List (List Int)} (hp:Pl p) (hl:p.length<=24) {l h c:Int} (H:Gu l h c)
include hp hl H
theorem Bk {e:Int×Int} (he:e∈bz p):(0 < cO l c e /\ bt (cO l c e)<=1922) /\ (0 < cO h c e /\ bt (cO h c e)<=1922) /\ l9 (dG l h c e).1 (dG l h c e).2 (cO h c e) (cO l c e):=by
 obtain ⟨b,g,ok⟩:=mB hp he
 obtain ⟨eb,eg⟩:=gU ok
 have hd:=ok.dr
 have ⟨a1,a2,a3,a4⟩:=H
 have p1:=(fL b g l c a1 (by omega) a4 (by omega) (by omega)).2
 have p2:=(fL b g h c (by omega) a3 a4 (by omega) (by omega)).2
 unfold cO dG
 rw [eb,eg]
 exact ⟨⟨p1.2,p1.1⟩,⟨p2.2,p2.1⟩,EN a1 (by omega) (by omega) a3 b g⟩
theorem zN {t:Int} (h1:0 < t) (h2:t < c) {e:Int×Int} (he:e∈bz p):0 < aV p t c e /\ bt (aV p t c e)<=3000:=by
 obtain ⟨b,g,ok⟩:=mB hp he
 have:=zM hl ok h1 h2 H.p4
 exact ⟨this.2,this.1⟩
theorem zO {F O:List (Int×Int)} (hF:F.Perm (bz p)) (hs:F.Pairwise λa b=>(dG l h c b).1 * (dG l h c a).2 < (dG l h c a).1 * (dG l h c b).2 \/ (dG l h c b).1 * (dG l h c a).2=(dG l h c a).1 * (dG l h c b).2 /\ yq a b)
  (hO:O.Perm (bz p)) (T7:O.Pairwise (Bj (cO l c) (cO h c))):F=O:=by
 refine pw_ext Bj.Oe Bj.tr (abR (λ{a b} ha hb w=>?_) hs) T7 λz=>by rw [hF.mem_iff,hO.mem_iff]
 obtain ⟨⟨pa,_⟩,_,qa⟩:=Bk hp hl H (hF.mem_iff.mp ha)
 obtain ⟨⟨pb,_⟩,_,qb⟩:=Bk hp hl H (hF.mem_iff.mp hb)
 obtain ⟨x,y,hx,hy,k1,k2⟩:=Qw qb qa pb pa
 obtain ⟨c1,c2⟩:=NC hx hy k1 k2
 exact ⟨pa,pb,w.imp c1 λq=>⟨c2 q.1,q.2⟩⟩
theorem zP {O R S:List (Int×Int)} (hO:O.Perm (bz p)) {m:iS} (hm:1<=m.2) {k:Nat} (hk:k<=O.length) (k1:tS (aV p l c) O k * m.2<=m.1 * c ^ p.length) (k2:k < O.length->m.1 * c ^ p.length < tS (aV p l c) O (k + 1) * m.2)
  (FA:O=R ++ S) (hle:(R.map (aV p l c)).sum * m.2<=m.1 * c ^ p.length) (NF:∀ e S',S=e :: S'->m.1 * c ^ p.length < ((R.map (aV p l c)).sum + aV p l c e) * m.2):R=O.take k /\ S=O.drop k:=by
 have ⟨a1,a2,a3,a4⟩:=H
 have hn:∀ e∈O,0<=aV p l c e:=λe he=>adh (zN hp hl H a1 (by omega) (hO.mem_iff.mp he)).1
 have eR:O.take R.length=R:=by rw [FA,List.take_left]
 have eS:O.drop R.length=S:=by rw [FA,List.drop_left]
 have eL:O.length=R.length + S.length:=by rw [FA,Zz]
 have e0:R.length=k:=by
  refine CH (g:=λj=>tS (aV p l c) O j * m.2) (λi j g7=>abk (vj hn g7) (by omega)) (n:=O.length) (c:=m.1 * c ^ p.length) (by omega) hk ?_ (λhr=>?_) k1 k2
  .show tS _ _ _ * _<=_
   unfold tS
   rw [eR]; exact hle
  .show _ < tS _ _ _ * _
   cases S with
   | nil=>rw [eL,aaq] at hr; omega
   | cons e S'=>
     have he:O[R.length]?=some e:=by rw [FA,aaJ (Ze _),Nat.sub_self]; rfl
     rw [ve he]
     unfold tS
     rw [eR]
     exact NF e S' rfl
 rw [<- e0]
 exact ⟨eR.symm,eS.symm⟩
end
end au
namespace au
def sm {α:Type} (f:α->Int) (l:List α):Int:=(l.map f).sum
theorem FC {α:Type} (f:α->Int):sm f []=0:=rfl
theorem eZ {α:Type} (f:α->Int) (a:α) (l:List α):sm f (a :: l)=f a + sm f l:=by unfold sm; rw [List.map_cons,List.sum_cons]
theorem FD {α:Type} (f:α->Int) (l m:List α):sm f (l ++ m)=sm f l + sm f m:=by unfold sm; rw [List.map_append,List.sum_append]
theorem zQ {α β:Type} (f:β->Int) (g:α->β) (l:List α):sm f (l.map g)=sm (λa=>f (g a)) l:=by unfold sm; rw [List.map_map]; rfl
theorem ib {α:Type} {f g:α->Int} {l:List α} (h:∀ a∈l,f a=g a):sm f l=sm g l:=by unfold sm; rw [List.map_congr_left h]
theorem rj {α:Type} (f g:α->Int):∀ l:List α,sm (λa=>f a + g a) l=sm f l + sm g l
 | []=>rfl
 | a :: l=>by rw [eZ,eZ,eZ,rj f g l]; omega
theorem Jf {α:Type} {f:α->Int} {l:List α} (h:∀ a∈l,f a=0):sm f l=0:=by
 induction l with
 | nil=>rfl
 | cons a l ih=>rw [eZ,h a Zb,ih λb hb=>h b (Y8 _ hb)]; rfl
theorem Jg {α:Type} {f:α->Int} {l m:List α} (h:l.Perm m):sm f l=sm f m:=by
 induction h with
 | nil=>rfl
 | cons a _ ih=>rw [eZ,eZ,ih]
 | swap a b l=>rw [eZ,eZ,eZ,eZ]; omega
 | trans _ _ i j=>rw [i,j]
theorem ou {α:Type} (f:α->Int) (P:α->Bool):∀ l:List α,sm f (l.filter P)=sm (λa=>if P a=true then f a else 0) l
 | []=>rfl
 | a :: l=>by
   rw [abj,eZ,<- ou f P l]
   cases P a with
   | true=>rw [Zk rfl,Zk rfl,eZ]
   | false=>rw [Zj (by decide),Zj (by decide)]; omega
theorem zR {f:Int->Int} {l s:List Int} (hl:l.Nodup) (hs:s.Nodup) (h:∀ x∈s,x∈l):sm (λa=>if a∈s then f a else 0) l=sm f s:=by
 have pm:List.Perm (l.filter λx=>decide (x∈s)) s:=(abD (hl.sublist acn) hs).mpr λz=>by
  rw [aaR,ZL]
  exact ⟨λq=>q.2,λq=>⟨h z q,q⟩⟩
 rw [<- Jg pm,ou]
 exact ib λa _=>by simp
theorem QA {A:Int->Int} {r:List Int} (hr:iL r) (f:Int->Int):sm (λb=>lv A r b * f b) (led r)=sm (λb=>A b * (f (b + 1) + f b)) r:=by
 have nl:(led r).Nodup:=gS ee
 have nr:=gS hr
 have e1:sm (λb=>if b∈r then A b * f b else 0) (led r)=sm (λb=>A b * f b) r:=zR nl nr λx hx=>f7.mpr (.inl hx)
 have e2:sm (λb=>if b∈r.map (· + 1) then A (b - 1) * f b else 0) (led r)=sm (λb=>A b * f (b + 1)) r:=by
  rw [zR (f:=λb=>A (b - 1) * f b) nl (aaw.mpr (nr.imp λh e=>h (by omega))) (λx hx=>by
   obtain ⟨y,hy,rfl⟩:=ZG.mp hx
   exact f7.mpr (.inr (by rw [show y + 1 - 1=y by omega]; exact hy))),zQ]
  exact ib λa _=>by rw [show a + 1 - 1=a by omega]
 have e3:sm (λb=>A b * (f (b + 1) + f b)) r=sm (λb=>A b * f (b + 1)) r + sm (λb=>A b * f b) r:=by
  rw [<- rj]
  exact ib λa _=>by rw [Int.mul_add]
 rw [e3,<- e1,<- e2,<- rj]
 refine ib λb _=>?_
 have m:b∈r.map (· + 1)↔b - 1∈r:=by
  rw [ZG]
  exact ⟨λ⟨y,hy,e⟩=>by rw [show b - 1=y by omega]; exact hy,λh=>⟨b - 1,h,by omega⟩⟩
 unfold lv
 simp only [m]
 split <;> split <;> simp [Int.add_mul]
def Kx (φ:Int->Int->Int) (c:Int×Int):Int:=φ (c.1 + 1) c.2 + φ c.1 (c.2 + 1) - φ c.1 c.2
theorem xR {p:List (List Int)} (φ:Int->Int->Int):∀ (q:List (List Int)) (r:List Int) (n:Nat) (A:Int->Int) (W:Int->Int->Int),(∀ j,p.getD (n + j) []=(r :: q).getD j [])->EW r q->iL r->
  (∀ (x y:Int) (j:Nat),x + y=(n:Int) + (j:Int)->W x y=WW A (r :: q) j x)->
  sm (λc=>W c.1 c.2 * φ c.1 c.2) ((bq (n + 1) ((r :: q).map led)).filter λc=> !xH p c)=sm (λb=>A b * φ b ((n:Int) - b)) r + sm (λc=>W c.1 c.2 * Kx φ c) (bq n (r :: q))
 | q,r,n,A,W,hg,hc,hr,hW=>by
   have nl:(led r).Nodup:=gS ee
   have e1:=hg 1
   have MF:sm (λc=>W c.1 c.2 * φ c.1 c.2) ((ia (n + 1) (led r)).filter λc=> !xH p c)=sm (λb=>lv A r b * φ b ((n:Int) + 1 - b)) ((led r).filter λb=> !decide (b∈p.getD (n + 1) [])):=by
    unfold ia
    rw [List.filter_map,zQ]
    have ef:((λc:Int×Int=> !xH p c) ∘ λb:Int=>(b,((n + 1:Nat):Int) - b))=λb=> !decide (b∈p.getD (n + 1) []):=by
     funext b
     show (!xH p (b,((n + 1:Nat):Int) - b))=_
     rw [Fh]
    rw [ef]
    refine ib λb _=>?_
    show W b (((n + 1:Nat):Int) - b) * φ b (((n + 1:Nat):Int) - b)=_
    rw [hW b (((n + 1:Nat):Int) - b) 1 (by push_cast; omega),show ((n + 1:Nat):Int) - b=(n:Int) + 1 - b by push_cast; rfl]
    show WW (lv A r) q 0 b * _=_
    rw [WW_0]
   have Y0:=QA hr (A:=A) (λb=>φ b ((n:Int) + 1 - b))
   have FE:∀ s:List Int,s.Nodup->(∀ x∈s,x∈led r)->sm (λb=>lv A r b * φ b ((n:Int) + 1 - b)) ((led r).filter λb=> !decide (b∈s)) + sm (λb=>lv A r b * φ b ((n:Int) + 1 - b)) s=sm (λb=>lv A r b * φ b ((n:Int) + 1 - b)) (led r):=by
    intro s hs wM
    rw [ou,<- zR (f:=λb=>lv A r b * φ b ((n:Int) + 1 - b)) nl hs wM,<- rj]
    refine ib λb _=>?_
    by_cases q:b∈s
    .simp [q]
    .simp [q]
   have XE:sm (λc=>W c.1 c.2 * Kx φ c) (ia n r) + sm (λb=>A b * φ b ((n:Int) - b)) r=sm (λb=>A b * (φ (b + 1) ((n:Int) + 1 - (b + 1)) + φ b ((n:Int) + 1 - b))) r:=by
    unfold ia
    rw [zQ,<- rj]
    refine ib λb _=>?_
    show W b ((n:Int) - b) * Kx φ (b,(n:Int) - b) + _=_
    rw [hW b ((n:Int) - b) 0 (by push_cast; omega),WW_0]
    unfold Kx
    show A b * (φ (b + 1) ((n:Int) - b) + φ b ((n:Int) - b + 1) - φ b ((n:Int) - b)) + _=_
    rw [show (n:Int) + 1 - (b + 1)=(n:Int) - b by omega,show (n:Int) + 1 - b=(n:Int) - b + 1 by omega,<- Int.mul_add]
    congr 1
    omega
   rw [Zn,bq,acB,FD,MF,e1,bq,FD]
   cases q with
   | nil=>
     have:=FE [] (by simp) (by simp)
     simp only [ab2,bq,List.filter_nil,FC]
     rw [FC] at this
     rw [show ([r]:List (List Int)).getD 1 []=[] from rfl]
     omega
   | cons s q=>
     have hs:=hc.1
     have h2:=FE s (gS hs.2.1) hs.2.2
     have ih:=xR (p:=p) φ q s (n + 1) (lv A r) W (λj=>by rw [show n + 1 + j=n + (j + 1) by omega,hg (j + 1)]; rfl) hc.2 hs.2.1 (λx y j h=>by
      rw [hW x y (j + 1) (by push_cast at h ⊢; omega)]; rfl)
     rw [show (r :: s :: q).getD 1 []=s from rfl,ih]
     rw [show sm (λb=>lv A r b * φ b (((n + 1:Nat):Int) - b)) s=sm (λb=>lv A r b * φ b ((n:Int) + 1 - b)) s from by push_cast; rfl]
     omega
theorem Jh {p:List (List Int)} (hp:Pl p) (φ:Int->Int->Int):sm (λc=>cI p c.1 c.2 * φ c.1 c.2) (bz p)=φ 0 0 + sm (λc=>cI p c.1 c.2 * Kx φ c) (bq 0 p):=by
 rw [nJ hp]
 have hw:∀ (x y:Int) (j:Nat),x + y=((0:Nat):Int) + (j:Int)->cI p x y=WW A0 p j x:=λx y j h=>xK hp (by omega)
 obtain ⟨q,rfl,hc⟩:=hp.ex
 have:=xR (p:=[0] :: q) φ q [0] 0 A0 (cI ([0] :: q)) (λj=>by rw [Nat.zero_add]) hc (by unfold iL; simp) hw
 rw [this]
 congr 1
 simp [sm,A0]
theorem FF {p:List (List Int)} (hp:Pl p) {φ:Int->Int->Int} (h:∀ c∈bq 0 p,Kx φ c=0):sm (λc=>cI p c.1 c.2 * φ c.1 c.2) (bz p)=φ 0 0:=by
 rw [Jh hp,Jf λc hc=>by rw [h c hc,Int.mul_zero]]; omega
end au
namespace au
open PySem L2 Q1
theorem Ji {p:List (List Int)} (hp:Pl p) {c:Int×Int} (h:c∈bq 0 p):0<=c.1 /\ 0<=c.2:=by
 obtain ⟨k,h1,h2,h3⟩:=kI h
 have:=(nI hp).2 k _ h2
 omega
def QB (n:Nat) (t c x y:Int):Int:=c ^ (n - x.toNat - y.toNat) * (t ^ x.toNat * (c - t) ^ y.toNat)
theorem Jj {n:Nat} {t c:Int} {e:Int×Int} (h1:0<=e.1) (h2:0<=e.2) (h3:e.1 + e.2 < (n:Int)):Kx (QB n t c) e=0:=by
 obtain ⟨b,hb⟩:∃ b:Nat,e.1=(b:Int):=⟨e.1.toNat,(aaV h1).symm⟩
 obtain ⟨g,hg⟩:∃ g:Nat,e.2=(g:Int):=⟨e.2.toNat,(aaV h2).symm⟩
 unfold Kx QB
 rw [hb,hg] at h3 ⊢
 obtain ⟨r,hr⟩:∃ r,n=b + g + 1 + r:=⟨n - (b + g + 1),by omega⟩
 rw [show ((b:Int) + 1).toNat=b + 1 from rfl,show ((g:Int) + 1).toNat=g + 1 from rfl,ZD,ZD,show n - (b + 1) - g=r by omega,show n - b - (g + 1)=r by omega,show n - b - g=r + 1 by omega,abF,abF,abF]
 generalize t ^ b=u
 generalize (c - t) ^ g=v
 generalize c ^ r=w
 grind
theorem Jk {p:List (List Int)} (hp:Pl p) (t c:Int):((bz p).map (aV p t c)).sum=c ^ p.length:=by
 have:sm (λe=>cI p e.1 e.2 * QB p.length t c e.1 e.2) (bz p)=c ^ p.length:=by
  rw [FF hp λe he=>by
   obtain ⟨h1,h2⟩:=Ji hp he
   obtain ⟨k,k1,k2,k3⟩:=kI he
   exact Jj h1 h2 (by omega)]
  unfold QB
  simp
 rw [<- this]
 unfold sm
 congr 1
 refine acm λe he=>?_
 unfold aV QB
 rw [Int.mul_assoc]
section
variable {p:List (List Int)} (hp:Pl p) (hl:p.length<=24) {l h c:Int} (H:Gu l h c)
include hp hl H
theorem FG {t:Int} (t1:0 < t) (t2:t < c) {ph:List (D×D)} (hD:Dt ph (cI p)) {e:Int×Int} (he:e∈bz p):h8 [.dict ph,dC e,.int t,.tuple [.int l,.int h,.int c],.int (p.length:Nat)]=some (.int (aV p t c e)):=by
 obtain ⟨b,g,ok⟩:=mB hp he
 obtain ⟨eb,eg⟩:=gU ok
 have hd:=ok.dr
 have Ff:=ok.pos
 have ⟨a1,a2,a3,a4⟩:=H
 obtain ⟨vw,bw,_⟩:=fL b g t c t1 t2 a4 (by omega) (by omega)
 have bc:bt c<=40:=c8 (by omega)
 have vt:=iy c (p.length - (b + g)) (bo bc (by decide)) (by omega)
 have eC:dC e=.tuple [.int (b:Nat),.int (g:Nat)]:=by rw [ok.eq]; rfl
 rw [<- eC] at vw
 have hw:cq ph [.inl e.1,.inl e.2]=some (.int (cI p e.1 e.2)):=hD.get (by show cI p e.1 e.2≠0; omega)
 have i0:aO (dC e) (.int 0)=some (.int (b:Nat)):=by rw [eC]; rfl
 have i1:aO (dC e) (.int 1)=some (.int (g:Nat)):=by rw [eC]; rfl
 have e5:((p.length:Nat):Int) - (b:Int) - (g:Int)=((p.length - (b + g):Nat):Int):=by omega
 have e4:aV p t c e=cI p e.1 e.2 * (t ^ b * (c - t) ^ g) * c ^ (p.length - (b + g)):=by
  unfold aV
  rw [eb,eg,Nat.sub_sub]
  grind
 rw [zA,e4]
 exact aY (ret _ (ah (ah ((uT (c:=e) rfl rfl hD.fn).trans hw) (call_of (cons_of rfl (cons_of rfl (cons_of (ah rfl rfl rfl) rfl))) rfl vw) (cE (b0 (uY hl ok) bw))) (call_of (cons_of (ah rfl rfl rfl) (cons_of (ah (ah rfl (ah rfl rfl i0) rfl) (ah rfl rfl i1) (by show some (PyData.int _)=_; rw [e5])) rfl)) rfl vt) (cE (b0 (gz (uY hl ok) bw) (pw_bt bc (by omega))))) (.mk rfl rfl))
omit hp hl H in
theorem tJ (l h c:Int) (e:Int×Int):aO (.tuple [dC e,.int (cO h c e),.int (cO l c e)]) (.int 0)=some (dC e) /\ aO (.tuple [dC e,.int (cO h c e),.int (cO l c e)]) (.int 1)=some (.int (cO h c e)) /\ aO (.tuple [dC e,.int (cO h c e),.int (cO l c e)]) (.int 2)=some (.int (cO l c e)):=⟨rfl,rfl,rfl⟩
def ij (l h c:Int) (e:Int×Int):D:=.tuple [dC e,.int (cO h c e),.int (cO l c e)]
theorem CJ (hn:(bz p).length<=64):∃ R:List (Int×Int),gp [.list ((bz p).map dC),.tuple [.int l,.int h,.int c]]=some (R.map (ij l h c)) /\ R.Perm (bz p) /\ R.Pairwise (Bj (cO l c) (cO h c)):=by
 have ⟨a1,a2,a3,a4⟩:=H
 have kE:=kK hp
 suffices key:dj (gp [.list ((bz p).map dC),.tuple [.int l,.int h,.int c]]) λx=>∃ R:List (Int×Int),x=R.map (ij l h c) /\ R.Perm (bz p) /\ R.Pairwise (Bj (cO l c) (cO h c)) by
  obtain ⟨_,e,R,rfl,q⟩:=key
  exact ⟨R,e,q⟩
 rw [xA]
 generalize hE:bz p=E at *
 refine aB [some (.list (E.map dC)),some (.tuple [.int l,.int h,.int c]),some (.list []),none,none,none,none] rfl ?_
 refine iq dC E (λi δ=>∃ (R:List (Int×Int)) (x y z w:Option D),δ=[some (.list (E.map dC)),some (.tuple [.int l,.int h,.int c]),some (.list (R.map (ij l h c))),x,y,z,w] /\ R.Perm (E.take i) /\ R.Pairwise (Bj (cO l c) (cO h c))) rfl ⟨[],none,none,none,none,rfl,.refl _,.nil⟩ ?_ ?_
 .rintro i e δ he ⟨R,x,y,z,w,rfl,eF,hR⟩
  have NG:=Zq he
  have AK:i < E.length:=(Zd.mp he).1
  have wo:∀ a∈E,(0 < cO l c a /\ bt (cO l c a)<=1922) /\ (0 < cO h c a /\ bt (cO h c a)<=1922):=λa ha=>by
   have:=Bk hp hl H (e:=a) (by rw [hE]; exact ha)
   exact ⟨this.1,this.2.1⟩
  obtain ⟨b,g,ok⟩:=mB hp (c:=e) (by rw [hE]; exact NG)
  obtain ⟨eb,eg⟩:=gU ok
  have hd:=ok.dr
  have eC:dC e=.tuple [.int (b:Nat),.int (g:Nat)]:=by rw [ok.eq]; rfl
  have v1:cQ [dC e,.int h,.int c]=some (.int (cO h c e)):=by
   unfold cO
   rw [eb,eg,eC]
   exact (fL b g h c (by omega) a3 a4 (by omega) (by omega)).1
  have v2:cQ [dC e,.int l,.int c]=some (.int (cO l c e)):=by
   unfold cO
   rw [eb,eg,eC]
   exact (fL b g l c a1 (by omega) a4 (by omega) (by omega)).1
  have QC:∀ a∈R,a∈E:=λa ha=>Z5 (eF.mem_iff.mp ha)
  have VI:R.length<=64:=by
   rw [eF.length_eq,ZH]
   omega
  have CL:∀ a∈R,yq a e:=λa ha=>by
   obtain ⟨j,hj,ej⟩:=ZY (eF.mem_iff.mp ha)
   rw [ZH] at hj
   rw [abu] at ej
   have:=aau.mp kE j i (by omega) AK (by omega)
   rw [Y4 AK] at he
   rw [ej,ZV he] at this
   exact this
  obtain ⟨k,hk,yk,Hz,ew⟩:∃ k:Nat,k<=R.length /\ (∀ a∈R.drop k,cO h c a * cO l c e < cO h c e * cO l c a) /\ (∀ a,R[k - 1]?=some a->0 < k->¬ cO h c a * cO l c e < cO h c e * cO l c a) /\
    eG (lV (gB (g2 sQ (ae 6) (gC (.int (0))))) (gB (g2 rG (g2 bh (g2 aO (g2 aO (ae 2) (g2 cy (ae 6) (gC (.int (1))))) (gC (.int (1)))) (ae 5)) (g2 bh (ae 4) (g2 aO (g2 aO (ae 2) (g2 cy (ae 6) (gC (.int (1))))) (gC (.int (2)))))))) (aG 6 (g2 cy (ae 6) (gC (.int (1))))) [some (.list (E.map dC)),some (.tuple [.int l,.int h,.int c]),some (.list (R.map (ij l h c))),some (dC e),some (.int (cO h c e)),some (.int (cO l c e)),some (.int (R.length:Nat))]
     =some (.nx [some (.list (E.map dC)),some (.tuple [.int l,.int h,.int c]),some (.list (R.map (ij l h c))),some (dC e),some (.int (cO h c e)),some (.int (cO l c e)),some (.int (k:Nat))]):=by
   obtain ⟨δ',e',k,hk,h1,h2,rfl⟩:∃ δ',eG (lV (gB (g2 sQ (ae 6) (gC (.int (0))))) (gB (g2 rG (g2 bh (g2 aO (g2 aO (ae 2) (g2 cy (ae 6) (gC (.int (1))))) (gC (.int (1)))) (ae 5)) (g2 bh (ae 4) (g2 aO (g2 aO (ae 2) (g2 cy (ae 6) (gC (.int (1))))) (gC (.int (2)))))))) (aG 6 (g2 cy (ae 6) (gC (.int (1))))) [some (.list (E.map dC)),some (.tuple [.int l,.int h,.int c]),some (.list (R.map (ij l h c))),some (dC e),some (.int (cO h c e)),some (.int (cO l c e)),some (.int (R.length:Nat))]=some (.nx δ') /\
     ∃ k:Nat,k<=R.length /\ (∀ a∈R.drop k,cO h c a * cO l c e < cO h c e * cO l c a) /\ (∀ a,R[k - 1]?=some a->0 < k->¬ cO h c a * cO l c e < cO h c e * cO l c a) /\ δ'=[some (.list (E.map dC)),some (.tuple [.int l,.int h,.int c]),some (.list (R.map (ij l h c))),some (dC e),some (.int (cO h c e)),some (.int (cO l c e)),some (.int (k:Nat))]:=by
    refine qR (λm δ=>m<=R.length /\ (∀ a∈R.drop m,cO h c a * cO l c e < cO h c e * cO l c a) /\ δ=[some (.list (E.map dC)),some (.tuple [.int l,.int h,.int c]),some (.list (R.map (ij l h c))),some (dC e),some (.int (cO h c e)),some (.int (cO l c e)),some (.int (m:Nat))])
     (λδ=>∃ k:Nat,k<=R.length /\ (∀ a∈R.drop k,cO h c a * cO l c e < cO h c e * cO l c a) /\ (∀ a,R[k - 1]?=some a->0 < k->¬ cO h c a * cO l c e < cO h c e * cO l c a) /\ δ=[some (.list (E.map dC)),some (.tuple [.int l,.int h,.int c]),some (.list (R.map (ij l h c))),some (dC e),some (.int (cO h c e)),some (.int (cO l c e)),some (.int (k:Nat))]) R.length ⟨Ze _,λa ha=>by rw [acZ] at ha; simp at ha,rfl⟩ ?_
    rintro m δ ⟨hm,h1,rfl⟩
    cases m with
    | zero=>
      left
      refine ⟨?_,0,aah _,h1,λ_ _ z=>absurd z (ZU 0),rfl⟩
      unfold lV
      rw [dE (b:=false) (ah rfl rfl rfl)]; rfl
    | succ m=>
      have HH:m < R.length:=hm
      have wR:=wo R[m] (QC R[m] (aae HH))
      have we:=wo e NG
      have ix:∀ {δ:DS},ae 2 δ=some (.list (R.map (ij l h c)))->ae 6 δ=some (.int ((m + 1:Nat)))->g2 aO (ae 2) (g2 cy (ae 6) (gC (.int (1)))) δ=some (ij l h c R[m]):=λq1 q2=>ah q1 (ah q2 rfl rfl) (by
       show aO (.list (R.map (ij l h c))) (.int (((m + 1:Nat):Int) - 1))=_
       rw [show (((m + 1:Nat):Int) - 1)=(m:Nat) by omega]
       exact d8 (by rw [Zl,Y4 HH]; rfl))
      have c1:gB (g2 sQ (ae 6) (gC (.int (0)))) [some (.list (E.map dC)),some (.tuple [.int l,.int h,.int c]),some (.list (R.map (ij l h c))),some (dC e),some (.int (cO h c e)),some (.int (cO l c e)),some (.int ((m + 1:Nat)))]=some true:=
       dE (ah rfl rfl (by show some (PyData.bool (decide ((0:Int) < ((m + 1:Nat):Int))))=_; rw [Zu (by omega)]))
      have c2:=qU (b:=gB (g2 rG (g2 bh (g2 aO (g2 aO (ae 2) (g2 cy (ae 6) (gC (.int (1))))) (gC (.int (1)))) (ae 5)) (g2 bh (ae 4) (g2 aO (g2 aO (ae 2) (g2 cy (ae 6) (gC (.int (1))))) (gC (.int (2))))))) c1
       (dE (ah (ah (ah (ix rfl rfl) rfl (tJ l h c R[m]).2.1) rfl (cE (b0 wR.2.2 we.1.2))) (ah rfl (ah (ix rfl rfl) rfl (tJ l h c R[m]).2.2) (cE (b0 we.2.2 wR.1.2))) rfl))
      by_cases q:cO h c R[m] * cO l c e < cO h c e * cO l c R[m]
      .rw [Zu q] at c2
       right
       refine ⟨c2,[some (.list (E.map dC)),some (.tuple [.int l,.int h,.int c]),some (.list (R.map (ij l h c))),some (dC e),some (.int (cO h c e)),some (.int (cO l c e)),some (.int (m:Nat))],m,?_,aar m,aak HH,λa ha=>?_,rfl⟩
       .exact aD (ah rfl rfl (by show some (PyData.int (((m + 1:Nat):Int) - 1))=_; rw [show (((m + 1:Nat):Int) - 1)=(m:Nat) by omega]))
       .rw [aaM HH] at ha
        rcases Y6.mp ha with rfl | ha
        .exact q
        .exact h1 a ha
      .rw [Zr q] at c2
       left
       refine ⟨c2,m + 1,hm,h1,λa ha _=>?_,rfl⟩
       rw [acC,Y4 HH] at ha
       rw [<- Option.some.inj ha]; exact q
   exact ⟨k,hk,h1,h2,e'⟩
  refine ⟨[some (.list (E.map dC)),some (.tuple [.int l,.int h,.int c]),some (.list (R.map (ij l h c))),some (dC e),y,z,w],[some (.list (E.map dC)),some (.tuple [.int l,.int h,.int c]),some (.list ((R.take k ++ e :: R.drop k).map (ij l h c))),some (dC e),some (.int (cO h c e)),some (.int (cO l c e)),some (.int (k:Nat))],rfl,?_,_,_,_,_,_,rfl,?_,Ja hk hR (wo e NG).1.1 (λa ha=>⟨(wo a (QC a ha)).1.1,CL a ha⟩) yk Hz⟩
  .refine b7 [some (.list (E.map dC)),some (.tuple [.int l,.int h,.int c]),some (.list (R.map (ij l h c))),some (dC e),some (.int (cO h c e)),z,w] (aD (call_of (cons_of rfl (cons_of (ah rfl rfl rfl) (cons_of (ah rfl rfl rfl) rfl))) rfl v1)) ?_
   refine b7 [some (.list (E.map dC)),some (.tuple [.int l,.int h,.int c]),some (.list (R.map (ij l h c))),some (dC e),some (.int (cO h c e)),some (.int (cO l c e)),w] (aD (call_of (cons_of rfl (cons_of (ah rfl rfl rfl) (cons_of (ah rfl rfl rfl) rfl))) rfl v2)) ?_
   refine b7 [some (.list (E.map dC)),some (.tuple [.int l,.int h,.int c]),some (.list (R.map (ij l h c))),some (dC e),some (.int (cO h c e)),some (.int (cO l c e)),some (.int (R.length:Nat))] (aD (kG (cons_of rfl rfl) (by show some (PyData.int _)=_; rw [Y7]))) ?_
   refine b7 _ ew ?_
   refine (NB (d:=ij l h c e) rfl rfl (by unfold aQ; rw [cons_of rfl (cons_of rfl (cons_of rfl rfl))]; rfl) (Int.natCast_nonneg k) (by rw [Int.toNat_natCast,List.length_map]; exact hk) (by rw [List.length_map]; omega)).trans ?_
   rw [ZD,ZI,Zn,List.map_take,List.map_drop]; rfl
  .refine List.perm_middle.trans ?_
   rw [abr,Z4,he]
   exact (List.Perm.cons e eF).trans (List.perm_append_singleton e _).symm
 .rintro δ' ⟨R,x,y,z,w,rfl,eF,hR⟩
  rw [Z8] at eF
  exact ret (.list (R.map (ij l h c))) rfl (.mk rfl ⟨R,rfl,eF,hR⟩)
end
end au
namespace au
def Gv (a b:Int):List Int->List (Int×Int)
 | []=>[(a,b)]
 | x :: r=>if b=x - 1 then Gv a x r else (a,b) :: Gv x x r
def oy:List Int->List (Int×Int)
 | []=>[]
 | x :: r=>Gv x x r
structure Ky (R:List Int) (x y:Int):Prop where
 le:x<=y
 all:∀ z,x<=z->z<=y->z∈R
 no:y + 1∉R
def start (R:List Int) (x:Int):Bool:= !decide (x - 1∈R)
theorem zS {R:List Int}:∀ (rest pre:List Int) (a b:Int),R=pre ++ b :: rest->R.Pairwise (· < ·)->a<=b->(∀ z,a<=z->z<=b->z∈R)->(Gv a b rest).map Prod.fst=a :: rest.filter (start R) /\ ∀ e∈Gv a b rest,Ky R e.1 e.2
 | [],pre,a,b,hR,hr,Gj,BJ=>by
   refine ⟨rfl,λe he=>?_⟩
   rw [ZW.mp he]
   refine ⟨Gj,BJ,λz=>?_⟩
   show False
   rw [hR] at z hr
   rw [aaD] at hr
   rcases ZC.mp z with q | q
   .have:=hr.2.2 _ q b Zb
    simp only at this; omega
   .have:=ZW.mp q
    simp only at this; omega
 | x :: rest,pre,a,b,hR,hr,Gj,BJ=>by
   have Kv:R=(pre ++ [b]) ++ x :: rest:=by rw [hR]; simp
   have RJ:=hr
   rw [hR,aaD] at RJ
   have Vw:b < x:=(ZF.mp RJ.2.1).1 x Zb
   have VJ:x∈R:=by rw [hR]; simp
   have XF:b∈R:=by rw [hR]; simp
   have VL:∀ z,b < z->z < x->z∉R:=by
    intro z h1 h2 hz
    rw [hR] at hz
    rcases ZC.mp hz with q | q
    .have:=RJ.2.2 _ q b Zb; omega
    .rcases Y6.mp q with q | q
     .omega
     .rcases Y6.mp q with q | q
      .omega
      .have:=(ZF.mp (ZF.mp RJ.2.1).2).1 z q; omega
   rw [Gv]
   by_cases hx:b=x - 1
   .rw [Zk hx]
    obtain ⟨h1,h2⟩:=zS rest (pre ++ [b]) a x Kv hr (by omega) (λz z1 z2=>by
     by_cases hz:z=x
     .rw [hz]; exact VJ
     .exact BJ z z1 (by omega))
    refine ⟨?_,h2⟩
    rw [h1,List.filter_cons_of_neg]
    unfold start
    rw [<- hx,Zu XF]; decide
   .rw [Zj hx]
    obtain ⟨h1,h2⟩:=zS rest (pre ++ [b]) x x Kv hr (by omega) (λz z1 z2=>by
     have:z=x:=by omega
     rw [this]; exact VJ)
    refine ⟨?_,λe he=>?_⟩
    .rw [Zn,h1,List.filter_cons_of_pos]
     unfold start
     rw [Zr (VL (x - 1) (by omega) (by omega))]; rfl
    .rcases Y6.mp he with q | q
     .rw [q]
      exact ⟨Gj,BJ,λz=>by
       by_cases h3:b + 1=x
       .omega
       .exact VL (b + 1) (by omega) (by omega) z⟩
     .exact h2 e q
theorem Bl {R:List Int} (hr:R.Pairwise (· < ·)):(oy R).map Prod.fst=R.filter (start R) /\ ∀ e∈oy R,Ky R e.1 e.2:=by
 cases R with
 | nil=>exact ⟨rfl,λe he=>by simp [oy] at he⟩
 | cons x r=>
   obtain ⟨h1,h2⟩:=zS (R:=x :: r) r [] x x rfl hr (by omega) (λz z1 z2=>by
    have:z=x:=by omega
    rw [this]; exact Zb)
   refine ⟨?_,h2⟩
   show (Gv x x r).map Prod.fst=_
   rw [h1,List.filter_cons_of_pos]
   unfold start
   rw [Zr]
   .rfl
   .intro z
    rcases Y6.mp z with q | q
    .omega
    .have:=(ZF.mp hr).1 _ q
     omega
end au
namespace au
open PySem L2 Q1
def Bm (r:List Int):Prop:=∀ x y z:Int,x∈r->y∈r->x<=z->z<=y->z∈r
theorem cvx_01:Bm [0,1]:=by
 intro x y z hx hy h1 h2
 simp only [Y6,ZS,aa5] at *
 omega
theorem Jl {r:List Int} (h:Bm r):Bm (led r):=by
 intro x y z hx hy h1 h2
 rw [f7] at *
 have hu:∃ u∈r,u<=x:=by
  rcases hx with q | q
  .exact ⟨x,q,abY x⟩
  .exact ⟨x - 1,q,by omega⟩
 obtain ⟨u,hu,Y1⟩:=hu
 rcases hy with q | q
 .exact .inl (h u y z hu q (by omega) h2)
 .by_cases w:z<=y - 1
  .exact .inl (h u (y - 1) z hu q (by omega) w)
  .exact .inr (by rw [show z - 1=y - 1 by omega]; exact q)
theorem Jm {l:List Int} (hr:iL l) (h:Bm l) (a b:Nat):Bm ((l.drop a).take b):=by
 intro x y z hx hy h1 h2
 have mem:∀ {w:Int},w∈(l.drop a).take b↔∃ i,a<=i /\ i < a + b /\ ∃ hi:i < l.length,l[i]=w:=λ{w}=>by
  constructor
  .intro hw
   obtain ⟨i,hi,e⟩:=ZY hw
   rw [ZH,abE] at hi
   rw [abu,acJ] at e
   exact ⟨a + i,by omega,by omega,by omega,e⟩
  .rintro ⟨i,i1,i2,i3,e⟩
   rw [List.mem_iff_getElem]
   refine ⟨i - a,by rw [ZH,abE]; omega,?_⟩
   rw [abu,acJ]
   rw [<- e]
   congr 1
   omega
 rw [mem] at hx hy ⊢
 obtain ⟨i,i1,i2,i3,ei⟩:=hx
 obtain ⟨j,j1,j2,j3,ej⟩:=hy
 obtain ⟨k,hk,ek⟩:=ZY (h x y z (by rw [<- ei]; exact aae i3) (by rw [<- ej]; exact aae j3) h1 h2)
 have mono:∀ {u v:Nat} (hu:u < l.length) (hv:v < l.length),u < v->l[u] < l[v]:=λhu hv XG=>aau.mp hr _ _ hu hv XG
 refine ⟨k,?_,?_,hk,ek⟩
 .by_cases w:k < i
  .have:=mono hk i3 w; omega
  .omega
 .by_cases w:j < k
  .have:=mono j3 hk w; omega
  .omega
theorem FH (enc:Int->D) (l:List Int) (lo hi:Option Int):∃ m:List Int,cutD (l.map enc) lo hi=m.map enc /\ m.Sublist l /\ (iL l->Bm l->Bm m):=by
 refine ⟨(l.drop (HT.p0 l.length 0 lo)).take (HT.p0 l.length l.length hi - HT.p0 l.length 0 lo),?_,(acG _ _).trans (List.drop_sublist _ _),λh1 h2=>Jm h1 h2 _ _⟩
 unfold cutD
 rw [Y7,List.map_take,List.map_drop]
theorem oU (c:Int) (m:Nat) (Ob:1<=m) (hm:m<=24):dj (hX [.int c,.int (m:Nat)]) λd=>∃ p,d=cM p /\ Pl p /\ p.length<=m /\ (∀ r∈p,r.length<=25) /\ (1 < c % 4->∀ r∈p,Bm r):=by
 rw [zw]
 have XH:wB (.int 10) (.int 18)=some (.int (10 ^ 18)):=Kr (k:=18) (by decide) (by decide)
 obtain ⟨many,QD,NH,QG⟩:∃ many:Nat,100<=many /\ many<=300 /\ g2 aU (gC (.int (100))) (g2 bh (gC (.int (200))) (d7 wI (aa (g2 sQ (ae 1) (gC (.int (12)))) af))) [some (.int c),some (.int (m:Nat)),some (.int (c / 4)),none,none,none,none,none,none]=some (.int (many:Nat)):=by
  by_cases h:(12:Int) < (m:Int)
  .refine ⟨300,by decide,by decide,ah rfl (ah rfl (show _=some (.int 1) from ?_) (cE (mul_right (by decide) (by decide)))) rfl⟩
   show some (PyData.int (if decide ((12:Int) < (m:Int))=true then 1 else 0))=_
   rw [Zu h]; rfl
  .refine ⟨100,by decide,by decide,ah rfl (ah rfl (show _=some (.int 0) from ?_) (cE (mul_right (by decide) (by decide)))) rfl⟩
   show some (PyData.int (if decide ((12:Int) < (m:Int))=true then 1 else 0))=_
   rw [Zr h]; rfl
 have Jn:(0:Int) < (many:Int):=Int.ofNat_lt.mpr (Zi (by decide) QD)
 have FI:many<=1000:=ZQ NH (by decide)
 refine aB [some (.int c),some (.int (m:Nat)),some (.int (c / 4)),none,none,none,none,none,none] (aD (ah rfl rfl (oR (by decide) (bo (c8 (m:=4) (by decide)) (by decide))))) ?_
 refine aB [some (.int c),some (.int (m:Nat)),some (.int (c / 4)),some (.int (many:Nat)),none,none,none,none,none] (aD QG) ?_
 obtain ⟨_,e1,l1,rfl,Rv,Vl⟩:=xF (c / 4) 3 many (by decide) FI
 refine aB [some (.int c),some (.int (m:Nat)),some (.int (c / 4)),some (.int (many:Nat)),some (.list (l1.map .int)),none,none,none,none] (aD (bH (eP (cons_of rfl (cons_of rfl (cons_of rfl rfl))) rfl e1))) ?_
 have dig:∃ dg:List Int,dg.length=many /\ iV (gB (g2 SD (d7 ng (aa (ae 0) af)) (g2 wB (gC (.int (10))) (gC (.int (18)))))) (aG 4 (bJ (c6 fK 3 (aa (ae 2) (aa (gC (.int (3))) (aa (ae 3) af)))))) cn [some (.int c),some (.int (m:Nat)),some (.int (c / 4)),some (.int (many:Nat)),some (.list (l1.map .int)),none,none,none,none]
   =some (.nx [some (.int c),some (.int (m:Nat)),some (.int (c / 4)),some (.int (many:Nat)),some (.list (dg.map .int)),none,none,none,none]):=by
  obtain ⟨_,e2,l2,rfl,LY,Xx⟩:=uS (c / 4) 3 many (by decide) (bo (c8 (m:=4) (by decide)) (by decide)) FI
  have hc:gB (g2 SD (d7 ng (aa (ae 0) af)) (g2 wB (gC (.int (10))) (gC (.int (18))))) [some (.int c),some (.int (m:Nat)),some (.int (c / 4)),some (.int (many:Nat)),some (.list (l1.map .int)),none,none,none,none]=some (decide ((10 ^ 18:Int)<=(if c < 0 then -c else c))):=dE (ah rfl XH rfl)
  by_cases h:((10 ^ 18:Int)<=(if c < 0 then -c else c))
  .exact ⟨l2,LY,oS true (by rw [hc,Zu h]) (λ_=>aD (bH (eP (cons_of rfl (cons_of rfl (cons_of rfl rfl))) rfl e2))) (λz=>nomatch z)⟩
  .exact ⟨l1,Rv,oS false (by rw [hc,Zr h]) (λz=>nomatch z) (λ_=>rfl)⟩
 obtain ⟨dg,T8,XI⟩:=dig
 refine aB _ XI ?_
 refine aB [some (.int c),some (.int (m:Nat)),some (.int (c / 4)),some (.int (many:Nat)),some (.list (dg.map .int)),some (.list [dR [0]]),none,none,none] rfl ?_
 refine aB [some (.int c),some (.int (m:Nat)),some (.int (c / 4)),some (.int (many:Nat)),some (.list (dg.map .int)),some (.list [dR [0]]),some (.list (([0,1]:List Int).map .int)),none,none] rfl ?_
 refine aB [some (.int c),some (.int (m:Nat)),some (.int (c / 4)),some (.int (many:Nat)),some (.list (dg.map .int)),some (.list [dR [0]]),some (.list (([0,1]:List Int).map .int)),some (.int 0),none] rfl ?_
 refine lu (λk δ=>∃ (q:List (List Int)) (cD:List Int) (pos:Nat) (z:Option D),δ=[some (.int c),some (.int (m:Nat)),some (.int (c / 4)),some (.int (many:Nat)),some (.list (dg.map .int)),some (.list (([0] :: q).map dR)),some (.list (cD.map .int)),some (.int (pos:Nat)),z] /\
   EW [0] q /\ q.length + 1<=m /\ (cD=[] \/ cD=led (lst [0] q)) /\ iL cD /\ (∀ x∈cD,0<=x /\ x<=(q.length:Int) + 1) /\ (∀ r∈q,r.length<=25) /\ k=2 * (m - q.length) + (if cD=[] then 0 else 1) /\ (1 < c % 4->Bm cD /\ ∀ r∈q,Bm r))
  (λδ=>∃ (q:List (List Int)) (x y z:Option D),δ=[some (.int c),some (.int (m:Nat)),some (.int (c / 4)),some (.int (many:Nat)),some (.list (dg.map .int)),some (.list (([0] :: q).map dR)),x,y,z] /\ EW [0] q /\ q.length + 1<=m /\ (∀ r∈q,r.length<=25) /\ (1 < c % 4->∀ r∈q,Bm r))
  (2 * m + 1) ⟨[],[0,1],0,none,rfl,trivial,by simpa using Ob,.inr T1.symm,by unfold iL; simp,by intro x hx; simp at hx; rcases hx with h | h <;> subst h <;> decide,by simp,by simp,λ_=>⟨cvx_01,by simp⟩⟩ ?_ ?_
 .rintro k δ ⟨q,cD,pos,z,rfl,hq,RK,QH,hr,hb,j8,rfl,yo⟩
  have hlen:cD.length<=q.length + 2:=by
   have:=xE hr hb
   omega
  have cond:lV (gB (g2 rG (d7 dh (aa (ae 5) af)) (ae 1))) (gB (g2 sQ (d7 dh (aa (ae 6) af)) (gC (.int (0))))) [some (.int c),some (.int (m:Nat)),some (.int (c / 4)),some (.int (many:Nat)),some (.list (dg.map .int)),some (.list (([0] :: q).map dR)),some (.list (cD.map .int)),some (.int (pos:Nat)),z]
    =some (decide ((((([0] :: q).map dR).length:Nat):Int) < (m:Int)) && decide ((0:Int) < (((cD.map PyData.int).length:Nat):Int))):=by
   by_cases h:((((([0] :: q).map dR).length:Nat):Int) < (m:Int))
   .rw [Zu h,abb]
    exact qU (dE (b:=true) (show _=_ from aam (λb=>some (PyData.bool b)) (Zu h))) (dE rfl)
   .rw [Zr h,acu]
    have h1:gB (g2 rG (d7 dh (aa (ae 5) af)) (ae 1)) [some (.int c),some (.int (m:Nat)),some (.int (c / 4)),some (.int (many:Nat)),some (.list (dg.map .int)),some (.list (([0] :: q).map dR)),some (.list (cD.map .int)),some (.int (pos:Nat)),z]=some false:=
     dE (b:=false) (show _=_ from aam (λb=>some (PyData.bool b)) (Zr h))
    unfold lV
    rw [h1]; rfl
  rw [cond]
  cases oY:(decide ((((([0] :: q).map dR).length:Nat):Int) < (m:Int)) && decide ((0:Int) < (((cD.map PyData.int).length:Nat):Int))) with
  | false=>exact .inl ⟨rfl,q,_,_,_,rfl,hq,RK,j8,λh=>(yo h).2⟩
  | true=>
    rw [ZE,ZL,ZL] at oY
    have XJ:q.length + 1 < m:=by
     have:=oY.1
     simp at this
     omega
    have ik:cD≠[]:=by
     intro e
     subst e
     simp at oY
    have n6:cD=led (lst [0] q):=QH.resolve_left ik
    refine .inr ⟨rfl,?_⟩
    have comp:∃ r1:List Int,dS (js (ae 6)) 2 [4,3,7] (jW 2 (c7 (aR 0) (c7 (aR 1) ko))) (gB (g2 sQ (g2 aO (ae 2) (g2 c5 (g2 aU (ae 4) (ae 0)) (ae 3))) (gC (.int (0))))) (ae 1)
      [some (.int c),some (.int (m:Nat)),some (.int (c / 4)),some (.int (many:Nat)),some (.list (dg.map .int)),some (.list (([0] :: q).map dR)),some (.list (cD.map .int)),some (.int (pos:Nat)),z]=some (r1.map .int) /\ r1.Sublist cD:=by
     obtain ⟨f,ef⟩:∃ f:D->Option (Option D),f=λd=>(jW 2 (c7 (aR 0) (c7 (aR 1) ko)) d (List.replicate 2 none ++ gg [4,3,7] [some (.int c),some (.int (m:Nat)),some (.int (c / 4)),some (.int (many:Nat)),some (.list (dg.map .int)),some (.list (([0] :: q).map dR)),some (.list (cD.map .int)),some (.int (pos:Nat)),z])).bind λfD=>
       (gB (g2 sQ (g2 aO (ae 2) (g2 c5 (g2 aU (ae 4) (ae 0)) (ae 3))) (gC (.int (0)))) fD).bind λb=>if b=true then (ae 1 fD).map some else some none:=⟨_,rfl⟩
     have hf:∀ (k:Nat) (x:Int),∃ b:Bool,f (.tuple [.int (k:Nat),.int x])=some (if b=true then some (.int x) else none):=by
      intro k x
      obtain ⟨y,_,ey⟩:=zC (l:=dg) (i:=((pos:Nat) + (k:Nat):Int) % (many:Nat)) (Z2 _ (Int.ne_of_gt Jn)) (by rw [T8]; exact ZO _ Jn)
      refine ⟨decide (0 < y),?_⟩
      rw [ef]
      show (Option.bind (some [some (PyData.int (k:Nat)),some (.int x),some (.list (dg.map .int)),some (.int (many:Nat)),some (.int (pos:Nat))]) _)=_
      rw [Za]
      have hb:gB (g2 sQ (g2 aO (ae 2) (g2 c5 (g2 aU (ae 4) (ae 0)) (ae 3))) (gC (.int (0)))) [some (PyData.int (k:Nat)),some (.int x),some (.list (dg.map .int)),some (.int (many:Nat)),some (.int (pos:Nat))]=some (decide (0 < y)):=
       dE (ah (ah rfl (ah (ah rfl rfl rfl) rfl (eO Jn)) ey) rfl rfl)
      rw [hb,Za]
      cases decide (0 < y) <;> rfl
     obtain ⟨m1,VM,HC⟩:=A7 hf cD 0
     refine ⟨m1,?_,HC⟩
     unfold dS
     rw [show js (ae 6) [some (.int c),some (.int (m:Nat)),some (.int (c / 4)),some (.int (many:Nat)),some (.list (dg.map .int)),some (.list (([0] :: q).map dR)),some (.list (cD.map .int)),some (.int (pos:Nat)),z]=some (i9 (cD.map .int)) from rfl,Za,Zk (by rw [n4,Y7]; omega)]
     rw [ef] at VM
     exact VM
    obtain ⟨r1,VN,HC⟩:=comp
    have slice:∃ r:List Int,(r.Sublist cD /\ (1 < c % 4->Bm r)) /\ iV (gB (g2 sQ (g2 c5 (ae 0) (gC (.int (4)))) (gC (.int (1))))) (aG 8 (bJ (BS (ae 6) (kn (g2 aO (ae 4) (g2 c5 (ae 7) (ae 3)))) (kn (d7 oK (aa (gC (.int (0))) (aa (g2 cy (d7 dh (aa (ae 6) af)) (g2 aO (ae 4) (g2 c5 (g2 aU (ae 7) (gC (.int (1)))) (ae 3)))) af))))))) cn
      [some (.int c),some (.int (m:Nat)),some (.int (c / 4)),some (.int (many:Nat)),some (.list (dg.map .int)),some (.list (([0] :: q).map dR)),some (.list (cD.map .int)),some (.int ((pos:Nat) + (cD.map PyData.int).length)),some (.list (r1.map .int))]
      =some (.nx [some (.int c),some (.int (m:Nat)),some (.int (c / 4)),some (.int (many:Nat)),some (.list (dg.map .int)),some (.list (([0] :: q).map dR)),some (.list (cD.map .int)),some (.int ((pos:Nat) + (cD.map PyData.int).length)),some (.list (r.map .int))]):=by
     obtain ⟨y1,_,XM⟩:=zC (l:=dg) (i:=((pos:Nat) + (cD.map PyData.int).length:Int) % (many:Nat)) (Z2 _ (Int.ne_of_gt Jn)) (by rw [T8]; exact ZO _ Jn)
     obtain ⟨y2,_,XN⟩:=zC (l:=dg) (i:=((pos:Nat) + (cD.map PyData.int).length + 1:Int) % (many:Nat)) (Z2 _ (Int.ne_of_gt Jn)) (by rw [T8]; exact ZO _ Jn)
     have hc:gB (g2 sQ (g2 c5 (ae 0) (gC (.int (4)))) (gC (.int (1)))) [some (.int c),some (.int (m:Nat)),some (.int (c / 4)),some (.int (many:Nat)),some (.list (dg.map .int)),some (.list (([0] :: q).map dR)),some (.list (cD.map .int)),some (.int ((pos:Nat) + (cD.map PyData.int).length)),some (.list (r1.map .int))]=some (decide (1 < c % 4)):=
      dE (ah (ah rfl rfl (eO (by decide))) rfl rfl)
     by_cases h:1 < c % 4
     .obtain ⟨r2,XO,mN,GR⟩:=FH PyData.int cD (some y1) (some (if ((cD.map PyData.int).length:Int) - y2 > 0 then ((cD.map PyData.int).length:Int) - y2 else 0))
      refine ⟨r2,⟨mN,λh=>GR hr (yo h).1⟩,oS true (by rw [hc,Zu h]) (λ_=>aD (bH ?_)) (λz=>nomatch z)⟩
      have f1:kn (g2 aO (ae 4) (g2 c5 (ae 7) (ae 3))) [some (.int c),some (.int (m:Nat)),some (.int (c / 4)),some (.int (many:Nat)),some (.list (dg.map .int)),some (.list (([0] :: q).map dR)),some (.list (cD.map .int)),some (.int ((pos:Nat) + (cD.map PyData.int).length)),some (.list (r1.map .int))]=some (some y1):=by
       exact part_of (ah rfl (ah rfl rfl (eO Jn)) XM)
      have f2:kn (d7 oK (aa (gC (.int (0))) (aa (g2 cy (d7 dh (aa (ae 6) af)) (g2 aO (ae 4) (g2 c5 (g2 aU (ae 7) (gC (.int (1)))) (ae 3)))) af))) [some (.int c),some (.int (m:Nat)),some (.int (c / 4)),some (.int (many:Nat)),some (.list (dg.map .int)),some (.list (([0] :: q).map dR)),some (.list (cD.map .int)),some (.int ((pos:Nat) + (cD.map PyData.int).length)),some (.list (r1.map .int))]
        =some (some (if ((cD.map PyData.int).length:Int) - y2 > 0 then ((cD.map PyData.int).length:Int) - y2 else 0)):=by
       have g:g2 cy (d7 dh (aa (ae 6) af)) (g2 aO (ae 4) (g2 c5 (g2 aU (ae 7) (gC (.int (1)))) (ae 3))) [some (.int c),some (.int (m:Nat)),some (.int (c / 4)),some (.int (many:Nat)),some (.list (dg.map .int)),some (.list (([0] :: q).map dR)),some (.list (cD.map .int)),some (.int ((pos:Nat) + (cD.map PyData.int).length)),some (.list (r1.map .int))]=some (.int (((cD.map PyData.int).length:Int) - y2)):=
        ah rfl (ah rfl (ah (ah rfl rfl rfl) rfl (eO Jn)) XN) rfl
       exact part_of (kG (cons_of rfl (cons_of g rfl)) rfl)
      unfold BS
      rw [f1,f2]
      show some (cutD (cD.map .int) _ _)=_
      rw [XO]
     .exact ⟨r1,⟨HC,λz=>absurd z h⟩,oS false (by rw [hc,Zr h]) (λz=>nomatch z) (λ_=>rfl)⟩
    obtain ⟨r,⟨hs,RB⟩,Qu⟩:=slice
    have XQ:iL r:=hr.sublist hs
    have yp:r.length<=25:=by have:=hs.length_le; omega
    have VO:∀ x∈r,0<=x /\ x<=(q.length:Int) + 1:=λx hx=>hb x (hs.subset hx)
    have e6:=zB (a:=ae 8) (b:=ae 8) (δ:=[some (.int c),some (.int (m:Nat)),some (.int (c / 4)),some (.int (many:Nat)),some (.list (dg.map .int)),some (.list (([0] :: q).map dR)),some (.list (cD.map .int)),some (.int ((pos:Nat) + (cD.map PyData.int).length)),some (.list (r.map .int))]) (r:=r) rfl (.inl rfl) (by omega)
    by_cases RM:r=[]
    .subst RM
     refine ⟨[some (.int c),some (.int (m:Nat)),some (.int (c / 4)),some (.int (many:Nat)),some (.list (dg.map .int)),some (.list (([0] :: q).map dR)),some (.list (([]:List Int).map .int)),some (.int (((pos + cD.length:Nat):Nat):Int)),some (.list (([]:List Int).map .int))],2 * (m - q.length),?_,by rw [Zj ik]; omega,q,[],pos + cD.length,_,rfl,hq,RK,.inl rfl,.nil,by simp,j8,by simp,λh=>⟨λ_ _ _ hx=>by simp at hx,(yo h).2⟩⟩
     refine b7 _ (aD (bH VN)) (b7 _ (aD (ah rfl rfl rfl)) (b7 _ Qu (b7 _ (aD (bH e6)) ?_)))
     refine (oS false rfl (λz=>nomatch z) λ_=>rfl).trans ?_
     rw [Y7]
     push_cast
     rfl
    .have XR:Nx (lst [0] q) r:=⟨RM,XQ,λx hx=>n6 ▸ hs.subset hx⟩
     refine ⟨[some (.int c),some (.int (m:Nat)),some (.int (c / 4)),some (.int (many:Nat)),some (.list (dg.map .int)),some (.list (([0] :: (q ++ [r])).map dR)),some (.list ((led r).map .int)),some (.int (((pos + cD.length:Nat):Nat):Int)),some (.list (r.map .int))],2 * (m - (q ++ [r]).length) + (if led r=[] then 0 else 1),?_,?_,q ++ [r],led r,pos + cD.length,_,rfl,xD hq XR,by simp; omega,.inr (by rw [lst_snoc]),ee,?_,?_,rfl,λh=>⟨Jl (RB h),λs jX=>(ZC.mp jX).elim (λz=>(yo h).2 s z) λz=>by rw [ZW.mp z]; exact RB h⟩⟩
     .refine b7 _ (aD (bH VN)) (b7 _ (aD (ah rfl rfl rfl)) (b7 _ Qu (b7 _ (aD (bH e6)) ?_)))
      have Ff:(0:Int) < ((r.map PyData.int).length:Int):=by
       have:=List.length_pos_iff.mpr RM
       simp; omega
      refine (oS true (dE (b:=true) (show _=_ from aam (λb=>some (PyData.bool b)) (Zu Ff))) (λ_=>oo (ds:=([0] :: q).map dR) (d:=dR r) rfl rfl (by simp; omega)) λz=>nomatch z).trans ?_
      rw [Y7,<- List.cons_append,ZI]
      push_cast
      rfl
     .have hl:led r≠[]:=λe=>by
       obtain ⟨x,hx⟩:=List.exists_mem_of_ne_nil r RM
       have:=f7.mpr (.inl hx)
       rw [e] at this; simp at this
      rw [Zj hl,Zj ik]
      simp
      omega
     .intro x hx
      rcases f7.mp hx with h | h
      .have:=VO x h; simp; omega
      .have:=VO _ h; simp; omega
     .intro s jX
      rcases ZC.mp jX with h | h
      .exact j8 s h
      .rw [ZW.mp h]; exact yp
 .rintro δ' ⟨q,x,y,z,rfl,hq,RK,j8,yo⟩
  refine ret (cM ([0] :: q)) rfl (.mk rfl ⟨[0] :: q,rfl,⟨q,rfl,hq⟩,by simpa using RK,λr hr=>?_,λh r hr=>?_⟩)
  .rcases Y6.mp hr with h | h
   .rw [h]; decide
   .exact j8 r h
  .rcases Y6.mp hr with z | z
   .rw [z]
    intro x y w hx hy h1 h2
    rw [ZW] at hx hy ⊢
    omega
   .exact yo h r z
theorem tK {r:List Int} (hr:iL r):(led r).length=r.length + (oy r).length:=by
 have nd:(led r).Nodup:=gS ee
 have hn:=gS hr
 have Tc:(r.map (· + 1) ++ r.filter (start r)).Nodup:=by
  rw [acM]
  refine ⟨?_,hn.sublist acn,?_⟩
  .exact aaw.mpr (hn.imp λh e=>h (by omega))
  .rintro a ha b hb rfl
   obtain ⟨x,hx,rfl⟩:=ZG.mp ha
   have:=(aaR.mp hb).2
   unfold start at this
   rw [show x + 1 - 1=x by omega,Zu hx] at this
   exact absurd this (by decide)
 have pm:List.Perm (led r) (r.map (· + 1) ++ r.filter (start r)):=(abD nd Tc).mpr λz=>by
  rw [f7,ZC,ZG,aaR]
  unfold start
  constructor
  .intro h
   by_cases q:z - 1∈r
   .exact .inl ⟨z - 1,q,by omega⟩
   .refine .inr ⟨h.resolve_right q,by rw [Zr q]; rfl⟩
  .rintro (⟨x,hx,rfl⟩ | ⟨h,_⟩)
   .exact .inr (by rw [show x + 1 - 1=x by omega]; exact hx)
   .exact .inl h
 rw [pm.length_eq,Zz,Y7,<- (Bl hr).1,Y7]
theorem oV {α:Type} (P:α->Bool):∀ l:List α,(l.filter P).length + (l.filter λx=> !P x).length=l.length
 | []=>rfl
 | a :: l=>by
   have:=oV P l
   rw [abj,abj]
   cases P a <;> simp <;> omega
theorem CM {l s:List Int} (hl:l.Nodup) (hs:s.Nodup) (h:∀ x∈s,x∈l):(l.filter λx=> !decide (x∈s)).length + s.length=l.length:=by
 have pm:List.Perm (l.filter λx=>decide (x∈s)) s:=(abD (hl.sublist acn) hs).mpr λz=>by
  rw [aaR,ZL]
  exact ⟨λq=>q.2,λq=>⟨h z q,q⟩⟩
 have:=oV (λx=>decide (x∈s)) l
 rw [pm.length_eq] at this
 omega
theorem xS {p:List (List Int)}:∀ (q:List (List Int)) (r:List Int) (n:Nat),(∀ j,p.getD (n + j) []=(r :: q).getD j [])->EW r q->iL r->((bq (n + 1) ((r :: q).map led)).filter λc=> !xH p c).length=r.length + ((r :: q).map λs=>(oy s).length).sum
 | q,r,n,hg,hc,hr=>by
   have T9:((ia (n + 1) (led r)).filter λc=> !xH p c).length=((led r).filter λx=> !decide (x∈p.getD (n + 1) [])).length:=by
    unfold ia
    rw [List.filter_map,Y7]
    congr 2
    funext b
    show (!xH p (b,((n + 1:Nat):Int) - b))=_
    rw [Fh]
   have e1:=hg 1
   have nd:(led r).Nodup:=gS ee
   have lc:=tK hr
   rw [Zn,bq,acB,Zz,T9,e1,Zn,aaG]
   cases q with
   | nil=>
     have e0:((led r).filter λx=> !decide (x∈([]:List Int)))=led r:=List.filter_eq_self.mpr λx _=>by simp
     rw [show ([r]:List (List Int)).getD 1 []=[] from rfl,e0]
     simp only [ab2,bq,List.filter_nil,aaq,List.sum_nil]
     omega
   | cons s q=>
     have hs:=hc.1
     have:=CM nd (s:=s) (gS hs.2.1) hs.2.2
     have ih:=xS (p:=p) q s (n + 1) (λj=>by rw [show n + 1 + j=n + (j + 1) by omega,hg (j + 1)]; rfl) hc.2 hs.2.1
     rw [show (r :: s :: q).getD 1 []=s from rfl]
     rw [ih]
     omega
theorem tL {p:List (List Int)} (hp:Pl p):(bz p).length=1 + (p.map λs=>(oy s).length).sum:=by
 rw [nJ hp]
 obtain ⟨q,rfl,hc⟩:=hp.ex
 exact xS q [0] 0 (λj=>by rw [Nat.zero_add]) hc (by unfold iL; simp)
theorem Bo {p:List (List Int)} (hp:Pl p):∀ r∈p,iL r:=by
 obtain ⟨q,rfl,hc⟩:=hp.ex
 have:∀ {q:List (List Int)} {r:List Int},EW r q->∀ s∈q,iL s:=by
  intro q
  induction q with
  | nil=>intro r _ s hs; simp at hs
  | cons t q ih=>
    intro r hc s hs
    rcases Y6.mp hs with z | z
    .rw [z]; exact hc.1.2.1
    .exact ih hc.2 s z
 intro r hr
 rcases Y6.mp hr with z | z
 .rw [z]; unfold iL; simp
 .exact this hc r z
theorem vn:∀ (r:List Int) (a b:Int),(Gv a b r).length<=r.length + 1
 | [],a,b=>by simp [Gv]
 | x :: r,a,b=>by
   have h1:=vn r a x
   have h2:=vn r x x
   rw [Gv]; split <;> simp only [Zp] <;> omega
theorem FJ (r:List Int):(oy r).length<=r.length:=by
 cases r with
 | nil=>simp [oy]
 | cons x r=>exact vn r x x
theorem Bp {f:List Int->Nat}:∀ (q:List (List Int)) (k:Nat),(∀ j,j < q.length->2 * f (q.getD j [])<=k + j + 2)->4 * (q.map f).sum<=q.length * (2 * k + q.length + 3)
 | [],k,_=>by simp
 | r :: q,k,h=>by
   have h0:2 * f r<=k + 0 + 2:=h 0 (by simp)
   have ih:=Bp (f:=f) q (k + 1) λj hj=>by
    have:2 * f (q.getD j [])<=k + (j + 1) + 2:=h (j + 1) (by simpa using hj)
    omega
   rw [Zn,aaG,Zp]
   have e:(q.length + 1) * (2 * k + (q.length + 1) + 3)=q.length * (2 * (k + 1) + q.length + 3) + (2 * k + 4):=by grind
   omega
theorem zT {p:List (List Int)} (hp:Pl p):4 * (bz p).length<=p.length * (p.length + 3) + 4:=by
 rw [tL hp]
 have:=Bp (f:=λs=>(oy s).length) p 0 λj hj=>by
  have hr:iL (p.getD j []):=Bo hp _ (by rw [Y9,Y4 hj]; exact aae hj)
  have h1:=tK hr
  have h2:=Fi hp j
  have h3:=FJ (p.getD j [])
  omega
 rw [Nat.mul_zero,aas] at this
 omega
theorem Jo {r:List Int} (hr:iL r) (hc:Bm r):(oy r).length<=1:=by
 have e:=(Bl hr).1
 have:(oy r).length=(r.filter (start r)).length:=by rw [<- e,Y7]
 rw [this]
 cases r with
 | nil=>simp
 | cons x r=>
   have hn:r.filter (start (x :: r))=[]:=List.filter_eq_nil_iff.mpr λy hy=>by
    have B6:x < y:=(ZF.mp hr).1 y hy
    have:y - 1∈x :: r:=hc x y (y - 1) Zb (Y8 _ hy) (by omega) (by omega)
    unfold start
    rw [Zu this]; simp
   rw [abj]
   split
   .rw [hn]; simp
   .rw [hn]; simp
theorem FK {p:List (List Int)} (hp:Pl p) (hc:∀ r∈p,Bm r):(bz p).length<=1 + p.length:=by
 rw [tL hp]
 have:∀ q:List (List Int),(∀ r∈q,(oy r).length<=1)->(q.map λs=>(oy s).length).sum<=q.length:=λq hq=>by
  induction q with
  | nil=>simp
  | cons r q ih=>
    have a:=hq r Zb
    have b:=ih λs hs=>hq s (Y8 _ hs)
    rw [Zn,aaG,Zp]; omega
 have:=this p λr hr=>Jo (Bo hp r hr) (hc r hr)
 omega
abbrev sB (a0 a1 a2:D) (a3 a4 a5 a6 a7 a8 a9 XS XT XU XW XX XY:Option D):DS:=[some a0,some a1,some a2,a3,a4,a5,a6,a7,a8,a9,XS,XT,XU,XW,XX,XY]
theorem jE {a b c:D}:aO (.tuple [a,b,c]) (.int 0)=some a /\ aO (.tuple [a,b,c]) (.int 1)=some b /\ aO (.tuple [a,b,c]) (.int 2)=some c:=⟨rfl,rfl,rfl⟩
theorem Jp {x:Option Res} {d:D} (h:x=some (.rt d)):dj (x.bind di) λy=>y=d:=⟨d,by rw [h]; rfl,rfl⟩
theorem Bq {p:List (List Int)} (hp:Pl p) (hl:p.length<=24) (j8:∀ r∈p,r.length<=25) (NI:(bz p).length < 64) {l h c:Int} (H:Gu l h c) (cc:Int):gq [cM p,.tuple [.int l,.int h,.int c],.int cc]=some (.bool true):=by
 have ⟨q1,q2,q3,q4⟩:=H
 have h1:1<=p.length:=by obtain ⟨q,rfl,_⟩:=hp.ex; simp
 have bc:bt c<=40:=c8 (by omega)
 have hU:0 < c ^ p.length:=aax (by omega)
 have bU:bt (c ^ p.length)<=1000:=bo (pw_bt bc hl) (by decide)
 have kE:=kK hp
 have lc:l < c:=by omega
 have T4:0 < h:=by omega
 have nl:∀ e∈bz p,0<=aV p l c e:=λe he=>adh (zN hp hl H q1 lc he).1
 obtain ⟨ph,ew,hD⟩:=zJ hp hl j8
 obtain ⟨O,vO,hO,T7⟩:=CJ hp hl H (by omega)
 have RN:∀ e∈O,e∈bz p:=λe he=>hO.mem_iff.mp he
 have Y2:O.length < 64:=by rw [hO.length_eq]; exact NI
 have VP:∀ e∈O,0<=aV p l c e:=λe he=>nl e (RN e he)
 have tU:∀ j,0<=tS (aV p l c) O j /\ tS (aV p l c) O j<=c ^ p.length:=λj=>by
  constructor
  .exact vj (i:=0) VP (aah j)
  .have a:=vj VP (Nat.le_add_right j O.length)
   have e:tS (aV p l c) O (j + O.length)=(O.map (aV p l c)).sum:=by unfold tS; rw [List.take_of_length_le (by omega)]
   rw [e,Fy (hO.map _),Jk hp] at a
   exact a
 have tB:∀ j,bt (tS (aV p l c) O j)<=1000:=λj=>de (by have:=tU j; omega) bU
 obtain ⟨m,vm,sm,m0,m1⟩:=CI cc ((List.range (O.length + 1)).map (tS (aV p l c) O)) (c ^ p.length) (by omega) bU (by simp) (by simp; omega) (λt ht=>by
  obtain ⟨j,_,rfl⟩:=ZG.mp ht
  exact tU j)
 have mp:=sm.low.1
 rw [xB]
 refine aY ?_
 refine aB (sB (cM p) (.tuple [.int l,.int h,.int c]) (.int cc) (some (.int (p.length:Nat))) none none none none none none none none none none none none) (aD (kG (cons_of rfl rfl) (by show some (PyData.int _)=_; rw [Y7]))) ?_
 refine aB (sB (cM p) (.tuple [.int l,.int h,.int c]) (.int cc) (some (.int (p.length:Nat))) (some (.dict ph)) none none none none none none none none none none none) (aD (call_of (cons_of rfl rfl) rfl ew)) ?_
 refine aB (sB (cM p) (.tuple [.int l,.int h,.int c]) (.int cc) (some (.int (p.length:Nat))) (some (.dict ph)) (some (.int (c ^ p.length))) none none none none none none none none none none) (aD (call_of (cons_of (ah rfl rfl jE.2.2) (cons_of rfl rfl)) rfl (iy c p.length (bo bc (by decide)) (by omega)))) ?_
 refine aB (sB (cM p) (.tuple [.int l,.int h,.int c]) (.int cc) (some (.int (p.length:Nat))) (some (.dict ph)) (some (.int (c ^ p.length))) (some (.list (O.map (ij l h c)))) none none none none none none none none none) (aD (bH (eP (cons_of (bH (eP (cons_of rfl rfl) rfl (oT hp hl j8))) (cons_of rfl rfl)) rfl vO))) ?_
 refine aB (sB (cM p) (.tuple [.int l,.int h,.int c]) (.int cc) (some (.int (p.length:Nat))) (some (.dict ph)) (some (.int (c ^ p.length))) (some (.list (O.map (ij l h c)))) (some (.list [.int 0])) none none none none none none none none) rfl ?_
 refine iq (ij l h c) O (λi δ=>∃ x,δ=sB (cM p) (.tuple [.int l,.int h,.int c]) (.int cc) (some (.int (p.length:Nat))) (some (.dict ph)) (some (.int (c ^ p.length))) (some (.list (O.map (ij l h c)))) (some (.list (((List.range (i + 1)).map (tS (aV p l c) O)).map .int))) x none none none none none none none) (kJ rfl) ⟨none,rfl⟩ ?_ ?_
 .rintro i e δ he ⟨x,rfl⟩
  have NG:=Zq he
  have ix:aO (.list (((List.range (i + 1)).map (tS (aV p l c) O)).map .int)) (.int (-1))=some (.int (tS (aV p l c) O i)):=Im (by rw [Y7,Y7,Z9,acC,Zl,Zl,aaT (aar i)]; rfl)
  have vo:=FG hp hl H q1 lc hD (RN e NG)
  refine ⟨_,sB (cM p) (.tuple [.int l,.int h,.int c]) (.int cc) (some (.int (p.length:Nat))) (some (.dict ph)) (some (.int (c ^ p.length))) (some (.list (O.map (ij l h c)))) (some (.list (((List.range (i + 1 + 1)).map (tS (aV p l c) O)).map .int))) (some (ij l h c e)) none none none none none none none,rfl,?_,_,rfl⟩
  refine Eq.trans (oo (ds:=((List.range (i + 1)).map (tS (aV p l c) O)).map .int) (d:=.int (tS (aV p l c) O (i + 1))) rfl ?_ ?_) ?_
  .exact ah (ah rfl (Ku rfl rfl) ix) (call_of (cons_of rfl (cons_of (ah rfl rfl (tJ l h c e).1) (cons_of (ah rfl rfl jE.1) (cons_of rfl (cons_of rfl rfl))))) rfl vo) (by show some (PyData.int _)=_; rw [<- ve he])
  .rw [Y7,Y7,Z9]; have:=(Zd.mp he).1; omega
  rw [List.range_succ (n:=i + 1),ZI,ZI]; rfl
 rintro δ' ⟨x8,rfl⟩
 refine aB (sB (cM p) (.tuple [.int l,.int h,.int c]) (.int cc) (some (.int (p.length:Nat))) (some (.dict ph)) (some (.int (c ^ p.length))) (some (.list (O.map (ij l h c)))) (some (.list (((List.range (O.length + 1)).map (tS (aV p l c) O)).map .int))) x8 (some (dF m)) none none none none none none) (aD (CF (cons_of rfl (cons_of rfl (cons_of rfl rfl))) rfl vm rfl)) ?_
 refine aB (sB (cM p) (.tuple [.int l,.int h,.int c]) (.int cc) (some (.int (p.length:Nat))) (some (.dict ph)) (some (.int (c ^ p.length))) (some (.list (O.map (ij l h c)))) (some (.list (((List.range (O.length + 1)).map (tS (aV p l c) O)).map .int))) x8 (some (dF m)) (some (.int 0)) none none none none none) rfl ?_
 have VQ:∀ j:Nat,j<=O.length->aO (.list (((List.range (O.length + 1)).map (tS (aV p l c) O)).map .int)) (.int (j:Nat))=some (.int (tS (aV p l c) O j)):=λj hj=>d8 (by rw [Zl,Zl,aaT (by omega)]; rfl)
 have QI:∀ {x9 Oh RO RP XZ Ua Ub},d7 dh (aa (ae 6) af) (sB (cM p) (.tuple [.int l,.int h,.int c]) (.int cc) (some (.int (p.length:Nat))) (some (.dict ph)) (some (.int (c ^ p.length))) (some (.list (O.map (ij l h c)))) (some (.list (((List.range (O.length + 1)).map (tS (aV p l c) O)).map .int))) x8 x9 Oh RO RP XZ Ua Ub)=some (.int (O.length:Nat)):=λ{_ _ _ _ _ _ _}=>kG (cons_of rfl rfl) (by show some (PyData.int _)=_; rw [Y7])
 refine lu (λw δ=>∃ k:Nat,w=O.length - k /\ k<=O.length /\ tS (aV p l c) O k * m.2<=m.1 * c ^ p.length /\ δ=sB (cM p) (.tuple [.int l,.int h,.int c]) (.int cc) (some (.int (p.length:Nat))) (some (.dict ph)) (some (.int (c ^ p.length))) (some (.list (O.map (ij l h c)))) (some (.list (((List.range (O.length + 1)).map (tS (aV p l c) O)).map .int))) x8 (some (dF m)) (some (.int (k:Nat))) none none none none none)
  (λδ=>∃ k:Nat,k<=O.length /\ tS (aV p l c) O k * m.2<=m.1 * c ^ p.length /\ (k < O.length->m.1 * c ^ p.length < tS (aV p l c) O (k + 1) * m.2) /\ δ=sB (cM p) (.tuple [.int l,.int h,.int c]) (.int cc) (some (.int (p.length:Nat))) (some (.dict ph)) (some (.int (c ^ p.length))) (some (.list (O.map (ij l h c)))) (some (.list (((List.range (O.length + 1)).map (tS (aV p l c) O)).map .int))) x8 (some (dF m)) (some (.int (k:Nat))) none none none none none)
  O.length ⟨0,rfl,aah _,by show (0:Int) * m.2<=_; rw [adg]; exact Int.mul_nonneg m0 (by omega),rfl⟩ ?_ ?_
 .rintro w δ ⟨k,rfl,hk,hle,rfl⟩
  have c1:gB (g2 rG (ae 10) (d7 dh (aa (ae 6) af))) (sB (cM p) (.tuple [.int l,.int h,.int c]) (.int cc) (some (.int (p.length:Nat))) (some (.dict ph)) (some (.int (c ^ p.length))) (some (.list (O.map (ij l h c)))) (some (.list (((List.range (O.length + 1)).map (tS (aV p l c) O)).map .int))) x8 (some (dF m)) (some (.int (k:Nat))) none none none none none)=some (decide (k < O.length)):=dE (ah rfl QI (by show some (PyData.bool (decide ((k:Int) < (O.length:Nat))))=_; rw [decide_eq_decide.mpr (show (k:Int) < (O.length:Nat)↔k < O.length by omega)]))
  by_cases CL:k < O.length
  .rw [Zu CL] at c1
   have i1:g2 aU (ae 10) (gC (.int (1))) (sB (cM p) (.tuple [.int l,.int h,.int c]) (.int cc) (some (.int (p.length:Nat))) (some (.dict ph)) (some (.int (c ^ p.length))) (some (.list (O.map (ij l h c)))) (some (.list (((List.range (O.length + 1)).map (tS (aV p l c) O)).map .int))) x8 (some (dF m)) (some (.int (k:Nat))) none none none none none)=some (.int ((k + 1:Nat))):=ah rfl rfl rfl
   have c2:=qU (b:=gB (g2 SA (g2 bh (g2 aO (ae 7) (g2 aU (ae 10) (gC (.int (1))))) (g2 aO (ae 9) (gC (.int (1))))) (g2 bh (g2 aO (ae 9) (gC (.int (0)))) (ae 5)))) c1 (dE (ah (ah (ah rfl i1 (VQ (k + 1) CL)) (ah rfl rfl (dW m)) (cE (b0 (tB (k + 1)) sm.bot))) (ah (ah rfl rfl (fI m)) rfl (cE (b0 sm.top bU))) rfl))
   by_cases hz:tS (aV p l c) O (k + 1) * m.2<=m.1 * c ^ p.length
   .rw [Zu hz] at c2
    exact .inr ⟨c2,_,O.length - (k + 1),aD i1,by omega,k + 1,rfl,CL,hz,rfl⟩
   .rw [Zr hz] at c2
    exact .inl ⟨c2,k,hk,hle,λ_=>by omega,rfl⟩
  .rw [Zr CL] at c1
   refine .inl ⟨?_,k,hk,hle,λz=>absurd z CL,rfl⟩
   unfold lV; rw [c1]; rfl
 rintro δ' ⟨k,hk,hle,QJ,rfl⟩
 obtain ⟨F,R,S,hF,X0,FA,vL,Uc,QK⟩:=Je hp hl j8 NI H m sm m0 m1
 obtain rfl:=zO hp hl H hF X0 hO T7
 obtain ⟨eR,eS⟩:=zP hp hl H hO mp hk hle QJ FA Uc QK
 have QC:∀ x∈R,x∈bz p:=λx hx=>RN x (by rw [FA]; exact ZX _ hx)
 have VI:R.length < 64:=by
  have:F.length=R.length + S.length:=by rw [FA,Zz]
  omega
 refine aB (sB (cM p) (.tuple [.int l,.int h,.int c]) (.int cc) (some (.int (p.length:Nat))) (some (.dict ph)) (some (.int (c ^ p.length))) (some (.list (F.map (ij l h c)))) (some (.list (((List.range (F.length + 1)).map (tS (aV p l c) F)).map .int))) x8 (some (dF m)) (some (.int (k:Nat))) (some (.list (R.map dC))) none none none none) (aD (bH ?_)) ?_
 .exact ir (ij l h c) dC id R (kJ (bH (show _=some (R.map (ij l h c)) from by show some (cutD _ none (some _))=_; rw [Fz (ij l h c) F k hk,eR]))) (by omega) (λe _=>ah rfl rfl (tJ l h c e).1) |>.trans (by rw [List.map_id])
 refine aB (sB (cM p) (.tuple [.int l,.int h,.int c]) (.int cc) (some (.int (p.length:Nat))) (some (.dict ph)) (some (.int (c ^ p.length))) (some (.list (F.map (ij l h c)))) (some (.list (((List.range (F.length + 1)).map (tS (aV p l c) F)).map .int))) x8 (some (dF m)) (some (.int (k:Nat))) (some (.list (R.map dC))) (some (.tuple [.int 0,.int 1])) none none none) (aD (gT rfl rfl)) ?_
 obtain ⟨t,b,Ud,qD,VR,VS,Gk⟩:∃ t b:Int,iV (gB (g2 rG (ae 10) (d7 dh (aa (ae 6) af)))) (aG 12 (aQ (aa (g2 aO (g2 aO (ae 6) (ae 10)) (gC (.int (1)))) (aa (g2 aO (g2 aO (ae 6) (ae 10)) (gC (.int (2)))) af)))) cn (sB (cM p) (.tuple [.int l,.int h,.int c]) (.int cc) (some (.int (p.length:Nat))) (some (.dict ph)) (some (.int (c ^ p.length))) (some (.list (F.map (ij l h c)))) (some (.list (((List.range (F.length + 1)).map (tS (aV p l c) F)).map .int))) x8 (some (dF m)) (some (.int (k:Nat))) (some (.list (R.map dC))) (some (.tuple [.int 0,.int 1])) none none none)=some (.nx (sB (cM p) (.tuple [.int l,.int h,.int c]) (.int cc) (some (.int (p.length:Nat))) (some (.dict ph)) (some (.int (c ^ p.length))) (some (.list (F.map (ij l h c)))) (some (.list (((List.range (F.length + 1)).map (tS (aV p l c) F)).map .int))) x8 (some (dF m)) (some (.int (k:Nat))) (some (.list (R.map dC))) (some (.tuple [.int t,.int b])) none none none)) /\
   l9 (IW (dG l h c) S).1 (IW (dG l h c) S).2 t b /\ bt t<=3000 /\ bt b<=3000 /\ b≠0:=by
  have c1:gB (g2 rG (ae 10) (d7 dh (aa (ae 6) af))) (sB (cM p) (.tuple [.int l,.int h,.int c]) (.int cc) (some (.int (p.length:Nat))) (some (.dict ph)) (some (.int (c ^ p.length))) (some (.list (F.map (ij l h c)))) (some (.list (((List.range (F.length + 1)).map (tS (aV p l c) F)).map .int))) x8 (some (dF m)) (some (.int (k:Nat))) (some (.list (R.map dC))) (some (.tuple [.int 0,.int 1])) none none none)=some (decide (k < F.length)):=dE (ah rfl QI (by show some (PyData.bool (decide ((k:Int) < (F.length:Nat))))=_; rw [decide_eq_decide.mpr (show (k:Int) < (F.length:Nat)↔k < F.length by omega)]))
  by_cases CL:k < F.length
  .rw [Zu CL] at c1
   have NG:=RN F[k] (aae CL)
   obtain ⟨⟨w1,w2⟩,⟨w3,w4⟩,w5⟩:=Bk hp hl H NG
   have i6:g2 aO (ae 6) (ae 10) (sB (cM p) (.tuple [.int l,.int h,.int c]) (.int cc) (some (.int (p.length:Nat))) (some (.dict ph)) (some (.int (c ^ p.length))) (some (.list (F.map (ij l h c)))) (some (.list (((List.range (F.length + 1)).map (tS (aV p l c) F)).map .int))) x8 (some (dF m)) (some (.int (k:Nat))) (some (.list (R.map dC))) (some (.tuple [.int 0,.int 1])) none none none)=some (ij l h c F[k]):=ah rfl rfl (d8 (by rw [Zl,Y4 CL]; rfl))
   refine ⟨cO h c F[k],cO l c F[k],Fo c1 (aD (gT (ah i6 rfl (tJ l h c F[k]).2.1) (ah i6 rfl (tJ l h c F[k]).2.2))),?_,bo w4 (by decide),bo w2 (by decide),by omega⟩
   rw [eS,aaM CL]
   exact w5
  .rw [Zr CL] at c1
   refine ⟨0,1,xr c1,?_,bo (c8 (m:=1) (by decide)) (by decide),bo (c8 (m:=1) (by decide)) (by decide),by decide⟩
   rw [eS,List.drop_of_length_le (by omega)]
   exact ⟨abY 1,by show Int.gcd 0 1=1; decide,rfl⟩
 refine aB _ Ud ?_
 refine aB (sB (cM p) (.tuple [.int l,.int h,.int c]) (.int cc) (some (.int (p.length:Nat))) (some (.dict ph)) (some (.int (c ^ p.length))) (some (.list (F.map (ij l h c)))) (some (.list (((List.range (F.length + 1)).map (tS (aV p l c) F)).map .int))) x8 (some (dF m)) (some (.int (k:Nat))) (some (.list (R.map dC))) (some (.tuple [.int t,.int b])) (some (.int (R.map (aV p h c)).sum)) none none) (aD (NA (ir dC .int (aV p h c) R (kJ rfl) (by omega) λe he=>call_of (cons_of rfl (cons_of rfl (cons_of (ah rfl rfl jE.2.1) (cons_of rfl (cons_of rfl rfl))))) rfl (FG hp hl H T4 q3 hD (QC e he))))) ?_
 have eT:(R.map (aV p l c)).sum=tS (aV p l c) F k:=by unfold tS; rw [eR]
 have v1:cj [dF (IW (dG l h c) S),.int t,.int b]=some (.bool true):=iK qD (b0 (de (qD.uz Gk) VR) VS) (b0 VR (de (qD.bot_le Gk) VS))
 have v2:cj [dF (be (R.map (aV p l c)).sum (c ^ p.length)),.int (tS (aV p l c) F k),.int (c ^ p.length)]=some (.bool true):=by
  rw [eT]
  have q:=bG (t:=tS (aV p l c) F k) (show c ^ p.length≠0 by omega)
  have z:=tD (t:=tS (aV p l c) F k) (show c ^ p.length≠0 by omega) (tB k) bU
  exact iK q (b0 z.top bU) (b0 (tB k) z.bot)
 have v3:cj [dF (be (R.map (aV p h c)).sum (c ^ p.length)),.int (R.map (aV p h c)).sum,.int (c ^ p.length)]=some (.bool true):=by
  have bS:bt (R.map (aV p h c)).sum<=3006:=Fs (λx hx=>by
   obtain ⟨e,he,rfl⟩:=ZG.mp hx
   exact (zN hp hl H T4 q3 (QC e he)).2) (by rw [Y7]; exact VI)
  have q:=bG (t:=(R.map (aV p h c)).sum) (show c ^ p.length≠0 by omega)
  have z:=tD (m:=3006) (t:=(R.map (aV p h c)).sum) (show c ^ p.length≠0 by omega) bS (bo bU (by decide))
  exact iK q (b0 z.top bU) (b0 bS z.bot)
 have b9:bt c<=9000:=bo bc (by decide)
 have vl:=fT l c (by omega) b9
 have vh:=fT h c (by omega) b9
 have vC:∀ {Ua Ub:Option D},ay cN 4 (aa (ae 0) (aa (ay cb 2 (aa (g2 aO (ae 1) (gC (.int (0)))) (aa (g2 aO (ae 1) (gC (.int (2)))) af))) (aa (ay cb 2 (aa (g2 aO (ae 1) (gC (.int (1)))) (aa (g2 aO (ae 1) (gC (.int (2)))) af))) (aa (ae 9) af)))) (sB (cM p) (.tuple [.int l,.int h,.int c]) (.int cc) (some (.int (p.length:Nat))) (some (.dict ph)) (some (.int (c ^ p.length))) (some (.list (F.map (ij l h c)))) (some (.list (((List.range (F.length + 1)).map (tS (aV p l c) F)).map .int))) x8 (some (dF m)) (some (.int (k:Nat))) (some (.list (R.map dC))) (some (.tuple [.int t,.int b])) (some (.int (R.map (aV p h c)).sum)) Ua Ub)=some (.tuple [.list (((bz p).filter λx=>decide (x∈R)).map dC),dF (IW (dG l h c) S),dF (be (R.map (aV p l c)).sum (c ^ p.length)),dF (be (R.map (aV p h c)).sum (c ^ p.length))]):=λ{_ _}=>
  call_of (cons_of rfl (cons_of (call_of (cons_of (ah rfl rfl jE.1) (cons_of (ah rfl rfl jE.2.2) rfl)) rfl vl) (cons_of (call_of (cons_of (ah rfl rfl jE.2.1) (cons_of (ah rfl rfl jE.2.2) rfl)) rfl vh) (cons_of rfl rfl)))) rfl vL
 generalize VT:(bz p).filter (λx=>decide (x∈R))=RL at *
 have X1:RL.length < 64:=by rw [<- VT]; exact aaa (acb _ _) NI
 refine Jp ?_
 refine (Jb vC (by show 14 < 16; decide)).trans ?_
 refine (vk ?_).trans ?_
 .exact A5 rfl (A5 rfl rfl)
 refine (vk ?_).trans ?_
 .refine dE (ah (ah rfl rfl rfl) (bH (ra dC dC id (λe=>decide (e∈R)) (bz p) (kJ (bH (eP (cons_of rfl rfl) rfl (oT hp hl j8)))) (by omega) (λe _=>dE (ah rfl rfl ((IZ false e R).trans (by cases decide (e∈R) <;> rfl)))) λe _ _=>rfl)) ?_)
  rw [List.map_id,VT]
  exact Fw RL
 refine (vk ?_).trans ?_
 .exact A5 (lA (eX (call_of (cons_of (ah rfl rfl rfl) (cons_of (ah rfl rfl rfl) (cons_of (ah rfl rfl rfl) rfl))) rfl v1))) (lA (eX (call_of (cons_of (ah rfl rfl rfl) (cons_of (ah rfl rfl (VQ k hk)) (cons_of rfl rfl))) rfl v2)))
 refine (vk ?_).trans ?_
 .exact lA (eX (call_of (cons_of (ah rfl rfl rfl) (cons_of rfl (cons_of rfl rfl))) rfl v3))
 unfold zi
 refine (Jc (gT rfl rfl) (by rw [Y7]; omega)).trans ?_
 exact Fp (ah (ah vC rfl rfl) rfl (Qx RL))
theorem FL (ns:List Int) (h:ns.length<=63):tz [.list (ns.map .int)]=some (.bool true):=by
 rw [Ql]
 refine aY ?_
 have v0:=h9 ns 0
 have v1:=h9 ns 1
 have v2:=h9 ns 2
 generalize ns.getD 0 0=a0 at v0
 generalize ns.getD 1 0=a1 at v1
 generalize ns.getD 2 0=a2 at v2
 obtain ⟨mm,m1,m2,em⟩:=zD a0
 refine aB [some (.list (ns.map .int)),some (.int (mm:Nat)),none,none,none] (aD (call_of (cons_of (call_of (cons_of rfl (cons_of rfl rfl)) rfl v0) rfl) rfl em)) ?_
 have dv:∀ {g:DS->Option D} {δ:DS} {a:Int} (b:Int),g δ=some (.int a)->0 < b->b.natAbs < 2 ^ 70->g2 dQ g (gC (.int b)) δ=some (.int (a / b)):=λb hv h0 h2=>ah hv rfl (dd b h0 h2)
 refine jx (decide (a0 / 700 % 16=1)) (ND (ri (dv 700 (call_of (cons_of rfl (cons_of rfl rfl)) rfl v0) (by decide) (by decide)) rfl (by decide))) (λ_=>?_) λ_=>?_
 .rw [seq_assoc]
  refine aB [some (.list (ns.map .int)),some (.int (mm:Nat)),some (.int a2),none,none] (aD (call_of (cons_of rfl (cons_of rfl rfl)) rfl v2)) ?_
  rw [seq_assoc]
  have q1:=Z2 (a0 / 11200) (show (12:Int)≠0 by decide)
  have q2:=ZO (a0 / 11200) (show (0:Int) < 12 by decide)
  obtain ⟨k,hk⟩:∃ k:Nat,(k:Int)=13 + a0 / 11200 % 12:=⟨(13 + a0 / 11200 % 12).toNat,by omega⟩
  obtain ⟨_,ep,p,rfl,hp,i4,j8,yo⟩:=oU (a1 / 4 * 4 + 2) k (by omega) (by omega)
  have NI:(bz p).length < 64:=by
   have:=FK hp (yo (by omega))
   omega
  obtain ⟨l,hh,c,es,H⟩:=nL (a2 / 5)
  have va:=Bq hp (by omega) j8 NI H a2
  rw [hk] at ep
  refine aB [some (.list (ns.map .int)),some (.int (mm:Nat)),some (.int a2),some (cM p),none] (aD (call_of (cons_of (ah (ah (dv 4 (call_of (cons_of rfl (cons_of rfl rfl)) rfl v1) (by decide) (by decide)) rfl (cE (mul_right (by decide) (by decide)))) rfl rfl) (cons_of (ah rfl (ri (dv 11200 (call_of (cons_of rfl (cons_of rfl rfl)) rfl v0) (by decide) (by decide)) rfl (by decide)) rfl) rfl)) rfl ep)) ?_
  exact ly (.bool true) (call_of (cons_of rfl (cons_of (call_of (cons_of (dv 5 rfl (by decide) (by decide)) rfl) rfl es) (cons_of rfl rfl))) rfl va) (.mk rfl rfl)
 rw [kx]
 obtain ⟨t,Mt,N3,et⟩:∃ t:Nat,4<=t /\ t<=11 /\ g2 aO (bJ (gI (aa (gC (.int (11))) (aa (gC (.int (4))) af)))) (d7 wI (aa (g2 sQ (ae 1) (gC (.int (7)))) af)) [some (.list (ns.map .int)),some (.int (mm:Nat)),none,none,none]=some (.int (t:Nat)):=by
  by_cases z:(7:Int) < (mm:Int)
  .refine ⟨4,by decide,by decide,ah rfl (show _=some (.int 1) from ?_) rfl⟩
   show some (PyData.int (if decide ((7:Int) < (mm:Int))=true then 1 else 0))=_
   rw [Zu z]; rfl
  .refine ⟨11,by decide,by decide,ah rfl (show _=some (.int 0) from ?_) rfl⟩
   show some (PyData.int (if decide ((7:Int) < (mm:Int))=true then 1 else 0))=_
   rw [Zr z]; rfl
 obtain ⟨k,hk⟩:∃ k:Nat,k=max 2 (min t ns.length) - 1:=⟨_,rfl⟩
 have hr:lb (aa (gC (.int (1))) (aa (d7 oK (aa (gC (.int (2))) (aa (d7 ql (aa (g2 aO (bJ (gI (aa (gC (.int (11))) (aa (gC (.int (4))) af)))) (d7 wI (aa (g2 sQ (ae 1) (gC (.int (7)))) af))) (aa (d7 dh (aa (ae 0) af)) af))) af))) af)) [some (.list (ns.map .int)),some (.int (mm:Nat)),none,none,none]=some (fG 1 k):=by
  refine (tw (a:=1) (b:=((k + 1:Nat):Int)) ?_ (by omega) (by omega) (by omega) (by omega)).trans ?_
  .refine cons_of rfl (cons_of (kG (cons_of rfl (cons_of (kG (cons_of et (cons_of (kG (cons_of rfl rfl) rfl) rfl)) rfl) rfl)) ?_) rfl)
   rw [Y7]
   have e:(if (if ((ns.length:Nat):Int) < (t:Int) then ((ns.length:Nat):Int) else (t:Int)) > 2 then (if ((ns.length:Nat):Int) < (t:Int) then ((ns.length:Nat):Int) else (t:Int)) else 2)=((k + 1:Nat):Int):=by split <;> split <;> omega
   show some (PyData.int (if (if ((ns.length:Nat):Int) < (t:Int) then ((ns.length:Nat):Int) else (t:Int)) > 2 then (if ((ns.length:Nat):Int) < (t:Int) then ((ns.length:Nat):Int) else (t:Int)) else 2))=_
   rw [e]
  .rw [show (((k + 1:Nat):Int) - 1).toNat=k by omega]
 refine je 1 k (λi δ=>∃ x y z,δ=[some (.list (ns.map .int)),some (.int (mm:Nat)),x,y,z]) hr ⟨none,none,none,rfl⟩ ?_ ?_
 .rintro i δ hi ⟨x,y,z,rfl⟩
  have vc:=h9 ns (1 + i)
  have vd:=h9 ns (1 + i + 1)
  generalize ns.getD (1 + i) 0=a at vc
  generalize ns.getD (1 + i + 1) 0=b at vd
  obtain ⟨_,ep,p,rfl,hp,i4,j8,_⟩:=oU a mm (by omega) (by omega)
  have NI:(bz p).length < 64:=by
   have:=zT hp
   have:p.length * (p.length + 3)<=12 * (12 + 3):=Nat.mul_le_mul (by omega) (by omega)
   omega
  obtain ⟨l,hh,c,es,H⟩:=nL (b / 5)
  have va:=Bq hp (by omega) j8 NI H b
  have ei:(1:Int) + (i:Int)=((1 + i:Nat):Int):=by omega
  rw [ei]
  refine ⟨_,[some (.list (ns.map .int)),some (.int (mm:Nat)),some (.int b),y,some (.int ((1 + i:Nat)))],rfl,?_,_,_,_,rfl⟩
  refine b7 [some (.list (ns.map .int)),some (.int (mm:Nat)),some (.int b),y,some (.int ((1 + i:Nat)))] (aD (call_of (cons_of rfl (cons_of (ah rfl rfl rfl) rfl)) rfl vd)) ?_
  exact xr (lA (eX (call_of (cons_of (call_of (cons_of (call_of (cons_of rfl (cons_of rfl rfl)) rfl vc) (cons_of rfl rfl)) rfl ep) (cons_of (call_of (cons_of (dv 5 rfl (by decide) (by decide)) rfl) rfl es) (cons_of rfl rfl))) rfl va)))
 .rintro δ' ⟨x,y,z,rfl⟩
  exact ret (.bool true) rfl (.mk rfl rfl)
theorem bD {N P:List Str} {sc:Scope} (a:sc.kind=.function:=by rfl) (b:sc.isCoroutine=false:=by rfl) (c:sc.isGenerator=false:=by rfl) (d:N.Nodup:=by decide +kernel) (e:N.take P.length=P:=by rfl) (f:∀ x∈P,sc.names.lookup x=some .local \/ sc.names.lookup x=some .cell:=by decide +kernel) (g:∀ y∈sc.names,y.2≠.free:=by decide +kernel):az N P sc:=⟨a,b,c,d,e,f,g⟩
abbrev zU:Stmt:=top 8
theorem vv:az ["top","bottom","shared"] ["top","bottom"] (ai zU):=bD
abbrev zV:Stmt:=top 9
theorem nM:az ["one","other","shared","one_part","other_part","rest"] ["one","other"] (ai zV):=bD
abbrev vx:Stmt:=top 10
theorem FN:az ["one","other"] ["one","other"] (ai vx):=bD
abbrev vy:Stmt:=top 11
theorem rm:az ["one","other","left","right"] ["one","other"] (ai vy):=bD
abbrev zW:Stmt:=top 12
theorem Jq:az ["one","other"] ["one","other"] (ai zW):=bD
abbrev vz:Stmt:=top 13
theorem ji:az ["one","many","top","bottom","turn"] ["one","many"] (ai vz):=bD
abbrev vA:Stmt:=top 14
theorem FO:az ["one","other"] ["one","other"] (ai vA):=bD
abbrev fj:Stmt:=top 15
theorem aZ:az ["one","other","rest","pair"] ["one","other"] (ai fj):=bD
abbrev zX:Stmt:=top 16
theorem iz:az ["one","other","cut","upper","lower","many","rest"] ["one","other"] (ai zX):=bD
abbrev oz:Stmt:=top 18
theorem rn:az ["plan","count","draws"] ["plan","count"] (ai oz):=bD
abbrev lE:Stmt:=top 19
theorem jF:az ["plan","told","draws","place"] ["plan"] (ai lE):=bD
abbrev vB:Stmt:=top 20
theorem Jr:az ["plan"] ["plan"] (ai vB):=bD
abbrev jG:Stmt:=top 21
theorem iA:az ["plan","told","draws","place"] ["plan"] (ai jG):=bD
abbrev nN:Stmt:=top 22
theorem CN:az ["place"] ["place"] (ai nN):=bD
abbrev vD:Stmt:=top 23
theorem FP:az ["count","sign"] ["count","sign"] (ai vD):=bD
abbrev gF:Stmt:=top 26
theorem eB:az ["fractions","common","fraction"] ["fractions"] (ai gF):=bD
abbrev iB:Stmt:=top 27
theorem vE:az ["fractions","bottom"] ["fractions","bottom"] (ai iB):=bD
abbrev kM:Stmt:=top 29
theorem fM:az ["plan","beginning","ways","count","many","led"] ["plan","beginning"] (ai kM):=bD
abbrev vG:Stmt:=top 32
theorem FQ:az ["count","low","high"] ["count","low","high"] (ai vG):=bD
abbrev gG:Stmt:=top 33
theorem c9:az ["plan","low","high","most","ways","choice","end","many"] ["plan","low","high","most"] (ai gG):=bD
abbrev ic:Stmt:=top 34
theorem pj:az ["low","high"] ["low","high"] (ai ic):=bD
abbrev jH:Stmt:=top 35
theorem sg:az ["most"] ["most"] (ai jH):=bD
abbrev vH:Stmt:=top 36
theorem ro:az ["count","share","bad_part","good_part"] ["count","share"] (ai vH):=bD
abbrev bf:Stmt:=top 37
theorem cY:az ["choice","ratios","tops","places"] ["choice"] (ai bf):=bD
abbrev vI:Stmt:=top 38
theorem dZ:az ["choice","most","rule","wrong","caught","end","end_ratio","end_wrong","end_caught","more"] ["choice","most"] (ai vI):=bD
abbrev fm:Stmt:=top 39
theorem xT:az ["rule"] ["rule"] (ai fm):=bD
abbrev mD:Stmt:=top 41
theorem xU:az ["_law_script","_law_k"] ["_law_script","_law_k"] (ai mD):=bD
abbrev jI:Stmt:=top 42
theorem f9:az ["_law_cell_here","_law_base","_law_many","_law_row","_law_k"] ["_law_cell_here","_law_base","_law_many"] (ai jI):=bD
abbrev kN:Stmt:=top 43
theorem gW:az ["_law_cell_here","_law_base","_law_many","_law_row","_law_k","_law_number"] ["_law_cell_here","_law_base","_law_many"] (ai kN):=bD
abbrev ie:Stmt:=top 44
theorem bW:az ["_law_cell_here","_law_most_here","_law_rest","_law_many","_law_digits_here","_law_rows","_law_come","_law_at","_law_row"] ["_law_cell_here","_law_most_here"] (ai ie):=bD
abbrev mE:Stmt:=top 45
theorem xV:az ["_law_cell_here"] ["_law_cell_here"] (ai mE):=bD
abbrev ig:Stmt:=top 46
theorem fA:az ["_law_plan_here","_law_found","_law_n","_law_on","_law_come"] ["_law_plan_here"] (ai ig):=bD
abbrev mF:Stmt:=top 47
theorem d3:az ["_law_plan_here","_law_ways_here","_law_n","_law_row","_law_bad","_law_here","_law_count"] ["_law_plan_here"] (ai mF):=bD
abbrev kO:Stmt:=top 48
theorem vJ:az ["_law_found"] ["_law_found"] (ai kO):=bD
abbrev iM:Stmt:=top 49
theorem kP:az ["_law_one","_law_other"] ["_law_one","_law_other"] (ai iM):=bD
abbrev iN:Stmt:=top 50
theorem rp:az ["_law_found","_law_top","_law_bottom"] ["_law_found","_law_top","_law_bottom"] (ai iN):=bD
abbrev jJ:Stmt:=top 51
theorem cT:az ["_law_cell_here","_law_bottom","_law_rest","_law_low","_law_high"] ["_law_cell_here"] (ai jJ):=bD
abbrev mG:Stmt:=top 52
theorem oW:az ["_law_top","_law_bottom","_law_common"] ["_law_top","_law_bottom"] (ai mG):=bD
abbrev kQ:Stmt:=top 53
theorem gX:az ["_law_base","_law_many","_law_made_here","_law_k"] ["_law_base","_law_many"] (ai kQ):=bD
abbrev jK:Stmt:=top 54
theorem si:az ["_law_count","_law_top","_law_bottom"] ["_law_count","_law_top","_law_bottom"] (ai jK):=bD
abbrev kR:Stmt:=top 55
theorem dq:az ["_law_places","_law_both","_law_row","_law_end","_law_top","_law_bottom","_law_at"] ["_law_places","_law_both"] (ai kR):=bD
abbrev mH:Stmt:=top 56
theorem xW:az ["_law_ways_here","_law_end","_law_top","_law_both","_law_longest"] ["_law_ways_here","_law_end","_law_top","_law_both","_law_longest"] (ai mH):=bD
abbrev iO:Stmt:=top 57
theorem kT:az ["_law_cell_here","_law_firsts","_law_unit","_law_way"] ["_law_cell_here","_law_firsts","_law_unit"] (ai iO):=bD
abbrev fB:Stmt:=top 58
theorem ba:az ["_law_plan_here","_law_both","_law_cell_here","_law_longest","_law_ways_here","_law_unit","_law_order_here","_law_firsts","_law_part","_law_most_here","_law_many","_law_rule","_law_due","_law_caught","_law_found","_law_kept"] ["_law_plan_here","_law_both","_law_cell_here"] (ai fB):=bD
abbrev lM:Stmt:=top 59
theorem oA:az ["_law_script","_law_most_here","_law_cell_here","_law_plan_here","_law_k"] ["_law_script"] (ai lM):=bD
theorem pO {X:Cx} {O:List Nat} (i:Nat) {x:Str} {pos:Pos} (hN:X.N[i]?=some x:=by rfl) (hv:G7 (X.env.scope.names.lookup x)=true:=by rfl) (hd:(x == ("__debug__":Str))=false:=by decide) (oY:(x == ("__classdict__":Str))=false:=by decide):PE X (.Name x pos) (iT X.K O (ae i)):=Me (pv i hN hv hd oY)
theorem pV {X:Cx} {O:List Nat} (i:Nat) {x:Str} {pos:Pos} (hN:X.N[i]?=some x:=by rfl) (hv:G7 (X.env.scope.names.lookup x)=true:=by rfl) (hd:(x == ("__debug__":Str))=false:=by decide) (oY:(x == ("__classdict__":Str))=false:=by decide) (hi:i∉O:=by decide):PE X (.Name x pos) (tE X.K O (ae i)):=Md (pv i hN hv hd oY) hi
theorem pI {X:Cx} {O:List Nat} {i j pos}:PE X (.Constant (.int i) j pos) (iT X.K O (gC (.int i))):=PE.sh (aL aK)
theorem pS {X:Cx} {O:List Nat} {fr:_} {x:Str} {e:Expr} {ge:DS->Option D} {pos pos':Pos} (i:Nat) (hN:X.N.Nodup) (he:PE X e (tE X.K O ge)) (hi:X.N[i]?=some x:=by rfl) (hx:Loc X.env.scope x:=by first | exact Or.inl rfl | exact Or.inr rfl) (hs:swapsWith e (some (.Name x pos')) pos.line X.env=pure false:=by rfl) (hf:X.fn x=true \/ X.env.scope.names.lookup x=some .local:=by first | exact .inl rfl | exact .inr rfl | assumption) (ho:i∉O:=by decide):PS X (.Assign [.Name x pos'] e pos) (L2.tS X.K O fr (aG i ge)):=yP (fc hN hi hx he hs hf) ho
theorem pC {X:Cx} {O:List Nat} {e:Expr} {es:List Expr} {gr:DS->Option (List D)} {pos p:Pos} {n k kk:Nat} {x:Str} {ps:List Str} {G:List D->Option D} (F:Dn X.prog X.w X.K X.mg X.base k x ps (iU X.K n G)) (hr:cJ kk X.A) (ha:PA X (e :: es) (vY X.K O gr)) (hk:k<=kk:=by decide) (hg:Gl X x:=by rfl) (mU:(x == ("__debug__":Str))=false:=by decide) (he:starEach (e :: es) X.env=(false,eval e X.env) :: starEach es X.env:=by rfl) (i4:(backTo pos (starEach es X.env)).any (·.1)=false:=by rfl):PE X (.Call (.Name x p) (e :: es) [] pos) (tE X.K O (ay G n gr)):=Ht F hr hk ha hg mU he i4
section
variable (P:Program) (w:World) (K:PySem.W.Frag) (mg:Str->Option Value) (base:Heap)
abbrev Js:Prop:=Dn P w K mg base 2 "greatest_divisor" ["one","other"] (iU K 2 b8)
abbrev Jt:Prop:=Dn P w K mg base 1 "_law_times" ["_law_base","_law_many"] (iU K 2 dY)
abbrev NJ:Prop:=Dn P w K mg base 2 "_law_weight" ["_law_count","_law_top","_law_bottom"] (iU K 3 cQ)
abbrev NK:Prop:=Dn P w K mg base 1 "_law_divisor" ["_law_one","_law_other"] (iU K 2 eQ)
abbrev Ju:Prop:=Dn P w K mg base 1 "under" ["one","other"] (iU K 2 gP)
abbrev QL:Prop:=Dn P w K mg base 3 "_law_odds" ["_law_ways_here","_law_end","_law_top","_law_both","_law_longest"] (iU K 5 h8)
abbrev Jv:Prop:=Dn P w K mg base 3 "frac" ["top","bottom"] (iU K 2 me)
abbrev NL:Prop:=Dn P w K mg base 2 "_law_made" ["_law_top","_law_bottom"] (iU K 2 cb)
abbrev NM:Prop:=Dn P w K mg base 2 "check_shares" ["low","high"] (iU K 2 dX)
abbrev QM:Prop:=Dn P w K mg base 3 "_law_most_of" ["_law_cell_here","_law_firsts","_law_unit"] (iU K 3 eU)
abbrev Kz:Prop:=Dn P w K mg base 9 "_law_asked" ["_law_plan_here","_law_both","_law_cell_here"] (iU K 3 gq)
abbrev KA:Prop:=Dn P w K mg base 1 "_law_digits" ["_law_cell_here","_law_base","_law_many"] (wG K 3 fK)
abbrev KC:Prop:=Dn P w K mg base 2 "_law_is_frac" ["_law_found","_law_top","_law_bottom"] (iU K 3 cj)
abbrev KD:Prop:=Dn P w K mg base 1 "_law_mixes" ["_law_cell_here","_law_base","_law_many"] (wG K 3 iw)
abbrev FR:Prop:=Dn P w K mg base 6 "often" ["count","share"] (iU K 2 jy)
abbrev FT:Prop:=Dn P w K mg base 4 "times" ["one","other"] (iU K 2 lB)
abbrev KE:Prop:=Dn P w K mg base 8 "rule_by_ratio" ["plan","low","high","most"] (Ic K 4 cN)
abbrev FU:Prop:=Dn P w K mg base 4 "plus" ["one","other"] (iU K 2 mf)
abbrev KG:Prop:=Dn P w K mg base 2 "_law_plan" ["_law_cell_here","_law_most_here"] (iU K 2 hX)
abbrev KH:Prop:=Dn P w K mg base 3 "_law_order" ["_law_places","_law_both"] (wG K 2 gp)
abbrev KJ:Prop:=Dn P w K mg base 4 "by_falling_ratio" ["choice"] (wG K 1 dn)
abbrev KL:Prop:=Dn P w K mg base 1 "_law_cell" ["_law_script","_law_k"] (iU K 2 cS)
abbrev KN:Prop:=Dn P w K mg base 1 "tops_over" ["fractions","bottom"] (wG K 2 iu)
abbrev KO:Prop:=Dn P w K mg base 3 "common_bottom" ["fractions"] (iU K 1 eY)
abbrev KP:Prop:=Dn P w K mg base 1 "_law_shares" ["_law_cell_here"] (iU K 1 eA)
abbrev KQ:Prop:=Dn P w K mg base 2 "ways_from" ["plan","beginning"] (iU K 2 gm)
abbrev KR:Prop:=Dn P w K mg base 1 "_law_most" ["_law_cell_here"] (iU K 1 jA)
abbrev KU:Prop:=Dn P w K mg base 1 "_law_ends" ["_law_plan_here"] (wG K 1 fS)
abbrev KW:Prop:=Dn P w K mg base 1 "_law_ways" ["_law_plan_here"] (iU K 1 hZ)
abbrev KY:Prop:=Dn P w K mg base 1 "_law_whole" ["_law_found"] (iU K 1 gn)
abbrev KZ:Prop:=Dn P w K mg base 7 "ratio" ["count","low","high"] (iU K 3 pK)
abbrev K3:Prop:=Dn P w K mg base 1 "goes_on" ["plan","count"] (iU K 2 jf)
abbrev K4:Prop:=Dn P w K mg base 2 "check_most" ["most"] (iU K 1 gR)
abbrev K5:Prop:=Dn P w K mg base 5 "taken" ["choice","most"] (Ic K 2 nH)
abbrev K6:Prop:=Dn P w K mg base 1 "after" ["count","sign"] (iU K 2 fZ)
abbrev K7:Prop:=Dn P w K mg base 5 "minus" ["one","other"] (iU K 2 pJ)
abbrev K8:Prop:=Dn P w K mg base 1 "power" ["one","many"] (iU K 2 nG)
abbrev K9:Prop:=Dn P w K mg base 1 "drawn_on" ["plan"] (wG K 1 hV)
abbrev La:Prop:=Dn P w K mg base 4 "in_order" ["rule"] (wG K 1 fR)
abbrev Lb:Prop:=Dn P w K mg base 1 "leap" ["one","other"] (iU K 2 ET)
abbrev Lc:Prop:=Dn P w K mg base 5 "over" ["one","other"] (iU K 2 uG)
abbrev Ld:Prop:=Dn P w K mg base 2 "come_to" ["plan"] (wG K 1 g5)
abbrev Le:Prop:=Dn P w K mg base 1 "led_to" ["place"] (wG K 1 jg)
abbrev Lf:Prop:=Dn P w K mg base 3 "ends" ["plan"] (wG K 1 uJ)
end
section
variable {P:Program} {w:World} {K:PySem.W.Frag} {mg:Str->Option Value} {base:Heap}
theorem Jw (F:Df K mg "leap" zX ["one","other"]) (B:Bs mg) (rq:Cn mg "WINDOW" (.int (240))) (zY:Cn mg "SHED" (.int (120))):Lb P w K mg base:=
 bN [] ES F iz λf cH A outer s H E hr=>(aj (pS 2 iz.nd (ak cG dO (PE.sh (Aw (pO 0))) (PE.sh (aL (ki rq)))))
  (aj (pS 3 iz.nd (bA (ab (ak yC ao (pO 0) (pO 2)) (ab (aL aK) (ab (aL aK) ag)))))
  (aj (pS 4 iz.nd (bA (ab (ak yC ao (pO 1) (pO 2)) (ab (aL aK) (ab (aL aK) ag)))))
  (aj (i5 Zx (aX (lT hr) lU (PE.sh (ak yC ao (PE.sh (ar (pO 4) pI)) (PE.sh (aL (ki zY))))) pI (br _)) (aj (pS 5 iz.nd (ak aT ao (PE.sh (ar (pO 3) pI)) (PE.sh (ar (pO 4) pI))))
  (aj (pS 6 iz.nd (bA (ab (ak cG dO (PE.sh (ar (pO 3) pI)) (PE.sh (ak aM ao (pO 5) (PE.sh (ar (pO 4) pI))))) (ab (ak cG dO (PE.sh (ar (pO 3) pI)) (PE.sh (ak aM ao (pO 5) (PE.sh (ar (pO 4) pI))))) (ab (ak cG dO (PE.sh (ar (pO 3) pI)) (PE.sh (ak aM ao (pO 5) (PE.sh (ar (pO 4) pI))))) ag)))))
  (aj (pS 3 iz.nd (pV 4))
  (aq (pS 4 iz.nd (pV 6)))))))
  (aq (aW (bA (ab (aS iZ k9 rfl B.abs nW (av (PE.sh (ak aP aF (PE.sh (ak aM ao (PE.sh (ar (pO 3) pI)) (pO 0))) (PE.sh (ak aM ao (PE.sh (ar (pO 3) pI)) (pO 1))))) aC)) (ab (aS iZ k9 rfl B.abs nW (av (PE.sh (ak aP aF (PE.sh (ak aM ao (PE.sh (ar (pO 4) pI)) (pO 0))) (PE.sh (ak aM ao (PE.sh (ar (pO 4) pI)) (pO 1))))) aC)) ag)))))))))
theorem lF (F:Df K mg "greatest_divisor" fj ["one","other"]) (B:Bs mg) (zZ:Cn mg "LONG" (.int (4000))) (z0:Lb P w K mg base):Js P w K mg base:=
 bN [] fh F aZ λf cH A outer s H E hr=>(aj (pS 0 aZ.nd (aS iZ k9 rfl B.abs nW (av (pO 0) aC)))
  (aj (pS 1 aZ.nd (aS iZ k9 rfl B.abs nW (av (pO 1) aC)))
  (aj (i5 Zx (aX (lT hr) lU (pO 1) pI (br _)) (aj (pS 2 aZ.nd (ak bI ao (pO 0) (pO 1)))
  (aj (pS 0 aZ.nd (pV 1))
  (aj (pS 1 aZ.nd (pV 2))
  (aq (eE (aX oG cK (PE.sh (Aw (pO 1))) (PE.sh (aL (ki zZ))) (br _)) (aj (pS 3 aZ.nd (pC z0 hr (ab (pV 0) (ab (pV 1) ag))))
  (aj (pS 0 aZ.nd (ar (pO 3) pI))
  (aq (pS 1 aZ.nd (ar (pO 3) pI))))) cL))))))
  (aq (aW (pV 0))))))
theorem Jx (F:Df K mg "frac" zU ["top","bottom"]) (B:Bs mg) (bg:Js P w K mg base):Jv P w K mg base:=
 bN [] zo F vv λf cH A outer s H E hr=>(aj (eE (aX (jo hr) imp_eq (pO 1) pI (br _)) (aq qr) cL)
  (aj (pS 2 vv.nd (pC bg hr (ab (pV 0) (ab (pV 1) ag))))
  (aj (eE (aX ke cK (pO 1) pI (br _)) (aq (pS 2 vv.nd (t7 (pO 2)))) cL)
  (aq (aW (bA (ab (ak aT ao (pO 0) (pO 2)) (ab (ak aT ao (pO 1) (pO 2)) ag))))))))
theorem Jy (F:Df K mg "plus" zV ["one","other"]) (B:Bs mg) (iP:Jv P w K mg base) (bg:Js P w K mg base):FU P w K mg base:=
 bN [] zp F nM λf cH A outer s H E hr=>(aj (pS 2 nM.nd (pC bg hr (ab (ar (pO 0) pI) (ab (ar (pO 1) pI) ag))))
  (aj (pS 3 nM.nd (ak aT ao (PE.sh (ar (pO 0) pI)) (pO 2)))
  (aj (pS 4 nM.nd (ak aT ao (PE.sh (ar (pO 1) pI)) (pO 2)))
  (aj (pS 5 nM.nd (pC iP hr (ab (ak aP aF (PE.sh (ak aM ao (PE.sh (ar (pO 0) pI)) (pO 4))) (PE.sh (ak aM ao (PE.sh (ar (pO 1) pI)) (pO 3)))) (ab (pV 2) ag))))
  (aq (aW (bA (ab (ar (pO 5) pI) (ab (ak aM ao (PE.sh (ak aM ao (pO 3) (pO 4))) (PE.sh (ar (pO 5) pI))) ag)))))))))
theorem FV (F:Df K mg "minus" vx ["one","other"]) (B:Bs mg) (mI:FU P w K mg base):K7 P w K mg base:=
 bN [] uE F FN λf cH A outer s H E hr=>(aq (aW (pC mI hr (ab (pV 0) (ab (bA (ab (t7 (PE.sh (ar (pO 1) pI))) (ab (ar (pO 1) pI) ag))) ag)))))
theorem FW (F:Df K mg "times" vy ["one","other"]) (B:Bs mg) (iP:Jv P w K mg base):FT P w K mg base:=
 bN [] uF F rm λf cH A outer s H E hr=>(aj (pS 2 rm.nd (pC iP hr (ab (ar (pO 0) pI) (ab (ar (pO 1) pI) ag))))
  (aj (pS 3 rm.nd (pC iP hr (ab (ar (pO 1) pI) (ab (ar (pO 0) pI) ag))))
  (aq (aW (bA (ab (ak aM ao (PE.sh (ar (pO 2) pI)) (PE.sh (ar (pO 3) pI))) (ab (ak aM ao (PE.sh (ar (pO 2) pI)) (PE.sh (ar (pO 3) pI))) ag)))))))
theorem Jz (F:Df K mg "over" zW ["one","other"]) (B:Bs mg) (iP:Jv P w K mg base) (jL:FT P w K mg base):Lc P w K mg base:=
 bN [] zq F Jq λf cH A outer s H E hr=>(aq (aW (pC jL hr (ab (pV 0) (ab (pC iP hr (ab (ar (pO 1) pI) (ab (ar (pO 1) pI) ag))) ag)))))
theorem FX (F:Df K mg "power" vz ["one","many"]) (B:Bs mg):K8 P w K mg base:=
 bN [] uH F ji λf cH A outer s H E hr=>(aj (pS 2 ji.nd (aL aK))
  (aj (pS 3 ji.nd (aL aK))
  (aj (dJ Zx rfl (lg B.range (ab (pV 1) ag)) (aE (aJ (i:=4) ji.nd rfl (Or.inl rfl)))
   (aj (pS 2 ji.nd (ak aM ao (pO 2) (PE.sh (ar (pO 0) pI))))
  (aq (pS 3 ji.nd (ak aM ao (pO 3) (PE.sh (ar (pO 0) pI)))))))
  (aq (aW (bA (ab (pV 2) (ab (pV 3) ag))))))))
theorem FY (F:Df K mg "under" vA ["one","other"]) (B:Bs mg):Ju P w K mg base:=
 bN [] uI F FO λf cH A outer s H E hr=>(aq (aW (nY ke cK (PE.sh (ak aM ao (PE.sh (ar (pO 0) pI)) (PE.sh (ar (pO 1) pI)))) (PE.sh (ak aM ao (PE.sh (ar (pO 1) pI)) (PE.sh (ar (pO 0) pI)))) (br _))))
theorem z4 (F:Df K mg "goes_on" oz ["plan","count"]) (B:Bs mg):K3 P w K mg base:=
 bN [] oj F rn λf cH A outer s H E hr=>(aj (pS 2 rn.nd (ak aP aF (PE.sh (ar (pO 1) pI)) (PE.sh (ar (pO 1) pI))))
  (aq (aW (DL (DU JT cK ke cK pI (pO 2) (PE.sh (aS bB cC rfl B.len df (av (pO 0) aC)))) (CW (nY Mr Ms (PE.sh (ar (pO 1) pI)) (PE.sh (ar (pO 0) (pO 2))) (by with_unfolding_all rfl)))))))
theorem CO (F:Df K mg "led_to" nN ["place"]) (B:Bs mg):Le P w K mg base:=
 gL [] qV F CN λf cH A outer s H E hr=>(aq (nh (l6 B.sorted B.set (PE.sh (PE.nE (yN pz pA (PE.sh (PE.nE (qk jm wJ rfl B.list pw (av (pO 0) aC)))) (PE.sh (PE.nE (PE.Ej (dD (ai nN) ["place"] [] ["bad"] ["bad"] nv (PI.c (bZ (pV 0))) (λ_ _ _ _ _ _=>(aE (aJ (i:=0) (show (["bad"]:List Str).Nodup from by decide +kernel) rfl (Or.inl rfl)))) (λ_ _ _ _ _ _=>fY) (λ_ _ _ _ _ _=>(ak aP aF (pO 0) pI))))))))))))
theorem z5 (F:Df K mg "come_to" lE ["plan"]) (B:Bs mg) (rA:Le P w K mg base):Ld P w K mg base:=
 gL [1] om F jF λf cH A outer s H E hr=>(aj (fV (fc (i:=1) jF.nd rfl (Or.inl rfl) (gv (ab (bA (ab (aL aK) (ab (aL aK) ag))) ag))))
  (aj (dJ Zx rfl (Eg B.enumerate (pV 0)) (nj rfl (dA (aE (aJ (i:=2) jF.nd rfl (Or.inr rfl))) (dA (aE (aJ (i:=3) jF.nd rfl (Or.inl rfl))) ni)))
   (aq (n0 (dM (kh ZT ab4 PySem.F.type_list_extend nT (pv 1) (bQ (PE.Ej (dD (ai lE) ["plan","told","draws","place"] [2] ["bad","draws"] ["bad"] nv (PI.c (bZ (PE.nE (eJ rA hr (by decide) (ab (pV 3) ag))))) (λ_ _ _ _ _ _=>(aE (aJ (i:=0) (show (["bad","draws"]:List Str).Nodup from by decide +kernel) rfl (Or.inl rfl)))) (λ_ _ _ _ _ _=>fY) (λ_ _ _ _ _ _=>(bA (ab (pV 0) (ab (ak cG dO (pO 1) (pO 0)) ag)))))) cZ))))))
  (aq (fw (pv 1)))))
theorem JA (F:Df K mg "ends" vB ["plan"]) (B:Bs mg) (oB:Ld P w K mg base) (oC:K3 P w K mg base):Lf P w K mg base:=
 gL [] zr F Jr λf cH A outer s H E hr=>(aq (nh (dD (ai vB) ["plan"] [0] ["count","plan"] ["count"] nv (PI.c (bZ (PE.nE (eJ oB hr (by decide) (ab (pV 0) ag))))) (λ_ _ _ _ _ _=>(aE (aJ (i:=0) (show (["count","plan"]:List Str).Nodup from by decide +kernel) rfl (Or.inl rfl)))) (λ_ _ _ _ _ _=>(uk (fF (cz (PE.sh (pC oC hr (ab (pV 1) (ab (pV 0) ag)))))))) (λ_ _ _ _ _ _=>(pV 0)))))
theorem xX (F:Df K mg "drawn_on" jG ["plan"]) (B:Bs mg):K9 P w K mg base:=
 gL [1] mh F iA λf cH A outer s H E hr=>(aj (fV (fc (i:=1) iA.nd rfl (Or.inl rfl) (gv ag)))
  (aj (dJ Zx rfl (w6 B.enumerate (pV 0)) (nj rfl (dA (aE (aJ (i:=2) iA.nd rfl (Or.inr rfl))) (dA (aE (aJ (i:=3) iA.nd rfl (Or.inl rfl))) ni)))
   (aq (n0 (dM (kh ZT ab4 PySem.F.type_list_extend nT (pv 1) (bQ (PE.Ej (dD (ai jG) ["plan","told","draws","place"] [2] ["bad","draws"] ["bad"] nv (PI.c (bZ (pV 3))) (λ_ _ _ _ _ _=>(aE (aJ (i:=0) (show (["bad","draws"]:List Str).Nodup from by decide +kernel) rfl (Or.inl rfl)))) (λ_ _ _ _ _ _=>fY) (λ_ _ _ _ _ _=>(bA (ab (pV 0) (ab (ak cG dO (pO 1) (pO 0)) ag)))))) cZ))))))
  (aq (fw (pv 1)))))
theorem FZ (F:Df K mg "after" vD ["count","sign"]) (B:Bs mg):K6 P w K mg base:=
 bN [] uK F FP λf cH A outer s H E hr=>(aj (eE (aX (jo hr) imp_eq (pO 1) (PE.sh (yM yu)) (br _)) (aq (aW (bA (ab (ak aP aF (PE.sh (ar (pO 0) pI)) pI) (ab (ar (pO 0) pI) ag))))) cL)
  (aq (aW (bA (ab (ar (pO 0) pI) (ab (ak aP aF (PE.sh (ar (pO 0) pI)) pI) ag))))))
theorem oD (F:Df K mg "common_bottom" gF ["fractions"]) (B:Bs mg) (bg:Js P w K mg base):KO P w K mg base:=
 bN [] gA F eB λf cH A outer s H E hr=>(aj (pS 1 eB.nd (aL aK))
  (aj (dJ Zx rfl (bZ (pV 0)) (aE (aJ (i:=2) eB.nd rfl (Or.inl rfl)))
   (aq (pS 1 eB.nd (ak aM ao (PE.sh (ak aT ao (pO 1) (PE.sh (pC bg hr (ab (pV 1) (ab (ar (pO 2) pI) ag)))))) (PE.sh (ar (pO 2) pI))))))
  (aq (aW (pV 1)))))
theorem vK (F:Df K mg "tops_over" iB ["fractions","bottom"]) (B:Bs mg):KN P w K mg base:=
 gL [] ky F vE λf cH A outer s H E hr=>(aq (nh (PE.Ej (dD (ai iB) ["fractions","bottom"] [1] ["fraction","bottom"] ["fraction"] nv (PI.c (bZ (pV 0))) (λ_ _ _ _ _ _=>(aE (aJ (i:=0) (show (["fraction","bottom"]:List Str).Nodup from by decide +kernel) rfl (Or.inl rfl)))) (λ_ _ _ _ _ _=>fY) (λ_ _ _ _ _ _=>(ak aM ao (PE.sh (ar (pO 0) pI)) (PE.sh (ak aT ao (pO 1) (PE.sh (ar (pO 0) pI))))))))))
theorem vM (F:Df K mg "ways_from" kM ["plan","beginning"]) (B:Bs mg) (pP:K6 P w K mg base) (mJ:K9 P w K mg base):KQ P w K mg base:=
 bN [2] kz F fM λf cH A outer s H E hr=>let hu:=aaa (abM (show 1<=64 by decide) _) hr.units
  (aj (AD (fc (i:=2) fM.nd rfl (Or.inl rfl) (w8 hu (pO 1) (aL aK))))
  (aj (dJ Zx rfl (bZ (PE.nE (eJ mJ hr (by decide) (ab (pV 0) ag)))) (aE (aJ (i:=3) fM.nd rfl (Or.inl rfl)))
   (aj (pS 4 fM.nd (qE hu (pO 2) (pO 3) (aL aK)))
  (aq (dJ Zx rfl (bZ (bA (ab (pC pP hr (ab (pV 3) (ab (yM yu) ag))) (ab (pC pP hr (ab (pV 3) (ab (yM yu) ag))) ag)))) (aE (aJ (i:=5) fM.nd rfl (Or.inl rfl)))
   (aq (AB (Ak hu (pv 2) (pO 5) (ak aP aF (PE.sh (qE hu (pO 2) (pO 5) (aL aK))) (pO 4)) (by rfl))))))))
  (aq (fw (pv 2)))))
theorem pk (F:Df K mg "check_shares" ic ["low","high"]) (B:Bs mg) {du:Addr} (d4:Cn mg "NOUGHT" (.ref du)) (d5:(du,[V.int (0),V.int (1)])∈bX) {fq:Addr} (gY:Cn mg "WHOLE" (.ref fq)) (gZ:(fq,[V.int (1),V.int (1)])∈bX) (e9:Ju P w K mg base):NM P w K mg base:=
 bN [] fJ F pj λf cH A outer s H E hr=>(aq (eE (fF (PW.pt (m9 (cz (PE.sh (pC e9 hr (ab (oO (ki d4) d5 (λ_=>(.cons (.int _) (.cons (.int _) .nil)))) (ab (pV 0) ag))))) (m9 (cz (PE.sh (pC e9 hr (ab (pV 0) (ab (pV 1) ag))))) (pw_and1 (cz (PE.sh (pC e9 hr (ab (pV 1) (ab (oO (ki gY) gZ (λ_=>(.cons (.int _) (.cons (.int _) .nil)))) ag)))))))))) (aq qr) cL))
theorem F0 (F:Df K mg "often" vH ["count","share"]) (B:Bs mg) {fq:Addr} (gY:Cn mg "WHOLE" (.ref fq)) (gZ:(fq,[V.int (1),V.int (1)])∈bX) (vN:K7 P w K mg base) (pQ:K8 P w K mg base):FR P w K mg base:=
 bN [] uL F ro λf cH A outer s H E hr=>(aj (pS 2 ro.nd (pC pQ hr (ab (pV 1) (ab (ar (pO 0) pI) ag))))
  (aj (pS 3 ro.nd (pC pQ hr (ab (pC vN hr (ab (oO (ki gY) gZ (λ_=>(.cons (.int _) (.cons (.int _) .nil)))) (ab (pV 1) ag))) (ab (ar (pO 0) pI) ag))))
  (aq (aW (bA (ab (ak aM ao (PE.sh (ar (pO 2) pI)) (PE.sh (ar (pO 3) pI))) (ab (ak aM ao (PE.sh (ar (pO 2) pI)) (PE.sh (ar (pO 3) pI))) ag)))))))
theorem F4 (F:Df K mg "ratio" vG ["count","low","high"]) (B:Bs mg) (da:NM P w K mg base) (iC:FR P w K mg base) (z6:Lc P w K mg base):KZ P w K mg base:=
 bN [] uM F FQ λf cH A outer s H E hr=>(aj (ua (dM (pC da hr (ab (pV 1) (ab (pV 2) ag)))))
  (aq (aW (pC z6 hr (ab (pC iC hr (ab (pV 0) (ab (pV 2) ag))) (ab (pC iC hr (ab (pV 0) (ab (pV 1) ag))) ag))))))
theorem lG {c0 P0:Addr} (F:P6 K mg "by_falling_ratio" bf ["choice"] c0) (B:Bs mg) (HD:PySem.W.codeHdIn K c0 P0=true) (ML:(P0,(⟨130,44,130,70⟩:Pos),("by_falling_ratio.<locals>.<lambda>":Str))∈bY) (BB:HL mg base) (gH:KO P w K mg base) (kU:KN P w K mg base):KJ P w K mg base:=
 xl [] fi F cY λf A outer s H E hr=>(aj (yP (PS.nE (PS.Ej (wZ (i:=1) (ai bf) ["choice","ratios","tops","places"] [] ["part"] ["part"] cY.nd rfl rfl nv (PI.c (bZ (pV 0))) (λ_ _ _ _ _ _=>(aE (aJ (i:=0) (show (["part"]:List Str).Nodup from by decide +kernel) rfl (Or.inl rfl)))) (λ_ _ _ _ _ _=>fY) (λ_ _ _ _ _ _=>(ar (pO 0) pI))))))
  (aj (pS 2 cY.nd (PE.nE (eJ kU hr (by decide) (ab (pV 1) (ab (pC gH hr (ab (pV 1) ag)) ag)))))
  (aj (pS 3 cY.nd (PE.nE (xk (kc:=0) (pn:="place") (fv:=["tops"]) (ix:=[2]) (ai bf) B.sorted (EB B.range (ab (aS bB cC rfl B.len df (av (pO 0) aC)) ag)) hr (by decide) BB HD ML ⟨rfl,rfl,rfl,by decide +kernel,by decide +kernel,by decide +kernel,by decide +kernel⟩ (λbase f c' cl A outer s H E hr=>(t7 (PE.sh (ar (pO 1) (pO 0))))) (λ_ _ _ _ _ _ us hl=>match us,hl with | [_],_=>rfl))))
  (aq (nh (PE.Ej (dD (ai bf) ["choice","ratios","tops","places"] [0] ["place","choice"] ["place"] nv (PI.c (bZ (pV 3))) (λ_ _ _ _ _ _=>(aE (aJ (i:=0) (show (["place","choice"]:List Str).Nodup from by decide +kernel) rfl (Or.inl rfl)))) (λ_ _ _ _ _ _=>fY) (λ_ _ _ _ _ _=>(ar (pO 1) (pO 0))))))))))
theorem sj (F:Df K mg "check_most" jH ["most"]) (B:Bs mg) {du:Addr} (d4:Cn mg "NOUGHT" (.ref du)) (d5:(du,[V.int (0),V.int (1)])∈bX) {fq:Addr} (gY:Cn mg "WHOLE" (.ref fq)) (gZ:(fq,[V.int (1),V.int (1)])∈bX) (e9:Ju P w K mg base):K4 P w K mg base:=
 bN [] gQ F sg λf cH A outer s H E hr=>(aq (eE (PW.pt (kl (cz (PE.sh (pC e9 hr (ab (pV 0) (ab (oO (ki d4) d5 (λ_=>(.cons (.int _) (.cons (.int _) .nil)))) ag))))) (pw_or1 (cz (PE.sh (pC e9 hr (ab (oO (ki gY) gZ (λ_=>(.cons (.int _) (.cons (.int _) .nil)))) (ab (pV 0) ag)))))))) (aq qr) cL))
theorem xY {c0 P0:Addr} (F:P6 K mg "in_order" fm ["rule"] c0) (B:Bs mg) (HD:PySem.W.codeHdIn K c0 P0=true) (ML:(P0,(⟨145,28,145,65⟩:Pos),("in_order.<locals>.<lambda>":Str))∈bY) (BB:HL mg base):La P w K mg base:=
 xl [] mn F xT λf A outer s H E hr=>(aq (nh (xk (kc:=0) (pn:="end") (fv:=[]) (ix:=[]) (ai fm) B.sorted (Cr (pO 0)) hr (by decide) BB HD ML ⟨rfl,rfl,rfl,by decide +kernel,by decide +kernel,by decide +kernel,by decide +kernel⟩ (λbase f c' cl A outer s H E hr=>(bA (ab (ak aP aF (PE.sh (ar (pO 0) pI)) (PE.sh (ar (pO 0) pI))) (ab (ar (pO 0) pI) ag)))) (λ_ _ _ _ _ _ us hl=>match us,hl with | [_],_=>rfl))))
theorem F5 (F:Df K mg "taken" vI ["choice","most"]) (B:Bs mg) {du:Addr} (d4:Cn mg "NOUGHT" (.ref du)) (d5:(du,[V.int (0),V.int (1)])∈bX) (jM:La P w K mg base) (mI:FU P w K mg base) (e9:Ju P w K mg base):K5 P w K mg base:=
 AX [2] uO F dZ λf cH A outer s H E hr=>(aj (fV (fc (i:=2) dZ.nd rfl (Or.inl rfl) (gv ag)))
  (aj (pS 3 dZ.nd (oO (ki d4) d5 (λ_=>(.cons (.int _) (.cons (.int _) .nil)))))
  (aj (pS 4 dZ.nd (oO (ki d4) d5 (λ_=>(.cons (.int _) (.cons (.int _) .nil)))))
  (aj (dJ Zx rfl (bZ (pV 0)) (nj rfl (dA (aE (aJ (i:=5) dZ.nd rfl (Or.inl rfl))) (dA (aE (aJ (i:=6) dZ.nd rfl (Or.inl rfl))) (dA (aE (aJ (i:=7) dZ.nd rfl (Or.inl rfl))) (dA (aE (aJ (i:=8) dZ.nd rfl (Or.inl rfl))) ni)))))
   (aj (pS 9 dZ.nd (pC mI hr (ab (pV 3) (ab (pV 7) ag))))
  (aj (eE (cz (PE.sh (pC e9 hr (ab (pV 1) (ab (pV 9) ag))))) (aq (AW (lX jM hr (by decide) (av (pO 2) aC)) (ab (pV 6) (ab (pV 3) (ab (pV 4) ag))))) cL)
  (aj (g4 (dM (kh ZT ZZ aaf fP (pv 2) (bQ (pV 5) cZ))))
  (aj (pS 3 dZ.nd (pV 9))
  (aq (pS 4 dZ.nd (pC mI hr (ab (pV 4) (ab (pV 8) ag))))))))))
  (aq (AW (lX jM hr (by decide) (av (pO 2) aC)) (ab (oO (ki d4) d5 (λ_=>(.cons (.int _) (.cons (.int _) .nil)))) (ab (pV 3) (ab (pV 4) ag)))))))))
theorem oE (F:Df K mg "rule_by_ratio" gG ["plan","low","high","most"]) (B:Bs mg) (fu:KJ P w K mg base) (jN:K4 P w K mg base) (da:NM P w K mg base) (z7:Lf P w K mg base) (iC:FR P w K mg base) (vP:KZ P w K mg base) (vQ:K5 P w K mg base) (jL:FT P w K mg base) (kW:KQ P w K mg base):KE P w K mg base:=
 AX [5] gD F c9 λf cH A outer s H E hr=>let hu:=aaa (abM (show 1<=64 by decide) _) hr.units
  (aj (ua (dM (pC da hr (ab (pV 1) (ab (pV 2) ag)))))
  (aj (ua (dM (pC jN hr (ab (pV 3) ag))))
  (aj (pS 4 c9.nd (pC kW hr (ab (pV 0) (ab (bA (ab (aL aK) (ab (aL aK) ag))) ag))))
  (aj (fV (fc (i:=5) c9.nd rfl (Or.inl rfl) (gv ag)))
  (aj (dJ Zx rfl (bZ (PE.nE (eJ z7 hr (by decide) (ab (pV 0) ag)))) (aE (aJ (i:=6) c9.nd rfl (Or.inl rfl)))
   (aj (pS 7 c9.nd (bA (ab (ur hu (pO 4) (pO 6)) (ab (aL aK) ag))))
  (aq (g4 (dM (kh ZT ZZ aaf fP (pv 5) (bQ (bA (ab (pV 6) (ab (pC vP hr (ab (pV 6) (ab (pV 1) (ab (pV 2) ag)))) (ab (pC jL hr (ab (pV 7) (ab (pC iC hr (ab (pV 6) (ab (pV 1) ag))) ag))) (ab (pC jL hr (ab (pV 7) (ab (pC iC hr (ab (pV 6) (ab (pV 2) ag))) ag))) ag))))) cZ)))))))
  (aq (Ie vQ hr (by decide) (ab (PE.nE (lX fu hr (by decide) (av (pO 5) aC))) (ab (pV 3) ag)))))))))
theorem xZ (F:Df K mg "_law_cell" mD ["_law_script","_law_k"]) (B:Bs mg):KL P w K mg base:=
 bN [] mo F xU λf cH A outer s H E hr=>(aj (eE (aX ke cK (pO 1) (PE.sh (aS bB cC rfl B.len df (av (pO 0) aC))) (br _)) (aq (aW (ar (pO 0) (pO 1)))) cL)
  (aq (aW (aL aK))))
theorem sk (F:Df K mg "_law_digits" jI ["_law_cell_here","_law_base","_law_many"]) (B:Bs mg):KA P w K mg base:=
 gL [3] jz F f9 λf cH A outer s H E hr=>(aj (fV (fc (i:=3) f9.nd rfl (Or.inl rfl) (gv ag)))
  (aj (dJ Zx rfl (lg B.range (ab (pV 2) ag)) (aE (aJ (i:=4) f9.nd rfl (Or.inl rfl)))
   (aj (g4 (dM (kh ZT ZZ aaf fP (pv 3) (bQ (ak bI ao (pO 0) (pO 1)) cZ))))
  (aq (pS 0 f9.nd (ak aT ao (pO 0) (pO 1))))))
  (aq (fw (pv 3)))))
theorem vR (F:Df K mg "_law_mixes" kN ["_law_cell_here","_law_base","_law_many"]) (B:Bs mg):KD P w K mg base:=
 gL [3] kA F gW λf cH A outer s H E hr=>(aj (fV (fc (i:=3) gW.nd rfl (Or.inl rfl) (gv ag)))
  (aj (dJ Zx rfl (lg B.range (ab (pV 2) ag)) (aE (aJ (i:=4) gW.nd rfl (Or.inl rfl)))
   (aj (pS 5 gW.nd (ak bI ao (PE.sh (ak aP aF (PE.sh (ak aP aF (PE.sh (ak aM ao (PE.sh (ak bI ao (pO 0) pI)) pI)) (PE.sh (ak aM ao (PE.sh (ak aM ao (pO 4) (pO 4))) pI)))) (PE.sh (ak aM ao (pO 4) pI)))) pI))
  (aq (g4 (dM (kh ZT ZZ aaf fP (pv 3) (bQ (ak bI ao (PE.sh (ak aT ao (PE.sh (ak bI ao (PE.sh (ak aP aF (PE.sh (ak aM ao (pO 5) pI)) (pO 0))) pI)) pI)) (pO 1)) cZ)))))))
  (aq (fw (pv 3)))))
theorem ya (F:Df K mg "_law_plan" ie ["_law_cell_here","_law_most_here"]) (B:Bs mg) (jO:KA P w K mg base) (kX:KD P w K mg base):KG P w K mg base:=
 bN [5] mq F bW λf cH A outer s H E hr=>(aj (pS 2 bW.nd (ak aT ao (pO 0) pI))
  (aj (pS 3 bW.nd (ak aP aF pI (PE.sh (ak aM ao pI (PE.sh (k8 sG Av rfl B.int yK (av (PE.sh (nY oG cK (pO 1) pI (br _))) aC)))))))
  (aj (pS 4 bW.nd (PE.nE (eJ kX hr (by decide) (ab (pV 2) (ab (aL aK) (ab (pV 3) ag))))))
  (aj (eE (aX OQ cK (PE.sh (aS iZ k9 rfl B.abs nW (av (pO 0) aC))) (PE.sh (ak yB ao pI pI)) (br _)) (aq (pS 4 bW.nd (PE.nE (eJ jO hr (by decide) (ab (pV 2) (ab (aL aK) (ab (pV 3) ag))))))) cL)
  (aj (fV (fc (i:=5) bW.nd rfl (Or.inl rfl) (gv (ab (bA (ab (aL aK) ag)) ag))))
  (aj (pS 6 bW.nd (PE.nE (gv (ab (aL aK) (ab (aL aK) ag)))))
  (aj (pS 7 bW.nd (aL aK))
  (aj (i5 Zx (PW.pt (m9 (aX ke cK (PE.sh (aS bB cC rfl B.len df (av (pO 5) aC))) (pO 1) (br _)) (pw_and1 (aX oG cK (PE.sh (aS bB cC rfl B.len df (av (pO 6) aC))) pI (br _))))) (aj (yP (PS.nE (wZ (i:=8) (ai ie) ["_law_cell_here","_law_most_here","_law_rest","_law_many","_law_digits_here","_law_rows","_law_come","_law_at","_law_row"] [4,3,7] ["_law_k","_law_bad","_law_digits_here","_law_many","_law_at"] ["_law_k","_law_bad"] bW.nd rfl rfl Tn (PI.c (ud B.enumerate (pV 6))) (λ_ _ _ _ _ _=>(nj rfl (dA (aE (aJ (i:=0) (show (["_law_k","_law_bad","_law_digits_here","_law_many","_law_at"]:List Str).Nodup from by decide +kernel) rfl (Or.inl rfl))) (dA (aE (aJ (i:=1) (show (["_law_k","_law_bad","_law_digits_here","_law_many","_law_at"]:List Str).Nodup from by decide +kernel) rfl (Or.inl rfl))) ni)))) (λ_ _ _ _ _ _=>(uk (aX oG cK (PE.sh (ar (pO 2) (PE.sh (ak bI ao (PE.sh (ak aP aF (pO 4) (pO 0))) (pO 3))))) pI (br _)))) (λ_ _ _ _ _ _=>(pV 1)))))
  (aj (pS 7 bW.nd (ak aP aF (pO 7) (PE.sh (aS bB cC rfl B.len df (av (pO 6) aC)))))
  (aj (eE (aX oG cK (PE.sh (ak bI ao (pO 0) pI)) pI (br _)) (aq (pS 8 bW.nd (PE.nE (DO (pO 6) (qp (PE.sh (ar (pO 4) (PE.sh (ak bI ao (pO 7) (pO 3)))))) (qp (PE.sh (aS (sE rfl) As rfl B.max Dy (av pI (av (PE.sh (ak cG dO (PE.sh (aS bB cC rfl B.len df (av (pO 6) aC))) (PE.sh (ar (pO 4) (PE.sh (ak bI ao (PE.sh (ak aP aF (pO 7) pI)) (pO 3))))))) aC))))))))) cL)
  (aj (pS 6 bW.nd (PE.nE (l6 B.sorted B.set (PE.sh (PE.nE (yN pz pA (pO 8) (PE.sh (PE.nE (PE.Ej (dD (ai ie) ["_law_cell_here","_law_most_here","_law_rest","_law_many","_law_digits_here","_law_rows","_law_come","_law_at","_law_row"] [] ["_law_bad"] ["_law_bad"] nv (PI.c (bZ (pV 8))) (λ_ _ _ _ _ _=>(aE (aJ (i:=0) (show (["_law_bad"]:List Str).Nodup from by decide +kernel) rfl (Or.inl rfl)))) (λ_ _ _ _ _ _=>fY) (λ_ _ _ _ _ _=>(ak aP aF (pO 0) pI))))))))))))
  (aq (eE (aX oG cK (PE.sh (aS bB cC rfl B.len df (av (pO 8) aC))) pI (br _)) (aq (g4 (dM (kh ZT ZZ aaf fP (pv 5) (bQ (k8 lK sR rfl B.tuple mZ (av (pO 8) aC)) cZ))))) cL)))))))
  (aq (aW (k8 lK sR rfl B.tuple mZ (av (pO 5) aC))))))))))))
theorem yb (F:Df K mg "_law_most" mE ["_law_cell_here"]) (B:Bs mg):KR P w K mg base:=
 bN [] mr F xV λf cH A outer s H E hr=>(aj (eE (aX (jo hr) imp_eq (PE.sh (ak bI ao (PE.sh (ak aT ao (pO 0) pI)) pI)) pI (br _)) (aq (aW (ak aP aF pI (PE.sh (ak bI ao (PE.sh (ak aT ao (pO 0) pI)) pI))))) cL)
  (aq (aW (ak aP aF pI (PE.sh (ak bI ao (pO 0) pI))))))
theorem yc (F:Df K mg "_law_ends" ig ["_law_plan_here"]) (B:Bs mg):KU P w K mg base:=
 gL [1] mw F fA λf cH A outer s H E hr=>(aj (fV (fc (i:=1) fA.nd rfl (Or.inl rfl) (gv ag)))
  (aj (dJ Zx rfl (sS B.range (ab (aL aK) (ab (ak aP aF (PE.sh (aS bB cC rfl B.len df (av (pO 0) aC))) pI) ag))) (aE (aJ (i:=2) fA.nd rfl (Or.inr rfl)))
   (aj (pS 3 fA.nd (bA ag))
  (aj (eE (aX ke cK (pO 2) (PE.sh (aS bB cC rfl B.len df (av (pO 0) aC))) (br _)) (aq (pS 3 fA.nd (ar (pO 0) (pO 2)))) cL)
  (aj (pS 4 fA.nd (PE.nE (l6 B.sorted B.set (PE.sh (PE.nE (yN pz pA (PE.sh (PE.nE (qk jm wJ rfl B.list pw (av (PE.sh (ar (pO 0) (PE.sh (ak cG dO (pO 2) pI)))) aC)))) (PE.sh (PE.nE (PE.Ej (dD (ai ig) ["_law_plan_here","_law_found","_law_n","_law_on","_law_come"] [] ["_law_bad"] ["_law_bad"] nv (PI.c (bZ (ar (pO 0) (PE.sh (ak cG dO (pO 2) pI))))) (λ_ _ _ _ _ _=>(aE (aJ (i:=0) (show (["_law_bad"]:List Str).Nodup from by decide +kernel) rfl (Or.inl rfl)))) (λ_ _ _ _ _ _=>fY) (λ_ _ _ _ _ _=>(ak aP aF (pO 0) pI))))))))))))
  (aq (n0 (dM (kh PySem.F.plainAttrs_list PySem.F.slot_list_extend PySem.F.type_list_extend nT (pv 1) (bQ (dD (ai ig) ["_law_plan_here","_law_found","_law_n","_law_on","_law_come"] [2,3] ["_law_bad","_law_n","_law_on"] ["_law_bad"] nv (PI.c (bZ (pV 4))) (λ_ _ _ _ _ _=>(aE (aJ (i:=0) (show (["_law_bad","_law_n","_law_on"]:List Str).Nodup from by decide +kernel) rfl (Or.inl rfl)))) (λ_ _ _ _ _ _=>(uk (aX BW BX (pO 0) (pO 2) (by with_unfolding_all rfl)))) (λ_ _ _ _ _ _=>(bA (ab (pV 0) (ab (ak cG dO (pO 1) (pO 0)) ag))))) cZ)))))))))
  (aq (fw (pv 1)))))
theorem yd (F:Df K mg "_law_ways" mF ["_law_plan_here"]) (B:Bs mg):KW P w K mg base:=
 bN [1] mx F d3 λf cH A outer s H E hr=>let hu:=aaa (abM (show 1<=64 by decide) _) hr.units
  (aj (AD (fc (i:=1) d3.nd rfl (Or.inl rfl) (w8 hu (PE.sh (bA (ab (aL aK) (ab (aL aK) ag)))) (aL aK))))
  (aj (dJ Zx rfl (w6 B.enumerate (pV 0)) (nj rfl (dA (aE (aJ (i:=2) d3.nd rfl (Or.inl rfl))) (dA (aE (aJ (i:=3) d3.nd rfl (Or.inl rfl))) ni)))
   (aq (dJ Zx rfl (bZ (pV 3)) (aE (aJ (i:=4) d3.nd rfl (Or.inl rfl)))
   (aj (pS 5 d3.nd (ur hu (pO 1) (PE.sh (bA (ab (pV 4) (ab (ak cG dO (pO 2) (pO 4)) ag))))))
  (aq (dJ Zx rfl (bZ (bA (ab (bA (ab (ak aP aF (pO 4) pI) (ab (ak cG dO (pO 2) (pO 4)) ag))) (ab (bA (ab (pV 4) (ab (ak aP aF (PE.sh (ak cG dO (pO 2) (pO 4))) pI) ag))) ag)))) (aE (aJ (i:=6) d3.nd rfl (Or.inl rfl)))
   (aq (AB (Ak hu (pv 1) (pO 6) (ak aP aF (PE.sh (qE hu (pO 1) (pO 6) (aL aK))) (pO 5)) (by rfl))))))))))
  (aq (fw (pv 1)))))
theorem vS (F:Df K mg "_law_whole" kO ["_law_found"]) (B:Bs mg):KY P w K mg base:=
 bN [] kB F vJ λf cH A outer s H E hr=>(aq (aW (DL (qo "int" B.isinstance (pO 0) (mT rfl B.int yK (v:=.ty "int") rfl)) (CW (Mh (PE.sh (qo "bool" B.isinstance (pO 0) (mT rfl B.bool Hg (v:=.ty "bool") rfl))))))))
theorem rB (F:Df K mg "_law_divisor" iM ["_law_one","_law_other"]) (B:Bs mg):NK P w K mg base:=
 bN [] iH F kP λf cH A outer s H E hr=>(aj (i5 Zx (aX (lT hr) lU (pO 1) pI (br _)) (aq (Mn (LA (i:=0) (j:=1) rfl kP.nd rfl rfl (by decide) rfl rfl (ab (pV 1) (ab (ak bI ao (pO 0) (pO 1)) ag)) rfl))))
  (aq (aW (aS iZ k9 rfl B.abs nW (av (pO 0) aC)))))
theorem rC (F:Df K mg "_law_is_frac" iN ["_law_found","_law_top","_law_bottom"]) (B:Bs mg) (dH:NK P w K mg base) (iD:KY P w K mg base):KC P w K mg base:=
 bN [] iI F rp λf cH A outer s H E hr=>(aj (eE (PW.pt (kl (fF (cz (PE.sh (qo "tuple" B.isinstance (pO 0) (mT rfl B.tuple mZ (v:=.ty "tuple") rfl))))) (kl (aX (lT hr) lU (PE.sh (aS bB cC rfl B.len df (av (pO 0) aC))) pI (br _)) (kl (fF (cz (PE.sh (pC iD hr (ab (ar (pO 0) pI) ag))))) (pw_or1 (fF (cz (PE.sh (pC iD hr (ab (ar (pO 0) pI) ag)))))))))) (aq (aW (oJ oF))) cL)
  (aj (eE (PW.pt (kl (aX ke cK (PE.sh (ar (pO 0) pI)) pI (br _)) (pw_or1 (aX (lT hr) lU (PE.sh (pC dH hr (ab (ar (pO 0) pI) (ab (ar (pO 0) pI) ag)))) pI (br _))))) (aq (aW (oJ oF))) cL)
  (aq (aW (nY (jo hr) imp_eq (PE.sh (ak aM ao (PE.sh (ar (pO 0) pI)) (pO 2))) (PE.sh (ak aM ao (pO 1) (PE.sh (ar (pO 0) pI)))) (br _))))))
theorem so (F:Df K mg "_law_shares" jJ ["_law_cell_here"]) (B:Bs mg):KP P w K mg base:=
 bN [] jB F cT λf cH A outer s H E hr=>(aj (pS 1 cT.nd (ak aP aF pI (PE.sh (ak bI ao (PE.sh (ak aT ao (pO 0) pI)) pI))))
  (aj (pS 2 cT.nd (ak aT ao (pO 0) pI))
  (aj (eE (aX (jo hr) imp_eq (PE.sh (ak bI ao (pO 0) pI)) pI (br _)) (aj (pS 1 cT.nd (ak aP aF pI (PE.sh (ak bI ao (PE.sh (ak aT ao (pO 0) pI)) (PE.sh (ak yB ao pI pI))))))
  (aq (pS 2 cT.nd (ak aP aF (PE.sh (ak aT ao (PE.sh (ak aT ao (pO 0) pI)) (PE.sh (ak yB ao pI pI)))) (PE.sh (ak aT ao (pO 0) pI)))))) cL)
  (aj (pS 3 cT.nd (ak aP aF pI (PE.sh (ak bI ao (pO 2) (PE.sh (ak cG dO (pO 1) pI))))))
  (aj (pS 4 cT.nd (ak aP aF (PE.sh (ak aP aF (pO 3) pI)) (PE.sh (ak bI ao (PE.sh (ak aT ao (pO 2) (PE.sh (ak cG dO (pO 1) pI)))) (PE.sh (ak cG dO (PE.sh (ak cG dO (pO 1) pI)) (pO 3)))))))
  (aq (aW (bA (ab (pV 3) (ab (pV 4) (ab (pV 1) ag)))))))))))
theorem ye (F:Df K mg "_law_made" mG ["_law_top","_law_bottom"]) (B:Bs mg) (dH:NK P w K mg base):NL P w K mg base:=
 bN [] my F oW λf cH A outer s H E hr=>(aj (pS 2 oW.nd (pC dH hr (ab (pV 0) (ab (pV 1) ag))))
  (aq (aW (bA (ab (ak aT ao (pO 0) (pO 2)) (ab (ak aT ao (pO 1) (pO 2)) ag))))))
theorem vU (F:Df K mg "_law_times" kQ ["_law_base","_law_many"]) (B:Bs mg):Jt P w K mg base:=
 bN [] kC F gX λf cH A outer s H E hr=>(aj (pS 2 gX.nd (aL aK))
  (aj (dJ Zx rfl (lg B.range (ab (pV 1) ag)) (aE (aJ (i:=3) gX.nd rfl (Or.inl rfl)))
   (aq (pS 2 gX.nd (ak aM ao (pO 2) (pO 0)))))
  (aq (aW (pV 2)))))
theorem sr (F:Df K mg "_law_weight" jK ["_law_count","_law_top","_law_bottom"]) (B:Bs mg) (cF:Jt P w K mg base):NJ P w K mg base:=
 bN [] jC F si λf cH A outer s H E hr=>(aq (aW (ak aM ao (PE.sh (pC cF hr (ab (pV 1) (ab (ar (pO 0) pI) ag)))) (PE.sh (pC cF hr (ab (ak cG dO (pO 2) (pO 1)) (ab (ar (pO 0) pI) ag)))))))
theorem vV (F:Df K mg "_law_order" kR ["_law_places","_law_both"]) (B:Bs mg) (dw:NJ P w K mg base):KH P w K mg base:=
 gL [2] kD F dq λf cH A outer s H E hr=>(aj (fV (fc (i:=2) dq.nd rfl (Or.inl rfl) (gv ag)))
  (aj (dJ Zx rfl (bZ (pV 0)) (aE (aJ (i:=3) dq.nd rfl (Or.inl rfl)))
   (aj (pS 4 dq.nd (pC dw hr (ab (pV 3) (ab (ar (pO 1) pI) (ab (ar (pO 1) pI) ag)))))
  (aj (pS 5 dq.nd (pC dw hr (ab (pV 3) (ab (ar (pO 1) pI) (ab (ar (pO 1) pI) ag)))))
  (aj (pS 6 dq.nd (aS bB cC rfl B.len df (av (pO 2) aC)))
  (aj (i5 Zx (PW.pt (m9 (aX oG cK (pO 6) pI (br _)) (pw_and1 (aX ke cK (PE.sh (ak aM ao (PE.sh (ar (PE.sh (ar (pO 2) (PE.sh (ak cG dO (pO 6) pI)))) pI)) (pO 5))) (PE.sh (ak aM ao (pO 4) (PE.sh (ar (PE.sh (ar (pO 2) (PE.sh (ak cG dO (pO 6) pI)))) pI)))) (br _))))) (aq (pS 6 dq.nd (ak cG dO (pO 6) pI))))
  (aq (Ci (dM (kh ZT PySem.F.slot_list_insert PySem.F.type_list_insert Cg (pv 2) (bQ (pV 6) (bQ (bA (ab (pV 3) (ab (pV 4) (ab (pV 5) ag)))) cZ)))))))))))
  (aq (fw (pv 2)))))
theorem yf (F:Df K mg "_law_odds" mH ["_law_ways_here","_law_end","_law_top","_law_both","_law_longest"]) (B:Bs mg) (cF:Jt P w K mg base) (dw:NJ P w K mg base):QL P w K mg base:=
 bN [] mz F xW λf cH A outer s H E hr=>let hu:=aaa (abM (show 1<=64 by decide) _) hr.units
  (aq (aW (ak aM ao (PE.sh (ak aM ao (PE.sh (ur hu (pO 0) (pO 1))) (PE.sh (pC dw hr (ab (pV 1) (ab (pV 2) (ab (ar (pO 3) pI) ag))))))) (PE.sh (pC cF hr (ab (ar (pO 3) pI) (ab (ak cG dO (PE.sh (ak cG dO (pO 4) (PE.sh (ar (pO 1) pI)))) (PE.sh (ar (pO 1) pI))) ag)))))))
theorem rD (F:Df K mg "_law_most_of" iO ["_law_cell_here","_law_firsts","_law_unit"]) (B:Bs mg) (cv:NL P w K mg base):QM P w K mg base:=
 bN [] iJ F kT λf cH A outer s H E hr=>(aj (pS 3 kT.nd (ak bI ao (pO 0) pI))
  (aj (eE (aX ke cK (pO 3) pI (br _)) (aq (aW (pC cv hr (ab (pV 3) (ab (aL aK) ag))))) cL)
  (aj (eE (aX (jo hr) imp_eq (pO 3) pI (br _)) (aq (aW (pC cv hr (ab (ar (pO 1) (PE.sh (ak bI ao (PE.sh (ak aT ao (pO 0) pI)) (PE.sh (aS bB cC rfl B.len df (av (pO 1) aC)))))) (ab (pV 2) ag))))) cL)
  (aj (eE (aX (jo hr) imp_eq (pO 3) pI (br _)) (aq (aW (pC cv hr (ab (aS (sF rfl) Au rfl B.min Dz (av (pO 2) (av (PE.sh (ak aP aF (PE.sh (ar (pO 1) (PE.sh (ak bI ao (PE.sh (ak aT ao (pO 0) pI)) (PE.sh (aS bB cC rfl B.len df (av (pO 1) aC))))))) pI)) aC))) (ab (pV 2) ag))))) cL)
  (aq (aW (pC cv hr (ab (ak bI ao (PE.sh (ak aT ao (pO 0) pI)) pI) (ab (aL aK) ag)))))))))
theorem vW (F:Df K mg "_law_asked" fB ["_law_plan_here","_law_both","_law_cell_here"]) (B:Bs mg) (jP:KU P w K mg base) (eV:KC P w K mg base) (cv:NL P w K mg base) (iQ:QM P w K mg base) (jQ:QL P w K mg base) (kY:KH P w K mg base) (cF:Jt P w K mg base) (mK:KW P w K mg base) (fb:KE P w K mg base):Kz P w K mg base:=
 bN [7] kF F ba λf cH A outer s H E hr=>(aj (pS 3 ba.nd (aS bB cC rfl B.len df (av (pO 0) aC)))
  (aj (pS 4 ba.nd (pC mK hr (ab (pV 0) ag)))
  (aj (pS 5 ba.nd (pC cF hr (ab (ar (pO 1) pI) (ab (pV 3) ag))))
  (aj (pS 6 ba.nd (PE.nE (eJ kY hr (by decide) (ab (PE.nE (eJ jP hr (by decide) (ab (pV 0) ag))) (ab (pV 1) ag)))))
  (aj (fV (fc (i:=7) ba.nd rfl (Or.inl rfl) (gv (ab (aL aK) ag))))
  (aj (dJ Zx rfl (bZ (pV 6)) (aE (aJ (i:=8) ba.nd rfl (Or.inl rfl)))
   (aq (g4 (dM (kh ZT ZZ aaf fP (pv 7) (bQ (ak aP aF (PE.sh (ar (pO 7) (PE.sh (t7 pI)))) (PE.sh (pC jQ hr (ab (pV 4) (ab (ar (pO 8) pI) (ab (ar (pO 1) pI) (ab (pV 1) (ab (pV 3) ag)))))))) cZ))))))
  (aj (pS 9 ba.nd (BR iQ hr (by decide) (av (pO 2) (av (pO 7) (av (pO 5) aC)))))
  (aj (pS 10 ba.nd (aL aK))
  (aj (i5 Zx (PW.pt (m9 (aX ke cK (pO 10) (PE.sh (aS bB cC rfl B.len df (av (pO 6) aC))) (br _)) (pw_and1 (aX JT cK (PE.sh (ak aM ao (PE.sh (ar (pO 7) (PE.sh (ak aP aF (pO 10) pI)))) (PE.sh (ar (pO 9) pI)))) (PE.sh (ak aM ao (PE.sh (ar (pO 9) pI)) (pO 5))) (br _))))) (aq (pS 10 ba.nd (ak aP aF (pO 10) pI))))
  (aj (pS 11 ba.nd (PE.nE (PE.Ej (dD (ai fB) ["_law_plan_here","_law_both","_law_cell_here","_law_longest","_law_ways_here","_law_unit","_law_order_here","_law_firsts","_law_part","_law_most_here","_law_many","_law_rule","_law_due","_law_caught","_law_found","_law_kept"] [] ["_law_part"] ["_law_part"] nv (PI.c (bZ (PE.nE (DO (pO 6) DN (qp (pO 10)))))) (λ_ _ _ _ _ _=>(aE (aJ (i:=0) (show (["_law_part"]:List Str).Nodup from by decide +kernel) rfl (Or.inl rfl)))) (λ_ _ _ _ _ _=>fY) (λ_ _ _ _ _ _=>(ar (pO 0) pI))))))
  (aj (pS 12 ba.nd (bA (ab (aL aK) (ab (aL aK) ag))))
  (aj (eE (aX ke cK (pO 10) (PE.sh (aS bB cC rfl B.len df (av (pO 6) aC))) (br _)) (aq (pS 12 ba.nd (bA (ab (ar (PE.sh (ar (pO 6) (pO 10))) pI) (ab (ar (PE.sh (ar (pO 6) (pO 10))) pI) ag))))) cL)
  (aj (pS 13 ba.nd (aS (Cj rfl) HN rfl B.sum MX (av (PE.sh (PE.nE (PE.Ej (dD (ai fB) ["_law_plan_here","_law_both","_law_cell_here","_law_longest","_law_ways_here","_law_unit","_law_order_here","_law_firsts","_law_part","_law_most_here","_law_many","_law_rule","_law_due","_law_caught","_law_found","_law_kept"] [4,1,3] ["_law_end","_law_ways_here","_law_both","_law_longest"] ["_law_end"] nv (PI.c (bZ (pV 11))) (λ_ _ _ _ _ _=>(aE (aJ (i:=0) (show (["_law_end","_law_ways_here","_law_both","_law_longest"]:List Str).Nodup from by decide +kernel) rfl (Or.inl rfl)))) (λ_ _ _ _ _ _=>fY) (λ_ _ _ _ _ _=>(pC jQ hr (ab (pV 1) (ab (pV 0) (ab (ar (pO 2) pI) (ab (pV 2) (ab (pV 3) ag))))))))))) aC)))
  (Ig (i:=14) fb hr (by decide) (ab (pV 0) (ab (pC cv hr (ab (ar (pO 1) pI) (ab (ar (pO 1) pI) ag))) (ab (pC cv hr (ab (ar (pO 1) pI) (ab (ar (pO 1) pI) ag))) (ab (pV 9) ag)))) ba.nd rfl (Or.inl rfl)
  (uy (PW.pt (kl (fF (cz (PE.sh (qo "tuple" B.isinstance (pO 14) (mT rfl B.tuple mZ (v:=.ty "tuple") rfl))))) (kl (aX (lT hr) lU (PE.sh (aS bB cC rfl B.len df (av (pO 14) aC))) pI (br _)) (pw_or1 (fF (cz (PE.sh (qo "list" B.isinstance (PE.sh (ar (pO 14) pI)) (mT rfl B.list pw (v:=.ty "list") rfl))))))))) (aq (aW (oJ oF)))
  (uy (aX (lT hr) lU (PE.sh (ar (pO 14) pI)) (PE.sh (PE.nE (dD (ai fB) ["_law_plan_here","_law_both","_law_cell_here","_law_longest","_law_ways_here","_law_unit","_law_order_here","_law_firsts","_law_part","_law_most_here","_law_many","_law_rule","_law_due","_law_caught","_law_found","_law_kept"] [11] ["_law_end","_law_rule"] ["_law_end"] nv (PI.c (bZ (PE.nE (eJ jP hr (by decide) (ab (pV 0) ag))))) (λ_ _ _ _ _ _=>(aE (aJ (i:=0) (show (["_law_end","_law_rule"]:List Str).Nodup from by decide +kernel) rfl (Or.inl rfl)))) (λ_ _ _ _ _ _=>(uk (aX (MQ hr) HI (pO 0) (pO 1) (by with_unfolding_all rfl)))) (λ_ _ _ _ _ _=>(pV 0))))) (br _)) (aq (aW (oJ oF)))
  (uy (PW.pt (kl (fF (cz (PE.sh (pC eV hr (ab (ar (pO 14) pI) (ab (ar (pO 12) pI) (ab (ar (pO 12) pI) ag))))))) (pw_or1 (fF (cz (PE.sh (pC eV hr (ab (ar (pO 14) pI) (ab (ar (pO 7) (pO 10)) (ab (pV 5) ag)))))))))) (aq (aW (oJ oF)))
  (uy (fF (cz (PE.sh (pC eV hr (ab (ar (pO 14) pI) (ab (pV 13) (ab (pV 5) ag))))))) (aq (aW (oJ oF)))
  (EF (i:=14) (j:=15) (fc (i:=15) ba.nd rfl (Or.inl rfl) (k7 jm rfl B.list pw (bQ (Dj yG (pv 14) aK (by exact λ_ _=>rfl)) cZ)))
  (Ih (i:=14) (dM (kh ZT ZZ aaf fP (Dj yG (pv 14) aK (by exact λ_ _=>rfl)) (bQ (bA (ab (aL aK) (ab (aL aK) ag))) cZ)))
  (aq (aW (nY (jo hr) imp_eq (PE.sh (ar (PE.sh (EE fb hr (by decide) (ab (pV 0) (ab (pC cv hr (ab (ar (pO 1) pI) (ab (ar (pO 1) pI) ag))) (ab (pC cv hr (ab (ar (pO 1) pI) (ab (ar (pO 1) pI) ag))) (ab (pV 9) ag)))))) pI)) (pO 15) (br _))))))))))))))))))))))))
theorem NN {f:Addr} {fd:FuncData} (F:Dq K "law" "law" lM f fd) (B:Bs mg) (iE:Kz P w K mg base) (dz:KL P w K mg base) (mL:KR P w K mg base) (jR:KG P w K mg base) (g0:KP P w K mg base):lQ P w K mg base o6 10 f fd ["_law_script"] (iU K 1 tz):=
 Ph [] EV F oA λf cH A outer s H E hr=>(aj (pS 1 oA.nd (pC mL hr (ab (pC dz hr (ab (pV 0) (ab (aL aK) ag))) ag)))
  (aj (eE (aX (jo hr) imp_eq (PE.sh (ak bI ao (PE.sh (ak aT ao (PE.sh (pC dz hr (ab (pV 0) (ab (aL aK) ag)))) pI)) pI)) pI (br _)) (aj (pS 2 oA.nd (pC dz hr (ab (pV 0) (ab (aL aK) ag))))
  (aj (pS 3 oA.nd (pC jR hr (ab (ak aP aF (PE.sh (ak aM ao (PE.sh (ak aT ao (PE.sh (pC dz hr (ab (pV 0) (ab (aL aK) ag)))) pI)) pI)) pI) (ab (ak aP aF pI (PE.sh (ak bI ao (PE.sh (ak aT ao (PE.sh (pC dz hr (ab (pV 0) (ab (aL aK) ag)))) pI)) pI))) ag))))
  (aq (aW (pC iE hr (ab (pV 3) (ab (pC g0 hr (ab (ak aT ao (pO 2) pI) ag)) (ab (pV 2) ag)))))))) cL)
  (aj (dJ Zx rfl (sS B.range (ab (aL aK) (ab (aS (sE rfl) As rfl B.max Dy (av pI (av (PE.sh (aS (sF rfl) Au rfl B.min Dz (av (PE.sh (ar (PE.sh (PE.nE (gv (ab (aL aK) (ab (aL aK) ag))))) (PE.sh (k8 sG Av rfl B.int yK (av (PE.sh (nY oG cK (pO 1) pI (br _))) aC))))) (av (PE.sh (aS bB cC rfl B.len df (av (pO 0) aC))) aC)))) aC))) ag))) (aE (aJ (i:=4) oA.nd rfl (Or.inl rfl)))
   (aj (pS 2 oA.nd (pC dz hr (ab (pV 0) (ab (ak aP aF (pO 4) pI) ag))))
  (aq (eE (fF (cz (PE.sh (pC iE hr (ab (pC jR hr (ab (pC dz hr (ab (pV 0) (ab (pV 4) ag))) (ab (pV 1) ag))) (ab (pC g0 hr (ab (ak aT ao (pO 2) pI) ag)) (ab (pV 2) ag))))))) (aq (aW (oJ oF))) cL))))
  (aq (aW (oJ oF))))))
end
structure QF (K:PySem.W.Frag) (n:Str) (st:Stmt) (f:Addr) (od an:Option Addr) (sl:Array (Option Value)) (oc kV dc pm cd ct:Value):Prop where
 a:PySem.W.nsIn K mainGlobals n=some (some (.ref f))
 l:K.lookup f=some ⟨oc,od,.func (PySem.W.fnOf n n (eW st) (cA st) (ai st) .none kV dc pm an cd ct),sl⟩
 c:PySem.W.codeIn K cd n=true
 k:PySem.W.keepIn K (.ref f)=true
def QE (K:PySem.W.Frag) (n:Str) (st:Stmt):Prop:=∃ f od an sl oc kV dc pm cd ct,QF K n st f od an sl oc kV dc pm cd ct
theorem F6 {K:PySem.W.Frag} {h:Heap} {mg:Str->Option Value} {x:Str} {st:Stmt} {a0:Str} (CK:hJ K) (X:K.In h) (G:h.Ns mainGlobals mg) (q:QE K x st) (b:∀ kV doc pm an cd ct u0,bindArgs (PySem.W.fnOf x x (eW st) (cA st) (ai st) .none kV doc pm an cd ct) ⟨[u0],[]⟩=pure ([a0].zip [u0]):=by intros; rfl):Df (dU K) mg x st [a0]:=by
 obtain ⟨_,_,_,_,_,_,_,_,_,_,q⟩:=q
 exact ⟨_,_,CK.func (dN (st:=st) q.l q.c q.k),aag X G q.a,(CK.func (dN (st:=st) q.l q.c q.k)).binds λ_ _ _ _ _ _ us hl=>match us,hl with | [u0],_=>b ..⟩
theorem rH {K:PySem.W.Frag} {h:Heap} {mg:Str->Option Value} {x:Str} {st:Stmt} {a0 a1:Str} (CK:hJ K) (X:K.In h) (G:h.Ns mainGlobals mg) (q:QE K x st) (b:∀ kV doc pm an cd ct u0 u1,bindArgs (PySem.W.fnOf x x (eW st) (cA st) (ai st) .none kV doc pm an cd ct) ⟨[u0,u1],[]⟩=pure ([a0,a1].zip [u0,u1]):=by intros; rfl):Df (dU K) mg x st [a0,a1]:=by
 obtain ⟨_,_,_,_,_,_,_,_,_,_,q⟩:=q
 exact ⟨_,_,CK.func (dN (st:=st) q.l q.c q.k),aag X G q.a,(CK.func (dN (st:=st) q.l q.c q.k)).binds λ_ _ _ _ _ _ us hl=>match us,hl with | [u0,u1],_=>b ..⟩
theorem NO {K:PySem.W.Frag} {h:Heap} {mg:Str->Option Value} {x:Str} {st:Stmt} {a0 a1 a2:Str} (CK:hJ K) (X:K.In h) (G:h.Ns mainGlobals mg) (q:QE K x st) (b:∀ kV doc pm an cd ct u0 u1 u2,bindArgs (PySem.W.fnOf x x (eW st) (cA st) (ai st) .none kV doc pm an cd ct) ⟨[u0,u1,u2],[]⟩=pure ([a0,a1,a2].zip [u0,u1,u2]):=by intros; rfl):Df (dU K) mg x st [a0,a1,a2]:=by
 obtain ⟨_,_,_,_,_,_,_,_,_,_,q⟩:=q
 exact ⟨_,_,CK.func (dN (st:=st) q.l q.c q.k),aag X G q.a,(CK.func (dN (st:=st) q.l q.c q.k)).binds λ_ _ _ _ _ _ us hl=>match us,hl with | [u0,u1,u2],_=>b ..⟩
theorem X2 {K:PySem.W.Frag} {h:Heap} {mg:Str->Option Value} {x:Str} {st:Stmt} {a0 a1 a2 a3:Str} (CK:hJ K) (X:K.In h) (G:h.Ns mainGlobals mg) (q:QE K x st) (b:∀ kV doc pm an cd ct u0 u1 u2 u3,bindArgs (PySem.W.fnOf x x (eW st) (cA st) (ai st) .none kV doc pm an cd ct) ⟨[u0,u1,u2,u3],[]⟩=pure ([a0,a1,a2,a3].zip [u0,u1,u2,u3]):=by intros; rfl):Df (dU K) mg x st [a0,a1,a2,a3]:=by
 obtain ⟨_,_,_,_,_,_,_,_,_,_,q⟩:=q
 exact ⟨_,_,CK.func (dN (st:=st) q.l q.c q.k),aag X G q.a,(CK.func (dN (st:=st) q.l q.c q.k)).binds λ_ _ _ _ _ _ us hl=>match us,hl with | [u0,u1,u2,u3],_=>b ..⟩
theorem X3 {K:PySem.W.Frag} {h:Heap} {mg:Str->Option Value} {x:Str} {st:Stmt} {a0 a1 a2 a3 a4:Str} (CK:hJ K) (X:K.In h) (G:h.Ns mainGlobals mg) (q:QE K x st) (b:∀ kV doc pm an cd ct u0 u1 u2 u3 u4,bindArgs (PySem.W.fnOf x x (eW st) (cA st) (ai st) .none kV doc pm an cd ct) ⟨[u0,u1,u2,u3,u4],[]⟩=pure ([a0,a1,a2,a3,a4].zip [u0,u1,u2,u3,u4]):=by intros; rfl):Df (dU K) mg x st [a0,a1,a2,a3,a4]:=by
 obtain ⟨_,_,_,_,_,_,_,_,_,_,q⟩:=q
 exact ⟨_,_,CK.func (dN (st:=st) q.l q.c q.k),aag X G q.a,(CK.func (dN (st:=st) q.l q.c q.k)).binds λ_ _ _ _ _ _ us hl=>match us,hl with | [u0,u1,u2,u3,u4],_=>b ..⟩
theorem all_mk {l:PySem.W.OpenLaw} {w:World} {K:PySem.W.Frag} {h:Heap} {mg:Str->Option Value} {fa:Addr} (X:K.In h) (G:h.Ns mainGlobals mg) (X4:mg "law"=some (.ref fa))
  {X5 X6 X7:Addr} {Ue Ug Uh Ui Uj QN:Option Addr} {Uk Ul Um:Array (Option Value)} {Uo Up Uq Ur QO Us Ut Uu Uv Uw QP Ux Uy QR QS QT QU QV:Value}
  (q1:QE K "frac" zU)
  (q2:QE K "plus" zV)
  (q3:QE K "minus" vx)
  (q4:QE K "times" vy)
  (q5:QE K "over" zW)
  (q6:QE K "power" vz)
  (q7:QE K "under" vA)
  (q8:QE K "greatest_divisor" fj)
  (q9:QE K "leap" zX)
  (X8:QE K "goes_on" oz)
  (X9:QE K "come_to" lE)
  (Yb:QE K "ends" vB)
  (Yc:QE K "drawn_on" jG)
  (Yd:QE K "led_to" nN)
  (Ye:QE K "after" vD)
  (Yg:QE K "common_bottom" gF)
  (Yh:QE K "tops_over" iB)
  (Yi:QE K "ways_from" kM)
  (Yj:QE K "ratio" vG)
  (Yk:QE K "rule_by_ratio" gG)
  (Yl:QE K "check_shares" ic)
  (Ym:QE K "check_most" jH)
  (Yn:QE K "often" vH)
  (NP:QF K "by_falling_ratio" bf X5 Ue Ug Uk Uo Up Uq Ur QO Us)
  (Yo:QE K "taken" vI)
  (NQ:QF K "in_order" fm X6 Uh Ui Ul Ut Uu Uv Uw QP Ux)
  (Yp:QE K "_law_cell" mD)
  (Yq:QE K "_law_digits" jI)
  (Yr:QE K "_law_mixes" kN)
  (Ys:QE K "_law_plan" ie)
  (Yt:QE K "_law_most" mE)
  (Yu:QE K "_law_ends" ig)
  (Yv:QE K "_law_ways" mF)
  (Yw:QE K "_law_whole" kO)
  (Yx:QE K "_law_divisor" iM)
  (Yy:QE K "_law_is_frac" iN)
  (Yz:QE K "_law_shares" jJ)
  (YA:QE K "_law_made" mG)
  (YB:QE K "_law_times" kQ)
  (YC:QE K "_law_weight" jK)
  (YD:QE K "_law_order" kR)
  (YE:QE K "_law_odds" mH)
  (YF:QE K "_law_most_of" iO)
  (YG:QE K "_law_asked" fB)
  (F7:QF K "law" lM X7 Uj QN Um Uy QR QS QT QU QV)
  {QW:Tok} (QX:PySem.W.nsIn K mainGlobals "LONG"=some (some (.int 4000 QW)))
  {JB:Tok} (JC:PySem.W.nsIn K mainGlobals "WINDOW"=some (some (.int 240 JB)))
  {QY:Tok} (QZ:PySem.W.nsIn K mainGlobals "SHED"=some (some (.int 120 QY)))
  {du:Addr} {F8:Option Addr} {F9:Array (Option Value)} {JD:Nat} {Ga Gb:Tok} (JE:PySem.W.nsIn K mainGlobals "NOUGHT"=some (some (.ref du))) (JF:K.lookup du=some ⟨.type "tuple",F8,.seq #[.int (0) Ga,.int (1) Gb] JD,F9⟩)
  {fq:Addr} {JG:Option Addr} {JH:Array (Option Value)} {NR:Nat} {JI JJ:Tok} (NS:PySem.W.nsIn K mainGlobals "WHOLE"=some (some (.ref fq))) (NT:K.lookup fq=some ⟨.type "tuple",JG,.seq #[.int (1) JI,.int (1) JJ] NR,JH⟩)
  (Q0:PySem.W.nsIn K mainGlobals "len"=some none)
  (JK:PySem.W.nsIn K mainGlobals "range"=some none)
  (vX:PySem.W.nsIn K mainGlobals "isinstance"=some none)
  (Q2:PySem.W.nsIn K mainGlobals "max"=some none)
  (Q3:PySem.W.nsIn K mainGlobals "min"=some none)
  (Q4:PySem.W.nsIn K mainGlobals "int"=some none)
  (NU:PySem.W.nsIn K mainGlobals "bool"=some none)
  (JL:PySem.W.nsIn K mainGlobals "tuple"=some none)
  (NV:PySem.W.nsIn K mainGlobals "list"=some none)
  (Q5:PySem.W.nsIn K mainGlobals "abs"=some none)
  (Q6:PySem.W.nsIn K mainGlobals "str"=some none)
  (Q7:PySem.W.nsIn K mainGlobals "sum"=some none)
  (Gc:PySem.W.nsIn K mainGlobals "sorted"=some none)
  (z8:PySem.W.nsIn K mainGlobals "reversed"=some none)
  (yg:PySem.W.nsIn K mainGlobals "enumerate"=some none)
  (Q8:PySem.W.nsIn K mainGlobals "set"=some none)
  (Q9:PySem.W.nsIn K mainGlobals "all"=some none)
  (Ra:PySem.W.nsIn K mainGlobals "zip"=some none)
  (Rb:PySem.W.nsIn K mainGlobals "any"=some none)
  {Rc Uz Rf UA:Addr} (lt:bY=[(Rc,(⟨130,44,130,70⟩:Pos),("by_falling_ratio.<locals>.<lambda>":Str)),(Rf,(⟨145,28,145,65⟩:Pos),("in_order.<locals>.<lambda>":Str))])
  (ct:bX=[(du,[V.int (0),V.int (1)]),(fq,[V.int (1),V.int (1)])])
  (ne1_0:fq≠du)
  (nl1_0:Rf≠Rc)
  (e24:QO=.ref Uz)
  (gJ:PySem.W.codeHdIn K Uz Rc=true)
  (UB:K.lookup Rc=none)
  (e26:QP=.ref UA)
  (oX:PySem.W.codeHdIn K UA Rf=true)
  (UC:K.lookup Rf=none)
  :hJ K /\ xc K /\ ∃ fd:FuncData,(∀ (s:Shared) (v:Value),BindsTo s fd ⟨[v],[]⟩ [("_law_script",v)]) /\ ∀ base:Heap,(dU K).In base->base.Ns mainGlobals mg->HL mg base->lQ l.prog w (dU K) mg base o6 10 fa fd ["_law_script"] (iU (dU K) 1 tz):=by
 have e:=X4.symm.trans (aag X G F7.a)
 cases e
 have CK:hJ K:=⟨(λp xs m=>by have bq1_0:=abc.mpr ne1_0; rw [ct] at m ⊢; simp only [Y6,ZS,aa5,abq] at m; rcases m with ⟨rfl,rfl⟩ | ⟨rfl,rfl⟩ <;> simp [ZR, *]),(λp xs m=>by have m:=Eh m; rw [ct] at m; simp only [Y6,ZS,aa5,abq] at m; rcases m with ⟨rfl,rfl⟩ | ⟨rfl,rfl⟩ <;> first | exact ⟨_,_,_,_,JF,(by show 2<=sizeLine; decide),(.cons ⟨_,rfl⟩ (.cons ⟨_,rfl⟩ .nil))⟩ | exact ⟨_,_,_,_,NT,(by show 2<=sizeLine; decide),(.cons ⟨_,rfl⟩ (.cons ⟨_,rfl⟩ .nil))⟩)⟩
 have LO:xc K:=⟨(λp y q m=>by have bq1_0:=abc.mpr nl1_0; rw [lt] at m ⊢; simp only [Y6,ZS,aa5,abq] at m; rcases m with ⟨rfl,rfl,rfl⟩ | ⟨rfl,rfl,rfl⟩ <;> simp [ZR, *]),(λp y q m=>by rw [lt] at m; simp only [Y6,ZS,aa5,abq] at m; rcases m with ⟨rfl,rfl,rfl⟩ | ⟨rfl,rfl,rfl⟩ <;> first | exact ⟨UB,_,gJ⟩ | exact ⟨UC,_,oX⟩)⟩
 have mM:P6 (dU K) mg "by_falling_ratio" bf ["choice"] Uz:=⟨_,_,(CK.func (dN (st:=bf) NP.l NP.c NP.k)),e24,aag X G NP.a,(CK.func (dN (st:=bf) NP.l NP.c NP.k)).binds λ_ _ _ _ _ _ us hl=>match us,hl with | [_],_=>rfl⟩
 have z9:P6 (dU K) mg "in_order" fm ["rule"] UA:=⟨_,_,(CK.func (dN (st:=fm) NQ.l NQ.c NQ.k)),e26,aag X G NQ.a,(CK.func (dN (st:=fm) NQ.l NQ.c NQ.k)).binds λ_ _ _ _ _ _ us hl=>match us,hl with | [_],_=>rfl⟩
 have VU:Df (dU K) mg "law" lM ["_law_script"]:=⟨_,_,(CK.func (dN (st:=lM) F7.l F7.c F7.k)),aag X G F7.a,(CK.func (dN (st:=lM) F7.l F7.c F7.k)).binds λ_ _ _ _ _ _ us hl=>match us,hl with | [_],_=>rfl⟩
 have zZ:Cn mg "LONG" (.int 4000):=⟨_,aag X G QX,⟨_,rfl⟩⟩
 have rq:Cn mg "WINDOW" (.int 240):=⟨_,aag X G JC,⟨_,rfl⟩⟩
 have zY:Cn mg "SHED" (.int 120):=⟨_,aag X G QZ,⟨_,rfl⟩⟩
 have d4:Cn mg "NOUGHT" (.ref du):=⟨_,aag X G JE,rfl⟩
 have d5:(du,[V.int (0),V.int (1)])∈bX:=by rw [ct]; simp
 have gY:Cn mg "WHOLE" (.ref fq):=⟨_,aag X G NS,rfl⟩
 have gZ:(fq,[V.int (1),V.int (1)])∈bX:=by rw [ct]; simp
 have B:Bs mg:=⟨ZA X G Q0,ZA X G JK,ZA X G vX,ZA X G Q2,ZA X G Q3,ZA X G Q4,ZA X G NU,ZA X G JL,ZA X G NV,ZA X G Q5,ZA X G Q6,ZA X G Q7,ZA X G Gc,ZA X G z8,ZA X G yg,ZA X G Q8,ZA X G Q9,ZA X G Ra,ZA X G Rb⟩
 have lH:(Rc,(⟨130,44,130,70⟩:Pos),("by_falling_ratio.<locals>.<lambda>":Str))∈bY:=by rw [lt]; simp
 have yh:(Rf,(⟨145,28,145,65⟩:Pos),("in_order.<locals>.<lambda>":Str))∈bY:=by rw [lt]; simp
 refine ⟨CK,LO,PySem.W.fnOf "law" "law" (eW lM) (cA lM) (ai lM) .none QR QS QT QN QU QV,λs v=>.of_eq rfl,λbase _ _ BB=>?_⟩
 have z0:=Jw (P:=l.prog) (w:=w) (base:=base) (rH CK X G q9) B rq zY
 have bg:=lF (rH CK X G q8) B zZ z0
 have iP:=Jx (rH CK X G q1) B bg
 have mI:=Jy (rH CK X G q2) B iP bg
 have vN:=FV (rH CK X G q3) B mI
 have jL:=FW (rH CK X G q4) B iP
 have z6:=Jz (rH CK X G q5) B iP jL
 have pQ:=FX (P:=l.prog) (w:=w) (base:=base) (rH CK X G q6) B
 have e9:=FY (P:=l.prog) (w:=w) (base:=base) (rH CK X G q7) B
 have oC:=z4 (P:=l.prog) (w:=w) (base:=base) (rH CK X G X8) B
 have rA:=CO (P:=l.prog) (w:=w) (base:=base) (F6 CK X G Yd) B
 have oB:=z5 (F6 CK X G X9) B rA
 have z7:=JA (F6 CK X G Yb) B oB oC
 have mJ:=xX (P:=l.prog) (w:=w) (base:=base) (F6 CK X G Yc) B
 have pP:=FZ (P:=l.prog) (w:=w) (base:=base) (rH CK X G Ye) B
 have gH:=oD (F6 CK X G Yg) B bg
 have kU:=vK (P:=l.prog) (w:=w) (base:=base) (rH CK X G Yh) B
 have kW:=vM (rH CK X G Yi) B pP mJ
 have da:=pk (rH CK X G Yl) B d4 d5 gY gZ e9
 have iC:=F0 (rH CK X G Yn) B gY gZ vN pQ
 have vP:=F4 (NO CK X G Yj) B da iC z6
 have fu:=lG mM B (En CK gJ) lH BB gH kU
 have jN:=sj (F6 CK X G Ym) B d4 d5 gY gZ e9
 have jM:=xY (P:=l.prog) (w:=w) (base:=base) z9 B (En CK oX) yh BB
 have vQ:=F5 (rH CK X G Yo) B d4 d5 jM mI e9
 have fb:=oE (X2 CK X G Yk) B fu jN da z7 iC vP vQ jL kW
 have dz:=xZ (P:=l.prog) (w:=w) (base:=base) (rH CK X G Yp) B
 have jO:=sk (P:=l.prog) (w:=w) (base:=base) (NO CK X G Yq) B
 have kX:=vR (P:=l.prog) (w:=w) (base:=base) (NO CK X G Yr) B
 have jR:=ya (rH CK X G Ys) B jO kX
 have mL:=yb (P:=l.prog) (w:=w) (base:=base) (F6 CK X G Yt) B
 have jP:=yc (P:=l.prog) (w:=w) (base:=base) (F6 CK X G Yu) B
 have mK:=yd (P:=l.prog) (w:=w) (base:=base) (F6 CK X G Yv) B
 have iD:=vS (P:=l.prog) (w:=w) (base:=base) (F6 CK X G Yw) B
 have dH:=rB (P:=l.prog) (w:=w) (base:=base) (rH CK X G Yx) B
 have eV:=rC (NO CK X G Yy) B dH iD
 have g0:=so (P:=l.prog) (w:=w) (base:=base) (F6 CK X G Yz) B
 have cv:=ye (rH CK X G YA) B dH
 have cF:=vU (P:=l.prog) (w:=w) (base:=base) (rH CK X G YB) B
 have dw:=sr (NO CK X G YC) B cF
 have kY:=vV (rH CK X G YD) B dw
 have jQ:=yf (X3 CK X G YE) B cF dw
 have iQ:=rD (NO CK X G YF) B cv
 have iE:=vW (NO CK X G YG) B jP eV cv iQ jQ kY cF mK fb
 exact NN (P:=l.prog) (w:=w) (base:=base) (CK.func (dN (st:=lM) F7.l F7.c F7.k)) B iE dz mL jR g0
theorem walk {l:PySem.W.OpenLaw} {q:Program} {loose:List Str} {XP:(Str->Option Value)->Heap->Prop} {YP:World->Heap->Prop} {d:DefRec} {K:Params->PySem.W.Frag} (hn:l.most=some 63) (O2:d.params.defaults=[])
  (hY:∀ (w:World) (h:Heap),YP w h->(K w.params).In h /\ ∀ p y q,(p,y,q)∈bY->h.get? p=some (PySem.W.tabObj #[]))
  (F:∀ (w:World) (mg:Str->Option Value) (fa:Addr) (h:Heap),(K w.params).In h->h.Ns mainGlobals mg->mg d.name=some (.ref fa)->
   hJ (K w.params) /\ xc (K w.params) /\ ∃ fd:FuncData,(∀ (s:Shared) (u:Value),BindsTo s fd ⟨[u],[]⟩ [("_law_script",u)]) /\ ∀ base:Heap,(dU (K w.params)).In base->base.Ns mainGlobals mg->HL mg base->lQ l.prog w (dU (K w.params)) mg base o6 10 fa fd ["_law_script"] (iU (dU (K w.params)) 1 tz)):
  PySem.W.WalkO q loose XP YP l.row.toRowW d [] (λf vs=>PySem.call f vs):=
 L2.Eo (n:=63) (k:=10) (x:="_law_script") (sp:=λw=>iU (dU (K w.params)) 1 tz) hn (by decide) O2 ⟨rfl,by decide,by decide⟩ hY F (λ_ _ a ns hl hS hC hT=>⟨rfl,[],[.list (ns.map PyData.int)],.bool true,⟨λ_ z=>by simp at z,hC,hT⟩,by rw [qd]; exact .cons (.lst hS (cg.ints ns)) .nil,FL ns hl,λv H' s h=>by cases h; exact ⟨rfl,s⟩⟩)
end au
open PySem PySem.W PyProof.Rows
set_option tactic.hygienic true
set_option maxRecDepth 100000 in
set_option maxHeartbeats 0 in
theorem PySem.Challenge.cw_lotdraw_k47_rule_by_ratio_holds : PySem.Challenge.rw_lotdraw_k47_rule_by_ratio.Holds := by
 w_on; o_law
 refine PySem.W.holds_open (q:=au.v7) (loose:=[]) (Xt:=au.UD) (XP:=XL au.v7 []) (Yf:=Hook.obs (kmHook au.Oi au.Oj au.CT au.Ol)) (Ya:=Hook.val (kmHook au.Oi au.Oj au.CT au.Ol)) (YP:=Hook.says (kmHook au.Oi au.Oj au.CT au.Ol)) (N:=4344) (Hd.Bt ?h1 rfl (λ_=>rfl) au.Gx au.Gy) (Hook.of _) (Hook.keeps _) (λs e=>xl_of s (Bool.and_eq_true_iff.mp e).1) XL.keeps (by rfl) (by rfl) (by rfl) (λs e=>recFacts_of (Bool.and_eq_true_iff.mp e).2) rfl (by first | assumption | decide +kernel) (by decide +kernel) ⟨rfl,rfl,rfl,rfl,rfl,by decide +kernel⟩ ?hw ?hc
 case h1=>kernel_rfl
 case hw=>w_witness2
 k_fill
 refine au.walk (l:=PySem.Challenge.rw_lotdraw_k47_rule_by_ratio) rfl rfl (λw h Y=>⟨PySem.W.km_in_of Y,λp y q m=>PySem.W.km_tabs_of Y p (L2.MW rfl m)⟩) ?F
 case F=>
  intro w mg fa h KX G O3
  refine' au.all_mk KX G O3 ?_ ?_ ?_ ?_ ?_ ?_ ?_ ?_ ?_ ?_ ?_ ?_ ?_ ?_ ?_ ?_ ?_ ?_ ?_ ?_ ?_ ?_ ?_ ?_ ?_ ?_ ?_ ?_ ?_ ?_ ?_ ?_ ?_ ?_ ?_ ?_ ?_ ?_ ?_ ?_ ?_ ?_ ?_ ?_ ?_ ?_ ?_ ?_ ?_ ?_ ?_ ?_ ?_ ?_ ?_ ?_ ?_ ?_ ?_ ?_ ?_ ?_ ?_ ?_ ?_ ?_ ?_ ?_ ?_ ?_ ?_ ?lt ?ct ?ne1_0 ?nl1_0 ?e24 ?_ ?_ ?e26 ?_ ?_
  all_goals try first | (refine' ⟨?x,?y,?z,?t⟩; (case x=>k_is); (case y=>k_is); (case z=>k_is); (case t=>k_is)) | (refine' ⟨_,_,_,_,_,_,_,_,_,_,?_,?_,?_,?_⟩<;>try k_is) | k_is
  (case lt=>rfl)
  (case ct=>rfl)
  (case ne1_0=>decide)
  (case nl1_0=>decide)
  (case e24=>rfl)
  (case e26=>rfl)
  all_goals kernel_rfl
end
