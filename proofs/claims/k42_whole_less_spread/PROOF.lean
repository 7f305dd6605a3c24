import PyProof.Rows.All
import Wide.All
import OpenK.AllK
import Wide.FinOn
import Lean
import PyProof.EqAt
import PyProof.EqKinds
import PyProof.TupleCall
import PySem.Challenge.RW_lotdraw_k42_whole_less_spread
set_option Elab.async false
set_option linter.all false
set_option maxRecDepth 100000
set_option tactic.hygienic false
noncomputable section
def acH:=@List.length_map
def acI:=@PySem.wpAny_bind
def acJ:=@Option.bind_some
def acK:=@List.mem_cons
def acL:=@List.getElem?_eq_getElem
def acM:=@PySem.Heap.get?_push_of_some
def acN:=@List.getElem?_eq_some_iff
def acO:=@List.mem_cons_of_mem
def acP:=@Bool.false_ne_true
def acQ:=@List.map_cons
def acR:=@List.mem_cons_self
def acS:=@List.getD_eq_getElem?_getD
def acT:=@PySem.wpAny_pure
def acU:=@if_pos
def acV:=@PySem.Heap.lt_size
def acW:=@if_neg
def acX:=@List.mem_append_right
def acY:=@PySem.W.mg_of
def acZ:=@decide_eq_false
def ac1:=@Nat.le_refl
def ac2:=@decide_eq_true
def ac3:=@List.length_cons
def ac4:=@List.size_toArray
def ac5:=@List.mem_map
def ac7:=@List.length_append
def ac8:=@PySem.Heap.get?_push_size
def ac9:=@List.getElem?_cons_zero
def ada:=@Nat.lt_of_lt_of_le
def adb:=@List.getElem?_map
def ade:=@List.map_append
def adf:=@List.getElem?_cons_succ
def adg:=@List.getElem?_set_ne
def adh:=@List.mem_append
def adi:=@PySem.PassesOwn.never
def adj:=@Nat.ne_of_lt
def adk:=@List.mem_of_getElem?
def adl:=@Int.mul_ne_zero
def adm:=@List.mem_singleton
def adn:=@PySem.F.plainAttrs_list
def ado:=@Nat.le_trans
def adp:=@Option.some.inj
def adq:=@Option.join_some
def ads:=@PySem.W.mg_none_of
def adt:=@decide_eq_true_eq
def adu:=@PySem.F.slot_list_append
def adv:=@List.mem_append_left
def adw:=@PySem.F.type_list_append
def adx:=@List.getElem?_set_self
def ady:=@List.map_map
def adz:=@List.not_mem_nil
def adA:=@Int.toNat_natCast
def adB:=@List.take_add_one
def adC:=@Bool.and_eq_true
def adD:=@List.pairwise_cons
def adE:=@List.take_length
def adF:=@List.length_take
def adG:=@PySem.wpAny_mono
def adH:=@List.filter_cons
def adI:=@List.length_singleton
def adJ:=@List.length_set
def adK:=@Nat.lt_irrefl
def adL:=@List.zip_cons_cons
def adM:=@PySem.Heap.get?_update_self
def adN:=@PySem.Heap.SameBut.update
def adO:=@PySem.W.kia_one
def adP:=@PySem.wpAny_newObj_type
def adQ:=@Array.getElem?_eq_getElem
def adR:=@PySem.Obj.data_mapFields
def adS:=@List.set_cons_zero
def adT:=@Option.map_some
def adU:=@List.mem_filter
def adV:=@List.append_nil
def adW:=@List.lookup_cons
def adX:=@Nat.lt_succ_self
def adY:=@List.map_congr_left
def adZ:=@PyProof.Rows.callWith_type1
def ad0:=@Nat.lt_of_le_of_lt
def ad1:=@List.set_cons_succ
def ad2:=@List.mem_of_mem_take
def ad3:=@PySem.Heap.get?_update_other
def ad4:=@List.getElem?_eq_none
def ad5:=@List.of_mem_zip
def ad6:=@PySem.F.called_set
def ad7:=@PySem.wpAny_callSpecial?_slot
def ad8:=@PySem.wpAny_call_entry
def ad9:=@Nat.mul_le_mul_right
def aea:=@Nat.pow_le_pow_right
def aeb:=@PySem.wpAny_truthy_bool
def aec:=@PySem.F.slot_tuple_iterator_next
def aef:=@PySem.Heap.size_push
def aeg:=@Nat.lt_succ_of_lt
def aeh:=@Nat.zero_add
def aei:=@List.replicate_succ
def aej:=@List.length_nil
def aek:=@Nat.zero_le
def ael:=@List.drop_eq_getElem_cons
def aem:=@List.length_replicate
def aep:=@List.length_filter_le
def aeq:=@Int.emod_lt_of_pos
def aer:=@Nat.le_of_lt
def aet:=@PySem.wpAny_holding
def aeu:=@congrArg
def aev:=@List.getElem?_zipIdx
def aew:=@List.append_assoc
def aex:=@Option.some.injEq
def aey:=@List.find?_cons
def aez:=@or_false
def aeA:=@List.getElem_of_mem
def aeB:=@PyProof.Rows.F.plain_set_update_loop
def aeF:=@Nat.add_le_add_left
def aeG:=@List.getElem_mem
def aeH:=@PySem.wpAny_setField
def aeI:=@List.getElem?_append_right
def aeJ:=@PySem.Obj.isFreed_of_fields
def aeK:=@PySem.wpAny_passesOwn
def aeL:=@PySem.codeAny_builtin
def aeM:=@Int.emod_nonneg
def aeN:=@List.length_zip
def aeO:=@List.flatten_cons
def aeP:=@PySem.wpAny_pyIter_enum
def aeQ:=@Nat.le_succ
def aeR:=@PySem.wpAny_setState_of
def aeS:=@List.nodup_append
def aeT:=@PySem.Around.under_plainId
def aeU:=@Int.mul_comm
def aeV:=@PySem.F.called_enumerate
def aeW:=@Ne.symm
def aeX:=@Array.length_toList
def aeY:=@PySem.mem_of_lookup
def aeZ:=@PySem.wpAny_setEntries_of
def ae0:=@List.reverse_append
def ae1:=@List.filter_eq_self
def ae2:=@PySem.wpAny_askSetting
def ae3:=@PySem.Value.type.inj
def ae4:=@List.cons_append
def ae5:=@List.countP_cons
def ae6:=@PySem.F.slot_list_extend
def ae7:=@Int.mul_pos
def ae8:=@Nat.ne_of_gt
def ae9:=@PySem.codeAny_mono
def afa:=@PySem.wpAny_Call_Name_kw
def afb:=@List.filter_append
def afc:=@List.nodup_cons
def afd:=@Int.gcd_pos_of_ne_zero_right
def afe:=@List.countP_map
def aff:=@Bool.true_and
def afg:=@List.length_range
def afh:=@PySem.wpAny_pyIter_list
def afi:=@PySem.wpAny_letOwnedTupleGo_enum
def afj:=@List.pairwise_append
def afk:=@List.perm_ext_iff_of_nodup
def afl:=@Nat.le_of_not_lt
def afm:=@List.drop_length
def afn:=@Int.mul_neg_of_neg_of_pos
def afo:=@List.getElem?_range
def afp:=@PyProof.Rows.F.entry_set_update_loop
def afq:=@Int.mul_fdiv_cancel
def afs:=@Int.toNat_of_nonneg
def aft:=@List.filter_sublist
def afu:=@PySem.wpAny_standAt
def afv:=@PySem.F.args_tuple_add_2
def afw:=@List.any_cons
def afx:=@Prod.mk.injEq
def afy:=@PySem.F.type_list_extend
def afz:=@PySem.F.args_tuple_iterator_next_1
def afA:=@List.length_zipIdx
def afB:=@Int.natAbs_natCast
def afC:=@PySem.F.entry_tuple_add
def afE:=@List.length_eq_zero_iff
def afG:=@List.filter_cons_of_neg
def afH:=@List.filter_cons_of_pos
def afI:=@PySem.F.entry_tuple_iterator_next
def afJ:=@Option.map_eq_some_iff
def afK:=@List.mem_range
def afL:=@PySem.F.slot_tuple_add
def afM:=@List.map_nil
def afN:=@if_true
def afO:=@PySem.Calls.callWith_builtin
def afP:=@PySem.Obj.cls_mapFields
def afR:=@PySem.isSubtype_type
def afS:=@Array.getElem?_eq_none
def afT:=@Int.add_zero
def afU:=@Int.lt_trichotomy
def afV:=@List.reverse_singleton
def afW:=@List.flatMap_singleton
def afX:=@PySem.F.slot_dict_get
def afY:=@List.countP_le_length
def afZ:=@PySem.wpAny_rule
def af0:=@List.all_eq_true
def af1:=@Nat.le_add_right
def af2:=@Int.mul_le_mul_of_nonneg_right
def af3:=@PySem.plainId_quiet
def af4:=@Int.mul_one
def af5:=@PySem.codeAny_call_builtin
def af6:=@Int.mul_le_mul_of_nonneg_left
def af8:=@PySem.wpAny_execs_nil
def af9:=@List.nil_append
def aga:=@Bool.eq_iff_iff
def agb:=@Nat.le_antisymm
def agd:=@List.zipIdx_map
def age:=@beq_eq_false_iff_ne
def agf:=@PySem.F.slot_list_pop
def agg:=@List.length_pos_iff
def agh:=@Nat.mul_le_mul_left
def agi:=@Int.mul_ediv_cancel
def agj:=@List.flatMap_append
def agl:=@Int.ne_of_gt
def agm:=@Int.pow_succ
def agn:=@Int.mul_zero
def agp:=@Bool.false_and
def agr:=@PySem.call_meets
def agt:=@Array.append_empty
def agu:=@PySem.wpAny_seqItems
def agv:=@PySem.wpAny_fieldsOf
def agx:=@Int.natAbs_mul
def agz:=@Nat.one_le_two_pow
def agA:=@List.map_replicate
def agB:=@List.countP_append
def agC:=@Nat.mul_le_mul
def agG:=@PySem.W.kitx_list
def agH:=@List.take_sublist
def agI:=@PySem.wpAny_of_eq
def agJ:=@List.pairwise_map
def agL:=@List.foldl_append
def agM:=@Nat.gcd_dvd_right
def agN:=@Int.gcd_one_right
def agP:=@List.all_cons
def agQ:=@not_or
def agT:=@Nat.le_of_dvd
def agX:=@if_false
def ag0:=@Nat.succ_ne_self
def ag2:=@List.ext_getElem
def ag4:=@List.any_eq_true
def ahc:=@Int.zero_add
def ahd:=@Int.le_trans
namespace L2
open PySem
def j9 (s:Stmt):Arguments:=match s with
 | .FunctionDef _ a _ _ _ _ _ _ _ _=>a
 | _=>{ posonlyargs:=[],args:=[],vararg:=none,kwonlyargs:=[],kw_defaults:=[],kwarg:=none,defaults:=[] }
def fL (s:Stmt):List Stmt:=match s with
 | .FunctionDef _ _ b _ _ _ _ _ _ _=>b
 | _=>[]
def ah (s:Stmt):Scope:=match s with
 | .FunctionDef _ _ _ _ _ _ sc _ _ _=>sc
 | _=>{ kind:=.function,names:=[],isGenerator:=false,isCoroutine:=false }
end L2
namespace Hd
open PySem PySem.W
def zv (tb:String->Option Builtin) (p:Program) (w:World) (m:Nat) (ann:Option Value):Nat->SharedT->Thread->Option SharedT
 | 0,_,_=>none
 | n + 1,s,t=>match through t with
   | true=>some s
   | false=>match stepOk m ann t with
     | false=>none
     | true=>match stepT (denote tb) p w s t with
       | some (s',t')=>zv tb p w m ann n s' t'
       | none=>none
theorem Bu {tb:String->Option Builtin} {p:Program} {w:World} {m:Nat} {ann:Option Value}:∀ {n:Nat} {s s':SharedT} {t:Thread},zv tb p w m ann n s t=some s'->topRun tb p w m ann n s.abs t=some s'.abs
 | 0,_,_,_,h=>by cases h
 | n + 1,s,s',t,h=>by
   unfold zv at h
   unfold topRun
   cases he:through t with
   | true=>rw [he] at h; cases h; rfl
   | false=>
     rw [he] at h
     cases hk:stepOk m ann t with
     | false=>rw [hk] at h; cases h
     | true=>
       rw [hk] at h
       cases hs:stepT (denote tb) p w s t with
       | none=>rw [hs] at h; cases h
       | some r=>obtain ⟨s2,t2⟩:=r; rw [hs] at h; rw [stepT_spec hs]; exact Bu h
def EH (P:Params):BT:=(.node (boot_o_0 P) (.node (boot_o_1 P) (.node (boot_o_3 P) (.node (boot_o_7 P) .nil .nil) .nil) (.node (boot_o_5 P) (.node (boot_o_9 P) .nil .nil) .nil)) (.node (boot_o_2 P) (.node (boot_o_4 P) (.node (boot_o_8 P) .nil .nil) .nil) (.node (boot_o_6 P) (.node (boot_o_10 P) .nil .nil) .nil)))
theorem boot_abs (P:Params):boot_heap P=absHeap (EH P) 11 (boot_heap P).life:=by kernel_rfl
def xu (w:World) (os:OsState):SharedT:=⟨EH w.params,11,(boot_heap w.params).life,Array.mk [],boot_drawn,boot_toks,os⟩
theorem IV (w:World) (os:OsState):(xu w os).abs=⟨boot_heap w.params,Array.mk [],boot_drawn,boot_toks,os⟩:=by
 show Shared.mk (absHeap (EH w.params) 11 (boot_heap w.params).life) _ _ _ _=_
 rw [<- boot_abs]; rfl
theorem CN (P:Params):((boot_heap P).isNs mainGlobals,(boot_heap P).objs.size,(boot_heap P).nsMap mainGlobals "__annotations__")=(true,11,some (.ref 6)):=by kernel_rfl
theorem CO {p q:Program} {loose:List Str} {Xt:Shared->Bool} {α:Type} {Yf:Shared->α} {Ya:World->α} {N:Nat} (e:opening p=plainProg p.main.scope.names) (hN:Nat.ble 600 N=true) (f:∀ s,fenceModules? p s=some s)
  (one:∀ (w:World) (os:OsState),(zv treeTable p w 11 (some (.ref 6)) N (xu w os) (topStub p)).map (λs=>((staticsOk (importedModules p.main.body) (boot_heap w.params) s.abs.heap && namesBound p s.abs.heap && gensDone s.abs && laidKept (boot_heap w.params) s.abs.heap),Yf s.abs))=some (true,Ya w))
  (two:∀ (w:World) (os:OsState),(zv treeTable p w 11 (some (.ref 6)) N (xu w os) (topStub p)).map (λs=>openSeen q loose (importedModules p.main.body) Xt true s.abs)=some (openGood q loose)):
  LeftO p q loose Xt Yf Ya N:=λw=>by
 obtain ⟨⟨h,gs,d,k,os⟩,e1,e2⟩:=afJ.mp (boot_open e hN f w)
 obtain ⟨rfl,rfl,rfl,rfl⟩:h=boot_heap w.params /\ gs=Array.mk [] /\ d=boot_drawn /\ k=boot_toks:=by simpa using e2
 obtain ⟨s,r,l⟩:=afJ.mp (one w os)
 obtain ⟨l1,l3⟩:_ /\ _:=by simpa only [Prod.mk.injEq] using l
 have l2:openSeen q loose (importedModules p.main.body) Xt true s.abs=openGood q loose:=by
  have:=two w os
  rw [r] at this
  exact adp this
 obtain ⟨z1,z2,z3⟩:_ /\ _ /\ _:=by simpa only [Prod.mk.injEq] using CN w.params
 have r':=Bu r
 rw [IV] at r'
 have t:topFrom treeTable p w N ⟨boot_heap w.params,Array.mk [],boot_drawn,boot_toks,os⟩=some s.abs:=by
  unfold topFrom
  dsimp only
  rw [z1,z2,z3,r']
  show (match staticsOk (importedModules p.main.body) (boot_heap w.params) s.abs.heap && namesBound p s.abs.heap && gensDone s.abs && laidKept (boot_heap w.params) s.abs.heap with | true=>_ | false=>_)=_
  rw [l1]
 unfold openEnds
 rw [e1]
 show (topFrom treeTable p w N ⟨boot_heap w.params,Array.mk [],boot_drawn,boot_toks,os⟩).map _=_
 rw [t,adT,l2,l3]
end Hd
namespace aA
open PySem PySem.W L2
def top (i:Nat):Stmt:=PySem.Challenge.pw_lotdraw_k42_whole_less_spread.main.body.getD i (.Pass ⟨0,0,0,0⟩)
def xw:Program:={ PySem.Challenge.pw_lotdraw_k42_whole_less_spread with main:={ PySem.Challenge.pw_lotdraw_k42_whole_less_spread.main with body:=[top 1,top 2,top 3,top 4,top 5,top 7,top 8,top 9,top 10,top 11,top 12,top 13,top 14,top 15,top 16,top 17,top 19,top 20,top 21,top 22,top 23,top 24,top 26,top 27,top 28,top 29,top 30,top 32,top 34,top 35,top 36,top 37,top 39,top 40,top 41,top 42,top 43,top 44,top 46,top 47,top 49,top 50,top 52,top 53,top 54,top 55,top 56,top 57,top 58,top 59,top 60,top 61,top 62,top 63,top 64,top 65,top 66,top 67,top 68,top 69] } }
abbrev ent (P:Params) (k:Str) (n:Nat) (v:Value):DictEntry:=⟨PyData.keyHash P k,.str k n,v⟩
abbrev Tb (P:Params):=λx0 x1 x2 x3 x4 x5 x6=>(⟨(.type "dict"),none,(.dict #[(ent P "__module__" x0 (.str "lotdraw.errors" 187)),(ent P "__firstlineno__" x1 (.int x2 x3)),(ent P "__static_attributes__" x4 (.ref x5)),(ent P "__doc__" x6 .none)] 2),#[]⟩:Obj)
abbrev EI (P:Params):=λx0 x1 x2 x3 x4 x5=>(⟨(.type "type"),none,(.cls ⟨x0,[(.ref 24)],[(.ref x1),(.ref 24),(.type "ValueError"),(.type "Exception"),(.type "BaseException"),(.type "object")],x2,x0,true,[],[],false,none,false⟩),#[(some (.ref x3)),none,(some (.str x0 x4)),(some (.str x0 x5)),(some (.builtin "ValueError.__new__")),(some (.bool true))]⟩:Obj)
abbrev iY (P:Params):=λx0 x1 x2 x3 x4 x5 x6 x7 x8 x9 Bv xo tH=>(⟨(.type "code"),none,(.fields #[(.str x0 x1),(.str x0 x2),(.str "/claim/cut.py" x3),(.int x4 0),(.int x5 0),(.int 0 0),(.int 0 0),(.int 3 0),(.ref x6),(.bool true),(.int 181 0),(.ref x7),.none,(.ref x8),(.ref x9),(.ref Bv),(.int xo 0),(.int x4 0),(.str "/claim/cut.py" tH)]),#[]⟩:Obj)
abbrev iQ (P:Params):=λx0 x1 x2 x3 x4=>(⟨(.type "function"),none,.func (fnOf x0 x0 (j9 (top x1)) (fL (top x1)) (ah (top x1)) .none .none .none (.str x2 x3) none (.ref x4) .none),#[]⟩:Obj)
abbrev vd (P:Params):=λx0 x1 x2 x3 x4 x5 x6 x7 x8 x9 Bv=>(⟨(.type "code"),none,(.fields #[(.str x0 x1),(.str x0 x2),(.str "/claim/cut.py" x3),(.int x4 0),(.int x5 0),(.int 0 0),(.int 0 0),(.int 3 0),(.ref x6),(.bool true),(.int 181 0),(.ref x7),.none,.none,.none,(.ref x8),(.int x9 0),(.int x4 0),(.str "/claim/cut.py" Bv)]),#[]⟩:Obj)
def Qq:Params->Frag:=λP=>(nat_lit 2,⟨.none,none,(.dict #[] 0),#[]⟩) ::
 (nat_lit 3,⟨(.type "dict"),none,(.dict #[(ent P "__name__" 165 (.str "law_lotdraw_k42_whole_less_spread" 560)),(ent P "__doc__" 166 .none),(ent P "__package__" 167 .none),(ent P "__loader__" 168 (.builtin "__main__.__loader__#opaque")),(ent P "__spec__" 169 .none),(ent P "__annotations__" 170 (.ref 6)),(ent P "__builtins__" 171 (.ref 4)),(ent P "__file__" 173 (.str "/claim/cut.py" 172)),(ent P "__cached__" 174 .none),(ent P "LotError" 206 (.ref 24)),(ent P "NoNumber" 222 (.ref 37)),(ent P "TooMany" 238 (.ref 49)),(ent P "NoRow" 254 (.ref 61)),(ent P "NoTelling" 270 (.ref 73)),(ent P "LONG" 274 (.int 4000 273)),(ent P "WINDOW" 276 (.int 240 275)),(ent P "SHED" 278 (.int 120 277)),(ent P "frac" 287 (.ref 82)),(ent P "plus" 299 (.ref 89)),(ent P "minus" 307 (.ref 96)),(ent P "times" 317 (.ref 103)),(ent P "over" 325 (.ref 110)),(ent P "power" 336 (.ref 117)),(ent P "greatest_divisor" 346 (.ref 124)),(ent P "leap" 359 (.ref 131)),(ent P "goes_on" 370 (.ref 138)),(ent P "come_to" 376 (.ref 143)),(ent P "ends" 382 (.ref 148)),(ent P "drawn_on" 388 (.ref 153)),(ent P "led_to" 394 (.ref 158)),(ent P "after" 402 (.ref 165)),(ent P "NOUGHT" 407 (.ref 166)),(ent P "of_count" 418 (.ref 173)),(ent P "trimmed" 426 (.ref 180)),(ent P "common_bottom" 435 (.ref 187)),(ent P "tops_over" 441 (.ref 192)),(ent P "ways_from" 455 (.ref 199)),(ent P "MOST_ROWS" 459 (.int 4000 458)),(ent P "rows_of" 465 (.ref 204)),(ent P "end_of" 475 (.ref 211)),(ent P "rows_behind" 485 (.ref 218)),(ent P "shares" 493 (.ref 223)),(ent P "averaged" 499 (.ref 228)),(ent P "left_within" 505 (.ref 233)),(ent P "left_in" 511 (.ref 238)),(ent P "by_end" 517 (.ref 243)),(ent P "sum_of_all" 526 (.ref 250)),(ent P "mean_of" 534 (.ref 255)),(ent P "check_telling" 542 (.ref 262)),(ent P "stretches" 553 (.ref 269)),(ent P "is_side_by_side" 559 (.ref 274)),(ent P "_law_cell" 569 (.ref 281)),(ent P "_law_digits" 580 (.ref 288)),(ent P "_law_mixes" 592 (.ref 295)),(ent P "_law_plan" 598 (.ref 300)),(ent P "_law_most" 605 (.ref 307)),(ent P "_law_ends" 611 (.ref 312)),(ent P "_law_rows" 622 (.ref 319)),(ent P "_law_power" 628 (.ref 324)),(ent P "_law_whole" 635 (.ref 331)),(ent P "_law_divisor" 643 (.ref 338)),(ent P "_law_frac" 652 (.ref 345)),(ent P "_law_plus" 660 (.ref 352)),(ent P "_law_times" 668 (.ref 359)),(ent P "_law_values" 674 (.ref 364)),(ent P "_law_mean" 683 (.ref 371)),(ent P "_law_telling" 689 (.ref 376)),(ent P "_law_summed" 702 (.ref 383)),(ent P "law" 708 (.ref 388))] 69),#[]⟩) ::
 (nat_lit 23,⟨(.type "dict"),none,(.dict #[(ent P "__module__" 196 (.str "lotdraw.errors" 187)),(ent P "__firstlineno__" 200 (.int 2 199)),(ent P "__static_attributes__" 201 (.ref 22)),(ent P "__weakref__" 203 (.ref 25)),(ent P "__doc__" 204 .none)] 3),#[]⟩) ::
 (nat_lit 24,⟨(.type "type"),none,(.cls ⟨"LotError",[(.type "ValueError")],[(.ref 24),(.type "ValueError"),(.type "Exception"),(.type "BaseException"),(.type "object")],23,"LotError",true,[],[(.ref 37),(.ref 49),(.ref 61),(.ref 73)],false,none,false⟩),#[(some (.ref 15)),none,(some (.str "LotError" 189)),(some (.str "LotError" 197)),(some (.builtin "ValueError.__new__")),(some (.bool true))]⟩) ::
 (nat_lit 25,⟨(.type "getset_descriptor"),none,(.fields #[(.str "__weakref__" 202),(.ref 24),(.builtin "ExceptionGroup.__weakref__"),.none]),#[]⟩) ::
 (nat_lit 36,Tb P 214 218 4 217 219 35 220) ::
 (nat_lit 37,EI P "NoNumber" 37 36 28 207 215) ::
 (nat_lit 48,Tb P 230 234 6 233 235 47 236) ::
 (nat_lit 49,EI P "TooMany" 49 48 40 223 231) ::
 (nat_lit 60,Tb P 246 250 8 249 251 59 252) ::
 (nat_lit 61,EI P "NoRow" 61 60 52 239 247) ::
 (nat_lit 72,Tb P 262 266 10 265 267 71 268) ::
 (nat_lit 73,EI P "NoTelling" 73 72 64 255 263) ::
 (nat_lit 81,iY P "frac" 279 280 281 16 2 76 77 78 79 80 285 286) ::
 (nat_lit 82,iQ P "frac" 10 "lotdraw.fracs" 271 81) ::
 (nat_lit 88,iY P "plus" 288 289 290 23 2 83 84 85 86 87 297 298) ::
 (nat_lit 89,iQ P "plus" 11 "lotdraw.fracs" 271 88) ::
 (nat_lit 95,iY P "minus" 300 301 302 29 2 90 91 92 93 94 305 306) ::
 (nat_lit 96,iQ P "minus" 12 "lotdraw.fracs" 271 95) ::
 (nat_lit 102,iY P "times" 308 309 310 31 2 97 98 99 100 101 315 316) ::
 (nat_lit 103,iQ P "times" 13 "lotdraw.fracs" 271 102) ::
 (nat_lit 109,iY P "over" 318 319 320 35 2 104 105 106 107 108 323 324) ::
 (nat_lit 110,iQ P "over" 14 "lotdraw.fracs" 271 109) ::
 (nat_lit 116,iY P "power" 326 327 328 37 2 111 112 113 114 115 334 335) ::
 (nat_lit 117,iQ P "power" 15 "lotdraw.fracs" 271 116) ::
 (nat_lit 123,iY P "greatest_divisor" 337 338 339 44 2 118 119 120 121 122 344 345) ::
 (nat_lit 124,iQ P "greatest_divisor" 16 "lotdraw.fracs" 271 123) ::
 (nat_lit 130,iY P "leap" 347 348 349 56 2 125 126 127 128 129 357 358) ::
 (nat_lit 131,iQ P "leap" 17 "lotdraw.fracs" 271 130) ::
 (nat_lit 137,iY P "goes_on" 362 363 364 67 2 132 133 134 135 136 368 369) ::
 (nat_lit 138,iQ P "goes_on" 19 "lotdraw.plans" 360 137) ::
 (nat_lit 142,vd P "come_to" 371 372 373 70 1 139 140 141 374 375) ::
 (nat_lit 143,iQ P "come_to" 20 "lotdraw.plans" 360 142) ::
 (nat_lit 147,vd P "ends" 377 378 379 75 1 144 145 146 380 381) ::
 (nat_lit 148,iQ P "ends" 21 "lotdraw.plans" 360 147) ::
 (nat_lit 152,vd P "drawn_on" 383 384 385 77 1 149 150 151 386 387) ::
 (nat_lit 153,iQ P "drawn_on" 22 "lotdraw.plans" 360 152) ::
 (nat_lit 157,vd P "led_to" 389 390 391 82 1 154 155 156 392 393) ::
 (nat_lit 158,iQ P "led_to" 23 "lotdraw.plans" 360 157) ::
 (nat_lit 164,iY P "after" 395 396 397 84 2 159 160 161 162 163 400 401) ::
 (nat_lit 165,iQ P "after" 24 "lotdraw.plans" 360 164) ::
 (nat_lit 166,⟨(.type "tuple"),none,(.seq #[(.int 0 405),(.int 1 406)] 0),#[]⟩) ::
 (nat_lit 172,iY P "of_count" 408 409 410 90 2 167 168 169 170 171 416 417) ::
 (nat_lit 173,iQ P "of_count" 27 "lotdraw.polys" 403 172) ::
 (nat_lit 179,iY P "trimmed" 419 420 421 97 1 174 175 176 177 178 424 425) ::
 (nat_lit 180,iQ P "trimmed" 28 "lotdraw.polys" 403 179) ::
 (nat_lit 186,iY P "common_bottom" 427 428 429 102 1 181 182 183 184 185 433 434) ::
 (nat_lit 187,iQ P "common_bottom" 29 "lotdraw.polys" 403 186) ::
 (nat_lit 191,vd P "tops_over" 436 437 438 107 2 188 189 190 439 440) ::
 (nat_lit 192,iQ P "tops_over" 30 "lotdraw.polys" 403 191) ::
 (nat_lit 198,iY P "ways_from" 444 445 446 110 2 193 194 195 196 197 453 454) ::
 (nat_lit 199,iQ P "ways_from" 32 "lotdraw.ways" 442 198) ::
 (nat_lit 203,vd P "rows_of" 460 461 462 119 1 200 201 202 463 464) ::
 (nat_lit 204,iQ P "rows_of" 35 "lotdraw.rows" 456 203) ::
 (nat_lit 210,iY P "end_of" 466 467 468 124 2 205 206 207 208 209 473 474) ::
 (nat_lit 211,iQ P "end_of" 36 "lotdraw.rows" 456 210) ::
 (nat_lit 217,iY P "rows_behind" 476 477 478 133 3 212 213 214 215 216 483 484) ::
 (nat_lit 218,iQ P "rows_behind" 37 "lotdraw.rows" 456 217) ::
 (nat_lit 222,vd P "shares" 488 489 490 140 1 219 220 221 491 492) ::
 (nat_lit 223,iQ P "shares" 39 "lotdraw.tellings" 486 222) ::
 (nat_lit 227,vd P "averaged" 494 495 496 144 2 224 225 226 497 498) ::
 (nat_lit 228,iQ P "averaged" 40 "lotdraw.tellings" 486 227) ::
 (nat_lit 232,vd P "left_within" 500 501 502 146 2 229 230 231 503 504) ::
 (nat_lit 233,iQ P "left_within" 41 "lotdraw.tellings" 486 232) ::
 (nat_lit 237,vd P "left_in" 506 507 508 148 1 234 235 236 509 510) ::
 (nat_lit 238,iQ P "left_in" 42 "lotdraw.tellings" 486 237) ::
 (nat_lit 242,vd P "by_end" 512 513 514 151 2 239 240 241 515 516) ::
 (nat_lit 243,iQ P "by_end" 43 "lotdraw.tellings" 486 242) ::
 (nat_lit 249,iY P "sum_of_all" 518 519 520 162 1 244 245 246 247 248 524 525) ::
 (nat_lit 250,iQ P "sum_of_all" 44 "lotdraw.tellings" 486 249) ::
 (nat_lit 254,vd P "mean_of" 529 530 531 168 2 251 252 253 532 533) ::
 (nat_lit 255,iQ P "mean_of" 46 "lotdraw.odds" 527 254) ::
 (nat_lit 261,iY P "check_telling" 535 536 537 177 2 256 257 258 259 260 540 541) ::
 (nat_lit 262,iQ P "check_telling" 47 "lotdraw.odds" 527 261) ::
 (nat_lit 268,iY P "stretches" 545 546 547 181 1 263 264 265 266 267 551 552) ::
 (nat_lit 269,iQ P "stretches" 49 "lotdraw.only" 543 268) ::
 (nat_lit 273,vd P "is_side_by_side" 554 555 556 189 1 270 271 272 557 558) ::
 (nat_lit 274,iQ P "is_side_by_side" 50 "lotdraw.only" 543 273) ::
 (nat_lit 280,iY P "_law_cell" 562 563 564 192 2 275 276 277 278 279 567 568) ::
 (nat_lit 281,iQ P "_law_cell" 52 "law_lotdraw_k42_whole_less_spread" 560 280) ::
 (nat_lit 287,iY P "_law_digits" 570 571 572 196 3 282 283 284 285 286 578 579) ::
 (nat_lit 288,iQ P "_law_digits" 53 "law_lotdraw_k42_whole_less_spread" 560 287) ::
 (nat_lit 294,iY P "_law_mixes" 581 582 583 202 3 289 290 291 292 293 590 591) ::
 (nat_lit 295,iQ P "_law_mixes" 54 "law_lotdraw_k42_whole_less_spread" 560 294) ::
 (nat_lit 299,vd P "_law_plan" 593 594 595 208 2 296 297 298 596 597) ::
 (nat_lit 300,iQ P "_law_plan" 55 "law_lotdraw_k42_whole_less_spread" 560 299) ::
 (nat_lit 311,vd P "_law_ends" 606 607 608 230 1 308 309 310 609 610) ::
 (nat_lit 312,iQ P "_law_ends" 57 "law_lotdraw_k42_whole_less_spread" 560 311) ::
 (nat_lit 318,iY P "_law_rows" 612 613 614 239 1 313 314 315 316 317 620 621) ::
 (nat_lit 319,iQ P "_law_rows" 58 "law_lotdraw_k42_whole_less_spread" 560 318) ::
 (nat_lit 323,vd P "_law_power" 623 624 625 251 2 320 321 322 626 627) ::
 (nat_lit 324,iQ P "_law_power" 59 "law_lotdraw_k42_whole_less_spread" 560 323) ::
 (nat_lit 330,iY P "_law_whole" 629 630 631 256 1 325 326 327 328 329 633 634) ::
 (nat_lit 331,iQ P "_law_whole" 60 "law_lotdraw_k42_whole_less_spread" 560 330) ::
 (nat_lit 337,iY P "_law_divisor" 636 637 638 258 2 332 333 334 335 336 641 642) ::
 (nat_lit 338,iQ P "_law_divisor" 61 "law_lotdraw_k42_whole_less_spread" 560 337) ::
 (nat_lit 344,iY P "_law_frac" 644 645 646 262 2 339 340 341 342 343 650 651) ::
 (nat_lit 345,iQ P "_law_frac" 62 "law_lotdraw_k42_whole_less_spread" 560 344) ::
 (nat_lit 351,iY P "_law_plus" 653 654 655 265 2 346 347 348 349 350 658 659) ::
 (nat_lit 352,iQ P "_law_plus" 63 "law_lotdraw_k42_whole_less_spread" 560 351) ::
 (nat_lit 358,iY P "_law_times" 661 662 663 267 2 353 354 355 356 357 666 667) ::
 (nat_lit 359,iQ P "_law_times" 64 "law_lotdraw_k42_whole_less_spread" 560 358) ::
 (nat_lit 363,vd P "_law_values" 669 670 671 269 2 360 361 362 672 673) ::
 (nat_lit 364,iQ P "_law_values" 65 "law_lotdraw_k42_whole_less_spread" 560 363) ::
 (nat_lit 370,iY P "_law_mean" 675 676 677 276 1 365 366 367 368 369 681 682) ::
 (nat_lit 371,iQ P "_law_mean" 66 "law_lotdraw_k42_whole_less_spread" 560 370) ::
 (nat_lit 375,vd P "_law_telling" 684 685 686 281 3 372 373 374 687 688) ::
 (nat_lit 376,iQ P "_law_telling" 67 "law_lotdraw_k42_whole_less_spread" 560 375) ::
 (nat_lit 382,iY P "_law_summed" 690 691 692 297 2 377 378 379 380 381 700 701) ::
 (nat_lit 383,iQ P "_law_summed" 68 "law_lotdraw_k42_whole_less_spread" 560 382) ::
 (nat_lit 387,vd P "law" 703 704 705 306 1 384 385 386 706 707) ::
 (nat_lit 388,iQ P "law" 69 "law_lotdraw_k42_whole_less_spread" 560 387) ::
 []
def Qr:List Addr:=[2,3,23,24,25,36,37,48,49,60,61,72,73,81,82,88,89,95,96,102,103,109,110,116,117,123,124,130,131,137,138,142,143,147,148,152,153,157,158,164,165,166,172,173,179,180,186,187,191,192,198,199,203,204,210,211,217,218,222,223,227,228,232,233,237,238,242,243,249,250,254,255,261,262,268,269,273,274,280,281,287,288,294,295,299,300,311,312,318,319,323,324,330,331,337,338,344,345,351,352,358,359,363,364,370,371,375,376,382,383,387,388]
set_option maxHeartbeats 0
theorem EJ (P:Params):Qr=(Qq P).map (·.1):=by kernel_rfl
theorem IW (w:World) (os:OsState):(Hd.zv treeTable PySem.Challenge.pw_lotdraw_k42_whole_less_spread w 11 (some (.ref 6)) 5420 (Hd.xu w os) (topStub PySem.Challenge.pw_lotdraw_k42_whole_less_spread)).map (λs=>((staticsOk (importedModules PySem.Challenge.pw_lotdraw_k42_whole_less_spread.main.body) (boot_heap w.params) s.abs.heap && namesBound PySem.Challenge.pw_lotdraw_k42_whole_less_spread s.abs.heap && gensDone s.abs && laidKept (boot_heap w.params) s.abs.heap),Qr.map s.abs.heap.get?))=some (true,(Qq w.params).map λp=>some p.2):=by kernel_rfl
abbrev hpX:Shared->Bool:=λs=>xlAt xw [] s && recOk (RowW.records (OpenRow.toRowW (OpenLaw.row PySem.Challenge.rw_lotdraw_k42_whole_less_spread))) s
theorem IX (w:World) (os:OsState):(Hd.zv treeTable PySem.Challenge.pw_lotdraw_k42_whole_less_spread w 11 (some (.ref 6)) 5420 (Hd.xu w os) (topStub PySem.Challenge.pw_lotdraw_k42_whole_less_spread)).map (λs=>openSeen xw [] (importedModules PySem.Challenge.pw_lotdraw_k42_whole_less_spread.main.body) hpX true s.abs)=some (openGood xw []):=by kernel_rfl
end aA
set_option maxHeartbeats 4000000
namespace L2
open PySem PySem.Spec PyProof.Rows
abbrev Key:=Sum Int Str
def uj:Key->Value->Bool
 | .inl k,v=>Value.isInt k v
 | .inr x,v=>Value.isStrOf x v
def UM (w:World):Key->Int
 | .inl k=>hashInt k
 | .inr x=>hashStr w x
theorem c8:∀ {k:Key} {v:Value},uj k v=true->(∃ i t,k=Sum.inl i /\ v=Value.int i t) \/ (∃ x t,k=Sum.inr x /\ v=Value.str x t)
 | .inl i,v,h=>by
   obtain ⟨t,e⟩:=Value.isInt_shape (k:=i) (v:=v) h
   exact .inl ⟨i,t,rfl,e⟩
 | .inr x,v,h=>by
   obtain ⟨t,e⟩:=Value.isStrOf_shape (x:=x) (v:=v) h
   exact .inr ⟨x,t,rfl,e⟩
theorem CP (i:Int) (t:Tok):uj (.inl i) (.int i t)=true:=by simp [uj,Value.isInt]
theorem CQ (x:Str) (t:Tok):uj (.inr x) (.str x t)=true:=by simp [uj,Value.isStrOf]
theorem M3 (a b:Int):decide ((Sum.inl a:Key)=Sum.inl b)=(a == b):=by
 by_cases e:a=b
 .subst e; simp
 .have h:¬ (Sum.inl a:Key)=Sum.inl b:=λq=>e (Sum.inl.inj q)
  rw [acZ h]
  exact (age.mpr e).symm
theorem M4 (a b:Str):decide ((Sum.inr a:Key)=Sum.inr b)=decide (a=b):=by
 by_cases e:a=b
 .subst e; simp
 .have h:¬ (Sum.inr a:Key)=Sum.inr b:=λq=>e (Sum.inr.inj q)
  rw [acZ h,acZ e]
theorem M5 (a:Int) (b:Str):decide ((Sum.inl a:Key)=Sum.inr b)=false:=acZ (λq=>nomatch q)
theorem M6 (a:Str) (b:Int):decide ((Sum.inr a:Key)=Sum.inl b)=false:=acZ (λq=>nomatch q)
def dA (prog:Program) (w:World):PySem.KeyKind prog w Key where
 is:=uj
 hash:=UM w
 inj:=λv a b ha hb=>by
  rcases c8 ha with ⟨i,t,rfl,rfl⟩ | ⟨x,t,rfl,rfl⟩
  .rcases c8 hb with ⟨j,u,rfl,e⟩ | ⟨y,u,rfl,e⟩
   .injection e with e1 _; rw [e1]
   .exact nomatch e
  .rcases c8 hb with ⟨j,u,rfl,e⟩ | ⟨y,u,rfl,e⟩
   .exact nomatch e
   .injection e with e1 _; rw [e1]
 byValue:=λk v h=>by
  rcases c8 h with ⟨i,t,rfl,rfl⟩ | ⟨x,t,rfl,rfl⟩ <;> rfl
 pyHash:=λhv h=>by
  rcases c8 hv with ⟨i,t,rfl,rfl⟩ | ⟨x,t,rfl,rfl⟩
  .exact wpAny_pyHash_int h
  .exact wpAny_pyHash_str h
 eqBool:=λhu hv h=>by
  rcases c8 hu with ⟨i,t,rfl,rfl⟩ | ⟨x,t,rfl,rfl⟩
  .rcases c8 hv with ⟨j,u,rfl,rfl⟩ | ⟨y,u,rfl,rfl⟩
   .rw [M3] at h; exact wpAny_eqBool_int h
   .rw [M5] at h; exact SeqAt.EqAt.int_str i t y u _ _ _ _ h
  .rcases c8 hv with ⟨j,u,rfl,rfl⟩ | ⟨y,u,rfl,rfl⟩
   .rw [M6] at h; exact SeqAt.EqAt.str_int x t j u _ _ _ _ h
   .rw [M4] at h; exact wpAny_eqBool_str h
 «strs»:=λk x t v h=>by
  rcases c8 h with ⟨i,u,rfl,e⟩ | ⟨y,u,rfl,e⟩
  .exact nomatch e
  .injection e with e1 _
   subst e1
   cases v <;> rfl
theorem xx (prog:Program) (w:World) (i:Int) (t:Tok):(dA prog w).is (.inl i) (.int i t)=true:=CP i t
theorem xy (prog:Program) (w:World) (x:Str) (t:Tok):(dA prog w).is (.inr x) (.str x t)=true:=CQ x t
inductive V where
 | jz | bl (b:Bool) | int (i:Int) | str (x:Str) | Qs (b:Array UInt8) | P6 (b:UInt64) | ref (a:Addr) | ty (n:String)
 deriving DecidableEq
def RelV:V->Value->Prop
 | .jz,u=>u=Value.none
 | .bl b,u=>u=Value.bool b
 | .int i,u=>∃ t,u=Value.int i t
 | .str x,u=>∃ t,u=Value.str x t
 | .Qs b,u=>∃ t,u=Value.bytes b t
 | .P6 b,u=>∃ t,u=Value.float b t
 | .ref a,u=>u=Value.ref a
 | .ty n,u=>u=Value.type n
abbrev bj:List V->List Value->Prop:=Paired RelV
theorem bj.length {xs:List V} {us:List Value} (r:bj xs us):xs.length=us.length:=Paired.length r
theorem bj.get:∀ {xs:List V} {us:List Value} {i:Nat} {x:V},bj xs us->xs[i]?=some x->∃ u,us[i]?=some u /\ RelV x u
 | _,_,_,_,.nil,e=>by simp at e
 | _,_,0,_,.cons r _,e=>by simp at e; subst e; exact ⟨_,rfl,r⟩
 | _,_,i + 1,x,.cons _ t,e=>by
   obtain ⟨u,h1,h2⟩:=bj.get (i:=i) (x:=x) t (by simpa using e)
   exact ⟨u,by simpa using h1,h2⟩
theorem bj.set {x:V} {u:Value} (r:RelV x u):∀ {xs:List V} {us:List Value} (i:Nat),bj xs us->bj (xs.set i x) (us.set i u)
 | _,_,_,.nil=>.nil
 | _,_,0,.cons _ t=>.cons r t
 | _,_,i + 1,.cons q t=>.cons q (bj.set r i t)
theorem bj.append:∀ {xs ys:List V} {us ws:List Value},bj xs us->bj ys ws->bj (xs ++ ys) (us ++ ws)
 | _,_,_,_,.nil,s=>s
 | _,_,_,_,.cons r t,s=>.cons r (bj.append t s)
theorem bj.take:∀ {xs:List V} {us:List Value} (n:Nat),bj xs us->bj (xs.take n) (us.take n)
 | _,_,0,_=>.nil
 | _,_,_ + 1,.nil=>.nil
 | _,_,n + 1,.cons r t=>.cons r (bj.take n t)
theorem bj.drop:∀ {xs:List V} {us:List Value} (n:Nat),bj xs us->bj (xs.drop n) (us.drop n)
 | _,_,0,r=>r
 | _,_,_ + 1,.nil=>.nil
 | _,_,n + 1,.cons _ t=>bj.drop n t
def o9:Option V->Option Value->Prop
 | some v,some u=>RelV v u
 | none,none=>True
 | _,_=>False
def KV {κ:Type}:List (κ×V)->List (κ×Value)->Prop:=Paired λ(p:κ×V) (q:κ×Value)=>p.1=q.1 /\ RelV p.2 q.2
def kV:Key->V
 | .inl i=>.int i
 | .inr x=>.str x
inductive HO where
  | lst (xs:List V)
  | tup (xs:List V)
  | dK (aV:List (Key×V)) | dT (aV:List (List Key×V))
  | set (S:Int->Bool) (n:Nat)
  | ins (C dx:Addr) (fs:List (Str×V))
  | own (x:Addr)
  | xd (fs:List (Str×V))
  | met (f x:Addr)
  | UN (lo hi:Int)
  | tJ (o:Obj) (u:HO)
  | M7 (ps:Array Value)
  | ext (φ:Heap->Prop)
abbrev Hp:=Addr->Option HO
def upd (H:Hp) (a:Addr) (o:HO):Hp:=λb=>if b=a then some o else H b
theorem b8 {H:Hp} {a:Addr} {o:HO}:upd H a o a=some o:=by unfold upd; rw [if_pos rfl]
theorem bp {H:Hp} {a b:Addr} {o:HO} (h:b≠a):upd H a o b=H b:=by unfold upd; rw [if_neg h]
theorem bP {H:Hp} {a b:Addr} {o:HO} (h:H a=some o) (h':H b=none):a≠b:=by
 intro e; subst e; rw [h] at h'; cases h'
def dh (H:Hp) (b:Addr) (xs:List V):Prop:=H b=some (.tup xs) \/ ∃ ob,H b=some (.tJ ob (.tup xs))
theorem dh.ne {H:Hp} {a b:Addr} {o:HO} {xs:List V} (t:dh H b xs) (n:b≠a):dh (upd H a o) b xs:=by
 rcases t with t | ⟨ob,t⟩
 .exact .inl (by rw [bp n]; exact t)
 .exact .inr ⟨ob,by rw [bp n]; exact t⟩
theorem dh.new {H:Hp} {a b:Addr} {o:HO} {xs:List V} (t:dh H b xs) (n:H a=none):dh (upd H a o) b xs:=t.ne λz=>by
 subst z
 rcases t with t | ⟨ob,t⟩ <;> rw [n] at t <;> cases t
theorem dh.dT {H:Hp} {a b:Addr} {o:HO} {xs:List V} {aV:List (List Key×V)} (t:dh H b xs) (e:H a=some (.dT aV)):dh (upd H a o) b xs:=t.ne λz=>by
 subst z
 rcases t with t | ⟨ob,t⟩ <;> rw [e] at t <;> cases t
section
variable (P:Program) (w:World)
def c9 (H:Hp) (h:Heap) (a:Addr):HO->Prop
 | .lst xs=>xs.length<=sizeLine /\ ∃ (its:List Value) (n:Nat),bj xs its /\ h.get? a=some { cls:=.type "list",data:=.seq its.toArray n }
 | .tup xs=>xs.length<=sizeLine /\ ∃ its:List Value,bj xs its /\ IsTup h a its.toArray
 | .dK aV=>aV.length<=sizeLine /\ (a == sysModules)=false /\ ∃ vs,KV aV vs /\ h.DictOf (dA P w) a vs
 | .dT aV=>aV.length<=sizeLine /\ (a == sysModules)=false /\ ∃ xs:List (List Key×Addr×Value),
   Paired (λ(p:List Key×V) (q:List Key×Addr×Value)=>p.1=q.1 /\ dh H q.2.1 (p.1.map kV) /\ RelV p.2 q.2.2) aV xs /\
   ∃ o es ep,h.get? a=some o /\ o.ExactDict /\ o.data=.dict es ep /\ es.toList=xs.map (entryOfKey (tupleKind (dA P w))) /\ (xs.map (·.1)).Nodup
 | .set S n=>h.SetOf (intKind P w) a S n
 | .ins C dx fs=>H dx=some (.own a) /\ fs.length<=1000 /\ dx≠a /\ h.get? a=some (PySem.W.instObj C dx) /\
   ∃ mA,h.Ns1 dx mA /\ (∀ f,o9 (fs.lookup f) (mA f)) /\ PySem.Within mA (fs.map (·.1))
 | .own _=>∃ o,h.get? a=some o
 | .xd fs=>∃ mA,h.Ns1 a mA /\ ∀ f,o9 (fs.lookup f) (mA f)
 | .UN lo hi=>∃ t u v,h.get? a=some { cls:=.type "range",data:=.fields #[.int lo t,.int hi u,.int 1 v] }
 | .tJ o u=>h.get? a=some o /\ c9 H h a u
 | .M7 ps=>h.get? a=some { cls:=.none,data:=.fields ps }
 | .met f x=>h.get? a=some (PySem.W.methodObj (.ref f) (.ref x))
 | .ext φ=>φ h /\ (∃ o,h.get? a=some o) /\ ∀ h1 h2:Heap,φ h1->(∀ o,h1.get? a=some o->h2.get? a=some o)->φ h2
def mQ (H:Hp) (h:Heap):Prop:=∀ a o,H a=some o->c9 P w H h a o
end
section
variable {P:Program} {w:World} {H H':Hp} {h h':Heap} {a:Addr} {o:HO}
theorem c9.lt (x:c9 P w H h a o):a < h.objs.size:=by
 cases o with
 | lst xs=>obtain ⟨_,_,_,_,e⟩:=x; exact acV e
 | tup xs=>obtain ⟨_,_,_,p⟩:=x; exact p.lt
 | dK aV=>obtain ⟨_,_,_,_,o,_,_,e,_⟩:=x; exact acV e
 | dT aV=>obtain ⟨_,_,_,_,o,_,_,e,_⟩:=x; exact acV e
 | set S n=>obtain ⟨o,_,_,_,e,_⟩:=x; exact acV e
 | ins C dx fs=>obtain ⟨_,_,_,e,_⟩:=x; exact acV e
 | own y=>obtain ⟨_,e⟩:=x; exact acV e
 | xd fs=>obtain ⟨_,⟨_,_,_,e,_⟩,_⟩:=x; exact acV e
 | UN lo hi=>obtain ⟨_,_,_,e⟩:=x; exact acV e
 | tJ ob u=>obtain ⟨e,_⟩:=x; exact acV e
 | M7 ps=>exact acV (show h.get? a=some _ from x)
 | met f y=>exact acV (show h.get? a=some _ from x)
 | ext φ=>obtain ⟨_,⟨_,e⟩,_⟩:=x; exact acV e
theorem Paired.M8 {α β:Type} {F G:α->β->Prop}:∀ {l₁:List α} {l₂:List β},Paired F l₁ l₂->(∀ a b,F a b->G a b)->Paired G l₁ l₂
 | _,_,.nil,_=>.nil
 | _,_,.cons r t,f=>.cons (f _ _ r) (Paired.M8 t f)
theorem c9.ve (x:c9 P w H h a o) (k:∀ b u,(b=a \/ H b=some (.own a))->h.get? b=some u->h'.get? b=some u)
  (ho:∀ b,H b=some (.own a)->H' b=some (.own a)) (ht:∀ b xs,dh H b xs->dh H' b xs):c9 P w H' h' a o:=by
 induction o with
 | lst xs=>obtain ⟨z,its,n,r,e⟩:=x; exact ⟨z,its,n,r,k _ _ (.inl rfl) e⟩
 | tup xs=>obtain ⟨z,its,r,ob,e,c⟩:=x; exact ⟨z,its,r,ob,k _ _ (.inl rfl) e,c⟩
 | dK aV=>obtain ⟨z,y,vs,r,ob,es,ep,e,c⟩:=x; exact ⟨z,y,vs,r,ob,es,ep,k _ _ (.inl rfl) e,c⟩
 | dT aV=>
   obtain ⟨z,y,xs,r,ob,es,ep,e,c⟩:=x
   exact ⟨z,y,xs,Paired.M8 r λp q z=>⟨z.1,ht _ _ z.2.1,z.2.2⟩,ob,es,ep,k _ _ (.inl rfl) e,c⟩
 | set S n=>obtain ⟨ob,es,ep,t,e,c⟩:=x; exact ⟨ob,es,ep,t,k _ _ (.inl rfl) e,c⟩
 | ins C dx fs=>
   obtain ⟨d,z,ne,e,mA,⟨od,es,ep,e2,c⟩,r⟩:=x
   exact ⟨ho _ d,z,ne,k _ _ (.inl rfl) e,mA,⟨od,es,ep,k _ _ (.inr d) e2,c⟩,r⟩
 | own y=>obtain ⟨ob,e⟩:=x; exact ⟨ob,k _ _ (.inl rfl) e⟩
 | xd fs=>obtain ⟨mA,⟨od,es,ep,e,c⟩,r⟩:=x; exact ⟨mA,⟨od,es,ep,k _ _ (.inl rfl) e,c⟩,r⟩
 | UN lo hi=>obtain ⟨t,u,v,e⟩:=x; exact ⟨t,u,v,k _ _ (.inl rfl) e⟩
 | tJ ob u ih=>obtain ⟨e,q⟩:=x; exact ⟨k _ _ (.inl rfl) e,ih q⟩
 | M7 ps=>
   have e:h.get? a=some { cls:=.none,data:=.fields ps }:=x
   show h'.get? a=some { cls:=.none,data:=.fields ps }
   exact k a _ (.inl rfl) e
 | met f y=>
   have e:h.get? a=some (PySem.W.methodObj (.ref f) (.ref y)):=x
   show h'.get? a=some (PySem.W.methodObj (.ref f) (.ref y))
   exact k a _ (.inl rfl) e
 | ext φ=>obtain ⟨p,⟨o,e⟩,st⟩:=x; exact ⟨st _ _ p λo q=>k _ _ (.inl rfl) q,⟨o,k _ _ (.inl rfl) e⟩,st⟩
theorem mQ.lt (x:mQ P w H h) (e:H a=some o):a < h.objs.size:=(x a o e).lt
theorem mQ.fresh (x:mQ P w H h) (e:h.objs.size<=a):H a=none:=by
 cases q:H a with
 | none=>rfl
 | some u=>exact absurd (ada (x.lt q) e) (adK _)
theorem mQ.kept (x:mQ P w H h) (k:∀ b u,h.get? b=some u->h'.get? b=some u):mQ P w H h':=λa o e=>
 (x a o e).ve (λb u _ q=>k b u q) (λ_ q=>q) λ_ _ q=>q
theorem mQ.laid (x:mQ P w H h) (k:∀ b u,h.get? b=some u->h'.get? b=some u) (hp:h.objs.size<=a) (new:c9 P w (upd H a o) h' a o):mQ P w (upd H a o) h':=λb u e=>by
 have hn:=x.fresh hp
 by_cases hb:b=a
 .subst hb; rw [b8] at e; cases e; exact new
 .rw [bp hb] at e
  exact (x b u e).ve (λc v _ q=>k c v q) (λc q=>by rw [bp (bP q hn)]; exact q) λc xs q=>q.new hn
end
def Rd (H:Hp) (a:Addr) (u:HO):Prop:=H a=some u \/ ∃ o,H a=some (.tJ o u)
theorem Rd.ok {P:Program} {w:World} {H:Hp} {h:Heap} {a:Addr} {u:HO} (r:Rd H a u) (x:mQ P w H h):c9 P w H h a u:=by
 rcases r with r | ⟨o,r⟩
 .exact x a u r
 .obtain ⟨_,q⟩:=x a _ r
  exact q
def Qt:Option HO->Prop
 | some (.lst _)=>True
 | some (.dK _)=>True
 | some (.dT _)=>True
 | some (.set _ _)=>True
 | some (.ins _ _ _)=>True
 | some (.ext _)=>True
 | _=>False
section
variable {P:Program} {w:World} {H:Hp} {h h':Heap} {x e:Addr} {o':HO}
theorem mQ.write (ok:mQ P w H h) (mu:Qt (H x)) (he:e=x \/ H e=some (.own x)) (k:∀ b u,b≠e->h.get? b=some u->h'.get? b=some u) (CS:∃ u,h'.get? e=some u)
  (new:c9 P w (upd H x o') h' x o'):mQ P w (upd H x o') h':=λb u q=>by
 have Qu:∀ c y,H c=some (.own y)->c≠x:=λc y r z=>by subst z; rw [r] at mu; exact mu
 have aee:∀ c xs,H c=some (.tup xs)->c≠x:=λc xs r z=>by subst z; rw [r] at mu; exact mu
 by_cases hb:b=x
 .subst hb; rw [b8] at q; cases q; exact new
 .rw [bp hb] at q
  by_cases M9:b=e
  .have q':H b=some (.own x):=by
    rcases he with z | z
    .exact absurd (M9.trans z) hb
    .rw [M9]; exact z
   rw [q] at q'; cases q'
   obtain ⟨v,hv⟩:=CS
   exact ⟨v,by rw [M9]; exact hv⟩
  .refine (ok b u q).ve (λc v hc r=>k c v ?_ r) (λc r=>by rw [bp (Qu c b r)]; exact r) λc xs r=>r.ne λz=>by
    subst z
    rcases r with r | ⟨ob,r⟩ <;> rw [r] at mu <;> exact mu
   rcases hc with rfl | hc
   .exact M9
   .rintro rfl
    rcases he with z | z
    .exact Qu c b hc z
    .rw [hc] at z; cases z; exact hb rfl
end
structure Un (fs ex:List Addr) (H H':Hp) (h h':Heap):Prop where
 keep:∀ b o,h.get? b=some o->H b=none->b∉fs->b∉ex->h'.get? b=some o
 slot:∀ b o,h.get? b=some o->H b=none->b∈fs->b∉ex->∃ sl,h'.get? b=some { o with slots:=sl }
 free:∀ b o,h.get? b=some o->H b=none->b∉ex->H' b=none
 there:∀ b o,h.get? b=some o->b∉ex->∃ o',h'.get? b=some o'
 vh:∀ b xs,H b=some (.tup xs)->H' b=some (.tup xs)
 tK:∀ b o u,H b=some (.tJ o u)->H' b=some (.tJ o u)
 vi:∀ b ps,H b=some (.M7 ps)->∃ more,H' b=some (.M7 (ps ++ more))
section
variable {fs fs' ex ex':List Addr} {H H1 H2:Hp} {h h1 h2 h':Heap} {a x e:Addr} {o:HO}
theorem Un.any (u:Un fs ex H H1 h h1) {b:Addr} {ob:Obj} (q:h.get? b=some ob) (n:H b=none) (hx:b∉ex):∃ sl,h1.get? b=some { ob with slots:=sl }:=by
 by_cases hb:b∈fs
 .exact u.slot b ob q n hb hx
 .exact ⟨ob.slots,u.keep b ob q n hb hx⟩
theorem Un.kept (k:∀ b u,h.get? b=some u->h'.get? b=some u):Un fs ex H H h h':=
 ⟨λb ob q _ _ _=>k b ob q,λb ob q _ _ _=>⟨ob.slots,k b ob q⟩,λ_ _ _ n _=>n,λb ob q _=>⟨ob,k b ob q⟩,λ_ _ q=>q,λ_ _ _ q=>q,λ_ ps q=>⟨#[],by rw [q]; simp⟩⟩
theorem Un.refl:Un fs ex H H h h:=Un.kept λ_ _ q=>q
theorem Un.laid (k:∀ b u,h.get? b=some u->h'.get? b=some u) (hp:h.objs.size<=a) (hn:H a=none):Un fs ex H (upd H a o) h h' where
 keep:=λb u q _ _ _=>k b u q
 slot:=λb u q _ _ _=>⟨u.slots,k b u q⟩
 free:=λb u q n _=>by rw [bp (adj (ada (acV q) hp))]; exact n
 there:=λb u q _=>⟨u,k b u q⟩
 vh:=λb xs q=>by rw [bp (bP q hn)]; exact q
 tK:=λb u xs q=>by rw [bp (bP q hn)]; exact q
 vi:=λb ps q=>⟨#[],by rw [bp (bP q hn),q]; simp⟩
theorem Un.write (mu:Qt (H x)) (he:e=x \/ H e=some (.own x)) (k:∀ b u,b≠e->h.get? b=some u->h'.get? b=some u) (CS:∃ u,h'.get? e=some u):Un fs ex H (upd H x o) h h':=by
 have hx:∀ b,H b=none->b≠x:=λb n z=>by subst z; rw [n] at mu; exact mu
 have hb:∀ b,H b=none->b≠e:=λb n z=>by
  subst z
  rcases he with r | r
  .exact hx b n r
  .rw [n] at r; cases r
 have hm:∀ b u,H b=some u->¬ Qt (some u)->b≠x:=λb u q nm z=>by subst z; rw [q] at mu; exact nm mu
 refine ⟨λb u q n _ _=>k b u (hb b n) q,λb u q n _ _=>⟨u.slots,k b u (hb b n) q⟩,λb u q n _=>by rw [bp (hx b n)]; exact n,λb u q _=>?_,
  λb xs q=>by rw [bp (hm b _ q λz=>z)]; exact q,λb u xs q=>by rw [bp (hm b _ q λz=>z)]; exact q,λb ps q=>⟨#[],by rw [bp (hm b _ q λz=>z),q]; simp⟩⟩
 by_cases M9:b=e
 .subst M9; exact CS
 .exact ⟨u,k b u M9 q⟩
end
def Tc (h:Heap) (H:Hp):List Addr:=(List.range h.objs.size).filter λa=>(H a).isSome
def vj (h:Heap) (H:Hp):Heap:=PySem.W.hideAll h (Tc h H)
theorem CT (h:Heap) (H:Hp):(vj h H).objs.size=h.objs.size:=PySem.W.hideAll_size _ _
theorem EK {h:Heap} {H:Hp} {b:Addr} {o:Obj} (e:h.get? b=some o) (n:H b=none):(vj h H).get? b=some o:=
 PySem.W.hideAll_get _ e λhm=>by
  have q:(H b).isSome=true:=(adU.mp hm).2
  rw [n] at q; simp at q
theorem IY {h:Heap} {H:Hp} {b:Addr} {o:Obj} (e:(vj h H).get? b=some o):h.get? b=some o /\ H b=none:=by
 have e':h.get? b=some o:=PySem.W.of_hideAll (Tc h H) e
 refine ⟨e',?_⟩
 cases q:H b with
 | none=>rfl
 | some x=>
   have hm:b∈Tc h H:=adU.mpr ⟨afK.mpr (acV e'),by simp [q]⟩
   have z:(vj h H).get? b=none:=PySem.W.hideAll_none (Tc h H) hm
   rw [z] at e; cases e
def IZ (g h:Heap) (L:Addr):List (Addr×Obj):=(List.range h.objs.size).filterMap λa=>if a=L \/ (g.get? a).isSome=true then none else (h.get? a).map λo=>(a,o)
def rest (g h:Heap) (L d:Addr):List (Addr×Obj):=(IZ g h L).filter λp=>decide (p.1≠d)
structure Mod (K:PySem.W.Frag) (mg:Str->Option Value) (base:Heap):Prop where
 UO:K.In base
 glob:base.Ns mainGlobals mg
 blt:∃ mb,base.Ns builtinsNs mb /\ ∀ x:Str,x≠"__name__"->mb x=bootBuiltins x
 nolimit:base.NoLimit
structure Cx where
 prog:Program
 w:World
 K:PySem.W.Frag
 mg:Str->Option Value
 base:Heap
 A:Around
 N:List Str
 gZ:Shared
 EL:Hp
 env:Env
 outer:List Env
 stack:List Env
 ex:List Addr
 fn:Str->Bool
 calm:Bool
 pn:List (Addr×Obj)
 xe:Value->Shared->Prop
def Bw (l:List Env):List Addr:=l.filterMap (·.frame)
abbrev Cx.fs (X:Cx):List Addr:=Bw X.outer
def Qv (sc:Scope) (x:Str):Prop:=sc.names.lookup x=some .local \/ sc.names.lookup x=some .cell \/ sc.names.lookup x=some .free
def Loc (sc:Scope) (x:Str):Prop:=sc.names.lookup x=some .local \/ sc.names.lookup x=some .cell
def Look (env:Env) (h:Heap) (m:Str->Option Value) (x:Str) (u:Value):Prop:=
 (env.kindOf x=some .local /\ m x=some u) \/ ((env.kindOf x=some .cell \/ env.kindOf x=some .free) /\ ∃ c,env.cells.lookup x=some c /\ h.IsCell c (some u))
structure Cx.Ok (X:Cx):Prop where
 mod:Mod X.K X.mg X.base
 kind:X.env.scope.kind=.function
 glob:X.env.globals=mainGlobals
 blt:X.env.builtins=builtinsNs
 above:X.gZ.heap.objs.size<=X.env.locals
 inj:∀ x y c,X.env.cells.lookup x=some c->X.env.cells.lookup y=some c->x=y
 has:∀ x,(X.env.kindOf x=some .cell \/ X.env.kindOf x=some .free)->∃ c,X.env.cells.lookup x=some c
 P7:∀ x c,X.fn x=true->X.env.cells.lookup x=some c->X.gZ.heap.objs.size<=c
 hd:X.calm=true->X.A.handled=none
 frames:X.A.frames=some X.stack
 Qw:X.stack=X.outer \/ (X.stack=X.env :: X.outer /\ X.env.frame=some X.env.locals)
 UP:∀ b∈X.ex,b≠X.env.locals /\ ∀ x c,X.env.cells.lookup x=some c->c≠b
 bs:∀ b o,X.base.get? b=some o->X.gZ.heap.get? b=some o /\ X.EL b=none
 LA:X.base.objs.size<=X.gZ.heap.objs.size
 CU:∀ b o,X.base.get? b=some o->b∉X.ex
 EM:∀ b∈X.ex,b∉X.fs
 qw:X.gZ.heap.FunFrames X.base X.outer
 Na:∀ b∈X.fs,X.EL b=none
structure Inv (X:Cx) (pins:List (Addr×Obj)) (σ:List (Option V)) (H:Hp) (s:Shared):Prop where
 ok:X.Ok
 os:s.os=X.gZ.os
 bare:AllBare s.gens
 base:Un X.fs X.ex X.EL H X.gZ.heap s.heap
 loc:∃ m,s.heap.Ns X.env.locals m /\ ∀ (i:Nat) (x:Str) (v:V),X.N[i]?=some x->σ[i]?=some (some v)->Qv X.env.scope x->∃ u,RelV v u /\ Look X.env s.heap m x u
 cell:∀ x c,X.env.cells.lookup x=some c->∃ v,s.heap.IsCell c v
 free:H X.env.locals=none
 lh:∀ x c,X.env.cells.lookup x=some c->H c=none
 pin:∀ p∈X.pn ++ pins,s.heap.get? p.1=some p.2 /\ H p.1=none /\ p.1≠X.env.locals /\ p.1∉X.fs /\ ∀ v,p.2.data≠.cell v
 cS:mQ X.prog X.w H s.heap
 len:σ.length=X.N.length
section
variable {X:Cx} {pins:List (Addr×Obj)} {σ:List (Option V)} {H H':Hp} {s:Shared} {h':Heap}
theorem Cx.Ok.UQ (ok:X.Ok) {b:Addr} {o:Obj} (e:X.base.get? b=some o):b∉X.fs:=λhb=>by
 have:=(ok.qw.mem hb).1
 rw [e] at this; cases this
theorem Inv.bs (I:Inv X pins σ H s):∀ b o,X.base.get? b=some o->s.heap.get? b=some o /\ H b=none:=λb o e=>
 ⟨I.base.keep b o (I.ok.bs b o e).1 (I.ok.bs b o e).2 (I.ok.UQ e) (I.ok.CU b o e),I.base.free b o (I.ok.bs b o e).1 (I.ok.bs b o e).2 (I.ok.CU b o e)⟩
theorem Inv.bk (I:Inv X pins σ H s):∀ b o,X.base.get? b=some o->s.heap.get? b=some o:=λb o e=>(I.bs b o e).1
theorem Inv.mod (I:Inv X pins σ H s):Mod X.K X.mg X.base:=I.ok.mod
theorem Inv.uk (I:Inv X pins σ H s):X.K.In s.heap:=I.ok.mod.UO.keeps I.bk
theorem Inv.lt (I:Inv X pins σ H s):X.env.locals < s.heap.objs.size:=let ⟨_,hn,_⟩:=I.loc; hn.lt
theorem Inv.sz (I:Inv X pins σ H s):X.gZ.heap.objs.size<=s.heap.objs.size:=ado I.ok.above (aer I.lt)
theorem Inv.Qx (I:Inv X pins σ H s) {a:Addr} (h:s.heap.objs.size<=a):a∉X.fs:=λhb=>by
 obtain ⟨_,o,ho,_⟩:=I.ok.qw.mem hb
 exact absurd (ada (acV ho) (ado I.sz h)) (adK _)
theorem Inv.Nb (I:Inv X pins σ H s):∀ x c,X.env.cells.lookup x=some c->c≠X.env.locals:=λx c e z=>by
 obtain ⟨v,o,ho,hd⟩:=I.cell x c e
 obtain ⟨m,⟨o',es,ep,zw,EN,_⟩,_⟩:=I.loc
 rw [z,zw] at ho; cases ho; rw [EN] at hd; cases hd
theorem Inv.qw (I:Inv X pins σ H s):s.heap.FunFrames X.base X.outer:=by
 have all:∀ (l:List Env),(∀ b∈Bw l,b∈X.fs)->X.gZ.heap.FunFrames X.base l->s.heap.FunFrames X.base l:=by
  intro l
  induction l with
  | nil=>intro _ _; trivial
  | cons env r ih=>
    intro hs hl
    obtain ⟨hk,⟨L,o,hf,hn,ho,hd⟩,hr⟩:=hl
    have hL:L∈X.fs:=hs L (by unfold Bw; rw [List.filterMap_cons,hf]; exact List.mem_cons_self)
    obtain ⟨sl,e⟩:=I.base.slot L o ho (I.ok.Na L hL) hL λz=>I.ok.EM L z hL
    exact ⟨hk,⟨L,_,hf,hn,e,hd⟩,ih (λb hb=>hs b (by unfold Bw; rw [List.filterMap_cons,hf]; exact List.mem_cons_of_mem _ hb)) hr⟩
 exact all X.outer (λ_ hb=>hb) I.ok.qw
theorem Inv.stack (I:Inv X pins σ H s):s.heap.FunFrames X.base X.stack:=by
 rcases I.ok.Qw with e | ⟨e,hf⟩
 .rw [e]; exact I.qw
 .rw [e]
  obtain ⟨m,hn,_⟩:=I.loc
  refine .cons (by rw [I.ok.kind]; decide) hf hn ?_ I.qw
  exact Heap.get?_none_of_le (ado I.ok.LA I.ok.above)
theorem Inv.pd (I:Inv X pins σ H s):∀ b∈Bw X.stack,b∈X.env.locals :: X.fs:=λb hb=>by
 rcases I.ok.Qw with e | ⟨e,hf⟩
 .rw [e] at hb; exact acO _ hb
 .rw [e] at hb
  unfold Bw at hb
  rw [List.filterMap_cons,hf] at hb
  exact hb
theorem Inv.Bx (I:Inv X pins σ H s):∀ b∈Bw X.stack,H b=none:=λb hb=>by
 rcases acK.mp (I.pd b hb) with e | hb
 .rw [e]; exact I.free
 .obtain ⟨_,o,ho,_⟩:=I.ok.qw.mem hb
  exact I.base.free b o ho (I.ok.Na b hb) λz=>I.ok.EM b z hb
theorem Inv.step {g':Array GenState} {t':Nat} {d':Drawn} {ch:List Addr} (I:Inv X pins σ H s)
  (IK:∀ b∈ch,(b∈X.ex \/ X.gZ.heap.objs.size<=b) /\ b≠X.env.locals /\ (∀ x c,X.env.cells.lookup x=some c->c≠b) /\ ∀ p∈X.pn ++ pins,p.1≠b)
  (keep:∀ b o,b≠X.env.locals->b∉X.fs->b∉ch->s.heap.get? b=some o->H b=none->h'.get? b=some o)
  (slot:∀ b o,b≠X.env.locals->b∈X.fs->b∉ch->s.heap.get? b=some o->H b=none->∃ sl,h'.get? b=some { o with slots:=sl }) (free:∀ b o,b∉ch->s.heap.get? b=some o->H b=none->H' b=none)
  (there:∀ b o,b∉ch->s.heap.get? b=some o->∃ o',h'.get? b=some o')
  (vh:∀ b xs,H b=some (.tup xs)->H' b=some (.tup xs)) (tK:∀ b o u,H b=some (.tJ o u)->H' b=some (.tJ o u)) (vi:∀ b ps,H b=some (.M7 ps)->∃ more,H' b=some (.M7 (ps ++ more)))
  (ns:∀ m,s.heap.Ns X.env.locals m->h'.Ns X.env.locals m) (cS:mQ X.prog X.w H' h') (hg:AllBare g'):
  Inv X pins σ H' { s with heap:=h',gens:=g',drawn:=d',toks:=t' }:=by
 have neL:∀ b o,X.gZ.heap.get? b=some o->b≠X.env.locals:=λb o e=>adj (ada (acV e) I.ok.above)
 have Td:∀ b o,X.gZ.heap.get? b=some o->b∉X.ex->b∉ch:=λb o e hx hb=>by
  rcases (IK b hb).1 with z | z
  .exact hx z
  .exact absurd (ada (acV e) z) (adK _)
 have cellK:∀ x c,X.env.cells.lookup x=some c->∀ v,s.heap.IsCell c v->h'.IsCell c v:=λx c e v ⟨o,ho,hd⟩=>by
  have Qy:c∉ch:=λz=>(IK c z).2.2.1 x c e rfl
  by_cases hc:c∈X.fs
  .obtain ⟨sl,q⟩:=slot c o (I.Nb x c e) hc Qy ho (I.lh x c e)
   exact ⟨_,q,hd⟩
  .exact ⟨o,keep c o (I.Nb x c e) hc Qy ho (I.lh x c e),hd⟩
 refine ⟨I.ok,I.os,hg,⟨λb o e n hb hx=>?_,λb o e n hb hx=>?_,λb o e n hx=>?_,λb o e hx=>?_,λb xs e=>vh b xs (I.base.vh b xs e),λb o xs e=>tK b o xs (I.base.tK b o xs e),λb ps e=>?_⟩,?_,λx c e=>?_,?_,λx c e=>?_,λp hp=>?_,cS,I.len⟩
 .exact keep b o (neL b o e) hb (Td b o e hx) (I.base.keep b o e n hb hx) (I.base.free b o e n hx)
 .obtain ⟨sl,e1⟩:=I.base.slot b o e n hb hx
  obtain ⟨sl',e2⟩:=slot b _ (neL b o e) hb (Td b o e hx) e1 (I.base.free b o e n hx)
  exact ⟨sl',e2⟩
 .obtain ⟨o',e1⟩:=I.base.there b o e hx
  exact free b o' (Td b o e hx) e1 (I.base.free b o e n hx)
 .obtain ⟨o',e1⟩:=I.base.there b o e hx
  exact there b o' (Td b o e hx) e1
 .obtain ⟨m1,e1⟩:=I.base.vi b ps e
  obtain ⟨m2,e2⟩:=vi b _ e1
  exact ⟨m1 ++ m2,by rw [e2,Array.append_assoc]⟩
 .obtain ⟨m,hn,hl⟩:=I.loc
  refine ⟨m,ns m hn,λi x v e1 e2 e3=>?_⟩
  obtain ⟨u,r,l⟩:=hl i x v e1 e2 e3
  refine ⟨u,r,?_⟩
  rcases l with l | ⟨k,c,e,z⟩
  .exact .inl l
  .exact .inr ⟨k,c,e,cellK x c e _ z⟩
 .obtain ⟨v,z⟩:=I.cell x c e
  exact ⟨v,cellK x c e v z⟩
 .obtain ⟨m,⟨o,_,_,ho,_⟩,_⟩:=I.loc
  exact free _ o (λz=>(IK _ z).2.1 rfl) ho I.free
 .obtain ⟨v,o,ho,hd⟩:=I.cell x c e
  exact free c o (λz=>(IK c z).2.2.1 x c e rfl) ho (I.lh x c e)
 .obtain ⟨e,n,ne,nf,d⟩:=I.pin p hp
  have Qy:p.1∉ch:=λz=>(IK p.1 z).2.2.2 p hp rfl
  exact ⟨keep p.1 p.2 ne nf Qy e n,free p.1 p.2 Qy e n,ne,nf,d⟩
theorem Inv.un {t':Nat} (I:Inv X pins σ H s) (u:Un X.fs [] H H' s.heap h') (cS:mQ X.prog X.w H' h'):Inv X pins σ H' { s with heap:=h',toks:=t' }:=by
 obtain ⟨m,⟨o,es,ep,ho,r⟩,_⟩:=id I.loc
 obtain ⟨sl,hL⟩:=u.any ho I.free (by simp)
 exact I.step (g':=s.gens) (d':=s.drawn) (ch:=[]) (λ_ z=>nomatch z) (λb o _ hb _ e n=>u.keep b o e n hb (by simp)) (λb o _ hb _ e n=>u.slot b o e n hb (by simp)) (λb o _ e n=>u.free b o e n (by simp)) (λb o _ e=>u.there b o e (by simp)) u.vh u.tK u.vi (λm' hm=>by
  obtain ⟨o',xA,P8,zw,r'⟩:=hm
  rw [ho] at zw; cases zw
  exact ⟨_,xA,P8,hL,r'⟩) cS I.bare
theorem Inv.call {g':Array GenState} {t':Nat} {d':Drawn} {ch:List Addr} (I:Inv X pins σ H s) (u:Un (Bw X.stack) ch H H' s.heap h') (cS:mQ X.prog X.w H' h') (hg:AllBare g')
  (IK:∀ b∈ch,(b∈X.ex \/ X.gZ.heap.objs.size<=b) /\ b≠X.env.locals /\ (∀ x c,X.env.cells.lookup x=some c->c≠b) /\ ∀ p∈X.pn ++ pins,p.1≠b):
  Inv X pins σ H' { s with heap:=h',gens:=g',drawn:=d',toks:=t' }:=by
 obtain ⟨m,⟨o,es,ep,ho,r⟩,_⟩:=id I.loc
 obtain ⟨sl,hL⟩:=u.any ho I.free λz=>(IK _ z).2.1 rfl
 exact I.step (ch:=ch) IK (λb o hL hb hc e n=>u.keep b o e n (λz=>(acK.mp (I.pd b z)).elim hL hb) hc) (λb o _ _ hc e n=>u.any e n hc) (λb o hc e n=>u.free b o e n hc) (λb o hc e=>u.there b o e hc) u.vh u.tK u.vi (λm' hm=>by
  obtain ⟨o',xA,P8,zw,r'⟩:=hm
  rw [ho] at zw; cases zw
  exact ⟨_,xA,P8,hL,r'⟩) cS hg
theorem Inv.turned {t':Nat} {it:Addr} (I:Inv X pins σ H s) (k:∀ b o,b≠it->s.heap.get? b=some o->h'.get? b=some o) (hn:H it=none) (hL:it≠X.env.locals)
  (h1:it∈X.ex \/ X.gZ.heap.objs.size<=it) (h2:∀ x c,X.env.cells.lookup x=some c->c≠it) (h3:∀ p∈X.pn ++ pins,p.1≠it):Inv X pins σ H { s with heap:=h',toks:=t' }:=by
 have QA:∀ b u,H b=some u->b≠it:=λb u e z=>by rw [z,hn] at e; cases e
 refine I.step (g':=s.gens) (d':=s.drawn) (ch:=[it]) (λb hb=>?_) (λb o _ _ hc e _=>k b o (λz=>hc (by simp [z])) e) (λb o _ _ hc e _=>⟨o.slots,k b o (λz=>hc (by simp [z])) e⟩) (λ_ _ _ _ n=>n)
  (λb o hc e=>⟨o,k b o (λz=>hc (by simp [z])) e⟩) (λ_ _ e=>e) (λ_ _ _ e=>e) (λb ps e=>⟨#[],by rw [e]; simp⟩) (λm hm=>?_) (λb u e=>?_) I.bare
 .have e:b=it:=by simpa using hb
  subst e
  exact ⟨h1,hL,h2,h3⟩
 .obtain ⟨o,es,ep,ho,r⟩:=hm
  exact ⟨o,es,ep,k _ o (aeW hL) ho,r⟩
 .refine (I.cS b u e).ve (λc v hc q=>k c v ?_ q) (λ_ q=>q) λ_ _ q=>q
  rcases hc with z | z
  .rw [z]; exact QA b u e
  .exact QA c _ z
theorem Inv.tok (I:Inv X pins σ H s) (t:Nat):Inv X pins σ H { s with toks:=t }:=I.un (h':=s.heap) (t':=t) Un.refl I.cS
theorem Inv.kept {t':Nat} (I:Inv X pins σ H s) (k:∀ b u,s.heap.get? b=some u->h'.get? b=some u):Inv X pins σ H { s with heap:=h',toks:=t' }:=I.un (Un.kept k) (I.cS.kept k)
theorem Inv.laid {a:Addr} {o:HO} {t':Nat} (I:Inv X pins σ H s) (k:∀ b u,s.heap.get? b=some u->h'.get? b=some u) (hp:s.heap.objs.size<=a) (new:c9 X.prog X.w (upd H a o) h' a o):
  Inv X pins σ (upd H a o) { s with heap:=h',toks:=t' }:=I.un (Un.laid k hp (I.cS.fresh hp)) (I.cS.laid k hp new)
theorem Inv.write {x e:Addr} {o:HO} {t':Nat} (I:Inv X pins σ H s) (mu:Qt (H x)) (he:e=x \/ H e=some (.own x)) (k:∀ b u,b≠e->s.heap.get? b=some u->h'.get? b=some u) (CS:∃ u,h'.get? e=some u)
  (new:c9 X.prog X.w (upd H x o) h' x o):Inv X pins σ (upd H x o) { s with heap:=h',toks:=t' }:=I.un (Un.write mu he k CS) (I.cS.write mu he k CS new)
theorem Inv.l9 {pins':List (Addr×Obj)} (I:Inv X pins σ H s) (h:∀ p∈pins',s.heap.get? p.1=some p.2 /\ H p.1=none /\ p.1≠X.env.locals /\ p.1∉X.fs /\ ∀ v,p.2.data≠.cell v):Inv X pins' σ H s:=
 ⟨I.ok,I.os,I.bare,I.base,I.loc,I.cell,I.free,I.lh,λp hp=>(adh.mp hp).elim (λz=>I.pin p (adv _ z)) (h p),I.cS,I.len⟩
theorem xB {N:List Str} (hN:N.Nodup) {i j:Nat} {x:Str} (a:N[i]?=some x) (b:N[j]?=some x):i=j:=by
 obtain ⟨h1,e1⟩:=acN.mp a
 obtain ⟨h2,e2⟩:=acN.mp b
 exact (List.getElem_inj hN).mp (e1.trans e2.symm)
theorem um {M:Model} {A:Around} {E:Value->Shared->Prop} {i:Nat} {x:Str} {v:V} {u:Value} {Q:Unit->Shared->Prop} (I:Inv X pins σ H s) (hN:X.N.Nodup) (hi:X.N[i]?=some x) (hx:Loc X.env.scope x) (r:RelV v u)
  (h:∀ s',Inv X pins (σ.set i (some v)) H s'->(∃ a,Heap.SameBut a s.heap s'.heap /\ (a=X.env.locals \/ X.env.cells.lookup x=some a))->Q () s') (hf:X.fn x=true \/ X.env.scope.names.lookup x=some .local):wpAny M A (storeName X.env x u) Q E s:=by
 obtain ⟨m,hn,hl⟩:=id I.loc
 have UR:(X.env.scope.kind == .class || (X.env.scope.kind == .module && X.env.locals != X.env.globals))=false:=by rw [I.ok.kind]; rfl
 have QB:i < σ.length:=by rw [I.len]; exact (acN.mp hi).1
 have Nb:=I.Nb
 have tracked:∀ {a:Addr} {h':Heap},(∃ o,s.heap.get? a=some o /\ H a=none)->Heap.SameBut a s.heap h'->mQ X.prog X.w H h':=λ{a h'} ha hs b ob e=>by
  obtain ⟨_,_,LB⟩:=ha
  refine (I.cS b ob e).ve (λc w' hc q=>(hs.2 c ?_).trans q) (λ_ q=>q) λ_ _ q=>q
  rintro rfl
  rcases hc with rfl | hc
  .rw [LB] at e; cases e
  .rw [LB] at hc; cases hc
 rcases hx with hk | hk
 .refine wpAny_storeName_local hk hn (λh' hn' hs=>?_) UR
  obtain ⟨oL,_,_,QC,_⟩:=id hn
  refine h _ ⟨I.ok,I.os,I.bare,⟨λb o e n hb hx=>?_,λb o e n hb hx=>?_,I.base.free,λb o e hx=>?_,I.base.vh,I.base.tK,I.base.vi⟩,⟨_,hn',λj y v' e1 e2 e3=>?_⟩,λy c e=>?_,I.free,I.lh,λp hp=>?_,tracked ⟨oL,QC,I.free⟩ hs,by simpa using I.len⟩ ⟨_,hs,.inl rfl⟩
  .exact (hs.2 b (adj (ada (acV e) I.ok.above))).trans (I.base.keep b o e n hb hx)
  .obtain ⟨sl,e1⟩:=I.base.slot b o e n hb hx
   exact ⟨sl,(hs.2 b (adj (ada (acV e) I.ok.above))).trans e1⟩
  .obtain ⟨o',e1⟩:=I.base.there b o e hx
   exact ⟨o',(hs.2 b (adj (ada (acV e) I.ok.above))).trans e1⟩
  .by_cases hj:j=i
   .subst hj
    rw [hi] at e1; cases e1
    rw [adx QB] at e2
    cases e2
    exact ⟨u,r,.inl ⟨hk,by simp⟩⟩
   .rw [adg (aeW hj)] at e2
    obtain ⟨u',r',q⟩:=hl j y v' e1 e2 e3
    refine ⟨u',r',?_⟩
    rcases q with ⟨k,e⟩ | ⟨k,c,e,z⟩
    .refine .inl ⟨k,?_⟩
     have:y≠x:=λe=>hj (xB hN e1 (e ▸ hi))
     simp [this,e]
    .exact .inr ⟨k,c,e,z.sameBut hs (Nb y c e)⟩
  .obtain ⟨w',z⟩:=I.cell y c e
   exact ⟨w',z.sameBut hs (Nb y c e)⟩
  .obtain ⟨e,n,ne,nf,d⟩:=I.pin p hp
   exact ⟨(hs.2 p.1 ne).trans e,n,ne,nf,d⟩
 .have US:X.fn x=true:=by
   rcases hf with z | z
   .exact z
   .rw [z] at hk; cases hk
  obtain ⟨c,hc⟩:=I.ok.has x (.inl hk)
  obtain ⟨w',z⟩:=I.cell x c hc
  refine wpAny_storeName_cell I.ok.kind hk hc z (λh' Ja hs=>?_)
  obtain ⟨oc,hoc,UT⟩:=id z
  refine h { s with heap:=h' } ⟨I.ok,I.os,I.bare,⟨λb o e n hb hx=>?_,λb o e n hb hx=>?_,I.base.free,λb o e hx=>?_,I.base.vh,I.base.tK,I.base.vi⟩,⟨m,hn.sameBut hs (Ne.symm (Nb x c hc)),λj y v' e1 e2 e3=>?_⟩,λy c' e=>?_,I.free,I.lh,λp hp=>?_,tracked ⟨oc,hoc,I.lh x c hc⟩ hs,by simpa using I.len⟩ ⟨c,hs,.inr hc⟩
  .exact (hs.2 b (adj (ada (acV e) (I.ok.P7 x c US hc)))).trans (I.base.keep b o e n hb hx)
  .obtain ⟨sl,e1⟩:=I.base.slot b o e n hb hx
   exact ⟨sl,(hs.2 b (adj (ada (acV e) (I.ok.P7 x c US hc)))).trans e1⟩
  .obtain ⟨o',e1⟩:=I.base.there b o e hx
   exact ⟨o',(hs.2 b (adj (ada (acV e) (I.ok.P7 x c US hc)))).trans e1⟩
  .by_cases hj:j=i
   .subst hj
    rw [hi] at e1; cases e1
    rw [adx QB] at e2
    cases e2
    exact ⟨u,r,.inr ⟨.inl hk,c,hc,Ja⟩⟩
   .rw [adg (aeW hj)] at e2
    obtain ⟨u',r',q⟩:=hl j y v' e1 e2 e3
    refine ⟨u',r',?_⟩
    rcases q with q | ⟨k,c',e,z'⟩
    .exact .inl q
    .refine .inr ⟨k,c',e,z'.sameBut hs ?_⟩
     rintro rfl
     exact hj (xB hN e1 (I.ok.inj _ _ _ e hc ▸ hi))
  .by_cases hcc:c'=c
   .subst hcc; exact ⟨_,Ja⟩
   .obtain ⟨w2,z2⟩:=I.cell y c' e
    exact ⟨w2,z2.sameBut hs hcc⟩
  .obtain ⟨e,n,ne,nf,d⟩:=I.pin p hp
   refine ⟨(hs.2 p.1 ?_).trans e,n,ne,nf,d⟩
   intro q
   rw [q,hoc] at e
   have q':oc=p.2:=adp e
   exact d w' (by rw [<- q']; exact UT)
theorem n5 {M:Model} {A:Around} {E:Value->Shared->Prop} {i:Nat} {x:Str} {v:V} {u:Value} {Q:Unit->Shared->Prop} (I:Inv X pins σ H s) (hN:X.N.Nodup) (hi:X.N[i]?=some x) (hx:Loc X.env.scope x) (r:RelV v u)
  (h:∀ s',Inv X pins (σ.set i (some v)) H s'->Q () s') (hf:X.fn x=true \/ X.env.scope.names.lookup x=some .local):wpAny M A (storeName X.env x u) Q E s:=
 um I hN hi hx r (λs' I' _=>h s' I') hf
theorem Inv.QD {s':Shared} {ch:List Addr} (I:Inv X pins σ H s) (ho:s'.os=s.os) (u:Un (Bw X.stack) ch H H' s.heap s'.heap) (cS:mQ X.prog X.w H' s'.heap) (hg:AllBare s'.gens)
  (IK:∀ b∈ch,(b∈X.ex \/ X.gZ.heap.objs.size<=b) /\ b≠X.env.locals /\ (∀ x c,X.env.cells.lookup x=some c->c≠b) /\ ∀ p∈X.pn ++ pins,p.1≠b):Inv X pins σ H' s':=by
 obtain ⟨h',g',d',t',o'⟩:=s'
 have e:o'=s.os:=ho
 subst e
 exact I.call (g':=g') (t':=t') (d':=d') u cS hg IK
end
abbrev XK:=Value->Option Addr->Hp->Prop
abbrev St:=List (Option V)
abbrev VK:=V->Hp->Prop
abbrev TE:=St->Hp->VK->Prop
abbrev TT:=St->Hp->(Bool->Hp->Prop)->Prop
abbrev TA:=St->Hp->(List V->Hp->Prop)->Prop
structure Ends where
 nx:St->Hp->Prop
 rt:VK
 bk:St->Hp->Prop:=λ_ _=>False
 ct:St->Hp->Prop:=λ_ _=>False
abbrev TS:=Ends->St->Hp->Prop
def EP (X:Cx) (pins:List (Addr×Obj)) (σ:St) (Q:VK) (u:Value) (s':Shared):Prop:=∃ v H',Inv X pins σ H' s' /\ RelV v u /\ Q v H'
def TP (X:Cx) (pins:List (Addr×Obj)) (σ:St) (Q:Bool->Hp->Prop) (b:Bool) (s':Shared):Prop:=∃ H',Inv X pins σ H' s' /\ Q b H'
def AP (X:Cx) (pins:List (Addr×Obj)) (σ:St) (Q:List V->Hp->Prop) (us:List Value) (s':Shared):Prop:=∃ vs H',Inv X pins σ H' s' /\ bj vs us /\ Q vs H'
def SP (X:Cx) (pins:List (Addr×Obj)) (D:Ends) (f:Flow) (s':Shared):Prop:=
 match f with
 | .next=>∃ cT H',Inv X pins cT H' s' /\ D.nx cT H'
 | .brk=>∃ cT H',Inv X pins cT H' s' /\ D.bk cT H'
 | .cont=>∃ cT H',Inv X pins cT H' s' /\ D.ct cT H'
 | .ret u=>∃ v cT H',Inv X pins cT H' s' /\ RelV v u /\ D.rt v H'
def PE (X:Cx) (e:Expr) (t:TE):Prop:=
 ∀ (pins:List (Addr×Obj)) (s:Shared) (σ:St) (H:Hp) (Q:VK),Inv X pins σ H s->t σ H Q->wpAny (model X.prog X.w) X.A (eval e X.env) (EP X pins σ Q) X.xe s
def PT (X:Cx) (e:Expr) (t:TT):Prop:=
 ∀ (pins:List (Addr×Obj)) (s:Shared) (σ:St) (H:Hp) (Q:Bool->Hp->Prop),Inv X pins σ H s->t σ H Q->wpAny (model X.prog X.w) X.A (isTrue e X.env (eval e X.env)) (TP X pins σ Q) X.xe s
def PW (X:Cx) (e:Expr) (t:TT):Prop:=
 ∀ (whole:Sem Value) (pins:List (Addr×Obj)) (s:Shared) (σ:St) (H:Hp) (Q:Bool->Hp->Prop),Inv X pins σ H s->t σ H Q->wpAny (model X.prog X.w) X.A (isTrue e X.env whole) (TP X pins σ Q) X.xe s
theorem PW.pt {X:Cx} {e:Expr} {t:TT} (h:PW X e t):PT X e t:=h _
def PA (X:Cx) (es:List Expr) (t:TA):Prop:=
 ∀ (pos:Pos) (pins:List (Addr×Obj)) (s:Shared) (σ:St) (H:Hp) (Q:List V->Hp->Prop),Inv X pins σ H s->t σ H Q->wpAny (model X.prog X.w) X.A (spliced (backTo pos (starEach es X.env))) (AP X pins σ Q) X.xe s
def PS (X:Cx) (st:Stmt) (t:TS):Prop:=
 ∀ (pins:List (Addr×Obj)) (s:Shared) (σ:St) (H:Hp) (D:Ends),Inv X pins σ H s->t D σ H->wpAny (model X.prog X.w) X.A (exec st X.env) (SP X pins D) X.xe s
def mR (X:Cx) (st:List Stmt) (t:TS):Prop:=
 ∀ (pins:List (Addr×Obj)) (s:Shared) (σ:St) (H:Hp) (D:Ends),Inv X pins σ H s->t D σ H->wpAny (model X.prog X.w) X.A (execs st X.env) (SP X pins D) X.xe s
theorem dz {α:Type} {t:Sem α} {Q Q':α->Shared->Prop} {M:Model} {A:Around} {E:Value->Shared->Prop} {s:Shared} (h:wpAny M A t Q E s) (hQ:∀ a s,Q a s->Q' a s):wpAny M A t Q' E s:=adG h hQ λ_ _ x=>x
section
variable {X:Cx}
def n6 (i:Nat):TE:=λσ H Q=>∃ v,σ[i]?=some (some v) /\ Q v H
def tC (v:V):TE:=λ_ H Q=>Q v H
theorem Nc {i:Nat} {x:Str} {pos:Pos} (hN:X.N[i]?=some x) (hv:Qv X.env.scope x) (hd:(x == ("__debug__":Str))=false:=by decide) (vk:(x == ("__classdict__":Str))=false:=by decide):PE X (.Name x pos) (n6 i):=by
 intro pins s σ H Q I h
 obtain ⟨v,e,h⟩:=h
 obtain ⟨m,hn,hl⟩:=I.loc
 obtain ⟨u,r,l⟩:=hl i x v hN e hv
 have fin:EP X pins σ Q u s:=⟨v,H,I,r,h⟩
 rcases l with ⟨hk,hm⟩ | ⟨hk,c,hc,LC⟩
 .exact wpAny_Name (wpAny_loadName_local I.ok.kind hk hn hm fin) hd
 .rcases hk with hk | hk
  .exact wpAny_Name (wpAny_loadName_cell I.ok.kind hk hc LC fin) hd
  .exact wpAny_Name (wpAny_loadName_free I.ok.kind hk hc LC fin vk) hd
theorem aH {i j pos}:PE X (.Constant (.int i) j pos) (tC (.int i)):=λ_ _ _ H _ I h=>wpAny_Constant_int ⟨.int i,H,I.tok _,⟨_,rfl⟩,h⟩
theorem EO {b j pos}:PE X (.Constant (.bool b) j pos) (tC (.bl b)):=λ_ _ _ H _ I h=>Constant_bool ⟨.bl b,H,I,rfl,h⟩
theorem fA {x j pos}:PE X (.Constant (.str x) j pos) (tC (.str x)):=λ_ _ _ H _ I h=>Calls.Constant_str ⟨.str x,H,I.tok _,⟨_,rfl⟩,h⟩
def Gl (X:Cx) (x:Str):Prop:=X.env.kindOf x=some .globalImplicit
theorem By {E:Value->Shared->Prop} {pins:List (Addr×Obj)} {s:Shared} {σ:St} {H:Hp} {x:Str} {u:Value} {pos:Pos} {Q:Value->Shared->Prop} (I:Inv X pins σ H s) (hg:Gl X x) (hm:X.mg x=some u) (h:Q u s)
  (hd:(x == ("__debug__":Str))=false:=by decide):wpAny (model X.prog X.w) X.A (eval (.Name x pos) X.env) Q E s:=
 Calls.Name_function_global I.ok.kind hg (Calls.loadGlobal_global (by rw [I.ok.glob]; exact I.mod.glob.keeps I.bk) hm h) hd
theorem ka {E:Value->Shared->Prop} {pins:List (Addr×Obj)} {s:Shared} {σ:St} {H:Hp} {x:Str} {u:Value} {pos:Pos} {Q:Value->Shared->Prop} (I:Inv X pins σ H s) (hg:Gl X x) (hm:X.mg x=none) (hv:bootBuiltins x=some u) (h:Q u s)
  (hn:x≠"__name__":=by decide) (hd:(x == ("__debug__":Str))=false:=by decide):wpAny (model X.prog X.w) X.A (eval (.Name x pos) X.env) Q E s:=by
 obtain ⟨mb,h1,h2⟩:=I.mod.blt
 exact Calls.Name_function_global I.ok.kind hg (Calls.loadGlobal_builtin (by rw [I.ok.glob]; exact I.mod.glob.keeps I.bk) hm (by rw [I.ok.blt]; exact h1.keeps I.bk) ((h2 x hn).trans hv) h) hd
theorem Jb {x:Str} {v:V} {u:Value} {pos:Pos} (hg:Gl X x) (hm:X.mg x=some u) (r:RelV v u) (hd:(x == ("__debug__":Str))=false:=by decide):PE X (.Name x pos) (tC v):=
 λ_ _ _ H _ I h=>By I hg hm ⟨v,H,I,r,h⟩ hd
theorem vn {x:Str} {v:V} {u:Value} {pos:Pos} (hg:Gl X x) (hm:X.mg x=none) (hv:bootBuiltins x=some u) (r:RelV v u) (hn:x≠"__name__":=by decide) (hd:(x == ("__debug__":Str))=false:=by decide):PE X (.Name x pos) (tC v):=
 λ_ _ _ H _ I h=>ka I hg hm hv ⟨v,H,I,r,h⟩ hn hd
variable {a b:Expr} {ta tb:TE} {pos:Pos}
variable {tA Te:TT} {rest:List Expr}
def UU (t u:TT):TT:=λσ H Q=>t σ H λc H1=>if c=true then u σ H1 Q else Q false H1
def tOr (t u:TT):TT:=λσ H Q=>t σ H λc H1=>if c=true then Q true H1 else u σ H1 Q
def UW (t:TT):TT:=λσ H Q=>t σ H λc H1=>Q (!c) H1
theorem pw_and1 (ha:PT X a tA):PW X (.BoolOp .And [a] pos) tA:=by
 intro wh pins s σ H Q I h
 refine isTrue_and (dz (ha pins s σ H Q I h) λc s1 e=>?_)
 cases c with
 | true=>exact isTrue_and_nil e
 | false=>exact e
theorem pw_or1 (ha:PT X a tA):PW X (.BoolOp .Or [a] pos) tA:=by
 intro wh pins s σ H Q I h
 refine isTrue_or (dz (ha pins s σ H Q I h) λc s1 e=>?_)
 cases c with
 | false=>exact isTrue_or_nil e
 | true=>exact e
theorem pw_and (ha:PT X a tA) (hb:PW X (.BoolOp .And (b :: rest) pos) Te):PW X (.BoolOp .And (a :: b :: rest) pos) (UU tA Te):=by
 intro wh pins s σ H Q I h
 refine isTrue_and (dz (ha pins s σ H _ I h) λc s1 ⟨H1,I1,q1⟩=>?_)
 cases c with
 | true=>exact hb wh pins s1 σ H1 Q I1 q1
 | false=>exact ⟨H1,I1,q1⟩
theorem pw_or (ha:PT X a tA) (hb:PW X (.BoolOp .Or (b :: rest) pos) Te):PW X (.BoolOp .Or (a :: b :: rest) pos) (tOr tA Te):=by
 intro wh pins s σ H Q I h
 refine isTrue_or (dz (ha pins s σ H _ I h) λc s1 ⟨H1,I1,q1⟩=>?_)
 cases c with
 | true=>exact ⟨H1,I1,q1⟩
 | false=>exact hb wh pins s1 σ H1 Q I1 q1
theorem Nd (ha:PT X a tA):PT X (.UnaryOp .Not a pos) (UW tA):=by
 intro pins s σ H Q I h
 exact isTrue_not (ha pins s σ H (λc H1=>Q (!c) H1) I h)
def QE (ta tb:TE):TE:=λσ H Q=>ta σ H λx H1=>∃ c,x=.bl c /\ if c=true then tb σ H1 Q else Q (.bl false) H1
def QG (ta:TE):TE:=λσ H Q=>ta σ H λx H1=>∃ c,x=.bl c /\ Q (.bl (!c)) H1
theorem ER {op} {t:TE} (h:PE X a t):PE X (.BoolOp op [a] pos) t:=λpins s σ H Q I hw=>BoolOp_one (h pins s σ H Q I hw)
theorem Nf (ha:PE X a ta) (hb:PE X (.BoolOp .And (b :: rest) pos) tb):PE X (.BoolOp .And (a :: b :: rest) pos) (QE ta tb):=by
 intro pins s σ H Q I h
 refine BoolOp_and (dz (ha pins s σ H _ I h) λv s1 ⟨x,H1,I1,r1,q1⟩=>?_)
 obtain ⟨c,rfl,q1⟩:=q1
 cases r1
 refine aeb ?_
 cases c with
 | true=>exact hb pins s1 σ H1 Q I1 q1
 | false=>exact ⟨.bl false,H1,I1,rfl,q1⟩
theorem Ng (ha:PE X a ta):PE X (.UnaryOp .Not a pos) (QG ta):=by
 intro pins s σ H Q I h
 refine UnaryOp_ (dz (ha pins s σ H _ I h) λv s1 ⟨x,H1,I1,r1,q1⟩=>?_)
 obtain ⟨c,rfl,q1⟩:=q1
 cases r1
 exact not_of (aeb ⟨.bl (!c),H1,I1,rfl,q1⟩)
end
def gX (K:PySem.W.Frag) (H:Hp) (a:Addr) (xs:List V):Prop:=
 Rd H a (.lst xs) \/
  ∃ (o:Obj) (its:Array Value) (n:Nat),K.lookup a=some o /\ o.cls=.type "list" /\ o.dict=none /\ o.data=.seq its n /\ its.size<=sizeLine /\ bj xs its.toList
def jN (K:PySem.W.Frag) (H:Hp) (a:Addr) (xs:List V):Prop:=
 Rd H a (.tup xs) \/
  ∃ (o:Obj) (its:Array Value) (n:Nat),K.lookup a=some o /\ o.cls=.type "tuple" /\ o.data=.seq its n /\ its.size<=sizeLine /\ bj xs its.toList
def UX:Value->Option V
 | .none=>some .jz
 | .bool b=>some (.bl b)
 | .int i _=>some (.int i)
 | .str x _=>some (.str x)
 | .bytes b _=>some (.Qs b)
 | .float b _=>some (.P6 b)
 | .ref a=>some (.ref a)
 | .type n=>some (.ty n)
 | _=>none
theorem RelV.abs {x:V} {u:Value} (r:RelV x u):UX u=some x:=by
 cases x with
 | jz=>cases r; rfl
 | bl _=>cases r; rfl
 | int _=>obtain ⟨t,rfl⟩:=r; rfl
 | str _=>obtain ⟨t,rfl⟩:=r; rfl
 | Qs _=>obtain ⟨t,rfl⟩:=r; rfl
 | P6 _=>obtain ⟨t,rfl⟩:=r; rfl
 | ref _=>cases r; rfl
 | ty _=>cases r; rfl
theorem RelV.inj {x y:V} {u:Value} (r:RelV x u) (q:RelV y u):x=y:=adp (r.abs.symm.trans q.abs)
theorem bj.inj:∀ {xs ys:List V} {us:List Value},bj xs us->bj ys us->xs=ys
 | _,_,_,.nil,.nil=>rfl
 | _,_,_,.cons r t,.cons r' t'=>by rw [r.inj r',bj.inj t t']
section
variable {X:Cx} {pins:List (Addr×Obj)} {σ:St} {H:Hp} {s:Shared} {a:Addr} {xs ys:List V}
theorem gX.of {K:PySem.W.Frag} (h:H a=some (.lst xs)):gX K H a xs:=.inl (.inl h)
theorem Inv.list (I:Inv X pins σ H s) (h:gX X.K H a xs):∃ its:List Value,bj xs its /\ PlainL s.heap a its.toArray /\ xs.length<=sizeLine:=by
 rcases h with h | ⟨o,its,n,hk,hc,hd,hs,hz,r⟩
 .obtain ⟨z,its,n,r,e⟩:=h.ok I.cS
  exact ⟨its,r,⟨_,n,e,rfl,rfl,rfl⟩,z⟩
 .refine ⟨its.toList,r,⟨o,n,I.uk a o hk,hc,hd,by simpa using hs⟩,?_⟩
  have e:=r.length
  simp only [aeX] at e
  omega
theorem Inv.tuple (I:Inv X pins σ H s) (h:jN X.K H a xs):∃ its:List Value,bj xs its /\ IsTup s.heap a its.toArray /\ xs.length<=sizeLine:=by
 rcases h with h | ⟨o,its,n,hk,hc,hs,hz,r⟩
 .obtain ⟨z,its,r,p⟩:=h.ok I.cS
  exact ⟨its,r,p,z⟩
 .refine ⟨its.toList,r,⟨o,I.uk a o hk,hc,n,by simpa using hs⟩,?_⟩
  have e:=r.length
  simp only [aeX] at e
  omega
theorem Inv.n8 (I:Inv X pins σ H s) (h:gX X.K H a xs) (h':gX X.K H a ys):xs=ys:=by
 obtain ⟨its,r,⟨o,n,e,_,_,d⟩,_⟩:=I.list h
 obtain ⟨its',r',⟨o',n',e',_,_,d'⟩,_⟩:=I.list h'
 rw [e] at e'; cases e'
 rw [d] at d'
 injection d' with d1 _
 have:its=its':=by simpa using congrArg Array.toList d1
 subst this
 exact r.inj r'
theorem Inv.pe (I:Inv X pins σ H s) (h:jN X.K H a xs) (h':jN X.K H a ys):xs=ys:=by
 obtain ⟨its,r,⟨o,e,_,n,d⟩,_⟩:=I.tuple h
 obtain ⟨its',r',⟨o',e',_,n',d'⟩,_⟩:=I.tuple h'
 rw [e] at e'; cases e'
 rw [d] at d'
 injection d' with d1 _
 have:its=its':=by simpa using congrArg Array.toList d1
 subst this
 exact r.inj r'
end
abbrev Cx.tL (X:Cx) (E:Value->Shared->Prop):Cx:={ X with xe:=E }
abbrev Cx.LD (X:Cx):Cx:=X.tL λ_ _=>False
theorem Cx.Ok.tL {X:Cx} (ok:X.Ok) (E:Value->Shared->Prop):(X.tL E).Ok:=
 ⟨ok.mod,ok.kind,ok.glob,ok.blt,ok.above,ok.inj,ok.has,ok.P7,ok.hd,ok.frames,ok.Qw,ok.UP,ok.bs,ok.LA,ok.CU,ok.EM,ok.qw,ok.Na⟩
theorem Cx.Ok.lj {X:Cx} {E:Value->Shared->Prop} (ok:(X.tL E).Ok):X.Ok:=
 ⟨ok.mod,ok.kind,ok.glob,ok.blt,ok.above,ok.inj,ok.has,ok.P7,ok.hd,ok.frames,ok.Qw,ok.UP,ok.bs,ok.LA,ok.CU,ok.EM,ok.qw,ok.Na⟩
section
variable {X:Cx} {pins:List (Addr×Obj)} {σ:St} {H:Hp} {s:Shared} {E:Value->Shared->Prop}
theorem Inv.tL (I:Inv X pins σ H s) (E:Value->Shared->Prop):Inv (X.tL E) pins σ H s:=⟨I.ok.tL E,I.os,I.bare,I.base,I.loc,I.cell,I.free,I.lh,I.pin,I.cS,I.len⟩
theorem Inv.lj (I:Inv (X.tL E) pins σ H s):Inv X pins σ H s:=⟨I.ok.lj,I.os,I.bare,I.base,I.loc,I.cell,I.free,I.lh,I.pin,I.cS,I.len⟩
theorem SP.lj {D:Ends} {f:Flow} {s':Shared} (h:SP (X.tL E) pins D f s'):SP X pins D f s':=by
 cases f with
 | next=>obtain ⟨cT,H',I,q⟩:=h; exact ⟨cT,H',I.lj,q⟩
 | brk=>obtain ⟨cT,H',I,q⟩:=h; exact ⟨cT,H',I.lj,q⟩
 | cont=>obtain ⟨cT,H',I,q⟩:=h; exact ⟨cT,H',I.lj,q⟩
 | ret u=>obtain ⟨v,cT,H',I,r,q⟩:=h; exact ⟨v,cT,H',I.lj,r,q⟩
theorem mR.LD {st:List Stmt} {t:TS} (h:mR X.LD st t):mR X st t:=λpins s σ H D I hw=>
 adG (h pins s σ H D (I.tL _) hw) (λ_ _ q=>q.lj) λ_ _ z=>False.elim z
end
section
variable {X:Cx} {st:Stmt} {rest:List Stmt} {t u:TS} {e:Expr} {te:TE} {pos:Pos}
def QH:TS:=λD σ H=>D.nx σ H
def UY (t u:TS):TS:=λD σ H=>t { D with nx:=u D } σ H
theorem Jc:mR X [] QH:=λ_ _ σ H _ I h=>af8 ⟨σ,H,I,h⟩
theorem rf (h1:PS X st t) (h2:mR X rest u):mR X (st :: rest) (UY t u):=by
 intro pins s σ H D I h
 refine wpAny_execs_cons (dz (h1 pins s σ H { D with nx:=u D } I h) λf s1 q=>?_)
 cases f with
 | next=>
   obtain ⟨cT,H',I',q⟩:=q
   exact h2 pins s1 cT H' D I' q
 | ret v=>exact q
 | brk=>exact q
 | cont=>exact q
theorem vv (h1:PS X st t):mR X [st] t:=by
 intro pins s σ H D I h
 refine wpAny_execs_cons (dz (h1 pins s σ H D I h) λf s1 q=>?_)
 cases f with
 | next=>exact af8 q
 | ret v=>exact q
 | brk=>exact q
 | cont=>exact q
theorem Inv.quiet {pins:List (Addr×Obj)} {σ:St} {H:Hp} {s:Shared} (I:Inv X pins σ H s):interactive X.env=false:=by simp [interactive,I.ok.kind]
def uo (te:TE):TS:=λD σ H=>te σ H λ_ H1=>D.nx σ H1
theorem cX (he:PE X e te) (hs:swapsWith e none pos.line X.env=pure false:=by rfl):PS X (.Expr e pos) (uo te):=by
 intro pins s σ H D I h
 exact wpAny_Expr_any (dz (he pins s σ H _ I h) λv s1 ⟨x,H1,I1,r1,q1⟩=>⟨σ,H1,I1,q1⟩) I.quiet hs
def UZ (te:TE):TS:=λD σ H=>te σ H D.rt
theorem vw (he:PE X e te):PS X (.Return (some e) pos) (UZ te):=by
 intro pins s σ H D I h
 exact wpAny_Return_some (dz (he pins s σ H _ I h) λv s1 ⟨x,H1,I1,r1,q1⟩=>⟨x,σ,H1,I1,r1,q1⟩)
def U0 (c:TT) (t u:TS):TS:=λD σ H=>c σ H λb H1=>if b=true then t D σ H1 else u D σ H1
theorem QI {c:Expr} {a b:List Stmt} {tc:TT} (hc:PT X c tc) (ha:mR X a t) (hb:mR X b u):PS X (.If c a b pos) (U0 tc t u):=by
 intro pins s σ H D I h
 refine wpAny_If (dz (hc pins s σ H _ I h) λd s1 ⟨H1,I1,q1⟩=>?_)
 cases d with
 | true=>exact ha pins s1 σ H1 D I1 q1
 | false=>exact hb pins s1 σ H1 D I1 q1
def ES:TS:=λ_ _ _=>False
theorem ET:PS X st ES:=λ_ _ _ _ _ _ h=>h.elim
theorem CV {sts:List Stmt}:mR X sts ES:=λ_ _ _ _ _ _ h=>h.elim
end
abbrev TG:=V->St->Hp->(St->Hp->Prop)->Prop
abbrev Jd:=List V->St->Hp->(St->Hp->Prop)->Prop
def PG (X:Cx) (target:Expr) (t:TG):Prop:=
 ∀ (pins:List (Addr×Obj)) (s:Shared) (σ:St) (H:Hp) (v:V) (u:Value) (Q:St->Hp->Prop),Inv X pins σ H s->RelV v u->t v σ H Q->
   wpAny (model X.prog X.w) X.A (assign target X.env u) (λ_ s'=>∃ cT H',Inv X pins cT H' s' /\ Q cT H') X.xe s
def EU (X:Cx) (ts:List Expr) (t:Jd):Prop:=
 ∀ (pins:List (Addr×Obj)) (s:Shared) (σ:St) (H:Hp) (vs:List V) (us:List Value) (Q:St->Hp->Prop),Inv X pins σ H s->bj vs us->t vs σ H Q->
   wpAny (model X.prog X.w) X.A (assignInOrder ((assignEach ts X.env).map (·.2)) us) (λ_ s'=>∃ cT H',Inv X pins cT H' s' /\ Q cT H') X.xe s
abbrev EV:=V->V->V->Hp->(Hp->Prop)->Prop
def Nh (X:Cx) (t:EV):Prop:=
 ∀ (pins:List (Addr×Obj)) (s:Shared) (σ:St) (H:Hp) (o i v:V) (ov iv u:Value) (Q:Hp->Prop),Inv X pins σ H s->RelV o ov->RelV i iv->RelV v u->t o i v H Q->
   wpAny (model X.prog X.w) X.A (setItem ov iv u) (λ_ s'=>∃ H',Inv X pins σ H' s' /\ Q H') X.xe s
abbrev Tf:=V->V->Hp->VK->Prop
def PIp (X:Cx) (op:Operator) (t:Tf):Prop:=
 ∀ (pins:List (Addr×Obj)) (s:Shared) (σ:St) (H:Hp) (x y:V) (v u:Value) (Q:VK),Inv X pins σ H s->RelV x v->RelV y u->t x y H Q->
   wpAny (model X.prog X.w) X.A (inplaceOp op v u) (EP X pins σ Q) X.xe s
section
variable {X:Cx} {pos:Pos}
def iM (i:Nat):TG:=λv σ H Q=>Q (σ.set i (some v)) H
theorem aw {i:Nat} {x:Str} (hN:X.N.Nodup) (hi:X.N[i]?=some x) (hx:Loc X.env.scope x) (hf:X.fn x=true \/ X.env.scope.names.lookup x=some .local:=by first | exact .inl rfl | exact .inr rfl | assumption):PG X (.Name x pos) (iM i):=by
 intro pins s σ H v u Q I r h
 exact wpAny_assign_Name (n5 I hN hi hx r (λs' I'=>⟨_,H,I',h⟩) hf)
def QJ:Jd:=λvs σ H Q=>vs=[] /\ Q σ H
def EW (t:TG) (u:Jd):Jd:=λvs σ H Q=>∃ v r,vs=v :: r /\ t v σ H λcT H'=>u r cT H' Q
theorem Bz:EU X [] QJ:=by
 intro pins s σ H vs us Q I r h
 obtain ⟨e,h⟩:=h
 subst e
 cases r
 exact assignInOrder_nil ⟨σ,H,I,h⟩
theorem rg {e:Expr} {es:List Expr} {t:TG} {u:Jd} (h1:PG X e t) (h2:EU X es u)
  (hs:(assignEach (e :: es) X.env).map (·.2)=assign e X.env :: (assignEach es X.env).map (·.2):=by rfl):EU X (e :: es) (EW t u):=by
 intro pins s σ H vs us Q I r h
 obtain ⟨v,vr,e1,h⟩:=h
 subst e1
 cases r with
 | cons r rr=>
   rw [hs]
   refine assignInOrder_cons (dz (h1 pins s σ H _ _ _ I r h) λ_ s1 ⟨LF,H1,I1,q1⟩=>?_)
   exact h2 pins s1 LF H1 _ _ Q I1 rr q1
def QK (K:PySem.W.Frag) (n:Nat) (t:Jd):TG:=λv σ H Q=>∃ a xs,v=.ref a /\ jN K H a xs /\ xs.length=n /\ t xs σ H Q
theorem EX {es:List Expr} {k:Nat} {t:Jd} {n:Nat} (hc:X.calm=true) (h:EU X es t)
  (hn:(assignEach es X.env).length=n:=by rfl) (QL:(assignEach es X.env).findIdx? (·.1)=none:=by rfl):PG X (.Tuple es k pos) (QK X.K n t):=by
 intro pins s σ H v u Q I r hw
 obtain ⟨a,xs,e1,hq,hl,hw⟩:=hw
 subst e1
 cases r
 obtain ⟨its,rv,ht,hz⟩:=I.tuple hq
 refine assign_Tuple_tuple (I.ok.hd hc) ht (by simp [hn,<- hl,rv.length]) QL λh' hx=>?_
 have I1:Inv X pins σ H { s with heap:=h' }:=I.kept (t':=s.toks) λb o e=>hx b o (adj (acV e)) e
 exact h pins _ σ H xs _ Q I1 (by simpa using rv) hw
def QM (to ti:TE) (t:EV):TG:=λv σ H Q=>to σ H λo H1=>ti σ H1 λi H2=>t o i v H2 λH3=>Q σ H3
theorem EY {o i:Expr} {to ti:TE} {t:EV} (ho:PE X o to) (hi:PE X i ti) (hs:Nh X t)
  (ha:∀ v,assign (.Subscript o i pos) X.env v=(do
   let ov <- holding [v] (eval o X.env)
   let iv <- holding [v,ov] (eval i X.env)
   standAt pos
   holding [v,ov,iv] (setItem ov iv v)
   release [v,ov,iv] []):=by intro _; rfl):PG X (.Subscript o i pos) (QM to ti t):=by
 intro pins s σ H v u Q I r h
 rw [ha]
 refine acI (aet (dz (ho pins s σ H _ I h) λov s1 ⟨x,H1,I1,r1,q1⟩=>?_))
 refine acI (aet (dz (hi pins s1 σ H1 _ I1 q1) λiv s2 ⟨y,H2,I2,r2,q2⟩=>?_))
 refine acI (afu (acI (aet (dz (hs pins s2 σ H2 x y v ov iv u _ I2 r1 r2 r q2) λ_ s3 ⟨H3,I3,q3⟩=>?_))))
 exact wpAny_release ⟨σ,H3,I3,q3⟩
def n9 (te:TE) (g:TG):TS:=λD σ H=>te σ H λx H1=>g x σ H1 D.nx
theorem zx {tg e:Expr} {te:TE} {g:TG} (he:PE X e te) (hg:PG X tg g) (hs:swapsWithSole [tg] e pos.line X.env=pure false:=by rfl) (hw:swappedStores [tg] e X.env=pure none:=by rfl)
  (h1:(assignEach [tg] X.env).map (·.2)=[assign tg X.env]:=by rfl):PS X (.Assign [tg] e pos) (n9 te g):=by
 intro pins s σ H D I h
 refine wpAny_Assign_stores (dz (he pins s σ H _ I h) λv s1 ⟨x,H1,I1,r1,q1⟩=>?_) hs hw
 rw [h1]
 exact dz (hg pins s1 σ H1 x v _ I1 r1 q1) λ_ s2 q=>q
theorem di {i:Nat} {x:Str} {e:Expr} {te:TE} {pos':Pos} (hN:X.N.Nodup) (hi:X.N[i]?=some x) (hx:Loc X.env.scope x) (he:PE X e te) (hs:swapsWith e (some (.Name x pos')) pos.line X.env=pure false:=by rfl) (hf:X.fn x=true \/ X.env.scope.names.lookup x=some .local:=by first | exact .inl rfl | exact .inr rfl | assumption):
  PS X (.Assign [.Name x pos'] e pos) (n9 te (iM i)):=by
 intro pins s σ H D I h
 refine wpAny_Assign_Name (dz (he pins s σ H _ I h) λv s1 ⟨y,H1,I1,r1,q1⟩=>?_) hs
 exact n5 I1 hN hi hx r1 (λs2 I2=>⟨_,H1,I2,q1⟩) hf
def QN (i j:Nat) (ta:TA):TS:=λD σ H=>ta σ H λvs H1=>∃ v w,vs=[v,w] /\ D.nx ((σ.set i (some v)).set j (some w)) H1
theorem Ni {i j:Nat} {x y:Str} {a b:Expr} {ta:TA} {px py pt:Pos} {kt k2 pt2} (hc:X.calm=true) (hN:X.N.Nodup) (hi:X.N[i]?=some x) (hj:X.N[j]?=some y) (rh:i≠j)
  (hx:X.env.scope.names.lookup x=some .local) (hy:X.env.scope.names.lookup y=some .local) (ha:PA X [a,b] ta)
  (hw:swappedStores [.Tuple [.Name x px,.Name y py] kt pt] (.Tuple [a,b] k2 pt2) X.env=pure (some [x,y]))
  (hs:swapsWithSole [.Tuple [.Name x px,.Name y py] kt pt] (.Tuple [a,b] k2 pt2) pos.line X.env=pure false:=by rfl):
  PS X (.Assign [.Tuple [.Name x px,.Name y py] kt pt] (.Tuple [a,b] k2 pt2) pos) (QN i j ta):=by
 intro pins s σ H D I h
 rw [exec_Assign_arm]
 refine acI (afu ?_)
 rw [hs]
 refine acI (acT ?_)
 rw [acW (by decide)]
 refine acI (Tuple_ (dz (ha _ pins s σ H _ I h) λus s1 ⟨vs,H1,I1,r1,q1⟩=>?_))
 obtain ⟨v,w,e1,q1⟩:=q1
 subst e1
 obtain ⟨u1,u2,rfl,rv,xC⟩:∃ u1 u2,us=[u1,u2] /\ RelV v u1 /\ RelV w u2:=by
  cases r1 with
  | cons p q=>
    cases q with
    | cons p' q'=>
      cases q'
      exact ⟨_,_,rfl,p,p'⟩
 refine adP ?_ (by show 2<=sizeLine; decide)
 have I2:Inv X pins σ H1 { s1 with heap:=s1.heap.push { cls:=.type "tuple",data:=.seq [u1,u2].toArray } }:=I1.kept (t':=s1.toks) λb o e=>acM _ e
 rw [hw]
 refine acI (acT ?_)
 show wpAny (model X.prog X.w) X.A (do rule "assign.swapped-stores"; let items <- unpackItems (.ref s1.heap.objs.size) 2 none; assignInOrder [λv=>bindName X.env y v,λv=>bindName X.env x v] items.reverse; pure Flow.next) _ _ _
 refine acI (afZ (acI (unpackItems_tuple (items:=#[u1,u2]) (I.ok.hd hc) (IsTup.new s1.heap _) λh' U3=>?_)))
 have I3:=I2.kept (h':=h') (t':=s1.toks) λb o e=>U3 b o (adj (acV e)) e
 show wpAny _ _ (assignInOrder [λv=>bindName X.env y v,λv=>bindName X.env x v] [u2,u1] >>= λ_=>pure Flow.next) _ _ _
 refine acI (assignInOrder_cons (wpAny_bindName (n5 I3 hN hj (.inl hy) xC (λs2 I4=>?_) (.inr hy))))
 refine assignInOrder_cons (wpAny_bindName (n5 I4 hN hi (.inl hx) rv (λs3 I5=>assignInOrder_nil (acT ?_)) (.inr hx)))
 rw [List.set_comm _ _ (aeW rh)] at I5
 exact ⟨_,H1,I5,q1⟩
def LG (to ti te:TE) (Je:V->V->Hp->VK->Prop) (Tg:Tf) (Jf:EV):TS:=λD σ H=>to σ H λo H1=>ti σ H1 λi H2=>Je o i H2 λx H3=>te σ H3 λy H4=>Tg x y H4 λz H5=>Jf o i z H5 λH6=>D.nx σ H6
def QO (X:Cx) (t:V->V->Hp->VK->Prop):Prop:=
 ∀ (pins:List (Addr×Obj)) (s:Shared) (σ:St) (H:Hp) (o i:V) (ov iv:Value) (Q:VK),Inv X pins σ H s->RelV o ov->RelV i iv->t o i H Q->
   wpAny (model X.prog X.w) X.A (getItem ov iv) (EP X pins σ Q) X.xe s
theorem Jg {o i e:Expr} {to ti te:TE} {Je:V->V->Hp->VK->Prop} {Tg:Tf} {Jf:EV} {op:Operator} {i5:Pos} (ho:PE X o to) (hi:PE X i ti) (hg:QO X Je) (he:PE X e te) (hp:PIp X op Tg) (hs:Nh X Jf)
  (ha:∀ ov iv new,augStore i ov iv new=(do holding [new,ov,iv] (setItem ov iv new); release [new,ov,iv] []; pure .next):=by intros; rfl):PS X (.AugAssign (.Subscript o i i5) op e pos) (LG to ti te Je Tg Jf):=by
 intro pins s σ H D I h
 refine wpAny_AugAssign_SubscriptAny (dz (ho pins s σ H _ I h) λov s1 ⟨x1,H1,I1,r1,q1⟩=>?_) ha
 refine dz (hi pins s1 σ H1 _ I1 q1) λiv s2 ⟨x2,H2,I2,r2,q2⟩=>?_
 refine dz (hg pins s2 σ H2 x1 x2 ov iv _ I2 r1 r2 q2) λold s3 ⟨x3,H3,I3,r3,q3⟩=>?_
 refine dz (he pins s3 σ H3 _ I3 q3) λv s4 ⟨x4,H4,I4,r4,q4⟩=>?_
 refine dz (hp pins s4 σ H4 x3 x4 old v _ I4 r3 r4 q4) λnew s5 ⟨x5,H5,I5,r5,q5⟩=>?_
 exact dz (hs pins s5 σ H5 x1 x2 x5 ov iv new _ I5 r1 r2 r5 q5) λ_ s6 ⟨H6,I6,q6⟩=>⟨σ,H6,I6,q6⟩
def ipI (f:Int->Int->Int):Tf:=λx y H Q=>∃ i j,x=.int i /\ y=.int j /\ Q (.int (f i j)) H
theorem Nj:PIp X .Add (ipI λi j=>i + j):=by
 intro pins s σ H x y v u Q I r1 r2 h
 obtain ⟨i,j,e1,e2,q⟩:=h
 subst e1; subst e2
 obtain ⟨t,rfl⟩:=r1
 obtain ⟨t',rfl⟩:=r2
 exact iadd_int ⟨.int _,H,I.tok _,⟨_,rfl⟩,q⟩
end
section
variable {X:Cx} {pos:Pos}
def Nk (c:TT) (tb:TS):TS:=λD σ H=>∃ W:Nat->St->Hp->Prop,(∃ m,W m σ H) /\ ∀ m σ H,W m σ H->
 c σ H λb H1=>if b=true then ∃ N:St->Hp->Prop,(∀ cT H',N cT H'->∃ m',m' < m /\ W m' cT H') /\ tb { D with nx:=N,ct:=N,bk:=D.nx } σ H1 else D.nx σ H1
theorem EZ {c:Expr} {body:List Stmt} {tc:TT} {tb:TS} (hp:PassesOwn (model X.prog X.w) X.A X.env X.xe) (hc:PT X c tc) (hb:mR X body tb):PS X (.While c body [] pos) (Nk tc tb):=by
 intro pins s σ H D I h
 obtain ⟨W,⟨m0,w0⟩,turn⟩:=h
 refine wpAny_While (codeAny_whileLoop (λn s'=>∃ cT H',Inv X pins cT H' s' /\ W n cT H') ?_ m0 ⟨σ,H,I,w0⟩)
 rintro n s1 ⟨LF,H1,I1,w1⟩
 refine aeK hp (dz (hc pins s1 LF H1 _ I1 (turn n LF H1 w1)) λb s2 ⟨H2,I2,q2⟩=>?_)
 cases b with
 | true=>
   obtain ⟨N,hN,q2⟩:=q2
   rw [acU rfl]
   refine aeK hp (dz (hb pins s2 LF H2 _ I2 q2) λf s3 q3=>?_)
   cases f with
   | next=>
     obtain ⟨E1,H3,I3,n3⟩:=q3
     obtain ⟨m',hm,w3⟩:=hN E1 H3 n3
     exact ⟨m',hm,E1,H3,I3,w3⟩
   | cont=>
     obtain ⟨E1,H3,I3,n3⟩:=q3
     obtain ⟨m',hm,w3⟩:=hN E1 H3 n3
     exact ⟨m',hm,E1,H3,I3,w3⟩
   | brk=>exact q3
   | ret v=>exact q3
 | false=>
   rw [acW acP]
   exact af8 ⟨LF,H2,I2,q2⟩
end
structure It where
 go:Nat->Hp->Prop
 QP:Nat->Hp->V->Hp->Prop
 stop:Nat->Hp->Prop
def qx (X:Cx) (pins:List (Addr×Obj)) (H:Hp) (b:Addr):Prop:=
 H b=none /\ b≠X.env.locals /\ b∉X.fs /\ (b∈X.ex \/ X.gZ.heap.objs.size<=b) /\ (∀ x c,X.env.cells.lookup x=some c->c≠b) /\ ∀ p∈X.pn ++ pins,p.1≠b
theorem Inv.qy {X:Cx} {pins:List (Addr×Obj)} {σ:St} {H H':Hp} {s:Shared} {b:Addr} (I:Inv X pins σ H s) (hb:s.heap.objs.size<=b) (hn:H' b=none):qx X pins H' b:=by
 refine ⟨hn,ae8 (ada I.lt hb),I.Qx hb,.inr (ado I.sz hb),λx c e z=>?_,λp hp z=>?_⟩
 .obtain ⟨v,q⟩:=I.cell x c e
  exact absurd (ada q.lt (by rw [z]; exact hb)) (adK _)
 .exact absurd (ada (acV (I.pin p hp).1) (by rw [z]; exact hb)) (adK _)
structure Turn (P:Program) (w:World) (K:PySem.W.Frag) (tg:Expr) (J:It) (fp:List Addr) (it:Addr) (tn:Nat->Heap->Prop):Prop where
 mem:it∈fp
 obj:∀ i h,tn i h->∀ b∈fp,∃ o,h.get? b=some o /\ ∀ v,o.data≠.cell v
 keep:∀ i h h',tn i h->(∀ b∈fp,∀ o,h.get? b=some o->h'.get? b=some o)->tn i h'
 item:∀ (X:Cx),X.prog=P->X.w=w->X.K=K->X.calm=true->∀ (i:Nat) (pins:List (Addr×Obj)) (s:Shared) (σ:St) (H:Hp) (E:Value->Shared->Prop),Inv X pins σ H s->(∀ b∈fp,qx X pins H b)->tn i s.heap->J.go i H->
  wpAny (model P w) X.A (pyNext (.ref it)) (λr s1=>∃ u,r=some u /\
   wpAny (model P w) X.A (letOwnedTupleGo tg (.ref it) u) (λ_ s2=>∃ x H',Inv X pins σ H' s2 /\ RelV x u /\ J.QP i H x H' /\ tn (i + 1) s2.heap /\ ∀ b∈fp,H' b=none) E s1) E s
 done:∀ (X:Cx),X.prog=P->X.w=w->X.K=K->X.calm=true->∀ (i:Nat) (pins:List (Addr×Obj)) (s:Shared) (σ:St) (H:Hp) (E:Value->Shared->Prop),Inv X pins σ H s->(∀ b∈fp,qx X pins H b)->tn i s.heap->J.stop i H->
  wpAny (model P w) X.A (pyNext (.ref it)) (λr s1=>r=none /\ Inv X pins σ H s1) E s
 self:∀ (A:Around) (i:Nat) (s:Shared) (Q:Value->Shared->Prop) (E:Value->Shared->Prop),tn i s.heap->Q (.ref it) s->wpAny (model P w) A (pyIter (.ref it)) Q E s
abbrev TI:=St->Hp->(It->Hp->Prop)->Prop
def Th (X:Cx) (pins:List (Addr×Obj)) (σ:St) (tg:Expr) (R:It->Hp->Prop) (IL:Value) (s2:Shared):Prop:=
 ∃ (it:Addr) (fp:List Addr) (tn:Nat->Heap->Prop) (J:It) (H':Hp),IL=.ref it /\ Inv X pins σ H' s2 /\ Turn X.prog X.w X.K tg J fp it tn /\ tn 0 s2.heap /\ (∀ b∈fp,qx X pins H' b) /\ R J H'
def PI (X:Cx) (tg iter:Expr) (wi:TI):Prop:=
 ∀ (pins:List (Addr×Obj)) (s:Shared) (σ:St) (H:Hp) (R:It->Hp->Prop),Inv X pins σ H s->wi σ H R->
   wpAny (model X.prog X.w) X.A (eval iter X.env) (λv s1=>wpAny (model X.prog X.w) X.A (pyIter v) (Th X pins σ tg R) X.xe s1) X.xe s
theorem BA {M:Model} {A:Around} {E:Value->Shared->Prop} {s:Shared} {tg:Expr} {it:Addr} {u:Value} {o:Obj} {n:String} {vs:Array Value} {Q:Unit->Shared->Prop} (ho:s.heap.get? it=some o) (hc:o.cls=.type n) (hd:o.data=.fields vs)
  (hn:["enumerate","zip","dict_itemiterator","dict_reverseitemiterator","odict_iterator","itertools.zip_longest","itertools.pairwise"].contains n=false) (hQ:Q () s):wpAny M A (letOwnedTupleGo tg (.ref it) u) Q E s:=by
 unfold letOwnedTupleGo
 cases tg <;> first
  | exact acT hQ
  | (cases u <;> first
    | exact acT hQ
    | (refine acI (wpAny_load ho ?_)
       rw [hc,hd]
       show wpAny M A (if (["enumerate","zip","dict_itemiterator","dict_reverseitemiterator","odict_iterator","itertools.zip_longest","itertools.pairwise"].contains n && vs[0]? == some (rawInt _))=true then _ else _) Q E s
       rw [acW (by intro h; rw [hn,agp] at h; cases h)]
       exact acT hQ))
def Itl (K:PySem.W.Frag) (a:Addr):It:=
 ⟨λi H=>∃ xs x,gX K H a xs /\ xs[i]?=some x,λi H x H'=>H'=H /\ ∀ xs,gX K H a xs->xs[i]?=some x,λi H=>∃ xs,gX K H a xs /\ xs.length<=i⟩
def Itt (K:PySem.W.Frag) (a:Addr):It:=
 ⟨λi H=>∃ xs x,jN K H a xs /\ xs[i]?=some x,λi H x H'=>H'=H /\ ∀ xs,jN K H a xs->xs[i]?=some x,λi H=>∃ xs,jN K H a xs /\ xs.length<=i⟩
def QR (lo:Int) (n:Nat):It:=⟨λi _=>i < n,λi H x H'=>H'=H /\ x=.int (lo + i),λi _=>n<=i⟩
theorem CW {P:Program} {w:World} {K:PySem.W.Frag} {tg:Expr} (a it:Addr):Turn P w K tg (Itl K a) [it] it (λi h=>h.IsListIter it a i) where
 mem:=by simp
 obj:=λi h st b hb=>by
  have e:b=it:=by simpa using hb
  subst e
  obtain ⟨o,e,c,d⟩:=st
  exact ⟨o,e,λv z=>by rw [d] at z; cases z⟩
 keep:=λi h h' st k=>st.at λo e=>k it (by simp) o e
 item:=by
  intro X hP hw hK hc i pins s σ H E I hf st hg
  subst hP hw hK
  obtain ⟨xs,x,hq,hx⟩:=hg
  obtain ⟨its,rv,p,hz⟩:=I.list hq
  obtain ⟨u,hu,ru⟩:=rv.get hx
  obtain ⟨f0,f1,f2,f3,f4,f5⟩:=hf it (by simp)
  refine wpAny_pyNext_list_item st p.isList (x:=u) (by simpa using hu) λh' CY sb=>?_
  have I1:Inv X pins σ H { s with heap:=h' }:=I.turned (t':=s.toks) (λb o hb e=>(sb.2 b hb).trans e) f0 f1 f3 f4 f5
  obtain ⟨o,e,c,d⟩:=id CY
  exact ⟨u,rfl,BA (s:={ s with heap:=h' }) e c d (by decide) ⟨x,H,I1,ru,⟨rfl,λys hy=>by rw [I.n8 hy hq]; exact hx⟩,CY,λb hb=>(hf b hb).1⟩⟩
 done:=by
  intro X hP hw hK hc i pins s σ H E I hf st hg
  subst hP hw hK
  obtain ⟨xs,hq,hx⟩:=hg
  obtain ⟨its,rv,p,hz⟩:=I.list hq
  obtain ⟨f0,f1,f2,f3,f4,f5⟩:=hf it (by simp)
  have hl:=rv.length
  exact wpAny_pyNext_list_end (I.ok.hd hc) st p.isList (by simp; omega) λh' eb=>⟨rfl,I.turned (t':=s.toks) (λb o hb e=>eb b o hb e) f0 f1 f3 f4 f5⟩
 self:=λ_ _ _ _ _ st h=>wpAny_pyIter_listiter st h
theorem zy {P:Program} {w:World} {K:PySem.W.Frag} {tg:Expr} (a it:Addr):Turn P w K tg (Itt K a) [it] it (λi h=>h.IsTupleIter it a i) where
 mem:=by simp
 obj:=λi h st b hb=>by
  have e:b=it:=by simpa using hb
  subst e
  obtain ⟨o,e,c,d⟩:=st
  exact ⟨o,e,λv z=>by rw [d] at z; cases z⟩
 keep:=λi h h' st k=>st.at λo e=>k it (by simp) o e
 item:=by
  intro X hP hw hK hc i pins s σ H E I hf st hg
  subst hP hw hK
  obtain ⟨xs,x,hq,hx⟩:=hg
  obtain ⟨its,rv,p,hz⟩:=I.tuple hq
  obtain ⟨u,hu,ru⟩:=rv.get hx
  obtain ⟨f0,f1,f2,f3,f4,f5⟩:=hf it (by simp)
  refine wpAny_pyNext_tuple_item st (show s.heap.IsTuple a its.toArray from p) (x:=u) (by simpa using hu) λh' CY sb=>?_
  have I1:Inv X pins σ H { s with heap:=h' }:=I.turned (t':=s.toks) (λb o hb e=>(sb.2 b hb).trans e) f0 f1 f3 f4 f5
  obtain ⟨o,e,c,d⟩:=id CY
  exact ⟨u,rfl,BA (s:={ s with heap:=h' }) e c d (by decide) ⟨x,H,I1,ru,⟨rfl,λys hy=>by rw [I.pe hy hq]; exact hx⟩,CY,λb hb=>(hf b hb).1⟩⟩
 done:=by
  intro X hP hw hK hc i pins s σ H E I hf st hg
  subst hP hw hK
  obtain ⟨xs,hq,hx⟩:=hg
  obtain ⟨its,rv,p,hz⟩:=I.tuple hq
  obtain ⟨f0,f1,f2,f3,f4,f5⟩:=hf it (by simp)
  have hl:=rv.length
  exact wpAny_pyNext_tuple_end (I.ok.hd hc) st (show s.heap.IsTuple a its.toArray from p) (by simp; omega) λh' eb=>⟨rfl,I.turned (t':=s.toks) (λb o hb e=>eb b o hb e) f0 f1 f3 f4 f5⟩
 self:=λ_ _ _ _ _ st h=>wpAny_pyIter_tupleiter st h
theorem zz {P:Program} {w:World} {K:PySem.W.Frag} {tg:Expr} (it:Addr) (lo:Int) (n:Nat):Turn P w K tg (QR lo n) [it] it (λi h=>IsRangeIter h it (lo + (i:Nat) * 1) ((n:Int) - (i:Nat)) 1) where
 mem:=by simp
 obj:=λi h st b hb=>by
  have e:b=it:=by simpa using hb
  subst e
  exact ⟨_,st,λv z=>by
   have z':Data.fields _=Data.cell v:=z
   cases z'⟩
 keep:=λi h h' st k=>k it (by simp) _ st
 item:=by
  intro X hP hw hK hc i pins s σ H E I hf st hg
  subst hP hw hK
  obtain ⟨f0,f1,f2,f3,f4,f5⟩:=hf it (by simp)
  have W:=Walks.range (prog:=X.prog) (w:=X.w) (I.ok.hd hc) it lo 1 n
  refine W.item i s _ _ hg st λv h' tk hv CY kk=>?_
  obtain ⟨t,rfl⟩:=hv
  have I1:Inv X pins σ H { s with heap:=h',toks:=tk }:=I.turned (λb o hb e=>kk b o (by simpa using hb) e) f0 f1 f3 f4 f5
  refine ⟨_,rfl,BA (s:={ s with heap:=h',toks:=tk }) (n:="range_iterator") CY rfl rfl (by decide) ⟨.int (lo + i),H,I1,⟨t,?_⟩,⟨rfl,rfl⟩,CY,λb hb=>(hf b hb).1⟩⟩
  rw [af4]
 done:=by
  intro X hP hw hK hc i pins s σ H E I hf st hg
  subst hP hw hK
  obtain ⟨f0,f1,f2,f3,f4,f5⟩:=hf it (by simp)
  exact wpAny_pyNext_range_end (I.ok.hd hc) st (by have:n<=i:=hg; omega) λh' eb=>⟨rfl,I.turned (t':=s.toks) (λb o hb e=>eb b o hb e) f0 f1 f3 f4 f5⟩
 self:=λ_ _ _ _ _ st h=>wpAny_pyIter_rangeiter st h
section
variable {X:Cx} {tg:Expr}
theorem xD {pins:List (Addr×Obj)} {σ:St} {H:Hp} {s:Shared} {R:It->Hp->Prop} {E:Value->Shared->Prop} {lo hi:Int} {t u v:Tok} {tk:Nat} (I:Inv X pins σ H s) (h1: -(2 ^ 62)<=lo) (h2:lo < 2 ^ 62) (h3: -(2 ^ 62)<=hi) (h4:hi < 2 ^ 62)
  (q:R (QR lo (hi - lo).toNat) H):wpAny (model X.prog X.w) X.A (pyIter (.ref s.heap.objs.size)) (Th X pins σ tg R) E { s with heap:=s.heap.push { cls:=.type "range",data:=.fields #[.int lo t,.int hi u,.int 1 v] },toks:=tk }:=by
 refine wpAny_pyIter_range (IsRange.new ..) (small_one h1 h2 h3 h4) ?_
 have I1:Inv X pins σ H { s with heap:=s.heap.push { cls:=.type "range",data:=.fields #[.int lo t,.int hi u,.int 1 v] },toks:=tk }:=I.kept λb o e=>acM _ e
 refine ⟨(s.heap.push { cls:=.type "range",data:=.fields #[.int lo t,.int hi u,.int 1 v] }).objs.size,[(s.heap.push { cls:=.type "range",data:=.fields #[.int lo t,.int hi u,.int 1 v] }).objs.size],_,_,H,rfl,
  I1.kept (t':=tk) λb o e=>acM _ e,zz _ lo (hi - lo).toNat,?_,λb hb=>?_,q⟩
 .have e1:lo + ((0:Nat):Int) * 1=lo:=by simp
  have e2:(((hi - lo).toNat:Nat):Int) - ((0:Nat):Int)=Builtin.Range.rangeSize lo hi 1:=by rw [rangeSize_one]; split <;> omega
  show IsRangeIter _ _ (lo + ((0:Nat):Int) * 1) ((((hi - lo).toNat:Nat):Int) - ((0:Nat):Int)) 1
  rw [e1,e2]
  exact ac8 _ rfl
 .have e:b=(s.heap.push { cls:=.type "range",data:=.fields #[.int lo t,.int hi u,.int 1 v] }).objs.size:=by simpa using hb
  subst e
  exact I1.qy (ac1 _) (I1.cS.fresh (ac1 _))
def QS (ta:TA):TI:=λσ H R=>ta σ H λvs H1=>∃ j:Int,vs=[.int j] /\ -(2 ^ 62)<=j /\ j < 2 ^ 62 /\ R (QR 0 j.toNat) H1
def QT (ta:TA):TI:=λσ H R=>ta σ H λvs H1=>∃ i j:Int,vs=[.int i,.int j] /\ (-(2 ^ 62)<=i /\ i < 2 ^ 62 /\ -(2 ^ 62)<=j /\ j < 2 ^ 62) /\ R (QR i (j - i).toNat) H1
theorem CZ {a:Expr} {ta:TA} {p pos:Pos} (hg:Gl X "range") (hm:X.mg "range"=none) (ha:PA X [a] ta) (hs:starEach [a] X.env=[(false,eval a X.env)]:=by rfl):PI X tg (.Call (.Name "range" p) [a] [] pos) (QS ta):=by
 intro pins s σ H R I h
 refine Call_ (ka I hg hm boot_range (adZ (dz (ha pos pins s σ H _ I h) λus s1 ⟨vs,H1,I1,r1,q1⟩=>?_) hs rfl))
 obtain ⟨j,e,q1,q2,q⟩:=q1
 subst e
 cases r1 with
 | cons r rr=>
   cases rr
   obtain ⟨t,rfl⟩:=r
   exact call_range_1 (xD I1 (by omega) (by omega) q1 q2 (by simpa using q))
theorem C0 {a b:Expr} {ta:TA} {p pos:Pos} (hg:Gl X "range") (hm:X.mg "range"=none) (ha:PA X [a,b] ta) (hs:starEach [a,b] X.env=[(false,eval a X.env),(false,eval b X.env)]:=by rfl) (oa:starEach [b] X.env=[(false,eval b X.env)]:=by rfl):
  PI X tg (.Call (.Name "range" p) [a,b] [] pos) (QT ta):=by
 intro pins s σ H R I h
 refine Call_ (ka I hg hm boot_range (adZ (dz (ha pos pins s σ H _ I h) λus s1 ⟨vs,H1,I1,r1,q1⟩=>?_) (by rw [hs,oa]) (by rw [oa]; rfl)))
 obtain ⟨i,j,e,⟨q1,q2,q3,q4⟩,q⟩:=q1
 subst e
 cases r1 with
 | cons r rr=>
   cases rr with
   | cons r' rr=>
     cases rr
     obtain ⟨t,rfl⟩:=r
     obtain ⟨t',rfl⟩:=r'
     exact call_range_2 (xD I1 q1 q2 q3 q4 q)
def U4 (wi:TI) (g:TG) (tb:TS):TS:=λD σ H=>wi σ H λJ H1=>∃ W:Nat->Nat->St->Hp->Prop,(∃ m,W 0 m σ H1) /\ ∀ i m σ H,W i m σ H->
 (J.stop i H /\ D.nx σ H) \/ (J.go i H /\ ∃ N:St->Hp->Prop,(∀ cT H',N cT H'->∃ m',m' < m /\ W (i + 1) m' cT H') /\ ∀ x H',J.QP i H x H'->g x σ H' λσ2 H2=>tb { D with nx:=N,ct:=N,bk:=D.nx } σ2 H2)
def mS (fp:List Addr) (h:Heap):List (Addr×Obj):=fp.filterMap λb=>(h.get? b).map λo=>(b,o)
theorem g5 {fp:List Addr} {h:Heap} {b:Addr} {o:Obj} (hb:b∈fp) (e:h.get? b=some o):(b,o)∈mS fp h:=List.mem_filterMap.mpr ⟨b,hb,by rw [e]; rfl⟩
theorem uq {fp:List Addr} {h:Heap} {p:Addr×Obj} (hp:p∈mS fp h):p.1∈fp /\ h.get? p.1=some p.2:=by
 obtain ⟨b,hb,e⟩:=List.mem_filterMap.mp hp
 cases q:h.get? b with
 | none=>rw [q] at e; cases e
 | some o=>
   rw [q] at e
   have e':(b,o)=p:=adp e
   subst e'
   exact ⟨hb,q⟩
theorem Inv.pinned {pins:List (Addr×Obj)} {σ:St} {H:Hp} {s:Shared} {fp:List Addr} (I:Inv X pins σ H s) (hf:∀ b∈fp,qx X pins H b) (ho:∀ b∈fp,∃ o,s.heap.get? b=some o /\ ∀ v,o.data≠.cell v):Inv X (pins ++ mS fp s.heap) σ H s:=
 I.l9 λp hp=>(adh.mp hp).elim (λz=>I.pin p (acX _ z)) λz=>by
  obtain ⟨hb,e⟩:=uq z
  obtain ⟨f0,f1,f2,_⟩:=hf p.1 hb
  obtain ⟨o,e',d⟩:=ho p.1 hb
  rw [e] at e'; cases e'
  exact ⟨e,f0,f1,f2,d⟩
theorem Inv.rj {pins pl:List (Addr×Obj)} {σ:St} {H:Hp} {s:Shared} (I:Inv X (pins ++ pl) σ H s):Inv X pins σ H s:=I.l9 λp hp=>I.pin p (acX _ (adv _ hp))
theorem E2 {iter:Expr} {body:List Stmt} {wi:TI} {g:TG} {tb:TS} {pos:Pos} (hp:PassesOwn (model X.prog X.w) X.A X.env X.xe) (hc:X.calm=true) (hi:PI X tg iter wi) (hg:PG X tg g) (hb:mR X body tb)
  (hs:∀ x,foldedSetIterable iter X.env x=pure x:=by intro _; rfl):PS X (.For tg iter body [] pos) (U4 wi g tb):=by
 intro pins s σ H D I h
 refine wpAny_For (dz (hi pins s σ H _ I h) λv s1 h1=>dz h1 λIL s2 h2=>?_) hs
 obtain ⟨it,fp,tn,J,H2,e,I2,T,jq,f2,W,⟨m0,w0⟩,turn⟩:=h2
 subst e
 have zA:∀ {H':Hp},(∀ b∈fp,H' b=none)->∀ b∈fp,qx X pins H' b:=λhn b hb=>⟨hn b hb,(f2 b hb).2⟩
 refine codeAny_forLoop_any (λn s'=>∃ i cT H',Inv X pins cT H' s' /\ tn i s'.heap /\ (∀ b∈fp,H' b=none) /\ W i n cT H') ?_ m0 ⟨0,σ,H2,I2,jq,λb hb=>(f2 b hb).1,w0⟩
 rintro n s3 ⟨i,E1,H3,I3,LH,fr3,w3⟩
 rcases turn i n E1 H3 w3 with ⟨stop,qn⟩ | ⟨go,N,hN,step⟩
 .refine aeK hp (dz (T.done X rfl rfl rfl hc i pins s3 E1 H3 X.xe I3 (zA fr3) LH stop) λr s4 ⟨hr,I4⟩=>?_)
  subst hr
  exact af8 ⟨E1,H3,I4,qn⟩
 .refine aeK hp (dz (T.item X rfl rfl rfl hc i pins s3 E1 H3 X.xe I3 (zA fr3) LH go) λr s4 ⟨u,hr,h4⟩=>?_)
  subst hr
  refine aeK hp (dz h4 λ_ s5 ⟨x,H5,I5,r5,y5,Jh,U5⟩=>?_)
  have U6:=I5.pinned (zA U5) (T.obj _ _ Jh)
  refine aeK hp (dz (hg _ s5 E1 H5 x u _ U6 r5 (step x H5 y5)) λ_ s6 ⟨σ6,H6,I6,q6⟩=>?_)
  refine aeK hp (dz (hb _ s6 σ6 H6 _ I6 q6) λf s7 q7=>?_)
  have again:∀ {E3:St} {H7:Hp},Inv X (pins ++ mS fp s5.heap) E3 H7 s7->N E3 H7->∃ m,m < n /\ ∃ i cT H',Inv X pins cT H' s7 /\ tn i s7.heap /\ (∀ b∈fp,H' b=none) /\ W i m cT H':=λ{E3 H7} I7 n7=>by
   obtain ⟨m',hm,w7⟩:=hN E3 H7 n7
   refine ⟨m',hm,i + 1,E3,H7,I7.rj,T.keep _ _ _ Jh λb hb o e=>(I7.pin (b,o) (acX _ (acX _ (g5 hb e)))).1,λb hb=>?_,w7⟩
   obtain ⟨o,e,d⟩:=T.obj _ _ Jh b hb
   exact (I7.pin (b,o) (acX _ (acX _ (g5 hb e)))).2.1
  cases f with
  | next=>obtain ⟨E3,H7,I7,n7⟩:=q7; exact again I7 n7
  | cont=>obtain ⟨E3,H7,I7,n7⟩:=q7; exact again I7 n7
  | brk=>obtain ⟨E3,H7,I7,q7⟩:=q7; exact ⟨E3,H7,I7.rj,q7⟩
  | ret v=>obtain ⟨x7,E3,H7,I7,r7,q7⟩:=q7; exact ⟨x7,E3,H7,I7.rj,r7,q7⟩
end
abbrev R2:=V->V->Hp->VK->Prop
def jo (X:Cx) (f:Value->Value->Sem Value) (r:R2):Prop:=
 ∀ (pins:List (Addr×Obj)) (s:Shared) (σ:St) (H:Hp) (x y:V) (v u:Value) (Q:VK),Inv X pins σ H s->RelV x v->RelV y u->r x y H Q->
   wpAny (model X.prog X.w) X.A (f v u) (EP X pins σ Q) X.xe s
def U7 (X:Cx) (f:Value->Sem Value) (r:V->Hp->VK->Prop):Prop:=
 ∀ (pins:List (Addr×Obj)) (s:Shared) (σ:St) (H:Hp) (x:V) (v:Value) (Q:VK),Inv X pins σ H s->RelV x v->r x H Q->
   wpAny (model X.prog X.w) X.A (f v) (EP X pins σ Q) X.xe s
def eR (X:Cx) (f:Value) (r:List V->Hp->VK->Prop):Prop:=
 ∀ (pins:List (Addr×Obj)) (s:Shared) (σ:St) (H:Hp) (xs:List V) (us:List Value) (Q:VK),Inv X pins σ H s->bj xs us->r xs H Q->
   wpAny (model X.prog X.w) X.A (call f us) (EP X pins σ Q) X.xe s
def U8 (X:Cx) (r:V->Hp->(Bool->Hp->Prop)->Prop):Prop:=
 ∀ (pins:List (Addr×Obj)) (s:Shared) (σ:St) (H:Hp) (x:V) (v:Value) (Q:Bool->Hp->Prop),Inv X pins σ H s->RelV x v->r x H Q->
   wpAny (model X.prog X.w) X.A (truthy v) (TP X pins σ Q) X.xe s
def P9 (r:R2) (ta tb:TE):TE:=λσ H Q=>ta σ H λx H1=>tb σ H1 λy H2=>r x y H2 Q
def tUn (r:V->Hp->VK->Prop) (ta:TE):TE:=λσ H Q=>ta σ H λx H1=>r x H1 Q
def rI (C:Int->Int->Prop) (g:Int->Int->V):R2:=λx y H Q=>∃ i j,x=.int i /\ y=.int j /\ C i j /\ Q (g i j) H
def E4 (g:Int->Int->V):R2:=λx y H Q=>∃ i j,x=.int i /\ y=.int j /\ Q (g i j) H
def rU (g:Int->V):V->Hp->VK->Prop:=λx H Q=>∃ i,x=.int i /\ Q (g i) H
section
variable {X:Cx} {a b c:Expr} {ta tb tc:TE} {pos:Pos}
theorem Nl (ha:PE X a ta) (hb:PE X b tb) {pins:List (Addr×Obj)} {s:Shared} {σ:St} {H:Hp} {R:V->V->Hp->Prop} (I:Inv X pins σ H s)
  (h:ta σ H λx H1=>tb σ H1 λy H2=>R x y H2) {Q:Value->Shared->Prop} {f:Value->Value->Sem Value}
  (hf:∀ v u s2 x y H2,Inv X pins σ H2 s2->RelV x v->RelV y u->R x y H2->wpAny (model X.prog X.w) X.A (f v u) Q X.xe s2):
  wpAny (model X.prog X.w) X.A (eval a X.env) (λv bR=>wpAny (model X.prog X.w) X.A (eval b X.env) (λu mT=>wpAny (model X.prog X.w) X.A (f v u) Q X.xe mT) X.xe bR) X.xe s:=by
 refine dz (ha pins s σ H _ I h) λv s1 ⟨x,H1,I1,r1,q1⟩=>?_
 refine dz (hb pins s1 σ H1 _ I1 q1) λu s2 ⟨y,H2,I2,r2,q2⟩=>?_
 exact hf v u s2 x y H2 I2 r1 r2 q2
theorem E5 {op:Operator} {r:R2} (ho:jo X (binaryOp op) r) (ha:PE X a ta) (hb:PE X b tb):PE X (.BinOp a op b pos) (P9 r ta tb):=by
 intro pins s σ H Q I h
 exact wpAny_BinOp (Nl ha hb I h λv u s2 x y H2 I2 rx ry q=>ho pins s2 σ H2 x y v u Q I2 rx ry q)
theorem QU {op:UnaryOp} {r:V->Hp->VK->Prop} (ho:U7 X (unaryOp op) r) (ha:PE X a ta):PE X (.UnaryOp op a pos) (tUn r ta):=by
 intro pins s σ H Q I h
 exact UnaryOp_ (dz (ha pins s σ H _ I h) λv s1 ⟨x,H1,I1,r1,q1⟩=>ho pins s1 σ H1 x v Q I1 r1 q1)
theorem QV {f:Value->Value->Sem Value} {C:Int->Int->Prop} {g:Int->Int->Int}
  (rule:∀ (i j:Int) (t u:Tok) (s:Shared) (Q:Value->Shared->Prop) (E:Value->Shared->Prop),C i j->Q (.int (g i j) s.toks) { s with toks:=s.toks + 1 }->wpAny (model X.prog X.w) X.A (f (.int i t) (.int j u)) Q E s):
  jo X f (rI C λi j=>.int (g i j)):=by
 intro pins s σ H x y v u Q I rx ry h
 obtain ⟨i,j,rfl,rfl,hc,q⟩:=h
 obtain ⟨t,rfl⟩:=rx
 obtain ⟨t',rfl⟩:=ry
 exact rule i j t t' s _ _ hc ⟨.int (g i j),H,I.tok _,⟨_,rfl⟩,q⟩
theorem QW {f:Value->Value->Sem Value} {g:Int->Int->Int}
  (rule:∀ (i j:Int) (t u:Tok) (s:Shared) (Q:Value->Shared->Prop) (E:Value->Shared->Prop),Q (.int (g i j) s.toks) { s with toks:=s.toks + 1 }->wpAny (model X.prog X.w) X.A (f (.int i t) (.int j u)) Q E s):
  jo X f (E4 λi j=>.int (g i j)):=by
 intro pins s σ H x y v u Q I rx ry h
 obtain ⟨i,j,rfl,rfl,q⟩:=h
 obtain ⟨t,rfl⟩:=rx
 obtain ⟨t',rfl⟩:=ry
 exact rule i j t t' s _ _ ⟨.int (g i j),H,I.tok _,⟨_,rfl⟩,q⟩
theorem Ji {f:Value->Value->Sem Value} {g:Int->Int->Bool}
  (rule:∀ (i j:Int) (t u:Tok) (s:Shared) (Q:Value->Shared->Prop) (E:Value->Shared->Prop),Q (.bool (g i j)) s->wpAny (model X.prog X.w) X.A (f (.int i t) (.int j u)) Q E s):
  jo X f (E4 λi j=>.bl (g i j)):=by
 intro pins s σ H x y v u Q I rx ry h
 obtain ⟨i,j,rfl,rfl,q⟩:=h
 obtain ⟨t,rfl⟩:=rx
 obtain ⟨t',rfl⟩:=ry
 exact rule i j t t' s _ _ ⟨.bl (g i j),H,I,rfl,q⟩
def Nm (i j:Int):Prop:=0<=j /\ j<=1000000 /\ i.natAbs < 2 ^ 64
theorem zB (k:Nat):(0:Int)<=2 ^ k:=by
 rw [two_pow_cast]
 exact Int.natCast_nonneg _
theorem Nn:jo X (binaryOp .Add) (E4 λi j=>.int (i + j)):=QW λ_ _ _ _ _ _ _ q=>add_int q
theorem fB:jo X (binaryOp .Sub) (E4 λi j=>.int (i - j)):=QW λ_ _ _ _ _ _ _ q=>sub_int q
theorem dQ:jo X (binaryOp .Mod) (rI (λ_ j=>j≠0) λi j=>.int (i.fmod j)):=QV λ_ _ _ _ _ _ _ hc q=>mod_int' hc q
theorem rk:jo X (binaryOp .Pow) (rI Nm λi j=>.int (i ^ j.toNat)):=QV λ_ _ _ _ _ _ _ hc q=>pow_int_small hc.1 hc.2.1 hc.2.2 q
theorem zC:jo X (binaryOp .RShift) (rI (λ_ j=>0<=j) λi j=>.int (i / 2 ^ j.toNat)):=QV λi j _ _ _ _ _ hc q=>
 rshift_int hc (by rw [Int.fdiv_eq_ediv_of_nonneg i (zB _)]; exact q)
theorem unI {f:Value->Sem Value} {g:Int->Int}
  (rule:∀ (i:Int) (t:Tok) (s:Shared) (Q:Value->Shared->Prop) (E:Value->Shared->Prop),Q (.int (g i) s.toks) { s with toks:=s.toks + 1 }->wpAny (model X.prog X.w) X.A (f (.int i t)) Q E s):
  U7 X f (rU λi=>.int (g i)):=by
 intro pins s σ H x v Q I rx h
 obtain ⟨i,rfl,q⟩:=h
 obtain ⟨t,rfl⟩:=rx
 exact rule i t s _ _ ⟨.int (g i),H,I.tok _,⟨_,rfl⟩,q⟩
theorem Np:U7 X (unaryOp .USub) (rU λi=>.int (-i)):=unI λ_ _ _ _ _ q=>neg_int q
end
section
variable {X:Cx} {a b c:Expr} {ta tb tc:TE} {pos:Pos}
theorem ll:jo X (compareOp .Lt) (E4 λi j=>.bl (decide (i < j))):=Ji λ_ _ _ _ _ _ _ q=>lt_int q
theorem QX:jo X (compareOp .LtE) (E4 λi j=>.bl (decide (i<=j))):=Ji λ_ _ _ _ _ _ _ q=>le_int q
theorem mM:jo X (compareOp .Gt) (E4 λi j=>.bl (decide (j < i))):=Ji λ_ _ _ _ _ _ _ q=>gt_int q
theorem QY:jo X (compareOp .GtE) (E4 λi j=>.bl (decide (j<=i))):=Ji λ_ _ _ _ _ _ _ q=>ge_int q
theorem jo.or {f:Value->Value->Sem Value} {r r':R2} (h:jo X f r) (h':jo X f r'):jo X f (λx y H Q=>r x y H Q \/ r' x y H Q):=by
 intro pins s σ H x y v u Q I rx ry q
 rcases q with q | q
 .exact h pins s σ H x y v u Q I rx ry q
 .exact h' pins s σ H x y v u Q I rx ry q
theorem bw (b:Expr) {op:CmpOp} (h:op≠.In:=by decide) (h2:op≠.NotIn:=by decide):behindInMarks op b=false:=by
 have e1:(op == CmpOp.In)=false:=by cases op <;> first | rfl | exact absurd rfl h
 have e2:(op == CmpOp.NotIn)=false:=by cases op <;> first | rfl | exact absurd rfl h2
 cases b <;> simp [behindInMarks,e1,e2]
theorem Jj {op:CmpOp} {r:R2} (ho:jo X (compareOp op) r) (ha:PE X a ta) (hb:PE X b tb) (hm:behindInMarks op b=false):PE X (.Compare a [op] [b] pos) (P9 r ta tb):=by
 intro pins s σ H Q I h
 exact wpAny_Compare1 (Nl ha hb I h λv u s2 x y H2 I2 rx ry q=>ho pins s2 σ H2 x y v u Q I2 rx ry q) hm
def LI (t:TE):TT:=λσ H Q=>t σ H λx H'=>∃ k,x=.bl k /\ Q k H'
theorem Jk {op:CmpOp} {r:R2} (ho:jo X (compareOp op) r) (ha:PE X a ta) (hb:PE X b tb) (hm:behindInMarks op b=false):PT X (.Compare a [op] [b] pos) (LI (P9 r ta tb)):=by
 intro pins s σ H Q I h
 refine wpAny_isTrue_Compare1 (dz (ha pins s σ H _ I h) λv s1 ⟨x,H1,I1,r1,q1⟩=>dz (hb pins s1 σ H1 _ I1 q1) λu s2 ⟨y,H2,I2,r2,q2⟩=>
  dz (ho pins s2 σ H2 x y v u _ I2 r1 r2 q2) λc s3 ⟨z,H3,I3,r3,k,e,q3⟩=>?_) hm
 subst e
 cases r3
 exact aeb ⟨H3,I3,q3⟩
def zD (r r':R2) (ta tb tc:TE):TE:=λσ H Q=>ta σ H λx H1=>tb σ H1 λy H2=>r x y H2 λz H3=>∃ k,z=.bl k /\
 (if k=true then tc σ H3 λw' H4=>r' y w' H4 Q else Q (.bl false) H3)
theorem E6 {op zE:CmpOp} {r r':R2} (ho:jo X (compareOp op) r) (zw:jo X (compareOp zE) r') (ha:PE X a ta) (hb:PE X b tb) (hc:PE X c tc)
  (hm:lastMarks [op,zE] [b,c]=false:=by with_unfolding_all rfl):PE X (.Compare a [op,zE] [b,c] pos) (zD r r' ta tb tc):=by
 intro pins s σ H Q I h
 refine Compare_chain (dz (ha pins s σ H _ I h) λv s1 ⟨x,H1,I1,r1,q1⟩=>chain_link (dz (hb pins s1 σ H1 _ I1 q1) λu s2 ⟨y,H2,I2,r2,q2⟩=>
  dz (ho pins s2 σ H2 x y v u _ I2 r1 r2 q2) λd s3 ⟨z,H3,I3,r3,k,e,q3⟩=>?_)) hm
 subst e
 cases r3
 refine aeb ?_
 cases k with
 | false=>exact ite_ff ⟨.bl false,H3,I3,rfl,q3⟩
 | true=>exact ite_tt (chain_last (dz (hc pins s3 σ H3 _ I3 q3) λw' s4 ⟨z',H4,I4,r4,q4⟩=>zw pins s4 σ H4 y z' u w' Q I4 r2 r4 q4))
theorem E7 {op zE:CmpOp} {r r':R2} (ho:jo X (compareOp op) r) (zw:jo X (compareOp zE) r') (ha:PE X a ta) (hb:PE X b tb) (hc:PE X c tc)
  (hm:lastMarks [op,zE] [b,c]=false:=by with_unfolding_all rfl):PT X (.Compare a [op,zE] [b,c] pos) (LI (zD r r' ta tb tc)):=by
 intro pins s σ H Q I h
 refine isTrue_chain (dz (ha pins s σ H _ I h) λv s1 ⟨x,H1,I1,r1,q1⟩=>test_link (dz (hb pins s1 σ H1 _ I1 q1) λu s2 ⟨y,H2,I2,r2,q2⟩=>
  dz (ho pins s2 σ H2 x y v u _ I2 r1 r2 q2) λd s3 ⟨z,H3,I3,r3,k,e,q3⟩=>?_)) hm
 subst e
 cases r3
 refine aeb ?_
 cases k with
 | false=>
   obtain ⟨k',e',q'⟩:=q3
   cases e'
   exact ite_ff ⟨H3,I3,q'⟩
 | true=>
   refine ite_tt (test_last (dz (hc pins s3 σ H3 _ I3 q3) λw' s4 ⟨z',H4,I4,r4,q4⟩=>dz (zw pins s4 σ H4 y z' u w' _ I4 r2 r4 q4) λd' s5 ⟨z2,H5,I5,r5,k2,e2,q5⟩=>?_))
   subst e2
   cases r5
   exact aeb ⟨H5,I5,q5⟩
def QZ (K:PySem.W.Frag) (x:V) (H:Hp) (k:Bool):Prop:=
 match x with
 | .jz=>k=false
 | .bl b=>k=b
 | .int i=>k=(i != 0)
 | .str y=>y.length<=sizeLine /\ k=((y.length:Int) != 0)
 | .Qs y=>y.size<=sizeLine /\ k=((y.size:Int) != 0)
 | .ref p=>(∃ xs,gX K H p xs /\ k= !xs.isEmpty) \/ (∃ xs,jN K H p xs /\ k= !xs.isEmpty) \/ ∃ aV,H p=some (.dK aV) /\ k= !aV.isEmpty
 | _=>False
theorem zF {κ:Type} {aV:List (κ×V)} {vs:List (κ×Value)} (r:KV aV vs):(!vs.isEmpty)= !aV.isEmpty:=by
 cases r <;> rfl
theorem rm {xs:List V} {its:List Value} (r:bj xs its):(!its.toArray.isEmpty)= !xs.isEmpty:=by
 cases r <;> simp
theorem lp:(sizeLine:Nat) < 2 ^ 63:=by rw [sizeLine_eq]; decide
theorem Nq:U8 X (λx H Q=>∃ k,QZ X.K x H k /\ Q k H):=by
 intro pins s σ H x v Q I rx h
 obtain ⟨k,e,q⟩:=h
 have hl:=lp
 have hs:sizeLine=16777216:=sizeLine_eq
 cases x with
 | jz=>
   cases rx
   have e':k=false:=e
   subst e'
   exact truthy_none ⟨H,I,q⟩
 | bl b=>
   cases rx
   have e':k=b:=e
   subst e'
   exact aeb ⟨H,I,q⟩
 | int i=>
   obtain ⟨t,rfl⟩:=rx
   have e':k=(i != 0):=e
   subst e'
   exact PySem.P.truthy_int ⟨H,I,q⟩
 | str y=>
   obtain ⟨t,rfl⟩:=rx
   obtain ⟨hy,e'⟩:y.length<=sizeLine /\ k=((y.length:Int) != 0):=e
   subst e'
   exact PySem.P.truthy_str (by omega) ⟨H,I.tok _,q⟩
 | Qs y=>
   obtain ⟨t,rfl⟩:=rx
   obtain ⟨hy,e'⟩:y.size<=sizeLine /\ k=((y.size:Int) != 0):=e
   subst e'
   exact PySem.W.truthy_bytes (by omega) ⟨H,I.tok _,q⟩
 | ref p=>
   cases rx
   have e':(∃ xs,gX X.K H p xs /\ k= !xs.isEmpty) \/ (∃ xs,jN X.K H p xs /\ k= !xs.isEmpty) \/ ∃ aV,H p=some (.dK aV) /\ k= !aV.isEmpty:=e
   rcases e' with ⟨xs,hx,e'⟩ | ⟨xs,hx,e'⟩ | ⟨aV,hx,e'⟩
   .subst e'
    obtain ⟨its,r,pl,hz⟩:=I.list hx
    have hlen:=r.length
    exact wpAny_truthy_list pl.isList (by simp only [ac4]; omega) ⟨H,I.tok _,by rw [rm r]; exact q⟩
   .subst e'
    obtain ⟨its,r,pl,hz⟩:=I.tuple hx
    have hlen:=r.length
    exact truthy_tuple pl (by simp only [ac4]; omega) ⟨H,I.tok _,by rw [rm r]; exact q⟩
   .subst e'
    obtain ⟨hz,hS,vs,r,m⟩:aV.length<=sizeLine /\ (p == sysModules)=false /\ ∃ vs,KV aV vs /\ s.heap.DictOf (dA X.prog X.w) p vs:=I.cS p _ hx
    have hlen:aV.length=vs.length:=Paired.length r
    exact wpAny_truthy_dict hS m (by omega) ⟨H,I.tok _,by rw [zF r]; exact q⟩
 | _=>exact (show False from e).elim
theorem E8 (ha:PE X a ta) (he:∀ whole,isTrue a X.env whole=(do let v <- whole; standAt a.pos; holding [v] (truthy v))):
  PT X a (λσ H Q=>ta σ H λx H'=>∃ k,QZ X.K x H' k /\ Q k H'):=by
 intro pins s σ H Q I h
 exact isTrue_plain (dz (ha pins s σ H _ I h) λv s1 ⟨x,H1,I1,r1,q1⟩=>Nq pins s1 σ H1 x v Q I1 r1 q1) (he _)
theorem zG:jo X (binaryOp .Add) (λx y H Q=>∃ i j,x=.str i /\ y=.str j /\ i.length + j.length<=sizeLine /\ Q (.str (i ++ j)) H):=by
 intro pins s σ H x y v u Q I rx ry h
 obtain ⟨i,j,rfl,rfl,hz,q⟩:=h
 obtain ⟨t,rfl⟩:=rx
 obtain ⟨t',rfl⟩:=ry
 exact add_str (λt' tk=>⟨.str (i ++ j),H,I.tok _,⟨_,rfl⟩,q⟩) hz
theorem vals1 {x:V} {us:List Value} (r:bj [x] us):∃ u,us=[u] /\ RelV x u:=by
 cases r with
 | cons r1 r2=>cases r2; exact ⟨_,rfl,r1⟩
theorem vals2 {x y:V} {us:List Value} (r:bj [x,y] us):∃ u w',us=[u,w'] /\ RelV x u /\ RelV y w':=by
 cases r with
 | cons r1 r2=>
   cases r2 with
   | cons r3 r4=>cases r4; exact ⟨_,_,rfl,r1,r3⟩
theorem jO:eR X (.builtin "abs") (λxs H Q=>∃ i,xs=[.int i] /\ Q (.int (if i < 0 then -i else i)) H):=by
 intro pins s σ H xs us Q I r h
 obtain ⟨i,rfl,q⟩:=h
 obtain ⟨u,rfl,t,rfl⟩:=vals1 r
 exact call_abs_int λu tk=>⟨.int (if i < 0 then -i else i),H,I.tok _,⟨_,rfl⟩,q⟩
theorem C1 (hc:X.calm=true):eR X (.builtin "max") (λxs H Q=>∃ i j,xs=[.int i,.int j] /\ Q (.int (if j > i then j else i)) H):=by
 intro pins s σ H xs us Q I r h
 obtain ⟨i,j,rfl,q⟩:=h
 obtain ⟨u,w',rfl,⟨t,rfl⟩,⟨t',rfl⟩⟩:=vals2 r
 refine max_two_ints (I.ok.hd hc) λh' tk k=>⟨_,H,I.kept k,?_,q⟩
 by_cases hj:j > i
 .rw [acU hj,acU hj]; exact ⟨_,rfl⟩
 .rw [acW hj,acW hj]; exact ⟨_,rfl⟩
theorem ur:eR X (.type "int") (λxs H Q=>(∃ i,xs=[.int i] /\ Q (.int i) H) \/ ∃ k,xs=[.bl k] /\ Q (.int (if k then 1 else 0)) H):=by
 intro pins s σ H xs us Q I r h
 rcases h with ⟨i,rfl,q⟩ | ⟨k,rfl,q⟩
 .obtain ⟨u,rfl,t,rfl⟩:=vals1 r
  exact call_int_int ⟨.int i,H,I,⟨_,rfl⟩,q⟩
 .obtain ⟨u,rfl,r1⟩:=vals1 r
  cases r1
  exact call_int_bool ⟨.int (if k then 1 else 0),H,I.tok _,⟨_,rfl⟩,q⟩
end
structure Nr (h:Heap) (x dx C:Addr) (mA:Str->Option Value):Prop where
 obj:h.get? x=some (PySem.W.instObj C dx)
 ns:h.Ns1 dx mA
 ne:dx≠x
set_option tactic.hygienic true in
theorem C2 {h:Heap} {dx:Addr} {mA:Str->Option Value} (n:h.Ns1 dx mA):∃ od,h.get? dx=some od /\ ∀ name,PySem.W.lookIn name od=some (mA name):=by
 obtain ⟨o,es,ep,ho,hd,hk,_,hm⟩:=n
 refine ⟨o,ho,λname=>?_⟩
 have e:=hm name
 unfold nsFind findBy at e
 rw [<- Array.find?_toList] at e
 unfold PySem.W.lookIn
 rw [hd]
 dsimp only
 split
 .rename_i y q
  rw [q] at e
  exact aeu some e
 .rename_i q
  rw [q] at e
  have a:es.toList.any (·.refKey)=false:=by
   rw [List.any_eq_false]
   intro y hy
   obtain ⟨z,t,U9⟩:=hk y (Array.mem_toList_iff.mp hy)
   simp [DictEntry.refKey,U9]
  have a':¬ es.toList.any (·.refKey)=true:=by rw [a]; exact acP
  rw [acW a']
  exact aeu some e
theorem Nr.look {h:Heap} {x dx C:Addr} {mA:Str->Option Value} (I:Nr h x dx C mA):∃ od,PySem.W.InstAt h x (PySem.W.instObj C dx) C (some od) /\ ∀ name,PySem.W.lookIn name od=some (mA name):=
 let ⟨od,ho,hl⟩:=C2 I.ns
 ⟨od,⟨I.obj,rfl,rfl,ho⟩,hl⟩
section
variable {prog:Program} {w:World} {A:Around} {E:Value->Shared->Prop} {s:Shared} {K:PySem.W.Frag} {x dx C f:Addr} {mA:Str->Option Value} {name:Str} {v:Value}
end
theorem o9.some_of {v:V} {o:Option Value} (r:o9 (some v) o):∃ u,o=some u /\ RelV v u:=by
 cases o with
 | none=>exact (show False from r).elim
 | some u=>exact ⟨u,rfl,r⟩
section
variable {P:Program} {w:World} {H H':Hp} {h h':Heap} {a C dx:Addr} {fs fs':List (Str×V)}
theorem Jl (cS:mQ P w H h) (e:H a=some (.ins C dx fs)):∃ mA,Nr h a dx C mA /\ (∀ f,o9 (fs.lookup f) (mA f)) /\ PySem.Within mA (fs.map (·.1)) /\ fs.length<=1000 /\ H dx=some (.own a):=by
 obtain ⟨d,z,ne,ob,mA,n,r,q⟩:=(show c9 P w H h a (.ins C dx fs) from cS a _ e)
 exact ⟨mA,⟨ob,n,ne⟩,r,q,z,d⟩
end
structure Va (K:PySem.W.Frag) (C:Addr):Prop where
 pg:PySem.W.plainGet K C Str.empty=true
 hd:PySem.W.hasDictIn K C=true
 po:PySem.W.plainOver K C=true
 sa:PySem.W.findIn K (.ref C) "__setattr__"=some (some (.builtin "object.__setattr__"))
theorem Va.get {K:PySem.W.Frag} {C:Addr} (c:Va K C) (f:Str):PySem.W.plainGet K C f=true:=c.pg
section
variable {X:Cx} {pins:List (Addr×Obj)} {σ:St} {H:Hp} {s:Shared} {a C dx:Addr} {fs:List (Str×V)} {f:Str} {v:V} {A:Around} {E:Value->Shared->Prop}
end
section
variable {X:Cx} {o e value:Expr} {f:Str} {pos pos' i5:Pos} {ta tv:TE}
end
section
variable {X:Cx} {pins:List (Addr×Obj)} {σ:St} {H:Hp} {s:Shared} {A:Around} {E:Value->Shared->Prop} {Q:Value->Shared->Prop} {c:Value} {b:Bool}
inductive pf (K:PySem.W.Frag) (H:Hp):V->Value->Prop where
 | jz:pf K H .jz (.type "NoneType")
 | bl (x:Bool):pf K H (.bl x) (.type "bool")
 | int (i:Int):pf K H (.int i) (.type "int")
 | str (x:Str):pf K H (.str x) (.type "str")
 | P6 (x:UInt64):pf K H (.P6 x) (.type "float")
 | lst {a:Addr} {xs:List V} (e:H a=some (.lst xs)):pf K H (.ref a) (.type "list")
 | tJ {a:Addr} {o:Obj} {xs:List V} (e:H a=some (.tJ o (.lst xs))):pf K H (.ref a) (.type "list")
 | tup {a:Addr} {xs:List V} (e:H a=some (.tup xs)):pf K H (.ref a) (.type "tuple")
 | dK {a:Addr} {aV:List (Key×V)} (e:H a=some (.dK aV)):pf K H (.ref a) (.type "dict")
 | dT {a:Addr} {aV:List (List Key×V)} (e:H a=some (.dT aV)):pf K H (.ref a) (.type "dict")
 | ins {a C dx:Addr} {fs:List (Str×V)} (e:H a=some (.ins C dx fs)) (cl:Va K C) (ha:PySem.W.findIn K (.ref C) "__class__"=some (some (.builtin "object.__class__")))
   (hn:PySem.W.specialIn K (.builtin "object.__class__") "__get__"=some (some (.builtin "getset_descriptor.__get__"))) (Qa:PySem.W.takesIn K (.builtin "object.__class__")=some true)
   (hm:PySem.W.mroIn K C (.type "object")=some true):pf K H (.ref a) (.ref C)
theorem C3 {x:V} {u t:Value} (I:Inv X pins σ H s) (rx:RelV x u) (ty:pf X.K H x t) (e:PySem.W.kitOne X.K t c=some b) (h:∀ tk,Q (.bool b) { s with toks:=tk }):
  wpAny (model X.prog X.w) A (call (.builtin "isinstance") [u,c]) Q E s:=by
 cases ty with
 | jz=>cases (show u=Value.none from rx); exact adO PySem.W.kitx_none I.uk True.intro e (λz=>nomatch z) h
 | bl y=>cases (show u=Value.bool y from rx); exact adO PySem.W.kitx_bool I.uk True.intro e (λz=>nomatch z) h
 | int i=>obtain ⟨t,q⟩:=(show ∃ t,u=Value.int i t from rx); cases q; exact adO PySem.W.kitx_int I.uk True.intro e (λz=>nomatch z) h
 | str y=>obtain ⟨t,q⟩:=(show ∃ t,u=Value.str y t from rx); cases q; exact adO PySem.W.kitx_str I.uk True.intro e (λz=>nomatch z) h
 | P6 y=>obtain ⟨t,q⟩:=(show ∃ t,u=Value.float y t from rx); cases q; exact adO PySem.W.kitx_float I.uk True.intro e (λz=>nomatch z) h
 | @lst a xs ea=>
   cases (show u=Value.ref a from rx)
   obtain ⟨_,_,n,_,h1⟩:=(show c9 X.prog X.w H s.heap a (.lst xs) from I.cS a _ ea)
   exact adO agG I.uk ⟨_,h1,rfl⟩ e (λz=>nomatch z) h
 | @tJ a ob xs ea=>
   cases (show u=Value.ref a from rx)
   obtain ⟨_,_,_,n,_,h1⟩:=(show c9 X.prog X.w H s.heap a (.tJ ob (.lst xs)) from I.cS a _ ea)
   exact adO agG I.uk ⟨_,h1,rfl⟩ e (λz=>nomatch z) h
 | @tup a xs ea=>
   cases (show u=Value.ref a from rx)
   obtain ⟨_,_,_,p⟩:=(show c9 X.prog X.w H s.heap a (.tup xs) from I.cS a _ ea)
   obtain ⟨o,h1,h2,_⟩:=p
   exact adO PySem.W.kitx_tuple I.uk ⟨o,h1,h2⟩ e (λz=>nomatch z) h
 | @dK a aV ea=>
   cases (show u=Value.ref a from rx)
   obtain ⟨_,_,vs,_,p⟩:=(show c9 X.prog X.w H s.heap a (.dK aV) from I.cS a _ ea)
   obtain ⟨o,es,ep,h1,h2,_⟩:=p
   exact adO PySem.W.kitx_dict I.uk ⟨o,h1,h2.1⟩ e (λz=>nomatch z) h
 | @dT a aV ea=>
   cases (show u=Value.ref a from rx)
   obtain ⟨_,_,xs,_,o,es,ep,h1,h2,_⟩:=(show c9 X.prog X.w H s.heap a (.dT aV) from I.cS a _ ea)
   exact adO PySem.W.kitx_dict I.uk ⟨o,h1,h2.1⟩ e (λz=>nomatch z) h
 | @ins a C dx fs ea cl ha hn Qa hm=>
   cases (show u=Value.ref a from rx)
   obtain ⟨mA,O,_⟩:=Jl I.cS ea
   obtain ⟨od,J,_⟩:=O.look
   exact adO (PySem.W.kitx_own (cl.get _) cl.hd ha hn Qa hm) I.uk J e (λz=>nomatch z) h
end
structure gT (k:Nat) (A:Around):Prop where
 hd:A.handled=none
 dp:A.depth + 3 * k + 5 < recursionLimit
 un:A.units + 16 * k + 200 < cLine
theorem gT.mono {j k:Nat} {A:Around} (r:gT k A) (h:j<=k):gT j A:=⟨r.hd,by have:=r.dp; omega,by have:=r.un; omega⟩
theorem gT.deeper {k:Nat} {A:Around} (r:gT (k + 1) A) (env:Env):gT k (A.deeper env):=
 ⟨r.hd,by have:=r.dp; show A.depth + 1 + 3 * k + 5 < _; omega,by have:=r.un; show A.units + 3 + 16 * k + 200 < _; omega⟩
theorem gT.depth {k:Nat} {A:Around} (r:gT k A):A.depth < recursionLimit:=by have:=r.dp; omega
theorem gT.units {k:Nat} {A:Around} (r:gT k A):A.units + 64 < cLine:=by have:=r.un; omega
def Jm:TA:=λ_ H Q=>Q [] H
def BB (ta:TE) (tr:TA):TA:=λσ H Q=>ta σ H λx H1=>tr σ H1 λxs H2=>Q (x :: xs) H2
section
variable {X:Cx} {e:Expr} {es:List Expr} {te:TE} {t:TA} {pos:Pos}
theorem cz:PA X [] Jm:=λ_ _ _ _ H Q I h=>Calls.spliced_nil ⟨[],H,I,.nil,h⟩
theorem bG (ha:PE X e te) (hr:PA X es t) (hs:starEach (e :: es) X.env=(false,eval e X.env) :: starEach es X.env:=by rfl):PA X (e :: es) (BB te t):=by
 intro pos pins s σ H Q I h
 rw [hs]
 show wpAny _ _ (spliced ((false,eval e X.env) :: backTo pos (starEach es X.env))) _ _ s
 refine Calls.spliced_cons (dz (ha pins s σ H _ I h) λu s1 ⟨x,H1,I1,r1,q1⟩=>?_)
 exact dz (hr pos pins s1 σ H1 _ I1 q1) λus s2 ⟨xs,H2,I2,r2,q2⟩=>⟨x :: xs,H2,I2,.cons r1 r2,q2⟩
def Vb (t:TA):TE:=λσ H Q=>t σ H λxs H1=>xs.length<=sizeLine /\ ∀ p,H1 p=none->Q (.ref p) (upd H1 p (.tup xs))
def Vc (t:TA):TE:=λσ H Q=>t σ H λxs H1=>xs.length<=sizeLine /\ ∀ p,H1 p=none->Q (.ref p) (upd H1 p (.lst xs))
theorem Nt {x1} (h:PA X es t):PE X (.Tuple es x1 pos) (Vb t):=by
 intro pins s σ H Q I hq
 refine wpAny_Tuple_spliced (dz (h pos pins s σ H _ I hq) λus s1 ⟨xs,H1,I1,r,z,q⟩=>⟨by rw [<- r.length]; exact z,?_⟩)
 have hf:H1 s1.heap.objs.size=none:=I1.cS.fresh (ac1 _)
 refine ⟨.ref s1.heap.objs.size,upd H1 s1.heap.objs.size (.tup xs),I1.laid (t':=s1.toks) (λb u e=>acM _ e) (ac1 _) ?_,rfl,q _ hf⟩
 exact ⟨z,us,r,⟨_,ac8 _ rfl,rfl,_,rfl⟩⟩
theorem Nu (h:PA X es t):PE X (.List es pos) (Vc t):=by
 intro pins s σ H Q I hq
 refine wpAny_List_spliced (dz (h pos pins s σ H _ I hq) λus s1 ⟨xs,H1,I1,r,z,q⟩=>⟨by rw [<- r.length]; exact z,?_⟩)
 have hf:H1 s1.heap.objs.size=none:=I1.cS.fresh (ac1 _)
 refine ⟨.ref s1.heap.objs.size,upd H1 s1.heap.objs.size (.lst xs),I1.laid (t':=s1.toks) (λb u e=>acM _ e) (ac1 _) ?_,rfl,q _ hf⟩
 exact ⟨z,us,0,r,ac8 _ rfl⟩
end
abbrev Sp:=List V->Hp->VK->XK->Prop
abbrev E9:=List Env->Hp->Shared->XK->Value->Shared->Prop
structure Jn (P:Program) (w:World) (K:PySem.W.Frag) (mg:Str->Option Value) (base:Heap) (A:Around) (outer:List Env) (s:Shared) (H:Hp):Prop where
 frames:A.frames=some outer
 mod:Mod K mg base
 bs:∀ b o,base.get? b=some o->s.heap.get? b=some o /\ H b=none
 LA:base.objs.size<=s.heap.objs.size
 qw:s.heap.FunFrames base outer
 Na:∀ b∈Bw outer,H b=none
 cS:mQ P w H s.heap
 bare:AllBare s.gens
def CE (outer:List Env) (P:Program) (w:World) (H:Hp) (s:Shared) (Q:VK) (u:Value) (s':Shared):Prop:=
 ∃ v H',s'.os=s.os /\ AllBare s'.gens /\ Un (Bw outer) [] H H' s.heap s'.heap /\ mQ P w H' s'.heap /\ RelV v u /\ Q v H'
def CR (CX:E9) (outer:List Env) (P:Program) (w:World) (H:Hp) (s:Shared) (Q:VK) (E:XK) (r:Result) (s':Shared):Prop:=
 match r with
 | .ok (.ret u)=>CE outer P w H s Q u s'
 | .ok _=>False
 | .error e=>CX outer H s E e s'
structure rn (P:Program) (w:World) (K:PySem.W.Frag) (mg:Str->Option Value) (base:Heap) (CX:E9) (k:Nat) (f:Addr) (fd:FuncData) (ps:List Str) (sp:Sp):Prop where
 len:∀ vs H Q E,sp vs H Q E->vs.length=ps.length
 run:∀ (A:Around) (outer:List Env) (s:Shared) (H:Hp) (args:Args) (us:List Value) (vs:List V) (Q:VK) (E:XK),gT k A->Jn P w K mg base A outer s H->BindsTo s fd args (ps.zip us)->bj vs us->sp vs H Q E->
  codeAny (model P w) A (.call (.ref f) args) (CR CX outer P w H s Q E) s
section
variable {X:Cx} {pins:List (Addr×Obj)} {σ:St} {H:Hp} {s s':Shared}
theorem Inv.Vd (I:Inv X pins σ H s):Jn X.prog X.w X.K X.mg X.base X.A X.stack s H:=
 ⟨I.ok.frames,I.ok.mod,I.bs,ado I.ok.LA I.sz,I.stack,I.Bx,I.cS,I.bare⟩
theorem Inv.after {Q:VK} {u:Value} (I:Inv X pins σ H s) (h:CE X.stack X.prog X.w H s Q u s'):EP X pins σ Q u s':=by
 obtain ⟨v,H',os,bare,un,cS,r,q⟩:=h
 obtain ⟨hh,g,d,t,Ve⟩:=s'
 obtain rfl:Ve=s.os:=os
 exact ⟨v,H',I.call (h':=hh) (g':=g) (d':=d) (t':=t) (ch:=[]) un cS bare (λb z=>absurd z (by simp)),r,q⟩
end
def LJ (sp:Sp) (LK:List V) (E:XK) (t:TA):TE:=λσ H Q=>t σ H λvs H1=>sp (vs ++ LK) H1 Q E
def Binds (K:PySem.W.Frag) (fd:FuncData) (ps:List Str) (ds:List Value):Prop:=
 ∀ (s:Shared) (us:List Value),K.In s.heap->(us ++ ds).length=ps.length->BindsTo s fd ⟨us,[]⟩ (ps.zip (us ++ ds))
theorem Binds.all {K:PySem.W.Frag} {fd:FuncData} {ps:List Str} (h:∀ us:List Value,us.length=ps.length->bindArgs fd ⟨us,[]⟩=pure (ps.zip us)):Binds K fd ps []:=λs us _ hl=>by
 rw [adV] at hl ⊢
 exact .of_eq (h us hl)
def zH (CX:E9) (X:Cx) (E:XK):Prop:=∀ (pins:List (Addr×Obj)) (σ:St) (H:Hp) (s:Shared) (e:Value) (s':Shared),Inv X pins σ H s->CX X.stack H s E e s'->X.xe e s'
section
variable {X:Cx} {CX:E9} {k:Nat} {f C:Addr} {fd:FuncData} {ps:List Str} {sp:Sp} {LK:List V} {ds:List Value} {E:XK} {x m:Str} {p pos apos:Pos} {e o:Expr} {es:List Expr} {ta:TE} {t:TA}
theorem Nv {pins:List (Addr×Obj)} {σ:St} {H:Hp} {s:Shared} {Q:VK} {us:List Value} {vs:List V} (F:rn X.prog X.w X.K X.mg X.base CX k f fd ps sp) (hr:gT k X.A) (hb:Binds X.K fd ps ds) (hd:bj LK ds) (hx:zH CX X E)
  (I:Inv X pins σ H s) (r:bj vs us) (h:sp (vs ++ LK) H Q E):wpAny (model X.prog X.w) X.A (call (.ref f) us) (EP X pins σ Q) X.xe s:=by
 have r2:bj (vs ++ LK) (us ++ ds):=r.append hd
 have hl:(us ++ ds).length=ps.length:=by rw [<- r2.length]; exact F.len _ _ _ _ h
 refine wpAny_call (ae9 (F.run X.A X.stack s H ⟨us,[]⟩ (us ++ ds) (vs ++ LK) Q E hr I.Vd (hb s us I.uk hl) r2 h) λr s' hq=>?_)
 cases r with
 | error e=>exact hx pins σ H s e s' I hq
 | ok fl=>
   cases fl with
   | ret u=>exact I.after hq
   | next=>exact False.elim hq
   | brk=>exact False.elim hq
   | cont=>exact False.elim hq
theorem Jo (F:rn X.prog X.w X.K X.mg X.base CX k f fd ps sp) (hr:gT k X.A) (hg:Gl X x) (hm:X.mg x=some (.ref f)) (hk:PySem.W.keepIn X.K (.ref f)=true) (hb:Binds X.K fd ps ds) (hd:bj LK ds) (hx:zH CX X E)
  (ha:PA X (e :: es) t) (tM:(x == ("__debug__":Str))=false:=by decide) (he:starEach (e :: es) X.env=(false,eval e X.env) :: starEach es X.env:=by rfl) (og:(backTo pos (starEach es X.env)).any (·.1)=false:=by rfl):
  PE X (.Call (.Name x p) (e :: es) [] pos) (LJ sp LK E t):=by
 intro pins s σ H Q I h
 refine afa (By I hg hm ?_ tM)
 refine PySem.W.callWith_K (h₀:=X.base) I.ok.mod.UO hk (dz (ha pos pins s σ H _ I h) λus s1 ⟨vs,H1,I1,r,q⟩=>⟨I1.uk,?_⟩) he og
 exact Nv F hr hb hd hx I1 r q
end
section
variable {X:Cx} {CX:E9} {k:Nat} {f C:Addr} {fd:FuncData} {ps ks:List Str} {sp:Sp} {E:XK} {x m:Str} {p pos apos aen:Pos} {e o:Expr} {es:List Expr} {Nw:List Keyword} {te ta:TE} {t tk:TA} {nm:Option Str}
variable {g:List Value->List Value->List Value} {gV:List V->List V->List V}
end
structure aB (N P:List Str) (sc:Scope):Prop where
 kind:sc.kind=.function
 co:sc.isCoroutine=false
 gen:sc.isGenerator=false
 nd:N.Nodup
 pre:N.take P.length=P
 par:∀ x∈P,sc.names.lookup x=some .local \/ sc.names.lookup x=some .cell
 Ny:∀ y∈sc.names,y.2≠.free
theorem uu {kindOf:Str->Option NameKind} {x:Str}:∀ {binds:List (Str×Value)} {m:Str->Option Value},(∀ v,(x,v)∉binds)->bindL kindOf binds m x=m x
 | [],_,_=>rfl
 | (n,v) :: r,m,h=>by
   unfold bindL
   rw [uu λw hw=>h w (acO _ hw)]
   split
   .have:x≠n:=by rintro rfl; exact h v acR
    simp [this]
   .rfl
theorem uv {kindOf:Str->Option NameKind} {x:Str}:∀ {binds:List (Str×Value)} {m:Str->Option Value},(∀ v,(x,v)∉binds)->bindC kindOf binds m x=m x
 | [],_,_=>rfl
 | (n,v) :: r,m,h=>by
   unfold bindC
   rw [uv λw hw=>h w (acO _ hw)]
   split
   .rfl
   .have:x≠n:=by rintro rfl; exact h v acR
    simp [this]
theorem uw {kindOf:Str->Option NameKind} {x:Str} {v:Value}:∀ {P:List Str} {vs:List Value} {i:Nat} {m:Str->Option Value},P.Nodup->P[i]?=some x->vs[i]?=some v->kindOf x=some .local->
  bindL kindOf (P.zip vs) m x=some v
 | [],_,_,_,_,h,_,_=>by simp at h
 | _ :: _,[],_,_,_,_,h,_=>by simp at h
 | p :: P,w :: vs,0,m,nd,h1,h2,hk=>by
   simp at h1 h2; subst h1; subst h2
   show bindL kindOf ((p,w) :: P.zip vs) m p=_
   unfold bindL
   rw [uu λv hv=>(afc.mp nd).1 (ad5 hv).1,acU hk]
   simp
 | p :: P,w :: vs,i + 1,m,nd,h1,h2,hk=>by
   show bindL kindOf ((p,w) :: P.zip vs) m x=_
   unfold bindL
   exact uw (i:=i) (List.nodup_cons.mp nd).2 (by simpa using h1) (by simpa using h2) hk
theorem ux {kindOf:Str->Option NameKind} {x:Str} {v:Value}:∀ {P:List Str} {vs:List Value} {i:Nat} {m:Str->Option Value},P.Nodup->P[i]?=some x->vs[i]?=some v->kindOf x≠some .local->
  bindC kindOf (P.zip vs) m x=some v
 | [],_,_,_,_,h,_,_=>by simp at h
 | _ :: _,[],_,_,_,_,h,_=>by simp at h
 | p :: P,w :: vs,0,m,nd,h1,h2,hk=>by
   simp at h1 h2; subst h1; subst h2
   show bindC kindOf ((p,w) :: P.zip vs) m p=_
   unfold bindC
   rw [uv λv hv=>(afc.mp nd).1 (ad5 hv).1,acW hk]
   simp
 | p :: P,w :: vs,i + 1,m,nd,h1,h2,hk=>by
   show bindC kindOf ((p,w) :: P.zip vs) m x=_
   unfold bindC
   exact ux (i:=i) (List.nodup_cons.mp nd).2 (by simpa using h1) (by simpa using h2) hk
def start (N:List Str) (vs:List V):St:=vs.map some ++ List.replicate (N.length - vs.length) none
def tO (CX:E9) (P:Program) (w:World) (K:PySem.W.Frag) (mg:Str->Option Value) (base:Heap) (N:List Str) (qual:Str) (scope:Scope) (f:Addr) (cd:Value) (A:Around) (outer:List Env) (s:Shared) (H:Hp) (E:XK):Cx where
 prog:=P
 w:=w
 K:=K
 mg:=mg
 base:=base
 A:=A.deeper (envOfC qual scope s.heap.objs.size f cd)
 N:=N
 gZ:=s
 EL:=H
 env:=envOfC qual scope s.heap.objs.size f cd
 outer:=outer
 stack:=envOfC qual scope s.heap.objs.size f cd :: outer
 ex:=[]
 calm:=true
 fn:=λ_=>true
 pn:=[]
 xe:=λe s'=>wpAny (model P w) (A.deeper (envOfC qual scope s.heap.objs.size f cd)) (leaving (envOfC qual scope s.heap.objs.size f cd) e) (λ_ Q0=>CX outer H s E e Q0) (λe' Q0=>CX outer H s E e' Q0) s'
theorem xE {sc:Scope} {n:Nat} {x:Str} (h:sc.names.lookup x=some .cell):∃ c,(cellsFrom n sc.names []).lookup x=some c:=by
 have q:=PySem.W.cellsFrom_some sc.names n [] (.inl h)
 exact Option.isSome_iff_exists.mp q
theorem C4 {CX:E9} {P:Program} {w:World} {K:PySem.W.Frag} {mg:Str->Option Value} {base:Heap} {N ps:List Str} {qual:Str} {scope:Scope} {f:Addr} {cd:Value} {A:Around} {outer:List Env} {s s1:Shared} {H:Hp} {E:XK} {us:List Value} {vs:List V}
  (S:aB N ps scope) (hd:A.handled=none) (e0:Jn P w K mg base A outer s H) (hl:vs.length=ps.length) (r:bj vs us)
  (x:InCallC s s.heap.objs.size (bindL (envOfC qual scope s.heap.objs.size f cd).kindOf (ps.zip us) λ_=>none) (cellsFrom (s.heap.objs.size + 1) scope.names []) (bindC (envOfC qual scope s.heap.objs.size f cd).kindOf (ps.zip us) λ_=>none) s1):
  Inv (tO CX P w K mg base N qual scope f cd A outer s H E) [] (start N vs) H s1:=by
 have og:ps.length<=N.length:=by have:=aeu List.length S.pre; rw [adF] at this; omega
 obtain ⟨h1,tk,rfl,hk⟩:=x.done
 have Q2:∀ b:Addr,b∉(tO CX P w K mg base N qual scope f cd A outer s H E).ex:=λb z=>absurd (show b∈([]:List Addr) from z) (by simp)
 refine ⟨⟨e0.mod,S.kind,rfl,rfl,ac1 _,λy z c h1 h2=>?_,λy hy=>?_,λy c _ h=>?_,λ_=>hd,Around.frames_deeper e0.frames,.inr ⟨rfl,rfl⟩,λb z=>absurd z (Q2 b),e0.bs,e0.LA,λb _ _=>Q2 b,λb z=>absurd z (Q2 b),e0.qw,e0.Na⟩,
  rfl,e0.bare,Un.kept hk,⟨_,x.toInCall.ns,λi y v h1 h2 h3=>?_⟩,λy c h=>⟨_,x.cell y c h⟩,e0.cS.fresh (ac1 _),λy c h=>?_,λp hp=>absurd (show p∈([]:List (Addr×Obj)) from hp) (by simp),e0.cS.kept hk,?_⟩
 .exact name_of_addr x.apart (aeY h1) (aeY h2)
 .have hy:scope.names.lookup y=some .cell \/ scope.names.lookup y=some .free:=hy
  rcases hy with hy | hy
  .exact xE hy
  .exact absurd rfl (S.Ny _ (aeY hy))
 .exact aer (x.above y c (aeY h))
 .have hi:i < vs.length:=by
   unfold start at h2
   by_cases hi:i < vs.length
   .exact hi
   .rw [List.getElem?_append_right (by simpa using hi)] at h2
    rw [List.getElem?_replicate] at h2
    split at h2 <;> cases h2
  have ha:vs[i]?=some v:=by
   unfold start at h2
   rw [List.getElem?_append_left (by simpa using hi),List.getElem?_map] at h2
   cases e:vs[i]? with
   | none=>rw [e] at h2; cases h2
   | some a=>rw [e] at h2; cases h2; rfl
  obtain ⟨u,hu,rv⟩:=r.get ha
  have hp:ps[i]?=some y:=by
   rw [<- S.pre,List.getElem?_take_of_lt (by omega)]; exact h1
  have ndP:ps.Nodup:=by rw [<- S.pre]; exact S.nd.sublist (agH _ _)
  refine ⟨u,rv,?_⟩
  rcases S.par y (adk hp) with k | k
  .exact .inl ⟨k,uw ndP hp hu k⟩
  .obtain ⟨c,e⟩:=xE (n:=s.heap.objs.size + 1) k
   refine .inr ⟨.inl k,c,e,?_⟩
   have q:=x.cell y c e
   rw [ux ndP hp hu (by show scope.names.lookup y≠_; rw [k]; decide)] at q
   exact q
 .exact e0.cS.fresh (aer (x.above y c (aeY h)))
 .unfold start
  show _=N.length
  rw [ac7,acH,aem]
  omega
theorem Q3 {CX:E9} {P:Program} {w:World} {K:PySem.W.Frag} {mg:Str->Option Value} {base:Heap} {k:Nat} {f:Addr} {name qual:Str} {params:Arguments} {body:List Stmt} {scope:Scope} {dV kV doc pm cU ct oc:Value} {an od:Option Addr}
  {IM:Array (Option Value)} {N ps:List Str} {sp:Sp} (lk:K.lookup f=some ⟨oc,od,.func (PySem.W.fnOf name qual params body scope dV kV doc pm an cU ct),IM⟩) (vk:PySem.W.codeIn K cU qual=true) (S:aB N ps scope)
  (len:∀ vs H Q E,sp vs H Q E->vs.length=ps.length)
  (xF:∀ (A:Around) (outer:List Env) (s:Shared) (H:Hp) (vs:List V) (Q:VK) (E:XK),gT k (A.deeper (envOfC qual scope s.heap.objs.size f cU))->sp vs H Q E->
   ∃ t,mR (tO CX P w K mg base N qual scope f cU A outer s H E) body t /\ t { nx:=λ_ H'=>Q .jz H',rt:=Q } (start N vs) H):
  rn P w K mg base CX (k + 1) f (PySem.W.fnOf name qual params body scope dV kV doc pm an cU ct) ps sp:=by
 refine ⟨len,λA outer s H args us vs Q E hr e0 hb r Ez=>?_⟩
 have hl:=len _ _ _ _ Ez
 have KX:K.In s.heap:=e0.mod.UO.keeps λb o e=>(e0.bs b o e).1
 have lim:s.heap.NoLimit:=e0.mod.nolimit.keeps λb o e=>(e0.bs b o e).1
 have Q4:∀ y∈ps.zip us,scope.names.lookup y.1=some .local \/ (scope.names.lookup y.1=some .cell /\ ((cellsFrom (s.heap.objs.size + 1) scope.names []).lookup y.1).isSome=true):=λ⟨n,v⟩ hy=>by
  rcases S.par n (ad5 hy).1 with q | q
  .exact .inl q
  .exact .inr ⟨q,PySem.W.cellsFrom_some _ _ _ (.inl q)⟩
 refine codeAny_call_function hr.depth (KX _ _ lk) rfl S.co S.gen rfl (PySem.W.codeRec_of KX vk) (hb _ _ _ _ ?_)
 refine wpAny_newFunctionEnv_cells S.kind Q4 λenv he s1 x=>?_
 subst he
 refine ⟨lim.keeps x.toInCall.keep,codeAny_func ?_⟩
 obtain ⟨t,ht,hq⟩:=xF A outer s H vs Q E (hr.deeper _) Ez
 have I:Inv (tO CX P w K mg base N qual scope f cU A outer s H E) [] (start N vs) H s1:=C4 S hr.hd e0 hl r x
 refine adG (ht [] s1 (start N vs) H _ I hq) (λfl s' hs=>?_) λe s' hs=>hs
 have fin:∀ {cT:St} {H':Hp} {v:V} {u:Value},Inv (tO CX P w K mg base N qual scope f cU A outer s H E) [] cT H' s'->RelV v u->Q v H'->CE outer P w H s Q u s':=
  λ{cT H' v u} J rv q=>⟨v,H',J.os,J.bare,J.base,J.cS,rv,q⟩
 cases fl with
 | ret u=>
   obtain ⟨v,cT,H',J,rv,q⟩:=hs
   exact fin J rv q
 | next=>
   obtain ⟨cT,H',J,q⟩:=hs
   exact fin (v:=V.jz) (u:=Value.none) J rfl q
 | brk=>
   obtain ⟨_,_,_,q⟩:=hs
   exact False.elim q
 | cont=>
   obtain ⟨_,_,_,q⟩:=hs
   exact False.elim q
section
variable {X:Cx} {x:Str} {p pos:Pos} {e:Expr} {es:List Expr} {t:TA} {id T:String} {r:List V->Hp->VK->Prop}
def Ti (r:List V->Hp->VK->Prop) (t:TA):TE:=λσ H Q=>t σ H λvs H1=>r vs H1 Q
theorem rp (hc:eR X (.builtin id) r) (hg:Gl X x) (hm:X.mg x=none) (hv:bootBuiltins x=some (.builtin id)) (ha:PA X (e :: es) t) (hn:x≠"__name__":=by decide) (tM:(x == ("__debug__":Str))=false:=by decide)
  (he:starEach (e :: es) X.env=(false,eval e X.env) :: starEach es X.env:=by rfl) (og:(backTo pos (starEach es X.env)).any (·.1)=false:=by rfl):PE X (.Call (.Name x p) (e :: es) [] pos) (Ti r t):=by
 intro pins s σ H Q I h
 refine afa (ka I hg hm hv ?_ hn tM)
 exact PyProof.Rows.callWith_builtin1 (dz (ha pos pins s σ H _ I h) λus s1 ⟨vs,H1,I1,r1,q1⟩=>hc pins s1 σ H1 vs us Q I1 r1 q1) he og
theorem pj (hc:eR X (.type T) r) (hg:Gl X x) (hm:X.mg x=none) (hv:bootBuiltins x=some (.type T)) (ha:PA X (e :: es) t) (hn:x≠"__name__":=by decide) (tM:(x == ("__debug__":Str))=false:=by decide)
  (he:starEach (e :: es) X.env=(false,eval e X.env) :: starEach es X.env:=by rfl) (og:(backTo pos (starEach es X.env)).any (·.1)=false:=by rfl):PE X (.Call (.Name x p) (e :: es) [] pos) (Ti r t):=by
 intro pins s σ H Q I h
 refine afa (ka I hg hm hv ?_ hn tM)
 exact adZ (dz (ha pos pins s σ H _ I h) λus s1 ⟨vs,H1,I1,r1,q1⟩=>hc pins s1 σ H1 vs us Q I1 r1 q1) he og
end
end L2
namespace HT
open PySem PyProof.Rows
section
open PySem.SeqAt
open PySem.AutoSeq1 (wpAny_loadPart')
open PySem.MeetsSeq PySem.MeetsSeq2 PySem.MeetsSeq3
end
section
variable {prog:Program} {w:World} {A:Around} {E:Value->Shared->Prop} {s:Shared}
theorem Jp {t b:Addr} {vs ws:List Value} {Q:Value->Shared->Prop} (ht:IsTup s.heap t vs.toArray) (hb:IsTup s.heap b ws.toArray) (hv:vs≠[])
  (h1:ws=[]->Q (.ref t) s) (h2:ws≠[]->Q (.ref s.heap.objs.size) { s with heap:=s.heap.push { cls:=.type "tuple",data:=.seq (vs ++ ws).toArray } })
  (hsz:vs.length + ws.length<=sizeLine):wpAny (model prog w) A (binaryOp .Add (.ref t) (.ref b)) Q E s:=by
 obtain ⟨⟨cls,dd,data,sl⟩,ho,hc,n,hd⟩:=id ht
 obtain ⟨⟨aeo,dd2,data2,Qb⟩,iY,hc2,n2,hd2⟩:=id hb
 simp only at hc hd hc2 hd2
 subst hc hd hc2 hd2
 have e:vs.toArray ++ ws.toArray=(vs ++ ws).toArray:=by simp
 by_cases hw:ws=[]
 .exact concat_meets ⟨_,ho,rfl⟩ ⟨_,iY,rfl⟩ noFill_tuple_add seq_tuple_add afL afC (afv _ _)
   (tuple_addW1 t b vs.toArray ws.toArray n n2 dd dd2 sl Qb (by simpa using hv) (by simp [hw])) ⟨ho,iY,h1 hw⟩
 .refine concat_meets ⟨_,ho,rfl⟩ ⟨_,iY,rfl⟩ noFill_tuple_add seq_tuple_add afL afC (afv _ _)
   (tuple_addW2 t b vs.toArray ws.toArray n n2 dd dd2 sl Qb (by simpa using hv) (by simpa using hw) (by rw [List.size_toArray,List.size_toArray]; exact hsz)) ⟨ho,iY,?_⟩
  rw [e]
  exact h2 hw
def tP (n d:Nat):Option Int->Nat
 | none=>d
 | some v=>if v < 0 then (v + (n:Int)).toNat else min v.toNat n
end
end HT
namespace L2
open PySem PySem.Spec PyProof.Rows
abbrev TO:=St->Hp->(Option Int->Hp->Prop)->Prop
def PO (X:Cx) (e:Option Expr) (t:TO):Prop:=
 ∀ (pins:List (Addr×Obj)) (s:Shared) (σ:St) (H:Hp) (Q:Option Int->Hp->Prop),Inv X pins σ H s->t σ H Q->
   wpAny (model X.prog X.w) X.A (evalPart e X.env) (λu s'=>∃ o H',Inv X pins σ H' s' /\ IsPart u o /\ Q o H') X.xe s
def Jq:TO:=λ_ H Q=>Q none H
def Q5 (t:TE):TO:=λσ H Q=>t σ H λx H1=>∃ i,x=.int i /\ Q (some i) H1
theorem intsAre_of {ns:List Int}:∀ {us:List Value},bj (ns.map V.int) us->IntsAre us ns:=by
 induction ns with
 | nil=>intro us r; rw [afM] at r; cases r; exact .nil
 | cons n ns ih=>
   intro us r
   rw [acQ] at r
   cases r with
   | cons r1 r2=>
     obtain ⟨t,e⟩:=r1
     subst e
     exact .cons n t (ih r2)
section
variable {X:Cx} {e:Expr} {te:TE} {lo hi:Option Expr} {tl th:TO} {pos p2:Pos}
theorem Jr:PO X none Jq:=by
 intro pins s σ H Q I h
 rw [evalPart_none]
 exact acT ⟨none,H,I,.none,h⟩
theorem Js (h:PE X e te):PO X (some e) (Q5 te):=by
 intro pins s σ H Q I hw
 rw [evalPart_some]
 refine dz (h pins s σ H _ I hw) λu s1 ⟨x,H1,I1,r1,q1⟩=>?_
 obtain ⟨i,rfl,q⟩:=q1
 obtain ⟨t,rfl⟩:=r1
 exact ⟨some i,H1,I1,.int i t,q⟩
def Vf (X:Cx) (r:V->Option Int->Option Int->Hp->VK->Prop):Prop:=
 ∀ (pins:List (Addr×Obj)) (s:Shared) (σ:St) (H:Hp) (x:V) (v vl vu:Value) (lo hi:Option Int) (sl:Addr) (Q:VK),Inv X pins σ H s->RelV x v->s.heap.IsSliceOf sl vl vu .none->IsPart vl lo->IsPart vu hi->r x lo hi H Q->
   ∃ T id,typeLookup (.type T) "__getitem__"=pure (some (.builtin id)) /\ s.TypeIs v T /\ wpAny (model X.prog X.w) X.A (getItem v (.ref sl)) (EP X pins σ Q) X.xe s
def tSl (r:V->Option Int->Option Int->Hp->VK->Prop) (te:TE) (tl th:TO):TE:=λσ H Q=>te σ H λx H1=>tl σ H1 λl H2=>th σ H2 λu H3=>r x l u H3 Q
theorem xG {r:V->Option Int->Option Int->Hp->VK->Prop} (hr:Vf X r) (he:PE X e te) (hl:PO X lo tl) (hu:PO X hi th):PE X (.Subscript e (.Slice lo hi none p2) pos) (tSl r te tl th):=by
 intro pins s σ H Q I h
 refine Subscript_ (dz (he pins s σ H _ I h) λv s1 ⟨x,H1,I1,r1,q1⟩=>?_)
 refine wpAny_Slice (dz (hl pins s1 σ H1 _ I1 q1) λvl s2 ⟨l,H2,I2,pl,q2⟩=>dz (hu pins s2 σ H2 _ I2 q2) λvu s3 ⟨u,H3,I3,pu,q3⟩=>?_)
 rw [evalPart_none]
 refine acT ?_
 have I4:Inv X pins σ H3 { s3 with heap:=s3.heap.push { cls:=.type "slice",data:=.fields #[vl,vu,.none] } }:=I3.kept (t':=s3.toks) λb ob q=>acM _ q
 obtain ⟨T,id,hT,ht,hg⟩:=hr pins { s3 with heap:=s3.heap.push { cls:=.type "slice",data:=.fields #[vl,vu,.none] } } σ H3 x v vl vu l u s3.heap.objs.size Q I4 r1 (Heap.IsSliceOf.new ..) pl pu q3
 show wpAny (model X.prog X.w) X.A (subscriptTail e (.Slice lo hi none p2) v (.ref s3.heap.objs.size)) (EP X pins σ Q) X.xe { s3 with heap:=s3.heap.push { cls:=.type "slice",data:=.fields #[vl,vu,.none] } }
 exact tail_any (ops:=[.ref s3.heap.objs.size,v]) ht hT hg (by with_unfolding_all rfl)
def Fb (xs:List V) (lo hi:Option Int):List V:=(xs.drop (HT.tP xs.length 0 lo)).take (HT.tP xs.length xs.length hi - HT.tP xs.length 0 lo)
theorem xH (xs:List V) (lo hi:Option Int):(Fb xs lo hi).length<=xs.length:=by
 unfold Fb
 rw [adF,List.length_drop]
 omega
def LL (K:PySem.W.Frag):R2:=λx y H Q=>∃ a b xs ys,x=.ref a /\ y=.ref b /\ jN K H a xs /\ jN K H b ys /\ xs≠[] /\ xs.length + ys.length<=sizeLine /\
 (ys=[]->Q (.ref a) H) /\ (ys≠[]->∀ p,H p=none->Q (.ref p) (upd H p (.tup (xs ++ ys))))
theorem bj.qK {xs:List V} {us:List Value} (r:bj xs us):us=[]↔xs=[]:=by
 cases r with
 | nil=>simp
 | cons _ _=>simp
theorem Jt:jo X (binaryOp .Add) (LL X.K):=by
 intro pins s σ H x y v u Q I rx ry h
 obtain ⟨a,b,xs,ys,rfl,rfl,ha,hb,hx,hz,q1,q2⟩:=h
 cases rx
 cases ry
 obtain ⟨its,r1,p1,_⟩:=I.tuple ha
 obtain ⟨tQ,r2,p2,_⟩:=I.tuple hb
 refine HT.Jp p1 p2 (λz=>hx (r1.qK.mp z)) (λz=>⟨.ref a,H,I,rfl,q1 (r2.qK.mp z)⟩) (λz=>?_) (by rw [<- r1.length,<- r2.length]; exact hz)
 refine ⟨.ref s.heap.objs.size,_,I.laid (t':=s.toks) (o:=.tup (xs ++ ys)) (λb ob q=>acM _ q) (ac1 _) ?_,rfl,q2 (λw=>z (r2.qK.mpr w)) _ (I.cS.fresh (ac1 _))⟩
 exact ⟨by rw [ac7]; exact hz,_,r1.append r2,IsTup.new _ _⟩
end
def xp (n:Nat) (i:Int):Option Nat:=if 0<=i then (if i < n then some i.toNat else none) else if -(n:Int)<=i then some (i + n).toNat else none
def o7 {α:Type} (xs:List α) (i:Int):Option α:=(xp xs.length i).bind λj=>xs[j]?
theorem BC {n:Nat} {i:Int} {j:Nat} (h:xp n i=some j):seqIndex? i n=some j /\ j < n /\ -(n:Int)<=i /\ i < n:=by
 unfold xp at h
 by_cases h0:0<=i
 .rw [acU h0] at h
  by_cases h1:i < n
  .rw [acU h1] at h
   have e:i.toNat=j:=adp h
   exact ⟨by rw [seqIndex_of h0 h1,e],by omega,by omega,h1⟩
  .rw [acW h1] at h; cases h
 .rw [acW h0] at h
  by_cases h1: -(n:Int)<=i
  .rw [acU h1] at h
   have e:(i + n).toNat=j:=adp h
   exact ⟨by rw [seqIndex_neg (by omega) h1,e],by omega,h1,by omega⟩
  .rw [acW h1] at h; cases h
theorem qL {α:Type} {xs:List α} {i:Int} {v:α} (h:o7 xs i=some v):∃ j,seqIndex? i xs.length=some j /\ xs[j]?=some v /\ j < xs.length /\ -(xs.length:Int)<=i /\ i < xs.length:=by
 unfold o7 at h
 cases e:xp xs.length i with
 | none=>rw [e] at h; cases h
 | some j=>
   rw [e] at h
   obtain ⟨h1,h2,h3,h4⟩:=BC e
   exact ⟨j,h1,h,h2,h3,h4⟩
theorem iR {α:Type} {xs:List α} {j:Nat} {v:α} (h:xs[j]?=some v):o7 xs (j:Int)=some v:=by
 have hj:j < xs.length:=(acN.mp h).1
 have e:xp xs.length (j:Int)=some j:=by
  unfold xp
  rw [acU (by omega),acU (by omega)]; simp
 unfold o7; rw [e]; exact h
def BD (b:Expr):Prop:=∀ o i,subscripted b false o i=operate [o,i] (getItem o i)
def Ju (X:Cx) (r:R2):Prop:=
 ∀ (value slice:Expr) (pins:List (Addr×Obj)) (s:Shared) (σ:St) (H:Hp) (x y:V) (v u:Value) (Q:VK),Inv X pins σ H s->RelV x v->RelV y u->r x y H Q->
   subscripted slice false v u=operate [v,u] (getItem v u)->wpAny (model X.prog X.w) X.A (subscriptTail value slice v u) (EP X pins σ Q) X.xe s
def Q6 (X:Cx) (id:String) (r:V->List V->Hp->VK->Prop):Prop:=
 ∀ (pins:List (Addr×Obj)) (s:Shared) (σ:St) (H:Hp) (x:V) (xs:List V) (v:Value) (us:List Value) (Q:VK),Inv X pins σ H s->RelV x v->bj xs us->r x xs H Q->
   wpAny (model X.prog X.w) X.A (call (.builtin id) (v :: us)) (EP X pins σ Q) X.xe s
section
variable {X:Cx} {a b:Expr} {ta tb:TE} {pos:Pos}
theorem Ju.or {r r':R2} (h:Ju X r) (h':Ju X r'):Ju X (λx y H Q=>r x y H Q \/ r' x y H Q):=by
 intro value slice pins s σ H x y v u Q I rx ry q hs
 rcases q with q | q
 .exact h value slice pins s σ H x y v u Q I rx ry q hs
 .exact h' value slice pins s σ H x y v u Q I rx ry q hs
theorem Q7 {r:R2} (hr:Ju X r) (ha:PE X a ta) (hb:PE X b tb) (hs:BD b):PE X (.Subscript a b pos) (P9 r ta tb):=by
 intro pins s σ H Q I h
 exact Subscript_ (Nl ha hb I h λv u s2 x y H2 I2 rx ry q=>hr a b pins s2 σ H2 x y v u Q I2 rx ry q (hs _ _))
def Q8 (K:PySem.W.Frag):R2:=λx y H Q=>∃ p xs i v,x=.ref p /\ y=.int i /\ gX K H p xs /\ o7 xs i=some v /\ Q v H
def Q9 (K:PySem.W.Frag):R2:=λx y H Q=>∃ p xs i v,x=.ref p /\ y=.int i /\ jN K H p xs /\ o7 xs i=some v /\ Q v H
def Ra:R2:=λx y H Q=>∃ z i c,x=.str z /\ y=.int i /\ z.length<=sizeLine /\ o7 z.cps.toList i=some c /\ Q (.str ⟨#[c]⟩) H
theorem Jv:Ju X (Q8 X.K):=by
 intro value slice pins s σ H x y v u Q I rx ry h hs
 obtain ⟨p,xs,i,z,rfl,rfl,hq,he,q⟩:=h
 cases rx
 obtain ⟨t,rfl⟩:=ry
 obtain ⟨its,r,pl,hz⟩:=I.list hq
 obtain ⟨j,h1,h2,h3,h4,h5⟩:=qL he
 obtain ⟨w,ew,xC⟩:=r.get h2
 have hl:=r.length
 have hn:=lp
 have fin:EP X pins σ Q w s:=⟨z,H,I,xC,q⟩
 by_cases h0:0<=i
 .have hj:i.toNat=j:=by
   rw [seqIndex_of h0 h5] at h1
   exact adp h1
  exact item_listR pl.isList h0 (by omega) (by rw [hj]; simpa using ew) fin hs
 .have hj:(i + (its.toArray.size:Int)).toNat=j:=by
   rw [seqIndex_neg (by omega) h4] at h1
   rw [ac4,<- hl]
   exact adp h1
  exact subscriptTail_builtinR (x:=w) pl.isList.typeIs slot_list_getitem.lookup
   (wpAny_getItem_list_neg (Q:=λr s'=>r=w /\ EP X pins σ Q r s') pl.isList (by omega) (by rw [List.size_toArray] <;> omega) (by omega) (by rw [hj]; simpa using ew) ⟨rfl,fin⟩) hs
theorem Nz:Ju X (Q9 X.K):=by
 intro value slice pins s σ H x y v u Q I rx ry h hs
 obtain ⟨p,xs,i,z,rfl,rfl,hq,he,q⟩:=h
 cases rx
 obtain ⟨t,rfl⟩:=ry
 obtain ⟨its,r,pl,hz⟩:=I.tuple hq
 obtain ⟨j,h1,h2,h3,h4,h5⟩:=qL he
 obtain ⟨w,ew,xC⟩:=r.get h2
 have hl:=r.length
 have hn:=lp
 have fin:EP X pins σ Q w s:=⟨z,H,I,xC,q⟩
 exact subscriptTail_builtinR (x:=w) pl.typeIs slot_tuple_getitem.lookup
  (getItem_tuple (j:=j) (Q:=λr s'=>r=w /\ EP X pins σ Q r s') pl (by omega) (by omega) (by rw [List.size_toArray,<- hl]; exact h1) (by simpa using ew) ⟨rfl,fin⟩) hs
theorem NA:Ju X Ra:=by
 intro value slice pins s σ H x y v u Q I rx ry h hs
 obtain ⟨z,i,c,rfl,rfl,hz,he,q⟩:=h
 obtain ⟨t,rfl⟩:=rx
 obtain ⟨t',rfl⟩:=ry
 obtain ⟨j,h1,h2,h3,h4,h5⟩:=qL he
 have hl:z.cps.toList.length=z.length:=by simp [Str.length]
 rw [hl] at h1 h4 h5
 have hn:=lp
 exact tail_any (typeIs_str s z t) slot_str_getitem.lookup (getItem_str (c:=c) (by
  have e1:decide (i < -(2 ^ 63:Int))=false:=acZ (by omega)
  have e2:decide (i >=2 ^ 63)=false:=acZ (by omega)
  rw [e1,e2,Bool.or_false]) (by rw [h1]; simpa using h2) ⟨.str ⟨#[c]⟩,H,I.tok _,⟨_,rfl⟩,q⟩) hs
def rIx (K:PySem.W.Frag):R2:=λx y H Q=>Q8 K x y H Q \/ Q9 K x y H Q \/ Ra x y H Q
theorem NB:Ju X (rIx X.K):=Jv.or (Nz.or NA)
theorem zI (its:List Value) (n j:Nat) (u:Value):Obj.mapSeq (·.setIfInBounds j u) { cls:=.type "list",data:=.seq its.toArray n }={ cls:=.type "list",data:=.seq (its.set j u).toArray n }:=by
 simp [Obj.mapSeq]
theorem Inv.lst {pins:List (Addr×Obj)} {σ:St} {H:Hp} {s:Shared} {p:Addr} {xs:List V} (I:Inv X pins σ H s) (h:H p=some (.lst xs)):
  ∃ (its:List Value) (n:Nat),bj xs its /\ s.heap.get? p=some { cls:=.type "list",data:=.seq its.toArray n } /\ xs.length<=sizeLine:=by
 obtain ⟨z,its,n,r,e⟩:=I.cS p _ h
 exact ⟨its,n,r,e,z⟩
theorem Inv.NC {pins:List (Addr×Obj)} {σ:St} {H:Hp} {s:Shared} {p:Addr} {xs ys:List V} {its its':List Value} {n n':Nat} {f:Obj->Obj} (I:Inv X pins σ H s) (h:H p=some (.lst xs))
  (ho:s.heap.get? p=some { cls:=.type "list",data:=.seq its.toArray n }) (hf:f { cls:=.type "list",data:=.seq its.toArray n }={ cls:=.type "list",data:=.seq its'.toArray n' }) (r:bj ys its') (hz:ys.length<=sizeLine) (t:Nat):
  Inv X pins σ (upd H p (.lst ys)) { s with heap:=s.heap.update p f,toks:=t }:=by
 have e:(s.heap.update p f).get? p=some { cls:=.type "list",data:=.seq its'.toArray n' }:=by
  rw [adM f ho (by rw [hf] <;> rfl),hf]
 refine I.write (x:=p) (e:=p) (by rw [h]; trivial) (.inl rfl) (λb u hb q=>(ad3 _ _ (aeW hb)).trans q) ⟨_,e⟩ ?_
 exact ⟨hz,its',n',r,e⟩
def Fc:V->V->V->Hp->(Hp->Prop)->Prop:=λo i v H Q=>∃ p xs k j,o=.ref p /\ i=.int k /\ H p=some (.lst xs) /\ xp xs.length k=some j /\ Q (upd H p (.lst (xs.set j v)))
theorem set_list:Nh X Fc:=by
 intro pins s σ H o i v ov iv u Q I ro ri rv h
 obtain ⟨p,xs,k,j,rfl,rfl,hp,hj,q⟩:=h
 cases ro
 obtain ⟨t,rfl⟩:=ri
 obtain ⟨its,n,r,ho,hz⟩:=I.lst hp
 obtain ⟨h1,h2,h3,h4⟩:=BC hj
 have hl:=r.length
 have hn:=lp
 have I':Inv X pins σ (upd H p (.lst (xs.set j v))) { s with heap:=s.heap.update p (Obj.mapSeq (·.setIfInBounds j u)) }:=
  I.NC hp ho (zI its n j u) (r.set rv j) (by rw [adJ]; exact hz) s.toks
 by_cases h0:0<=k
 .have hk:k.toNat=j:=by
   rw [seqIndex_of h0 h4] at h1
   exact adp h1
  exact PySem.W.ki_setAt ho h0 (by omega) (by rw [ac4,<- hl]; exact h4) (by rw [hk]; exact ⟨_,I',q⟩)
 .have hk:(k + (its.toArray.size:Int)).toNat=j:=by
   rw [seqIndex_neg (by omega) h3] at h1
   rw [ac4,<- hl]
   exact adp h1
  exact PySem.W.ki_setBack ho (by omega) (by rw [ac4,<- hl]; exact h3) (by omega) (by rw [hk]; exact ⟨_,I',q⟩)
theorem vz (lo hi:Option Int) (n:Nat):(sliceBounds lo hi none n).1=((HT.tP n 0 lo:Nat):Int) /\ (sliceBounds lo hi none n).2.1=((HT.tP n n hi:Nat):Int) /\ (sliceBounds lo hi none n).2.2=1:=by
 refine ⟨?_,?_,rfl⟩
 .cases lo with
  | none=>simp [sliceBounds,HT.tP]
  | some i=>
    simp only [sliceBounds,HT.tP,Option.getD_none,show (1:Int) > 0 by decide,afN]
    by_cases h:i < 0
    .simp only [h,afN] <;> omega
    .simp only [h,agX] <;> omega
 .cases hi with
  | none=>simp [sliceBounds,HT.tP]
  | some i=>
    simp only [sliceBounds,HT.tP,Option.getD_none,show (1:Int) > 0 by decide,afN]
    by_cases h:i < 0
    .simp only [h,afN] <;> omega
    .simp only [h,agX] <;> omega
theorem tR (its:List Value) (lo hi:Option Int):slicePick its.toArray lo hi none=((its.drop (HT.tP its.length 0 lo)).take (HT.tP its.length its.length hi - HT.tP its.length 0 lo)).toArray:=by
 obtain ⟨h1,h2,h3⟩:=vz lo hi its.toArray.size
 unfold slicePick
 rw [h1,h2,h3]
 simp only [sliceRange_one,pick_run,ac4] <;> rfl
def Vg (K:PySem.W.Frag):V->Option Int->Option Int->Hp->VK->Prop:=λx lo hi H Q=>∃ a xs,x=.ref a /\ gX K H a xs /\ ∀ p,H p=none->Q (.ref p) (upd H p (.lst (Fb xs lo hi)))
theorem Jw:Vf X (Vg X.K):=by
 intro pins s σ H x v vl vu lo hi sl Q I rx hs pl pu h
 obtain ⟨a,xs,rfl,hx,q⟩:=h
 cases rx
 obtain ⟨its,r,ht,hz⟩:=I.list hx
 have hlen:=r.length
 refine ⟨"list",_,slot_list_getitem.lookup,ht.isList.typeIs,?_⟩
 refine wpAny_getItem_list_slice ht.isList hs pl pu .none (by simp) ?_ (by rw [ac4] <;> omega)
 rw [tR,<- hlen]
 refine ⟨.ref s.heap.objs.size,_,I.laid (t':=s.toks) (o:=.lst (Fb xs lo hi)) (λb ob q=>acM _ q) (ac1 _) ?_,rfl,q _ (I.cS.fresh (ac1 _))⟩
 exact ⟨ado (xH xs lo hi) hz,_,0,(r.drop (HT.tP xs.length 0 lo)).take (HT.tP xs.length xs.length hi - HT.tP xs.length 0 lo),ac8 _ rfl⟩
def k7:V->Bool
 | .jz=>true
 | .bl _=>true
 | .int _=>true
 | .str _=>true
 | _=>false
def IP:V->V->Bool
 | .jz,.jz=>true
 | .bl a,.bl b=>a == b
 | .bl a,.int b=>(if a then 1 else 0) == b
 | .int a,.bl b=>a == (if b then 1 else 0)
 | .int a,.int b=>a == b
 | .str a,.str b=>a == b
 | _,_=>false
theorem ND {A:Around} {s:Shared} {y x:V} {u v:Value} (ry:RelV y u) (rx:RelV x v) (fy:k7 y=true) (fx:k7 x=true):SeqAt.EqAt A s u v (IP y x):=by
 cases y with
 | jz=>
   cases ry
   cases x with
   | jz=>cases rx; exact SeqAt.EqAt.same _
   | bl b=>cases rx; exact SeqAt.EqAt.none_bool b
   | int b=>obtain ⟨t,rfl⟩:=rx; exact SeqAt.EqAt.none_int b t
   | str b=>obtain ⟨t,rfl⟩:=rx; exact SeqAt.EqAt.none_str b t
   | _=>exact absurd (show false=true from fx) acP
 | bl a=>
   cases ry
   cases x with
   | jz=>cases rx; exact SeqAt.EqAt.bool_none a
   | bl b=>cases rx; exact SeqAt.EqAt.bool_bool a b
   | int b=>obtain ⟨t,rfl⟩:=rx; exact SeqAt.EqAt.bool_int a b t
   | str b=>obtain ⟨t,rfl⟩:=rx; exact SeqAt.EqAt.bool_str a b t
   | _=>exact absurd (show false=true from fx) acP
 | int a=>
   obtain ⟨t',rfl⟩:=ry
   cases x with
   | jz=>cases rx; exact SeqAt.EqAt.int_none a t'
   | bl b=>cases rx; exact SeqAt.EqAt.int_bool a t' b
   | int b=>obtain ⟨t,rfl⟩:=rx; exact SeqAt.EqAt.int_int a t' b t
   | str b=>obtain ⟨t,rfl⟩:=rx; exact SeqAt.EqAt.int_str a t' b t
   | _=>exact absurd (show false=true from fx) acP
 | str a=>
   obtain ⟨t',rfl⟩:=ry
   cases x with
   | jz=>cases rx; exact SeqAt.EqAt.str_none a t'
   | bl b=>cases rx; exact SeqAt.EqAt.str_bool a t' b
   | int b=>obtain ⟨t,rfl⟩:=rx; exact SeqAt.EqAt.str_int a t' b t
   | str b=>obtain ⟨t,rfl⟩:=rx; exact SeqAt.EqAt.str_str a t' b t
   | _=>exact absurd (show false=true from fx) acP
 | _=>exact absurd (show false=true from fy) acP
def zJ (x:V) (u:Value):Bool:=match u with
 | .none=>IP .jz x
 | .bool b=>IP (.bl b) x
 | .int i _=>IP (.int i) x
 | .str z _=>IP (.str z) x
 | _=>false
theorem Fd {x y:V} {u:Value} (r:RelV y u) (f:k7 y=true):zJ x u=IP y x:=by
 cases y with
 | jz=>cases r; rfl
 | bl b=>cases r; rfl
 | int i=>obtain ⟨t,rfl⟩:=r; rfl
 | str z=>obtain ⟨t,rfl⟩:=r; rfl
 | _=>exact absurd (show false=true from f) acP
theorem oh {x:V}:∀ {xs:List V} {us:List Value},bj xs us->xs.all k7=true->us.any (zJ x)=xs.any λy=>IP y x
 | _,_,.nil,_=>rfl
 | y :: xs,u :: us,.cons r t,f=>by
   rw [agP,adC] at f
   rw [afw,afw,Fd r f.1,oh t f.2]
theorem lq {A:Around} {s:Shared} {x:V} {v:Value} (rx:RelV x v) (fx:k7 x=true):∀ {xs:List V} {us:List Value},bj xs us->xs.all k7=true->∀ u∈us,SeqAt.EqAt A s u v (zJ x u)
 | _,_,.nil,_=>λu hu=>by cases hu
 | y :: xs,u :: us,.cons r t,f=>λu' hu=>by
   rw [agP,adC] at f
   rcases acK.mp hu with rfl | hu
   .rw [Fd r f.1]; exact ND r rx f.1 fx
   .exact lq rx fx t f.2 u' hu
def NF (x:V) (xs:List V):Bool:=xs.any λy=>IP y x
def Qc (K:PySem.W.Frag) (neg:Bool):R2:=λx y H Q=>∃ p xs,y=.ref p /\ (gX K H p xs \/ jN K H p xs) /\ k7 x=true /\ xs.all k7=true /\ Q (.bl (if neg then !NF x xs else NF x xs)) H
theorem C5:jo X (compareOp .In) (Qc X.K false):=by
 intro pins s σ H x y v u Q I rx ry h
 obtain ⟨p,xs,rfl,hq,fx,fs,q⟩:=h
 cases ry
 rcases hq with hq | hq
 .obtain ⟨its,r,pl,hz⟩:=I.list hq
  refine SeqAt.in_listAt (zJ x) pl.isList (λw hw=>lq rx fx r fs w (by simpa using hw)) ⟨.bl _,H,I,rfl,?_⟩
  rw [show its.toArray.any (zJ x)=its.any (zJ x) by simp,oh r fs]
  exact q
 .obtain ⟨its,r,pl,hz⟩:=I.tuple hq
  refine SeqAt.in_tupleAt (zJ x) pl (λw hw=>lq rx fx r fs w (by simpa using hw)) ⟨.bl _,H,I,rfl,?_⟩
  rw [show its.toArray.any (zJ x)=its.any (zJ x) by simp,oh r fs]
  exact q
theorem vA:jo X (compareOp .NotIn) (Qc X.K true):=by
 intro pins s σ H x y v u Q I rx ry h
 obtain ⟨p,xs,rfl,hq,fx,fs,q⟩:=h
 cases ry
 rcases hq with hq | hq
 .obtain ⟨its,r,pl,hz⟩:=I.list hq
  refine SeqAt.notIn_listAt (zJ x) pl.isList (λw hw=>lq rx fx r fs w (by simpa using hw)) ⟨.bl _,H,I,rfl,?_⟩
  rw [show its.toArray.any (zJ x)=its.any (zJ x) by simp,oh r fs]
  exact q
 .obtain ⟨its,r,pl,hz⟩:=I.tuple hq
  refine SeqAt.notIn_tupleAt (zJ x) pl (λw hw=>lq rx fx r fs w (by simpa using hw)) ⟨.bl _,H,I,rfl,?_⟩
  rw [show its.toArray.any (zJ x)=its.any (zJ x) by simp,oh r fs]
  exact q
theorem vB:eR X (.builtin "len") (λxs H Q=>∃ p ys,xs=[.ref p] /\ (gX X.K H p ys \/ jN X.K H p ys) /\ Q (.int ys.length) H):=by
 intro pins s σ H xs us Q I r h
 obtain ⟨p,ys,rfl,hq,q⟩:=h
 obtain ⟨u,rfl,rx⟩:=vals1 r
 cases rx
 have hn:=lp
 rcases hq with hq | hq
 .obtain ⟨its,r',pl,hz⟩:=I.list hq
  have hlen:=r'.length
  exact Calls.call_len_list pl.isList (by simp only [ac4] <;> omega) ⟨.int ys.length,H,I.tok _,⟨s.toks + 1,by rw [ac4,hlen]⟩,q⟩
 .obtain ⟨its,r',pl,hz⟩:=I.tuple hq
  have hlen:=r'.length
  exact len_tuple pl (by simp only [ac4] <;> omega) ⟨.int ys.length,H,I.tok _,⟨s.toks + 1,by rw [ac4,hlen]⟩,q⟩
theorem vC:eR X (.builtin "len") (λxs H Q=>∃ z,xs=[.str z] /\ z.length<=sizeLine /\ Q (.int z.length) H):=by
 intro pins s σ H xs us Q I r h
 obtain ⟨z,rfl,hz,q⟩:=h
 obtain ⟨u,rfl,t,rfl⟩:=vals1 r
 have hn:=lp
 exact len_str (by omega) ⟨.int z.length,H,I.tok _,⟨_,rfl⟩,q⟩
theorem eR.or {f:Value} {r r':List V->Hp->VK->Prop} (h:eR X f r) (h':eR X f r'):eR X f (λxs H Q=>r xs H Q \/ r' xs H Q):=by
 intro pins s σ H xs us Q I rs q
 rcases q with q | q
 .exact h pins s σ H xs us Q I rs q
 .exact h' pins s σ H xs us Q I rs q
theorem gA:eR X (.type "list") (λxs H Q=>∃ p ys,xs=[.ref p] /\ (gX X.K H p ys \/ jN X.K H p ys) /\ ∀ l,H l=none->Q (.ref l) (upd H l (.lst ys))):=by
 intro pins s σ H xs us Q I r h
 obtain ⟨p,ys,rfl,hq,q⟩:=h
 obtain ⟨u,rfl,rx⟩:=vals1 r
 cases rx
 have fin:∀ (its:List Value),bj ys its->ys.length<=sizeLine->∀ (h':Heap) (c':Nat),(∀ b o',s.heap.get? b=some o'->h'.get? b=some o')->
   h'.get? s.heap.objs.size=some { cls:=.type "list",dict:=none,data:=.seq its.toArray c',slots:=#[] }->EP X pins σ Q (.ref s.heap.objs.size) { s with heap:=h' }:=λits r' hz h' c' kp e=>
  ⟨.ref s.heap.objs.size,_,I.laid (t':=s.toks) kp (ac1 _) (show c9 X.prog X.w _ h' _ (.lst ys) from ⟨hz,its,c',r',e⟩),rfl,q _ (I.cS.fresh (ac1 _))⟩
 rcases hq with hq | hq
 .obtain ⟨its,r',pl,hz⟩:=I.list hq
  have hlen:=r'.length
  obtain ⟨o,ho,hc,n,hd⟩:=pl.isList
  exact call_list_seq p (.inl rfl) ho hc hd (λh' c' kp e=>fin its r' hz h' c' kp e) (by simp only [ac4] <;> omega)
 .obtain ⟨its,r',pl,hz⟩:=I.tuple hq
  have hlen:=r'.length
  obtain ⟨o,ho,hc,n,hd⟩:=pl
  exact call_list_seq p (.inr rfl) ho hc hd (λh' c' kp e=>fin its r' hz h' c' kp e) (by simp only [ac4] <;> omega)
theorem mN:eR X (.type "tuple") (λxs H Q=>∃ p ys,xs=[.ref p] /\ ((gX X.K H p ys /\ ∀ l,H l=none->Q (.ref l) (upd H l (.tup ys))) \/ (jN X.K H p ys /\ Q (.ref p) H))):=by
 intro pins s σ H xs us Q I r h
 obtain ⟨p,ys,rfl,h⟩:=h
 obtain ⟨u,rfl,rx⟩:=vals1 r
 cases rx
 rcases h with ⟨hq,q⟩ | ⟨hq,q⟩
 .obtain ⟨its,r',pl,hz⟩:=I.list hq
  have hlen:=r'.length
  refine call_tuple_list pl.isList (λh' kp=>?_) (by simp only [ac4] <;> omega)
  have I1:Inv X pins σ H { s with heap:=h' }:=I.kept (t':=s.toks) kp
  have I2:Inv X pins σ (upd H h'.objs.size (.tup ys)) { s with heap:=h'.push { cls:=.type "tuple",data:=.seq its.toArray } }:=
   I1.laid (t':=s.toks) (λb o e=>acM _ e) (ac1 _) (show c9 X.prog X.w _ _ _ (.tup ys) from ⟨hz,its,r',IsTup.new _ _⟩)
  exact ⟨.ref h'.objs.size,_,I2,rfl,q _ (I1.cS.fresh (ac1 _))⟩
 .obtain ⟨its,r',pl,hz⟩:=I.tuple hq
  exact call_tuple_same pl ⟨.ref p,H,I,rfl,q⟩
def Vh (K:PySem.W.Frag) (T:String) (x:V) (H:Hp):Prop:=match x with
 | .str _=>T="str"
 | .int _=>T="int"
 | .ref p=>(T="list" /\ ∃ xs,gX K H p xs) \/ (T="tuple" /\ ∃ o,K.lookup p=some o /\ o.cls=.type "tuple" /\ o.dict=none) \/
   (T="dict" /\ ((∃ aV,H p=some (.dK aV)) \/ ∃ aV,H p=some (.dT aV))) \/ (T="set" /\ ∃ S n,H p=some (.set S n))
 | _=>False
theorem Fe {pins:List (Addr×Obj)} {σ:St} {H:Hp} {s:Shared} {T:String} {x:V} {v:Value} (I:Inv X pins σ H s) (r:RelV x v) (ty:Vh X.K T x H):
  s.TypeIs v T /\ ∀ a,v=.ref a->∃ ob,s.heap.get? a=some ob /\ ob.dict=none:=by
 cases x with
 | str z=>
   obtain ⟨t,rfl⟩:=r
   cases (show T="str" from ty)
   exact ⟨typeIs_str s z t,λ_ e=>nomatch e⟩
 | int i=>
   obtain ⟨t,rfl⟩:=r
   cases (show T="int" from ty)
   exact ⟨typeIs_int s i t,λ_ e=>nomatch e⟩
 | ref p=>
   cases r
   rcases ty with ⟨rfl,xs,hq⟩ | ⟨rfl,o,hk,hc,hd⟩ | ⟨rfl,hk⟩ | ⟨rfl,S,n,hk⟩
   .obtain ⟨its,_,pl,_⟩:=I.list hq
    refine ⟨pl.isList.typeIs,λa e=>?_⟩
    cases e
    obtain ⟨o,n,e,c,hd,_⟩:=pl
    exact ⟨o,e,hd⟩
   .refine ⟨⟨o,I.uk p o hk,hc⟩,λa e=>?_⟩
    cases e
    exact ⟨o,I.uk _ o hk,hd⟩
   .have z:∃ o,s.heap.get? p=some o /\ o.ExactDict:=by
     rcases hk with ⟨aV,hk⟩ | ⟨aV,hk⟩
     .obtain ⟨_,_,_,_,o,_,_,e,ex,_⟩:=I.cS p _ hk
      exact ⟨o,e,ex⟩
     .obtain ⟨_,_,_,_,o,_,_,e,ex,_⟩:=I.cS p _ hk
      exact ⟨o,e,ex⟩
    obtain ⟨o,e,ex⟩:=z
    refine ⟨⟨o,e,ex.1⟩,λa e2=>?_⟩
    cases e2
    exact ⟨o,e,ex.2.1⟩
   .obtain ⟨o,_,_,_,e,ex,_⟩:=I.cS p _ hk
    refine ⟨⟨o,e,ex.1⟩,λa e2=>?_⟩
    cases e2
    exact ⟨o,e,ex.2.1⟩
 | _=>exact False.elim ty
def Jx (K:PySem.W.Frag) (T:String) (r:V->List V->Hp->VK->Prop) (to:TE):TE:=λσ H Q=>to σ H λx H1=>Vh K T x H1 /\ r x [] H1 Q
def Tj (K:PySem.W.Frag) (T:String) (r:V->List V->Hp->VK->Prop) (to:TE) (t:TA):TE:=λσ H Q=>to σ H λx H1=>Vh K T x H1 /\ t σ H1 λxs H2=>r x xs H2 Q
variable {o e:Expr} {es:List Expr} {to:TE} {t:TA} {name:Str} {apos fH:Pos} {T id:String} {r:V->List V->Hp->VK->Prop}
theorem zK (pa:PlainAttrs T) (slot:Slot T name id) (Vi:typeOf (.builtin id)=pure (.type "method_descriptor")) (hm:Q6 X id r) (ho:PE X o to)
  (oi:attributeBase o name X.env (eval o X.env)=eval o X.env:=by rfl) (oj:(apos.endLine == fH.line)=true:=by rfl):PE X (.Call (.Attribute o name apos) [] [] fH) (Jx X.K T r to):=by
 intro pins s σ H Q I h
 refine wpAny_Call_method0_late oi oj (dz (ho pins s σ H _ I h) λv s1 ⟨x,H1,I1,r1,ty,q1⟩=>?_)
 obtain ⟨h1,h2⟩:=Fe I1 r1 ty
 exact ⟨T,id,pa,slot,Vi,h1,h2,afO rfl (PySem.evalArgs_none (hm pins s1 σ H1 x [] v [] Q I1 r1 .nil q1))⟩
theorem iq (pa:PlainAttrs T) (slot:Slot T name id) (Vi:typeOf (.builtin id)=pure (.type "method_descriptor")) (hm:Q6 X id r) (ho:PE X o to) (ha:PA X (e :: es) t)
  (oi:attributeBase o name X.env (eval o X.env)=eval o X.env:=by rfl)
  (NG:((backTo fH (starEach (e :: es) X.env)).all (λx=> !x.1) && (backToKw fH (keywordEach [] X.env)).all (λx=>x.1.isSome)
   && decide ((e :: es).length + ([]:List Keyword).length + (if ([]:List Keyword).isEmpty then 0 else 1) < 30))=true:=by rfl)
  (oj:(apos.endLine == fH.line)=true:=by rfl) (hs:starEach (e :: es) X.env=(false,eval e X.env) :: starEach es X.env:=by rfl) (NH:(backTo fH (starEach es X.env)).any (·.1)=false:=by rfl):
  PE X (.Call (.Attribute o name apos) (e :: es) [] fH) (Tj X.K T r to t):=by
 intro pins s σ H Q I h
 refine wpAny_Call_method_late oi NG oj rfl (dz (ho pins s σ H _ I h) λv s1 ⟨x,H1,I1,r1,ty,q1⟩=>?_)
 obtain ⟨h1,h2⟩:=Fe I1 r1 ty
 refine ⟨T,id,pa,slot,Vi,h1,h2,?_⟩
 have hA:=ha fH pins s1 σ H1 _ I1 q1
 rw [hs] at hA ⊢
 refine afO (by show (false || (backTo fH (starEach es X.env)).any (·.1))=false; rw [NH] <;> rfl) (Calls.evalArgs_plain ?_)
 exact dz hA λus s2 ⟨vs,H2,I2,r2,q2⟩=>hm pins s2 σ H2 x vs v us Q I2 r1 r2 q2
/- xs.append(e),list.index on a module's tuple .. are Q6 facts of 06m -/
end
def Vj (X:Cx) (id:String) (r:V->List V->Hp->VK->Prop):Prop:=
 ∀ (pins:List (Addr×Obj)) (s:Shared) (σ:St) (H:Hp) (x:V) (xs:List V) (v:Value) (us:List Value) (Q:VK),Inv X pins σ H s->RelV x v->bj xs us->r x xs H Q->
   wpAny (model X.prog X.w) X.A (call (.builtin id) (v :: us)) (EP X pins σ Q) X.xe s
theorem bj.one:∀ {x:V} {us:List Value},bj [x] us->∃ u,us=[u] /\ RelV x u
 | _,_,.cons r .nil=>⟨_,rfl,r⟩
theorem bj.zero:∀ {us:List Value},bj [] us->us=[]
 | _,.nil=>rfl
theorem bj.dropLast {xs:List V} {us:List Value} (h:bj xs us):bj xs.dropLast us.dropLast:=by
 induction h with
 | nil=>exact .nil
 | cons r t ih=>
   cases t with
   | nil=>exact .nil
   | cons q t'=>exact .cons r ih
theorem bj.rep {xs:List V} {us:List Value} (h:bj xs us):∀ k:Nat,bj (List.replicate k xs).flatten (List.replicate k us).flatten
 | 0=>.nil
 | k + 1=>by
   rw [aei,aei,aeO,aeO]
   exact bj.append h (bj.rep h k)
theorem zL {α:Type} (l:List α):l.eraseIdx (l.length - 1)=l.dropLast:=by
 induction l with
 | nil=>rfl
 | cons a r ih=>
   cases r with
   | nil=>rfl
   | cons b r=>
     have e:(a :: b :: r).length - 1=((b :: r).length - 1) + 1:=by
      have h1:(a :: b :: r).length=r.length + 2:=rfl
      have h2:(b :: r).length=r.length + 1:=rfl
      omega
     rw [e,List.eraseIdx_cons_succ,ih]
     all_goals rfl
theorem foldl_rep (its:List Value):∀ (k:Nat) (acc:List Value),
  List.foldl (λx1 x2=>x1 ++ x2) acc.toArray (List.replicate k its.toArray)=(acc ++ (List.replicate k its).flatten).toArray
 | 0,acc=>by simp
 | k + 1,acc=>by
   have e:acc.toArray ++ its.toArray=(acc ++ its).toArray:=by simp
   have e2:(acc ++ its) ++ (List.replicate k its).flatten=acc ++ (List.replicate (k + 1) its).flatten:=by
    rw [aei,aeO,aew]
   rw [<- e2,<- foldl_rep its k (acc ++ its),<- e,aei,List.foldl_cons]
section
variable {X:Cx} {pins:List (Addr×Obj)} {σ:St} {H:Hp} {s:Shared} {l b:Addr} {xs ys zs:List V}
theorem Inv.NI {its its':List Value} {n:Nat} {f:Array Value->Array Value} {t':Nat} (I:Inv X pins σ H s) (hH:H l=some (.lst xs))
  (e:s.heap.get? l=some { cls:=.type "list",data:=.seq its.toArray n }) (hf:f its.toArray=its'.toArray) (hv:bj ys its') (hz:ys.length<=sizeLine):
  Inv X pins σ (upd H l (.lst ys)) { s with heap:=s.heap.update l (Obj.mapSeq f),toks:=t' }:=by
 have q:=PySem.IsL.update e f
 rw [hf] at q
 refine I.write (x:=l) (e:=l) (by rw [hH]; exact trivial) (.inl rfl) (λb' u hb hu=>(ad3 s.heap (Obj.mapSeq f) (aeW hb)).trans hu) ⟨_,q⟩ ?_
 exact ⟨hz,its',_,hv,q⟩
theorem Inv.Rb {its:List Value} {t':Nat} (I:Inv X pins σ H s) (hv:bj ys its) (hz:ys.length<=sizeLine):
  Inv X pins σ (upd H s.heap.objs.size (.lst ys)) { s with heap:=s.heap.push { cls:=.type "list",data:=.seq its.toArray },toks:=t' }:=
 I.laid (λ_ _ q=>acM _ q) (ac1 _) ⟨hz,its,0,hv,ac8 _ rfl⟩
theorem Inv.fresh (I:Inv X pins σ H s):H s.heap.objs.size=none:=I.cS.fresh (ac1 _)
theorem Inv.Ff (I:Inv X pins σ H s) (hH:H l=some (.lst xs)):xs.length<=sizeLine /\ ∃ (its:List Value) (n:Nat),bj xs its /\ xs.length=its.length /\ s.heap.get? l=some { cls:=.type "list",data:=.seq its.toArray n }:=by
 obtain ⟨z,its,n,r,e⟩:=I.cS l _ hH
 exact ⟨z,its,n,r,r.length,e⟩
theorem xI {n:Nat} (h:n<=sizeLine):Builtin.List.listTooLong n=false:=by
 unfold Builtin.List.listTooLong
 exact acZ (by omega)
end
section
variable {X:Cx}
def vD:V->List V->Hp->VK->Prop:=λx vs H Q=>∃ l xs y,x=.ref l /\ vs=[y] /\ H l=some (.lst xs) /\ xs.length < sizeLine /\ Q .jz (upd H l (.lst (xs ++ [y])))
theorem c6:Vj X "list.append" vD:=by
 intro pins s σ H x vs v us Q I rx rv h
 obtain ⟨l,xs,y,rfl,rfl,hH,hz,q⟩:=h
 cases rx
 obtain ⟨u,rfl,ru⟩:=rv.one
 obtain ⟨z,its,n,r,hl,e⟩:=I.Ff hH
 refine agr adu ⟨_,e,rfl⟩ F.entry_list_append (F.args_list_append_2 _ _) (PySem.list_append l its.toArray n u (by rw [ac4]; omega)) ⟨e,?_⟩
 refine ⟨.jz,_,I.NI (its':=its ++ [u]) hH e (by simp) (r.append (.cons ru .nil)) ?_,rfl,q⟩
 rw [ac7,adI]
 omega
def BE:V->List V->Hp->VK->Prop:=λx vs H Q=>∃ l b xs zs,x=.ref l /\ vs=[.ref b] /\ H l=some (.lst xs) /\ H b=some (.lst zs) /\ xs.length + zs.length<=sizeLine /\ Q .jz (upd H l (.lst (xs ++ zs)))
theorem ma:Vj X "list.extend" BE:=by
 intro pins s σ H x vs v us Q I rx rv h
 obtain ⟨l,b,xs,zs,rfl,rfl,hH,hB,hz,q⟩:=h
 cases rx
 obtain ⟨u,rfl,ru⟩:=rv.one
 cases ru
 obtain ⟨z,its,n,r,hl,e⟩:=I.Ff hH
 obtain ⟨z2,tQ,n2,r2,Jy,e2⟩:=I.Ff hB
 have hsz:its.toArray.size + tQ.toArray.size<=sizeLine:=by rw [ac4,ac4]; omega
 have Fg:¬ (!its.toArray.isEmpty && Builtin.List.listTooLong (its.toArray.size + tQ.toArray.size))=true:=by
  rw [xI hsz,Bool.and_false]
  exact acP
 refine agr ae6 ⟨_,e,rfl⟩ F.entry_list_extend (F.args_list_extend_2 _ _)
  (AutoSeq1.list_extend_list_list_0 l its.toArray n b tQ.toArray n2 Fg (by rw [ac4]; omega) (by omega)) ⟨e,e2,?_⟩
 refine ⟨.jz,_,I.NI (its':=its ++ tQ) hH e (by simp) (r.append r2) ?_,rfl,q⟩
 rw [ac7]
 omega
def NJ:V->List V->Hp->VK->Prop:=λx vs H Q=>∃ l xs y,x=.ref l /\ vs=[] /\ H l=some (.lst xs) /\ xs[xs.length - 1]?=some y /\ Q y (upd H l (.lst xs.dropLast))
theorem Fh:Vj X "list.pop" NJ:=by
 intro pins s σ H x vs v us Q I rx rv h
 obtain ⟨l,xs,y,rfl,rfl,hH,hy,q⟩:=h
 cases rx
 have hus:=rv.zero
 subst hus
 obtain ⟨z,its,n,r,hl,e⟩:=I.Ff hH
 obtain ⟨u,hu,ru⟩:=r.get hy
 have hy':its.toArray[its.toArray.size - 1]?=some u:=by
  show its.toArray[its.length - 1]?=some u
  rw [<- Array.getElem?_toList,<- hl]
  exact hu
 refine agr agf ⟨_,e,rfl⟩ F.entry_list_pop (F.args_list_pop_1 _) (MeetsSeq.list_pop_last l its.toArray n u hy' (by rw [ac4]; omega)) ⟨e,?_⟩
 refine ⟨y,_,I.NI (its':=its.dropLast) hH e ?_ r.dropLast ?_,ru,q⟩
 .show its.toArray.eraseIdxIfInBounds (its.toArray.size - 1)=its.dropLast.toArray
  rw [ac4,List.eraseIdxIfInBounds_toArray,zL]
 .rw [List.length_dropLast]
  omega
def Vk:R2:=λx y H Q=>∃ l k xs,x=.ref l /\ y=.int k /\ H l=some (.lst xs) /\ -(2 ^ 63)<=k /\ k < 2 ^ 63 /\ xs.length * k.toNat<=sizeLine /\
 ∀ p,H p=none->Q (.ref p) (upd H p (.lst (List.replicate k.toNat xs).flatten))
theorem len_rep {α:Type} (xs:List α) (k:Nat):(List.replicate k xs).flatten.length=k * xs.length:=by
 induction k with
 | zero=>simp
 | succ k ih=>rw [aei,aeO,ac7,ih,Nat.succ_mul,Nat.add_comm]
theorem NK:jo X (binaryOp .Mult) Vk:=by
 intro pins s σ H x y v u Q I rx ry h
 obtain ⟨l,k,xs,rfl,rfl,hH,h1,h2,hz,q⟩:=h
 cases rx
 obtain ⟨t,rfl⟩:=ry
 obtain ⟨z,its,n,r,hl,e⟩:=I.Ff hH
 have hlen:its.toArray.size * k.toNat<=sizeLine:=by rw [ac4,<- hl]; exact hz
 have Vl:¬ its.toArray.size * k.toNat > (2 ^ 63 - 1) / 8:=by
  have:(sizeLine:Nat)<=(2 ^ 63 - 1) / 8:=by decide
  omega
 have Vm:¬ (!Builtin.List.listFitsIndex k)=true:=by
  rw [fitsIndex_both h1 h2]
  exact acP
 have Fg:¬ Builtin.List.listTooLong (its.toArray.size * k.toNat)=true:=by
  rw [xI hlen]
  exact acP
 have Vn:List.foldl (λx1 x2=>x1 ++ x2) #[] (List.replicate (if its.toArray.isEmpty=true then 0 else k.toNat) its.toArray)=(List.replicate k.toNat its).flatten.toArray:=by
  have f0:∀ m:Nat,List.foldl (λx1 x2=>x1 ++ x2) #[] (List.replicate m its.toArray)=(List.replicate m its).flatten.toArray:=λm=>by
   have:=foldl_rep its m []
   rw [af9] at this
   exact this
  rw [f0]
  cases its with
  | nil=>simp
  | cons a r'=>rw [acW (by simp)]
 refine wpAny_binaryOp_repeat_ref (T:="list") (U:="int") (by decide) ⟨_,e,rfl⟩ (λs'=>typeIs_int s' k t) noFill_list_mul F.fills_int_mul F.slot_int_rmul repeat_list F.slot_int_index.lookup
  (agr F.slot_int_rmul (typeIs_int s k t) F.entry_int_rmul (F.args_int_rmul_2 _ _) (int___rmul___int_list k t l its.toArray n)
   ⟨e,rfl,⟨_,e,rfl⟩,agr F.slot_list_mul ⟨_,e,rfl⟩ F.entry_list_mul (F.args_list_mul_2 _ _) (AutoListH.list___mul___list_int_3 l its.toArray n k t Vm Vl Fg) ⟨e,?_⟩⟩)
 rw [Vn]
 exact ⟨.ref _,_,I.Rb (t':=s.toks) (r.rep k.toNat) (by rw [len_rep,Nat.mul_comm]; exact hz),rfl,q _ I.fresh⟩
end
section
variable {prog:Program} {w:World} {A:Around} {E:Value->Shared->Prop} {s:Shared}
end
section
variable {X:Cx}
end
end L2
namespace Att
open PySem PySem.W PySem.Calls PyProof.Rows
theorem qz {P:Params} {h:Heap}:∀ (ns:List Int) (vs:List Value),WellAll P h vs (ns.map WData.int)->IntsAre vs ns:=by
 intro ns
 induction ns with
 | nil=>
   intro vs w
   rw [afM] at w
   cases w
   exact .nil
 | cons n ns ih=>
   intro vs w
   rw [acQ] at w
   cases w with
   | cons a b=>
     cases a
     exact .cons _ _ (ih _ b)
theorem C6 {l:OpenLaw} {n:Nat} (hn:l.most=some n) {P:Params} {h:Heap} {args:List WData} {vals:List Value}
  (Jz:l.row.toRowW.claim.pre args=true) (To:WellAll P h vals args):
  ∃ a vs ns,vals=[Value.ref a] /\ args=[WData.list (ns.map WData.int)] /\ h.get? a=some { cls:=.type "list",data:=.seq vs.toArray } /\ IntsAre vs ns /\ ns.length<=n:=by
 have hsh:WShape.hasAll [] args [.list .int]=true:=(pre_splitW Jz).1
 have hc:l.pre.holds [] { args:=args }=true:=(pre_splitW Jz).2
 obtain ⟨d,r,rfl,h1,h2⟩:=hasAllW_cons hsh
 obtain rfl:=hasAllW_nil h2
 obtain ⟨xs,rfl,h3⟩:=hasW_list h1
 obtain ⟨ns,rfl⟩:=items_int h3
 have hlen:ns.length<=n:=by
  unfold OpenLaw.pre at hc
  have h4:(WTm.not (.lt (.lit (.int (n:Int))) (.len (.arg 0)))).holds [] { args:=[.list (ns.map .int)] }=true:=by
   have h4:=(holds_andW hc).1
   rw [hn] at h4
   exact h4
  have h5:=condW_of h4 (w_not (w_lt w_lit (w_len_list (w_arg rfl))))
  rw [acH] at h5
  refine afl λq=>?_
  have q':(n:Int) < ((ns.length:Nat):Int):=by omega
  first
   | (rw [ac2 q'] at h5; exact absurd h5 (by decide))
   | (simp at h5; omega)
 cases To with
 | cons w1 w2=>
   cases w2
   cases w1 with
   | list ho C7=>exact ⟨_,_,ns,rfl,rfl,ho,qz ns _ C7,hlen⟩
theorem C8 (l:OpenLaw) (args:List WData):l.row.toRowW.claim.post args (.bool true) args=true:=
 postW_of (r:=l.row.toRowW) (X:=(true == true))
  (show WShape.has [] (.bool true) .bool=true by first | rfl | decide | simp [WShape.has,WShape.arms,WShape.armsAll])
  (show (WTm.eq .res (.lit (.bool true))).value [] { args:=args,res:=some (.bool true),after:=args }=some (.bool (true == true)) from w_eq_bool (w_res rfl) w_lit) rfl
theorem xJ {l:OpenLaw} {n:Nat} {q:Program} {loose:List Str} {XP:(Str->Option Value)->Heap->Prop} {YP:World->Heap->Prop} {d:DefRec}
  (hn:l.most=some n) (Rc:d.params.defaults=[])
  (call:∀ (w:World) (gZ bR:Shared) (mg mb:Str->Option Value) (fa:Addr) (o:Obj) (pm cd doc:Value) (a:Addr) (vs:List Value) (ns:List Int),
   Ground q loose [] XP w gZ mg mb bR.heap->YP w bR.heap->
   bR.heap.get? fa=some o->o.data=.func (docDef d.name d.params d.body d.scope pm cd doc)->bR.heap.CodeRec cd d.name->mg d.name=some (.ref fa)->
   bR.heap.get? a=some { cls:=.type "list",data:=.seq vs.toArray }->IntsAre vs ns->ns.length<=n->bR.gens=#[]->
   codeAny (model l.prog w) callerA (.call (.ref fa) ⟨[.ref a],[]⟩) (λr s'=>r=.ok (.ret (.bool true)) /\ OldK bR.heap s'.heap /\ s'.os=bR.os /\ AllBare s'.gens) bR):
  WalkO q loose XP YP l.row.toRowW d [] (λf vs=>PySem.call f vs):=by
 intro w gZ bR mg mb G Y fa o pm cd doc dV kV ho hd vk hD Rf hg args vals as Jz aes hrd To hlo
 obtain rfl:dV=.none:=Dflts.none hD Rc
 obtain rfl:kV=.none:=Dflts.noKw hD
 obtain ⟨a,vs,ns,rfl,rfl,NL,hints,hlen⟩:=C6 hn Jz To
 refine enter_call (ae9 (call w gZ bR mg mb fa o pm cd doc a vs ns G Y ho (fd_plain hd) vk Rf NL hints hlen hg) λr s' hq=>?_)
 obtain ⟨rfl,h2,h3,h4⟩:=hq
 exact ⟨.inl ⟨.bool true,.bool true,[],rfl,λ_=>rfl,.bool true,C8 l _,λ_=>⟨List.Pairwise.nil,λ_ hm=>(nomatch hm)⟩⟩,h2,h3,h4⟩
section
variable {prog:Program} {w:World} {A:Around} {E:Value->Shared->Prop} {s:Shared} {K:Frag}
end
end Att
namespace L2
open PySem PySem.Spec PyProof.Rows
theorem uy:∀ {vs:List Value} {ns:List Int},IntsAre vs ns->bj (ns.map V.int) vs
 | _,_,.nil=>.nil
 | _,_,.cons n t h=>.cons ⟨t,rfl⟩ (uy h)
def zu (K:PySem.W.Frag) (H:Hp) (a:Addr) (xs:List V):Prop:=
 Rd H a (.lst xs) \/ ∃ (its:List Value) (n:Nat),K.lookup a=some { cls:=.type "list",data:=.seq its.toArray n } /\ its.length<=sizeLine /\ bj xs its
abbrev C9:E9:=λ_ _ _ _ _ _=>False
abbrev E0:XK:=λ_ _ _=>False
theorem Rg {X:Cx}:zH C9 X E0:=λ_ _ _ _ _ _ _ h=>h.elim
structure gD (K:PySem.W.Frag) (x qual:Str) (st:Stmt) (f:Addr) (fd:FuncData):Prop where
 ex:∃ (oc:Value) (od:Option Addr) (kV doc pm:Value) (an:Option Addr) (cU ct:Value) (IM:Array (Option Value)),
  fd=PySem.W.fnOf x qual (j9 st) (fL st) (ah st) .none kV doc pm an cU ct /\ K.lookup f=some ⟨oc,od,.func fd,IM⟩ /\ PySem.W.codeIn K cU qual=true
 kp:PySem.W.keepIn K (.ref f)=true
section
variable {P:Program} {w:World} {K:PySem.W.Frag} {mg:Str->Option Value} {base:Heap}
theorem gD.ok {x qual:Str} {st:Stmt} {f:Addr} {fd:FuncData} {N ps:List Str} {k:Nat} {sp:Sp} (F:gD K x qual st f fd) (S:aB N ps (ah st)) (len:∀ vs H Q E,sp vs H Q E->vs.length=ps.length)
  (xF:∀ (cU:Value) (A:Around) (outer:List Env) (s:Shared) (H:Hp) (vs:List V) (Q:VK) (E:XK),gT k (A.deeper (envOfC qual (ah st) s.heap.objs.size f cU))->sp vs H Q E->
   ∃ t,mR (tO C9 P w K mg base N qual (ah st) f cU A outer s H E).LD (fL st) t /\ t { nx:=λ_ H'=>Q .jz H',rt:=Q } (start N vs) H):rn P w K mg base C9 (k + 1) f fd ps sp:=by
 obtain ⟨oc,od,kV,doc,pm,an,cU,ct,IM,rfl,lk,vk⟩:=F.ex
 refine Q3 lk vk S len λA outer s H vs Q E hr Ez=>?_
 obtain ⟨t,h,q⟩:=xF cU A outer s H vs Q E hr Ez
 exact ⟨t,h.LD,q⟩
theorem gD.binds {x qual:Str} {st:Stmt} {f:Addr} {fd:FuncData} {ps:List Str} (F:gD K x qual st f fd)
  (h:∀ (kV doc pm:Value) (an:Option Addr) (cU ct:Value) (us:List Value),us.length=ps.length->bindArgs (PySem.W.fnOf x qual (j9 st) (fL st) (ah st) .none kV doc pm an cU ct) ⟨us,[]⟩=pure (ps.zip us)):Binds K fd ps []:=by
 obtain ⟨oc,od,kV,doc,pm,an,cU,ct,IM,rfl,lk,vk⟩:=F.ex
 exact .all (h kV doc pm an cU ct)
theorem aU {x qual:Str} {st:Stmt} {f:Addr} {oc:Value} {od an:Option Addr} {IM:Array (Option Value)} {kV doc pm cU ct:Value} (l:K.lookup f=some ⟨oc,od,.func (PySem.W.fnOf x qual (j9 st) (fL st) (ah st) .none kV doc pm an cU ct),IM⟩)
  (c:PySem.W.codeIn K cU qual=true) (k:PySem.W.keepIn K (.ref f)=true):gD K x qual st f (PySem.W.fnOf x qual (j9 st) (fL st) (ah st) .none kV doc pm an cU ct):=⟨⟨oc,od,kV,doc,pm,an,cU,ct,IM,rfl,l,c⟩,k⟩
end
def JA:Option NameKind->Bool
 | some .local=>true
 | some .cell=>true
 | some .free=>true
 | _=>false
theorem NM {sc:Scope} {x:Str} (h:JA (sc.names.lookup x)=true):Qv sc x:=by
 unfold Qv
 cases e:sc.names.lookup x with
 | none=>rw [e] at h; cases h
 | some k=>
   rw [e] at h
   cases k <;> first | exact .inl rfl | exact .inr (.inl rfl) | exact .inr (.inr rfl) | cases h
section
variable {X:Cx}
theorem pv (i:Nat) {x:Str} {pos:Pos} (hN:X.N[i]?=some x:=by rfl) (hv:JA (X.env.scope.names.lookup x)=true:=by rfl) (hd:(x == ("__debug__":Str))=false:=by decide)
  (vk:(x == ("__classdict__":Str))=false:=by decide):PE X (.Name x pos) (n6 i):=Nc hN (NM hv) hd vk
end
def aL (H H':Hp):Prop:=∀ b o,H b=some o->H' b=some o
theorem aL.refl (H:Hp):aL H H:=λ_ _ h=>h
theorem aL.trans {H H1 H2:Hp} (a:aL H H1) (b:aL H1 H2):aL H H2:=λc o h=>b c o (a c o h)
theorem aL.free {H H':Hp} (e:aL H H') {l:Addr} (h:H' l=Option.none):H l=Option.none:=by
 cases q:H l with
 | none=>rfl
 | some o=>
   rw [e l o q] at h
   cases h
section
variable {κ:Type} [DecidableEq κ]
def mU (aV:List (κ×V)) (k:κ):Option V:=(aV.find? λkv=>decide (kv.1=k)).map (·.2)
def putK (aV:List (κ×V)) (k:κ) (v:V):List (κ×V):=
 if (aV.any λkv=>decide (kv.1=k))=true then aV.map (λkv=>if kv.1=k then (kv.1,v) else kv) else aV ++ [(k,v)]
theorem lr {p:κ×V} {r:List (κ×V)} {k:κ} (e:p.1=k):mU (p :: r) k=some p.2:=by simp [mU,aey,e]
theorem lu {p:κ×V} {r:List (κ×V)} {k:κ} (e:¬ p.1=k):mU (p :: r) k=mU r k:=by simp [mU,aey,e]
theorem rq (k:κ):∀ aV:List (κ×V),(aV.any λkv=>decide (kv.1=k))=(mU aV k).isSome
 | []=>rfl
 | p :: r=>by
   rw [afw]
   by_cases e:p.1=k
   .simp only [lr e,ac2 e,Bool.true_or,Option.isSome_some]
   .rw [lu e,acZ e,Bool.false_or]; exact rq k r
theorem qk (aV:List (κ×V)) (k:κ) (v:V):(putK aV k v).length<=aV.length + 1:=by
 unfold putK
 split
 .rw [acH]; omega
 .rw [ac7,ac3,aej]; omega
theorem o9.Dc {o:Option V} {u:Option Value} (r:o9 o u):o.isSome=u.isSome:=by
 cases o with
 | none=>cases u with
   | none=>rfl
   | some _=>exact (show False from r).elim
 | some _=>cases u with
   | none=>exact (show False from r).elim
   | some _=>rfl
theorem o9.getD {o:Option V} {u:Option Value} {d:V} {d':Value} (r:o9 o u) (rd:RelV d d'):RelV (o.getD d) (u.getD d'):=by
 cases o with
 | none=>cases u with
   | none=>exact rd
   | some _=>exact (show False from r).elim
 | some _=>cases u with
   | none=>exact (show False from r).elim
   | some _=>exact r
theorem KV.val {aV:List (κ×V)} {vs:List (κ×Value)} (r:KV aV vs) (k:κ):o9 (mU aV k) (valueAt vs k):=by
 unfold KV at r
 induction r with
 | nil=>exact True.intro
 | @cons p q ps qs h t ih=>
   obtain ⟨h1,h2⟩:=h
   by_cases e:p.1=k
   .have e':q.1=k:=h1.symm.trans e
    have b:valueAt (q :: qs) k=some q.2:=by simp [valueAt,aey,e']
    rw [lr e,b]; exact h2
   .have e':¬ q.1=k:=λz=>e (h1.trans z)
    have b:valueAt (q :: qs) k=valueAt qs k:=by simp [valueAt,aey,e']
    rw [lu e,b]; exact ih
theorem KV.any {aV:List (κ×V)} {vs:List (κ×Value)} (r:KV aV vs) (k:κ):(aV.any λkv=>decide (kv.1=k))=vs.any λkv=>decide (kv.1=k):=by
 unfold KV at r
 induction r with
 | nil=>rfl
 | cons h t ih=>rw [afw,afw,ih,h.1]
theorem KV.NN {aV:List (κ×V)} {vs:List (κ×Value)} (r:KV aV vs) (k:κ) {y:V} {u:Value} (ry:RelV y u):
  KV (aV.map λkv=>if kv.1=k then (kv.1,y) else kv) (vs.map λkv=>if kv.1=k then (kv.1,u) else kv):=by
 unfold KV at r ⊢
 induction r with
 | nil=>exact .nil
 | @cons p q ps qs h t ih=>
   rw [acQ,acQ]
   refine .cons ?_ ih
   obtain ⟨h1,h2⟩:=h
   by_cases e:p.1=k
   .rw [acU e,acU (h1.symm.trans e)]; exact ⟨h1,ry⟩
   .rw [acW e,acW (λz=>e (h1.trans z))]; exact ⟨h1,h2⟩
theorem KV.put {aV:List (κ×V)} {vs:List (κ×Value)} (r:KV aV vs) (k:κ) {y:V} {u:Value} (ry:RelV y u):KV (putK aV k y) (stored vs k u):=by
 unfold putK stored
 rw [r.any k]
 by_cases e:(vs.any λkv=>decide (kv.1=k))=true
 .rw [acU e,acU e]; exact r.NN k ry
 .rw [acW e,acW e]; exact Paired.snoc r ⟨rfl,ry⟩
theorem KV.length {aV:List (κ×V)} {vs:List (κ×Value)} (r:KV aV vs):aV.length=vs.length:=Paired.length r
end
theorem BF {P:Program} {w:World} {k:Key} {u:Value} (r:RelV (kV k) u):(dA P w).is k u=true:=by
 cases k with
 | inl i=>obtain ⟨t,e⟩:=(show ∃ t,u=Value.int i t from r); subst e; exact xx P w i t
 | inr x=>obtain ⟨t,e⟩:=(show ∃ t,u=Value.str x t from r); subst e; exact xy P w x t
theorem uz {P:Program} {w:World}:∀ {ks:List Key} {us:List Value},bj (ks.map kV) us->ItemsAre (dA P w) ks us
 | [],_,r=>by rw [afM] at r; cases r; exact .nil
 | k :: ks,_,r=>by
   rw [acQ] at r
   cases r with
   | cons h t=>exact .cons (BF h) (uz t)
abbrev KT (H:Hp):List (List Key×V)->List (List Key×Addr×Value)->Prop:=Paired λp q=>p.1=q.1 /\ dh H q.2.1 (p.1.map kV) /\ RelV p.2 q.2.2
theorem KT.val {H:Hp} {aV:List (List Key×V)} {xs:List (List Key×Addr×Value)} (r:KT H aV xs) (k:List Key):o9 (mU aV k) ((atKey xs k).map (·.2)):=by
 induction r with
 | nil=>exact True.intro
 | @cons p q ps qs h t ih=>
   obtain ⟨h1,_,h2⟩:=h
   by_cases e:p.1=k
   .have e':q.1=k:=h1.symm.trans e
    have b:atKey (q :: qs) k=some q.2:=by simp [atKey,aey,e']
    rw [lr e,b]; exact h2
   .have e':¬ q.1=k:=λz=>e (h1.trans z)
    have b:atKey (q :: qs) k=atKey qs k:=by simp [atKey,aey,e']
    rw [lu e,b]; exact ih
theorem KT.NN {H:Hp} {aV:List (List Key×V)} {xs:List (List Key×Addr×Value)} (r:KT H aV xs) (k:List Key) {y:V} {u:Value} (ry:RelV y u):
  KT H (aV.map λkv=>if kv.1=k then (kv.1,y) else kv) (xs.map (putAt k u)):=by
 induction r with
 | nil=>exact .nil
 | @cons p q ps qs h t ih=>
   rw [acQ,acQ]
   refine .cons ?_ ih
   obtain ⟨h1,h2,h3⟩:=h
   unfold putAt
   by_cases e:p.1=k
   .rw [acU e,acU (h1.symm.trans e)]; exact ⟨h1,h2,ry⟩
   .rw [acW e,acW (λz=>e (h1.trans z))]; exact ⟨h1,h2,h3⟩
theorem KT.put {H:Hp} {aV:List (List Key×V)} {xs:List (List Key×Addr×Value)} (r:KT H aV xs) (k:List Key) {b:Addr} {y:V} {u:Value} (hb:dh H b (k.map kV)) (ry:RelV y u):
  KT H (putK aV k y) (storedH xs k b u):=by
 have e:(aV.any λkv=>decide (kv.1=k))=(atKey xs k).isSome:=by
  rw [rq,(r.val k).Dc,Option.isSome_map]
 unfold putK storedH
 rw [e]
 by_cases q:(atKey xs k).isSome=true
 .rw [acU q,acU q]; exact r.NN k ry
 .rw [acW q,acW q]; exact Paired.snoc r ⟨rfl,hb,ry⟩
theorem KT.keeps {H H':Hp} {aV:List (List Key×V)} {xs:List (List Key×Addr×Value)} (r:KT H aV xs) (ht:∀ b ys,dh H b ys->dh H' b ys):KT H' aV xs:=
 Paired.M8 r λ_ _ z=>⟨z.1,ht _ _ z.2.1,z.2.2⟩
section
variable {P:Program} {w:World} {H:Hp} {h:Heap} {a:Addr}
theorem LM {u:HO} (ok:mQ P w H h) (e:Rd H a u):c9 P w H h a u:=e.ok ok
theorem xK {aV:List (Key×V)} (ok:mQ P w H h) (e:Rd H a (.dK aV)):aV.length<=sizeLine /\ (a == sysModules)=false /\ ∃ vs,KV aV vs /\ h.DictOf (dA P w) a vs:=
 show c9 P w H h a (.dK aV) from LM ok e
theorem Rh {aV:List (Key×V)} (ok:mQ P w H h) (e:H a=some (.dK aV)):aV.length<=sizeLine /\ (a == sysModules)=false /\ ∃ vs,KV aV vs /\ h.DictOf (dA P w) a vs:=xK ok (.inl e)
theorem rA {ks:List Key} (ok:mQ P w H h) (e:dh H a (ks.map kV)):(tupleKind (dA P w)).is h ks a:=by
 obtain ⟨_,its,r,o,h1,h2,n,h3⟩:=(show c9 P w H h a (.tup (ks.map kV)) from Rd.ok e ok)
 exact ⟨o,its.toArray,n,h1,h2,h3,by simpa using uz r⟩
theorem xM {aV:List (List Key×V)} (ok:mQ P w H h) (e:Rd H a (.dT aV)):aV.length<=sizeLine /\ (a == sysModules)=false /\
  ∃ xs,KT H aV xs /\ h.DictOfH (tupleKind (dA P w)) a xs:=by
 obtain ⟨z,y,xs,r,o,es,ep,h1,h2,h3,h4,h5⟩:=(show c9 P w H h a (.dT aV) from LM ok e)
 refine ⟨z,y,xs,r,o,es,ep,h1,h2,h3,h4,λx hx=>?_,h5⟩
 have all:∀ {l:List (List Key×V)} {m:List (List Key×Addr×Value)},KT H l m->∀ x∈m,(tupleKind (dA P w)).is h x.1 x.2.1:=by
  intro l m q
  induction q with
  | nil=>intro x hx; exact nomatch hx
  | @cons p q ps qs hq t ih=>
    intro x hx
    rcases acK.mp hx with e | hx
    .subst e
     exact rA ok (by rw [<- hq.1]; exact hq.2.1)
    .exact ih x hx
 exact all r x hx
theorem LN {aV:List (List Key×V)} (ok:mQ P w H h) (e:H a=some (.dT aV)):aV.length<=sizeLine /\ (a == sysModules)=false /\
  ∃ xs,KT H aV xs /\ h.DictOfH (tupleKind (dA P w)) a xs:=xM ok (.inl e)
end
def tU (H:Hp) (a:Addr) (y:V) (r:Option V):Prop:=
 (∃ aV k,Rd H a (.dK aV) /\ y=kV k /\ r=mU aV k) \/ ∃ aV k b,Rd H a (.dT aV) /\ y=.ref b /\ dh H b (k.map kV) /\ r=mU aV k
def Dd (H:Hp) (a:Addr) (y v:V) (H':Hp):Prop:=
 (∃ aV k,H a=some (.dK aV) /\ y=kV k /\ aV.length < sizeLine /\ H'=upd H a (.dK (putK aV k v))) \/
 ∃ aV k b,H a=some (.dT aV) /\ y=.ref b /\ dh H b (k.map kV) /\ aV.length < sizeLine /\ H'=upd H a (.dT (putK aV k v))
theorem tU.t {H:Hp} {a b:Addr} {aV:List (List Key×V)} {k:List Key} (e:H a=some (.dT aV)) (eb:dh H b (k.map kV)):tU H a (.ref b) (mU aV k):=.inr ⟨aV,k,b,.inl e,rfl,eb,rfl⟩
theorem Dd.t {H:Hp} {a b:Addr} {aV:List (List Key×V)} {k:List Key} {v:V} (e:H a=some (.dT aV)) (eb:dh H b (k.map kV)) (hl:aV.length < sizeLine):
  Dd H a (.ref b) v (upd H a (.dT (putK aV k v))):=.inr ⟨aV,k,b,e,rfl,eb,hl,rfl⟩
section
variable {X:Cx} {pins:List (Addr×Obj)} {σ:St} {H:Hp} {s:Shared} {a:Addr} {y v:V} {u r:Value} {o:Option V} {A:Around} {E:Value->Shared->Prop}
theorem Inv.Tp (I:Inv X pins σ H s):sysModules < s.heap.objs.size:=by
 have h:mainGlobals < s.heap.objs.size:=(I.mod.glob.keeps I.bk).lt
 exact Nat.lt_trans (by decide) h
theorem De {Q:Value->Shared->Prop} (hu:A.units + 1 < cLine) (I:Inv X pins σ H s) (g:tU H a y (some v)) (ry:RelV y u) (h:∀ w' s',Inv X pins σ H s'->RelV v w'->Q w' s'):
  wpAny (model X.prog X.w) A (getItem (.ref a) u) Q E s:=by
 rcases g with ⟨aV,k,e,ey,l⟩ | ⟨aV,k,b,e,ey,eb,l⟩
 .subst ey
  obtain ⟨z,hd,vs,rel,dd⟩:=xK I.cS e
  obtain ⟨w',hw,xC⟩:=o9.some_of (v:=v) (o:=valueAt vs k) (by rw [l]; exact rel.val k)
  exact wpAny_getItem_of (BF ry) dd.mapOf hw (h w' _ (I.tok _) xC)
 .subst ey
  cases (show u=Value.ref b from ry)
  obtain ⟨z,hd,xs,rel,dd⟩:=xM I.cS e
  obtain ⟨w',hw,xC⟩:=o9.some_of (v:=v) (o:=(atKey xs k).map (·.2)) (by rw [l]; exact rel.val k)
  obtain ⟨p,hp,Tq⟩:=afJ.mp hw
  refine wpAny_getItem_heap (tupleKind_room_in1 hu) (rA I.cS eb) dd hp ?_
  rw [Tq]
  exact h w' _ (I.tok _) xC
theorem vE {h':Heap} {t':Nat} {ob:HO} (I:Inv X pins σ H s) (mu:Qt (H a)) (hs:Heap.SameBut a s.heap h') (he:∃ q,h'.get? a=some q) (new:c9 X.prog X.w (upd H a ob) h' a ob):
  Inv X pins σ (upd H a ob) { s with heap:=h',toks:=t' }:=
 I.write (x:=a) (e:=a) mu (.inl rfl) (λb q hb z=>(hs.2 b hb).trans z) he new
theorem NO {P:Program} {w:World} {H':Hp} {h':Heap} {aV:List (Key×V)} {vs:List (Key×Value)} (z:aV.length<=sizeLine) (hd:(a == sysModules)=false) (rel:KV aV vs) (dd:h'.DictOf (dA P w) a vs):
  c9 P w H' h' a (.dK aV):=⟨z,hd,vs,rel,dd⟩
theorem Dg {H':Hp} {Q:Unit->Shared->Prop} (hu:A.units + 1 < cLine) (I:Inv X pins σ H s) (g:Dd H a y v H') (ry:RelV y u) (rv:RelV v r) (h:∀ s',Inv X pins σ H' s'->Q () s'):
  wpAny (model X.prog X.w) A (setItem (.ref a) u r) Q E s:=by
 rcases g with ⟨aV,k,e,ey,l,eH⟩ | ⟨aV,k,b,e,ey,eb,l,eH⟩
 .subst ey eH
  obtain ⟨z,hd,vs,rel,dd⟩:=Rh I.cS e
  have hz:vs.length<=sizeLine:=by rw [<- rel.length]; exact z
  have hl:(putK aV k v).length<=sizeLine:=by have:=qk aV k v; omega
  refine wpAny_setItem_pairs (hsz:=hz) (BF ry) dd λh' Qd hs=>h _ ?_
  have he:∃ q,h'.get? a=some q:=let ⟨q,_,_,hq,_⟩:=Qd; ⟨q,hq⟩
  exact vE I (by rw [e]; exact True.intro) hs he (NO hl hd (rel.put k rv) Qd)
 .subst ey eH
  cases (show u=Value.ref b from ry)
  obtain ⟨z,hd,xs,rel,dd⟩:=LN I.cS e
  have hz:xs.length<=sizeLine:=by rw [<- Paired.length rel]; exact z
  have hl:(putK aV k v).length<=sizeLine:=by have:=qk aV k v; omega
  refine wpAny_setItem_heap (hsz:=hz) (tupleKind_room_in1 hu) (rA I.cS eb) dd λh' Qd hs=>h _ ?_
  obtain ⟨q,es,ep,hq,h2,h3,h4,_,h5⟩:=Qd
  refine vE I (by rw [e]; exact True.intro) hs ⟨q,hq⟩ ⟨hl,hd,_,(rel.put k eb rv).keeps λc ys ec=>?_,q,es,ep,hq,h2,h3,h4,h5⟩
  exact ec.dT e
end
section
variable {X:Cx} {pins:List (Addr×Obj)} {σ:St} {H:Hp} {s:Shared} {a:Addr} {aV:List (Key×V)} {k:Key} {u:Value} {A:Around} {E:Value->Shared->Prop}
end
def NP (i:Expr):Prop:=∀ ov iv,subscripted i false ov iv=operate [ov,iv] (getItem ov iv)
theorem JB {prog:Program} {w:World} {A:Around} {E:Value->Shared->Prop} {s:Shared} {env:Env} {value slice:Expr} {pos:Pos} {T id:String} {Q:Value->Shared->Prop}
  (hl:typeLookup (.type T) "__getitem__"=pure (some (.builtin id))) (hs:NP slice)
  (h:wpAny (model prog w) A (eval value env) (λo bR=>wpAny (model prog w) A (eval slice env) (λi mT=>mT.TypeIs o T /\ wpAny (model prog w) A (getItem o i) Q E mT) E bR) E s):
  wpAny (model prog w) A (eval (.Subscript value slice pos) env) Q E s:=by
 refine Subscript_ (adG h (λo bR pk=>adG pk (λi mT vF=>?_) λ_ _ x=>x) λ_ _ x=>x)
 obtain ⟨hT,vF⟩:=vF
 unfold subscriptTail
 refine acI ?_
 rw [getitemInPython_of_ne hT.not_modules]
 refine acI (wpAny_specialOf hT hl ?_)
 have fin:wpAny (model prog w) A (subscripted slice false o i) (λr pq=>wpAny (model prog w) A (letTemporaryGo value o r >>= λ_=>pure r) Q E pq) E mT:=by
  rw [hs o i]
  exact wpAny_operating (adG vF (λr pq NQ=>acI (wpAny_letTemporaryGo (acT NQ))) λ_ _ x=>x)
 first
  | exact acT (acI fin)
  | exact acI (acT (acI fin))
  | exact acI fin
theorem xN {X:Cx} {pins:List (Addr×Obj)} {σ:St} {H:Hp} {s:Shared} {a:Addr} {y:V} {o:Option V} (I:Inv X pins σ H s) (g:tU H a y o):s.TypeIs (.ref a) "dict":=by
 rcases g with ⟨aV,k,e,_,_⟩ | ⟨aV,k,b,e,_,_,_⟩
 .obtain ⟨_,_,vs,_,dd⟩:=xK I.cS e
  exact dd.typeIs
 .obtain ⟨_,_,xs,_,dd⟩:=xM I.cS e
  exact dd.typeIs
def LO (td ty:TE):TE:=λσ H Q=>td σ H λx H1=>ty σ H1 λy H2=>∃ a v,x=.ref a /\ tU H2 a y (some v) /\ Q v H2
def Fi (td ty tv:TE):TS:=λD σ H=>tv σ H λv H1=>td σ H1 λx H2=>ty σ H2 λy H3=>∃ a H4,x=.ref a /\ Dd H3 a y v H4 /\ D.nx σ H4
section
variable {X:Cx} {o i e value:Expr} {pos pos' i5:Pos} {td ty tv:TE}
theorem BG (hu:X.A.units + 1 < cLine) (ho:PE X o td) (hi:PE X i ty) (hs:NP i):PE X (.Subscript o i pos) (LO td ty):=by
 intro pins s σ H Q I h
 refine JB PySem.F.slot_dict_getitem.lookup hs (dz (ho pins s σ H _ I h) λu s1 ⟨x,H1,I1,rx,q1⟩=>dz (hi pins s1 σ H1 _ I1 q1) λiv s2 ⟨y,H2,I2,ry,a,v,ex,g,q2⟩=>?_)
 subst ex
 obtain rfl:u=Value.ref a:=rx
 exact ⟨xN I2 g,De hu I2 g ry λw' s3 I3 xC=>⟨v,H2,I3,xC,q2⟩⟩
theorem vG (hu:X.A.units + 1 < cLine) (ho:PE X o td) (hi:PE X i ty) (hv:PE X value tv) (hs:swapsWith value (some (.Subscript o i pos')) pos.line X.env=pure false):
  PS X (.Assign [.Subscript o i pos'] value pos) (Fi td ty tv):=by
 intro pins s σ H D I h
 refine wpAny_Assign_Subscript (dz (hv pins s σ H _ I h) λr s1 ⟨v,H1,I1,rv,q1⟩=>dz (ho pins s1 σ H1 _ I1 q1) λu s2 ⟨x,H2,I2,rx,q2⟩=>dz (hi pins s2 σ H2 _ I2 q2) λiv s3 ⟨y,H3,I3,ry,a,H4,ex,g,q3⟩=>?_) hs
 subst ex
 obtain rfl:u=Value.ref a:=rx
 exact Dg hu I3 g ry rv λs4 I4=>⟨σ,H4,I4,q3⟩
end
theorem xO {P:Program} {w:World} {H:Hp} (h:Heap) (hb:sysModules < h.objs.size):c9 P w H (h.push { cls:=.type "dict",data:=.dict #[] }) h.objs.size (.dT []):=
 ⟨aek _,age.mpr (aeW (adj hb)),[],.nil,_,#[],0,ac8 _ rfl,⟨rfl,rfl,rfl⟩,rfl,rfl,List.nodup_nil⟩
def NR:TE:=λ_ H Q=>∀ p,H p=none->Q (.ref p) (upd H p (.dT []))
section
variable {X:Cx} {pos:Pos}
theorem Fj:PE X (.Dict [] [] pos) NR:=λpins s σ H Q I h=>
 wpAny_Dict_empty ⟨.ref s.heap.objs.size,_,I.laid (a:=s.heap.objs.size) (o:=.dT []) (t':=s.toks) (λ_ _ q=>acM _ q) (ac1 _) (xO s.heap I.Tp),rfl,h _ (I.cS.fresh (ac1 _))⟩
end
def zM:List (TE×TE)->St->Hp->(List (V×V)->Hp->Prop)->Prop
 | [],_,H,Q=>Q [] H
 | (tk,tv) :: r,σ,H,Q=>tk σ H λx H1=>tv σ H1 λy H2=>zM r σ H2 λps H3=>Q ((x,y) :: ps) H3
abbrev VV:List (V×V)->List (Value×Value)->Prop:=Paired λp q=>RelV p.1 q.1 /\ RelV p.2 q.2
def Tr (X:Cx) (pos:Pos) (keys:List (Option Expr)) (values:List Expr) (Ts:List (TE×TE)):Prop:=
 ∀ (pins:List (Addr×Obj)) (s:Shared) (σ:St) (H:Hp) (Q:List (V×V)->Hp->Prop),Inv X pins σ H s->zM Ts σ H Q->
   wpAny (model X.prog X.w) X.A (evalPairs (pairTrees keys values X.env pos)) (λvs s'=>∃ ps H',Inv X pins σ H' s' /\ VV ps vs /\ Q ps H') X.xe s
theorem JC {X:Cx} {pos:Pos}:Tr X pos [] [] []:=λpins s σ H Q I h=>pairTrees_nil_walk ⟨[],H,I,.nil,h⟩
theorem Fk {X:Cx} {pos:Pos} {k v:Expr} {ks:List (Option Expr)} {vs:List Expr} {tk tv:TE} {Ts:List (TE×TE)} (hk:PE X k tk) (hv:PE X v tv) (hr:Tr X pos ks vs Ts):
  Tr X pos (some k :: ks) (v :: vs) ((tk,tv) :: Ts):=λpins s σ H Q I h=>
 pairTrees_cons_walk (dz (hk pins s σ H _ I h) λu s1 ⟨x,H1,I1,rx,q1⟩=>dz (hv pins s1 σ H1 _ I1 q1) λw2 s2 ⟨y,H2,I2,ry,q2⟩=>
  dz (hr pins s2 σ H2 _ I2 q2) λws s3 ⟨ps,H3,I3,rel,q3⟩=>⟨(x,y) :: ps,H3,I3,.cons ⟨rx,ry⟩ rel,q3⟩)
structure M2 (X:Cx) (o:Expr) (m:Str) (apos:Pos) (e f:Expr) (fH:Pos):Prop where
 base:attributeBase o m X.env (eval o X.env)=eval o X.env
 vH:((backTo fH (starEach [e,f] X.env)).all (λx=> !x.1) && (backToKw fH (keywordEach [] X.env)).all (λx=>x.1.isSome)
  && decide (([e,f]:List Expr).length + ([]:List Keyword).length + (if ([]:List Keyword).isEmpty then 0 else 1) < 30))=true
 line:(apos.endLine == fH.line)=true
 trees:backTo fH (starEach [e,f] X.env)=[(false,eval e X.env),(false,eval f X.env)]
def LP (H:Hp) (a:Addr):Prop:=(∃ aV,Rd H a (.dK aV)) \/ ∃ aV,Rd H a (.dT aV)
theorem NS {X:Cx} {pins:List (Addr×Obj)} {σ:St} {H:Hp} {s:Shared} {a:Addr} (I:Inv X pins σ H s) (d:LP H a):
  s.TypeIs (.ref a) "dict" /\ (∀ b,Value.ref a=.ref b->∃ ob,s.heap.get? b=some ob /\ ob.dict=none) /\ (a == sysModules)=false:=by
 rcases d with ⟨aV,e⟩ | ⟨aV,e⟩
 .obtain ⟨_,hd,vs,_,dd⟩:=xK I.cS e
  refine ⟨dd.typeIs,λb q=>?_,hd⟩
  cases q
  obtain ⟨ob,_,_,h1,h2,_⟩:=dd
  exact ⟨ob,h1,h2.2.1⟩
 .obtain ⟨_,hd,xs,_,dd⟩:=xM I.cS e
  refine ⟨dd.typeIs,λb q=>?_,hd⟩
  cases q
  obtain ⟨ob,_,_,h1,h2,_⟩:=dd
  exact ⟨ob,h1,h2.2.1⟩
section
variable {X:Cx} {pins:List (Addr×Obj)} {σ:St} {H:Hp} {s:Shared} {a:Addr} {y d:V} {u r:Value} {o:Option V} {A:Around} {E:Value->Shared->Prop}
theorem NT {Q:Value->Shared->Prop} (hu:A.units + 1 < cLine) (I:Inv X pins σ H s) (g:tU H a y o) (ry:RelV y u) (rd:RelV d r) (h:∀ w' s',Inv X pins σ H s'->RelV (o.getD d) w'->Q w' s'):
  wpAny (model X.prog X.w) A (call (.builtin "dict.get") [.ref a,u,r]) Q E s:=by
 rcases g with ⟨aV,k,e,ey,l⟩ | ⟨aV,k,b,e,ey,eb,l⟩
 .subst ey
  obtain ⟨z,hd,vs,rel,dd⟩:=xK I.cS e
  refine call_meetsIn afX dd.typeIs PySem.F.entry_dict_get (PySem.F.args_dict_get_3 _ _ _) (meets_dict_get_default (dA X.prog X.w) a (BF ry) hd r) ⟨_,dd.mapOf,h _ _ (I.tok _) ?_⟩
  rw [l]
  exact (rel.val k).getD rd
 .subst ey
  cases (show u=Value.ref b from ry)
  obtain ⟨z,hd,xs,rel,dd⟩:=xM I.cS e
  refine call_meetsIn afX dd.typeIs PySem.F.entry_dict_get (PySem.F.args_dict_get_3 _ _ _) (meetsH_dict_get_default (tupleKind (dA X.prog X.w)) a b hd r) ⟨tupleKind_room_in1 hu,k,xs,rA I.cS eb,dd,h _ _ (I.tok _) ?_⟩
  rw [l]
  exact (rel.val k).getD rd
end
def NU (td ty tx:TE):TE:=λσ H Q=>td σ H λx H1=>∃ a,x=.ref a /\ LP H1 a /\ ty σ H1 λy H2=>tx σ H2 λz H3=>∃ o,tU H3 a y o /\ Q (o.getD z) H3
section
variable {X:Cx} {o e f:Expr} {apos fH:Pos} {td ty tx:TE}
theorem Fl (hu:X.A.units + 1 < cLine) (ho:PE X o td) (he:PE X e ty) (hf:PE X f tx) (m:M2 X o "get" apos e f fH):PE X (.Call (.Attribute o "get" apos) [e,f] [] fH) (NU td ty tx):=by
 intro pins s σ H Q I h
 refine wpAny_Call_method m.base m.vH m.line PySem.F.plainAttrs_dict afX PySem.F.type_dict_get (dz (ho pins s σ H _ I h) λu s1 ⟨x,H1,I1,rx,a,ex,d,q1⟩=>?_)
 subst ex
 obtain rfl:u=Value.ref a:=rx
 obtain ⟨t1,t2,_⟩:=NS I1 d
 refine ⟨t1,t2,?_⟩
 rw [m.trees]
 refine afO rfl (Calls.evalArgs_plain (Calls.spliced_cons (dz (he pins s1 σ H1 _ I1 q1) λiv s2 ⟨y,H2,I2,ry,q2⟩=>
  Calls.spliced_cons (dz (hf pins s2 σ H2 _ I2 q2) λfv s3 ⟨z,H3,I3,rz,ov,g,q3⟩=>Calls.spliced_nil ?_))))
 exact NT hu I3 g ry rz λw' s4 I4 xC=>⟨_,H3,I4,xC,q3⟩
end
end L2
set_option maxHeartbeats 4000000
namespace L2
open PySem PySem.Spec PyProof.Rows
section
variable {X:Cx}
theorem bx:jo X (binaryOp .Mult) (rI IntMulOk λi j=>.int (i * j)):=QV λ_ _ _ _ _ _ _ hc q=>mul_int q hc
def BH (i j:Int):Prop:=j≠0 /\ Builtin.divisionGoesByPylong i j=false
theorem da:jo X (binaryOp .FloorDiv) (rI BH λi j=>.int (i.fdiv j)):=QV λ_ _ _ _ _ _ _ hc q=>floordiv_int hc.1 q (.inl hc.2)
theorem uA {i j:Int} (h:Builtin.Int.intBits j<=9000):Builtin.divisionGoesByPylong i j=false:=by
 refine PyProof.noPylong_of_log2 ?_
 unfold Builtin.Int.intBits at h
 by_cases hj:j=0
 .subst hj; decide +kernel
 .rw [if_neg (by simpa using hj)] at h
  omega
theorem mul_right {i j:Int} (h1: -(2 ^ 64) < j) (h2:j < 2 ^ 64):IntMulOk i j:=.of_right (intBits_le_64 h1 h2)
theorem mul_left {i j:Int} (h1: -(2 ^ 64) < i) (h2:i < 2 ^ 64):IntMulOk i j:=.of_left (intBits_le_64 h1 h2)
def TyW (K:PySem.W.Frag) (H:Hp) (x:V) (t:String):Prop:=
 pf K H x (.type t) \/ (∃ a xs,x=.ref a /\ jN K H a xs /\ t="tuple") \/ (∃ a xs,x=.ref a /\ gX K H a xs /\ t="list")
def Vo (K:PySem.W.Frag):List V->Hp->VK->Prop:=λxs H Q=>∃ x n t b,xs=[x,.ty n] /\ TyW K H x t /\ PySem.W.kitOne K (.type t) (.type n)=some b /\ Q (.bl b) H
theorem Fm:eR X (.builtin "isinstance") (Vo X.K):=by
 intro pins s σ H xs us Q I r h
 obtain ⟨x,n,t,b,rfl,ty,e,q⟩:=h
 obtain ⟨u1,u2,rfl,r1,r2⟩:∃ u1 u2,us=[u1,u2] /\ RelV x u1 /\ RelV (.ty n) u2:=by
  cases r with
  | cons p q=>cases q with
    | cons p' q'=>cases q'; exact ⟨_,_,rfl,p,p'⟩
 cases (show u2=Value.type n from r2)
 have fin:∀ tk,EP X pins σ Q (.bool b) { s with toks:=tk }:=λtk=>⟨.bl b,H,I.tok _,rfl,q⟩
 rcases ty with ty | ⟨a,ys,rfl,hq,rfl⟩ | ⟨a,ys,rfl,hq,rfl⟩
 .exact C3 I r1 ty e fin
 .cases (show u1=Value.ref a from r1)
  obtain ⟨its,_,p,_⟩:=I.tuple hq
  obtain ⟨o,h1,h2,_⟩:=p
  exact adO PySem.W.kitx_tuple I.uk ⟨o,h1,h2⟩ e (λz=>nomatch z) fin
 .cases (show u1=Value.ref a from r1)
  obtain ⟨its,_,p,_⟩:=I.list hq
  obtain ⟨o,n,h1,h2,_⟩:=p
  exact adO agG I.uk ⟨o,h1,h2⟩ e (λz=>nomatch z) fin
theorem Fn {K:PySem.W.Frag} {t:String}:PySem.W.kitOne K (.type t) (.type t)=some true:=by
 unfold PySem.W.kitOne
 rw [acU (by simp)]
def Dn (P:Program) (w:World) (K:PySem.W.Frag) (mg:Str->Option Value) (base:Heap) (k:Nat) (x:Str) (ps:List Str) (sp:Sp):Prop:=
 ∃ f fd,rn P w K mg base C9 k f fd ps sp /\ mg x=some (.ref f) /\ PySem.W.keepIn K (.ref f)=true /\ Binds K fd ps []
theorem Fo {k kk:Nat} {x:Str} {ps:List Str} {sp:Sp} {e:Expr} {es:List Expr} {t:TA} {p pos:Pos} (D:Dn X.prog X.w X.K X.mg X.base k x ps sp) (hr:gT kk X.A) (hk:k<=kk) (ha:PA X (e :: es) t) (hg:Gl X x:=by rfl)
  (tM:(x == ("__debug__":Str))=false:=by decide) (he:starEach (e :: es) X.env=(false,eval e X.env) :: starEach es X.env:=by rfl) (og:(backTo pos (starEach es X.env)).any (·.1)=false:=by rfl):
  PE X (.Call (.Name x p) (e :: es) [] pos) (LJ sp [] E0 t):=by
 obtain ⟨f,fd,F,m,kp,b⟩:=D
 exact Jo F (hr.mono hk) hg m kp b .nil Rg ha tM he og
structure Bs (mg:Str->Option Value):Prop where
 len:mg "len"=none
 range:mg "range"=none
 isinstance:mg "isinstance"=none
 max:mg "max"=none
 min:mg "min"=none
 int:mg "int"=none
 bool:mg "bool"=none
 tuple:mg "tuple"=none
 list:mg "list"=none
 abs:mg "abs"=none
 str:mg "str"=none
 sum:mg "sum"=none
 sorted:mg "sorted"=none
 reversed:mg "reversed"=none
 enumerate:mg "enumerate"=none
 set:mg "set"=none
 all:mg "all"=none
 zip:mg "zip"=none
 any:mg "any"=none
def Df (K:PySem.W.Frag) (mg:Str->Option Value) (x:Str) (st:Stmt) (ps:List Str):Prop:=∃ f fd,gD K x x st f fd /\ mg x=some (.ref f) /\ Binds K fd ps []
theorem Df.ok {P:Program} {w:World} {K:PySem.W.Frag} {mg:Str->Option Value} {base:Heap} {x:Str} {st:Stmt} {N ps:List Str} {k:Nat} {sp:Sp} (F:Df K mg x st ps) (S:aB N ps (ah st)) (len:∀ vs H Q E,sp vs H Q E->vs.length=ps.length)
  (xF:∀ (f:Addr) (cU:Value) (A:Around) (outer:List Env) (s:Shared) (H:Hp) (vs:List V) (Q:VK) (E:XK),gT k (A.deeper (envOfC x (ah st) s.heap.objs.size f cU))->sp vs H Q E->
   ∃ t,mR (tO C9 P w K mg base N x (ah st) f cU A outer s H E).LD (fL st) t /\ t { nx:=λ_ H'=>Q .jz H',rt:=Q } (start N vs) H):Dn P w K mg base (k + 1) x ps sp:=by
 obtain ⟨f,fd,F,m,b⟩:=F
 exact ⟨f,fd,F.ok S len (xF f),m,F.kp,b⟩
def Cn (mg:Str->Option Value) (x:Str) (v:V):Prop:=∃ u,mg x=some u /\ RelV v u
theorem rB {x:Str} {v:V} {pos:Pos} (c:Cn X.mg x v) (hg:Gl X x:=by rfl) (hd:(x == ("__debug__":Str))=false:=by decide):PE X (.Name x pos) (tC v):=by
 obtain ⟨u,m,r⟩:=c
 exact Jb hg m r hd
end
theorem cK {H:Hp} {p:Addr} (h:H p=none) (o:HO):aL H (upd H p o):=λb u q=>by rw [bp (bP q h)]; exact q
theorem aL.tup {K:PySem.W.Frag} {H H':Hp} {a:Addr} {xs:List V} (e:aL H H') (h:jN K H a xs):jN K H' a xs:=by
 rcases h with (h | ⟨o,h⟩) | h
 .exact .inl (.inl (e _ _ h))
 .exact .inl (.inr ⟨o,e _ _ h⟩)
 .exact .inr h
theorem small {n:Nat} (h:n<=100000):n<=sizeLine:=ado h (by decide)
theorem rC {n:Nat} (h:n<=100000):n < sizeLine:=ad0 h (by decide)
section
variable {X:Cx}
def LQ:V->List V->Hp->VK->Prop:=λx vs H Q=>∃ i:Int,x=.int i /\ vs=[] /\ Q (.int (Builtin.Int.intBits i:Nat)) H
theorem JD:Q6 X "int.bit_length" LQ:=by
 intro pins s σ H x vs v us Q I rx rv h
 obtain ⟨i,rfl,rfl,q⟩:=h
 obtain ⟨t,rfl⟩:=rx
 cases rv
 exact call_int_bit_length ⟨.int _,H,I.tok _,⟨_,rfl⟩,q⟩
theorem JE {o:Expr} {to:TE} {apos fH:Pos} (ho:PE X o to) (oi:attributeBase o "bit_length" X.env (eval o X.env)=eval o X.env:=by rfl) (oj:(apos.endLine == fH.line)=true:=by rfl):
  PE X (.Call (.Attribute o "bit_length" apos) [] [] fH) (Jx X.K "int" LQ to):=zK PySem.F.plainAttrs_int PySem.F.slot_int_bit_length PySem.F.type_int_bit_length JD ho oi oj
end
theorem aL.upd {H H':Hp} {l:Addr} (s:aL H H') (h:H l=none) (o:HO):aL H (upd H' l o):=λb u q=>by rw [bp (bP q h)]; exact s b u q
theorem zN:bootBuiltins "int"=some (.type "int"):=by decide +kernel
theorem JF:bootBuiltins "bool"=some (.type "bool"):=by decide +kernel
theorem rD:bootBuiltins "tuple"=some (.type "tuple"):=by decide +kernel
theorem om:bootBuiltins "list"=some (.type "list"):=by decide +kernel
theorem bI:bootBuiltins "len"=some (.builtin "len"):=by decide +kernel
theorem pw:bootBuiltins "abs"=some (.builtin "abs"):=by decide +kernel
theorem NV:bootBuiltins "max"=some (.builtin "max"):=by decide +kernel
theorem NW:bootBuiltins "min"=some (.builtin "min"):=by decide +kernel
theorem tV:bootBuiltins "isinstance"=some (.builtin "isinstance"):=by decide +kernel
section
variable {X:Cx}
end
section
variable {X:Cx}
end
section
variable {X:Cx}
theorem rE {scope:Scope} {env:Env} (h:∀ y∈scope.names,y.2=.free->∃ c,env.cells.lookup y.1=some c):
  ∃ cl:List (Str×Addr),closureFor scope env=pure cl /\ (∀ n c,cl.lookup n=some c->env.cells.lookup n=some c) /\ ∀ n,(n,NameKind.free)∈scope.names->∃ c,cl.lookup n=some c:=by
 have go:∀ (l:List (Str×NameKind)) (cs:List (Str×Addr)),(∀ y∈l,y.2=.free->∃ c,env.cells.lookup y.1=some c)->(∀ n c,cs.lookup n=some c->env.cells.lookup n=some c)->
   ∃ cl:List (Str×Addr),(forIn l cs λx r=>(match x with | (name,kind)=>if (kind == NameKind.free)=true then (do let a <- cellOf env name; pure (ForInStep.yield ((name,a) :: r))) else pure (ForInStep.yield r):Sem (ForInStep (List (Str×Addr)))))=(pure cl:Sem _) /\
     (∀ n c,cl.lookup n=some c->env.cells.lookup n=some c) /\ (∀ n,(n,NameKind.free)∈l->∃ c,cl.lookup n=some c) /\ ∀ n c,cs.lookup n=some c->∃ c',cl.lookup n=some c':=by
  intro l
  induction l with
  | nil=>intro cs _ hc; exact ⟨cs,rfl,hc,λn hn=>by simp at hn,λn c e=>⟨c,e⟩⟩
  | cons y r ih=>
    intro cs hl hc
    obtain ⟨name,kind⟩:=y
    by_cases hk:kind=.free
    .subst hk
     obtain ⟨c,e⟩:=hl (name,.free) acR rfl
     have Ja:∀ n d,((name,c) :: cs).lookup n=some d->env.cells.lookup n=some d:=by
      intro n d q
      rw [adW] at q
      cases hb:n == name with
      | true=>rw [hb] at q; cases q; rw [eq_of_beq hb]; exact e
      | false=>rw [hb] at q; exact hc n d q
     obtain ⟨cl,h1,h2,h3,h4⟩:=ih ((name,c) :: cs) (λy hy=>hl y (acO _ hy)) Ja
     refine ⟨cl,?_,h2,λn hn=>?_,λn d q=>?_⟩
     .rw [List.forIn_cons]
      have ec:cellOf env name=pure c:=by unfold cellOf; rw [e]
      simp only [beq_self_eq_true,afN,ec,pure_bind]
      exact h1
     .rcases acK.mp hn with z | z
      .cases z
       exact h4 name c (by rw [adW]; simp)
      .exact h3 n z
     .by_cases hb:n == name
      .exact h4 n c (by rw [adW,hb])
      .exact h4 n d (by rw [adW]; simp only [hb]; exact q)
    .obtain ⟨cl,h1,h2,h3,h4⟩:=ih cs (λy hy=>hl y (acO _ hy)) hc
     refine ⟨cl,?_,h2,λn hn=>?_,h4⟩
     .rw [List.forIn_cons]
      have eb:(kind == NameKind.free)=false:=by simpa using hk
      simp only [eb,Bool.false_eq_true,agX,pure_bind]
      exact h1
     .rcases acK.mp hn with z | z
      .cases z; exact absurd rfl hk
      .exact h3 n z
 obtain ⟨cl,h1,h2,h3,_⟩:=go scope.names [] h (λn c e=>by simp at e)
 refine ⟨cl,?_,h2,h3⟩
 simp only [closureFor]
 rw [h1]
 rfl
def cm (X:Cx) (scope:Scope) (N':List Str) (cl:List (Str×Addr)) (C:Addr) (s2:Shared) (H2:Hp) (fp:List Addr) (pins:List (Addr×Obj)):Cx:=
 { X with N:=N',gZ:=s2,EL:=H2,env:=compEnvC scope cl C X.env,outer:=X.stack,stack:=X.stack,ex:=fp,fn:=λ_=>false,pn:=X.pn ++ pins,xe:=λ_ _=>False }
def oo (ix:List Nat) (σ:St):St:=ix.map λj=>(σ[j]?).join
section
variable {scope:Scope} {x:Str} {ix:List Nat} {N':List Str} {cl:List (Str×Addr)} {C:Addr} {s2 s3:Shared} {H2:Hp} {fp:List Addr} {pins:List (Addr×Obj)} {σ:St}
theorem Fp {j:Nat} {v:V} (h:(oo ix σ)[j]?=some (some v)):∃ i,ix[j]?=some i /\ σ[i]?=some (some v):=by
 unfold oo at h
 rw [adb] at h
 cases e:ix[j]? with
 | none=>rw [e] at h; cases h
 | some i=>
   rw [e] at h
   have h':(σ[i]?).join=some v:=adp h
   refine ⟨i,rfl,?_⟩
   cases q:σ[i]? with
   | none=>rw [q] at h'; cases h'
   | some w=>rw [q] at h'; rw [show w=some v from h']
abbrev BI (its:List Value) (n:Nat):Obj:={ cls:=.type "list",data:=.seq its.toArray n }
theorem Inv.Ri {X:Cx} {pins:List (Addr×Obj)} {σ:St} {H:Hp} {s:Shared} {D:Addr} {ys:List V} {its:List Value} {n:Nat} (I:Inv X pins σ H s) (hD:H D=none) (hs:X.gZ.heap.objs.size<=D) (hl:D≠X.env.locals) (hc:∀ x c,X.env.cells.lookup x=some c->c≠D)
  (hp:∀ p∈X.pn ++ pins,p.1≠D) (e:s.heap.get? D=some (BI its n)) (r:bj ys its) (hz:ys.length<=sizeLine):Inv X pins σ (upd H D (.lst ys)) s:=by
 have h:=I.step (H':=upd H D (.lst ys)) (h':=s.heap) (g':=s.gens) (t':=s.toks) (d':=s.drawn) (ch:=[D]) (λb hb=>by
   have e:b=D:=by simpa using hb
   subst e
   exact ⟨.inr hs,hl,hc,hp⟩)
  (λb o _ _ _ q _=>q) (λb o _ _ _ q _=>⟨o.slots,q⟩) (λb o hb _ q=>by rw [bp (by simpa using hb)]; exact q) (λb o _ q=>⟨o,q⟩)
  (λb xs q=>by rw [bp (bP q hD)]; exact q) (λb o u q=>by rw [bp (bP q hD)]; exact q) (λb ps q=>⟨#[],by rw [bp (bP q hD),agt]; exact q⟩) (λm hm=>hm) (λb u q=>?_) I.bare
 .exact h
 .by_cases hb:b=D
  .subst hb
   rw [b8] at q; cases q
   exact ⟨hz,its,n,r,e⟩
  .rw [bp hb] at q
   exact (I.cS b u q).ve (λ_ _ _ z=>z) (λc z=>by rw [bp (bP z hD)]; exact z) λc xs z=>z.new hD
theorem Dh (I0:Inv X pins σ H2 s2) (hC:s2.heap.objs.size<=C) {D:Addr} (hD:s2.heap.objs.size<=D) (hf:∀ b∈fp,qx X pins H2 b) {cT:St} {H:Hp} {s1:Shared} {ys:List V} {its:List Value} {n:Nat} {more:List (Addr×Obj)}
  (I:Inv (cm X scope N' cl C s2 H2 fp pins) ((D,BI its n) :: more) cT H s1) (r:bj ys its) (hz:ys.length<=sizeLine) {h':Heap} (hs:Heap.SameBut C s1.heap h') (LR:D≠C):
  Inv X pins σ (upd H D (.lst ys)) { s1 with heap:=h' }:=by
 have nC:∀ b o,s2.heap.get? b=some o->b≠C:=λb o e=>adj (ada (acV e) hC)
 have B:Un (Bw X.stack) fp H2 H s2.heap s1.heap:=I.base
 have fC:H C=none:=I.free
 have pD:=I.pin (D,BI its n) (acX _ acR)
 have u:Un (Bw X.stack) fp H2 H s2.heap h':=⟨λb o e n hb hx=>(hs.2 b (nC b o e)).trans (B.keep b o e n hb hx),λb o e n hb hx=>by
   obtain ⟨sl,q⟩:=B.slot b o e n hb hx
   exact ⟨sl,(hs.2 b (nC b o e)).trans q⟩,B.free,λb o e hx=>by
   obtain ⟨o',q⟩:=B.there b o e hx
   exact ⟨o',(hs.2 b (nC b o e)).trans q⟩,B.vh,B.tK,B.vi⟩
 have cS:mQ X.prog X.w H h':=λb o e=>(I.cS b o e).ve (λc v hc q=>(hs.2 c (by
   rintro rfl
   rcases hc with z | z
   .subst z; rw [fC] at e; cases e
   .rw [fC] at z; cases z)).trans q) (λ_ q=>q) λ_ _ q=>q
 have I1:Inv X pins σ H { s1 with heap:=h' }:=I0.QD (s':={ s1 with heap:=h' }) (ch:=fp) I.os u cS I.bare λb hb=>⟨(hf b hb).2.2.2.1,(hf b hb).2.1,(hf b hb).2.2.2.2.1,(hf b hb).2.2.2.2.2⟩
 refine I1.Ri (its:=its) (n:=n) pD.2.1 (ado I0.sz hD) (ae8 (ada I0.lt hD)) (λa c e z=>?_) (λp hp z=>?_) ((hs.2 D LR).trans pD.1) r hz
 .obtain ⟨v,q⟩:=I0.cell a c e
  exact absurd (ada q.lt (by rw [z]; exact hD)) (adK _)
 .exact absurd (ada (acV (I0.pin p hp).1) (by rw [z]; exact hD)) (adK _)
end
section
variable {scope:Scope} {x:Str} {ix:List Nat} {N':List Str} {elt iter:Expr} {px pos:Pos} {wi:TI} {te:TE}
end
def JG (sc scope:Scope):List (Str×NameKind):=scope.names.map λ(n,k)=>if (k == .free && sc.kind == .function && sc.names.lookup n == some .cell) then (n,.cell) else (n,k)
theorem lookup_mem {n:Str} {k:NameKind}:∀ {l:List (Str×NameKind)},l.lookup n=some k->(n,k)∈l
 | [],h=>by simp at h
 | (a,b) :: r,h=>by
   rw [adW] at h
   cases e:n == a with
   | true=>rw [e] at h; cases h; rw [eq_of_beq e]; exact acR
   | false=>rw [e] at h; exact acO _ (lookup_mem h)
section
variable {scope:Scope} {x:Str} {elt iter:Expr} {px pos:Pos} {wi:TI} {te:TE}
end
end
section
variable {X:Cx} {pins:List (Addr×Obj)} {σ:St} {H:Hp} {s:Shared}
end
section
variable {X:Cx}
end
abbrev eA:=Int×Int
def dF (q:eA):PyData:=.tuple [.int q.1,.int q.2]
def dP (l:List eA):PyData:=.list (l.map dF)
theorem Fq (a b:eA):PyData.eqv (dF a) (dF b)=decide (a=b):=by
 obtain ⟨a1,a2⟩:=a
 obtain ⟨b1,b2⟩:=b
 simp only [dF,PyData.eqv,PyData.eqvAll,Bool.and_true,afx]
 rw [aga]; simp
theorem uB:∀ l m:List eA,PyData.eqvAll (l.map dF) (m.map dF)=decide (l=m)
 | [],[]=>rfl
 | [],_ :: _=>rfl
 | _ :: _,[]=>rfl
 | a :: l,b :: m=>by
   rw [acQ,acQ,PyData.eqvAll,Fq,uB l m,aga]
   simp
theorem NX (l m:List eA):PyData.eqv (dP l) (dP m)=decide (l=m):=by
 unfold dP; rw [PyData.eqv]; exact uB l m
theorem Fs (q:eA):(dF q).canLay0=true /\ (dF q).depth<=3:=⟨by simp [dF,PyData.canLay0,PyData.canLayAll0],by simp [dF,PyData.depth,PyData.depthAll]⟩
theorem BJ {α:Type} {f:α->PyData} {n:Nat} (h:∀ a,(f a).canLay0=true /\ (f a).depth<=n):∀ l:List α,PyData.canLayAll0 (l.map f)=true /\ PyData.depthAll (l.map f)<=n
 | []=>⟨rfl,aek _⟩
 | a :: l=>by
   obtain ⟨h1,h2⟩:=h a
   obtain ⟨h3,h4⟩:=BJ h l
   refine ⟨by rw [acQ,PyData.canLayAll0,h1,h3]; rfl,?_⟩
   rw [acQ,PyData.depthAll]
   exact Nat.max_le.mpr ⟨h2,h4⟩
theorem NY (l:List eA):(dP l).canLay0=true /\ (dP l).depth<=4:=by
 obtain ⟨h1,h2⟩:=BJ Fs l
 exact ⟨by unfold dP; rw [PyData.canLay0]; exact h1,by unfold dP; rw [PyData.depth]; omega⟩
theorem LU (q:eA):SeqAt.shaped (dF q)=true:=by obtain ⟨a,b⟩:=Fs q; unfold SeqAt.shaped; rw [a]; simp; omega
theorem LV (q:List eA):SeqAt.shaped (dP q)=true:=by obtain ⟨a,b⟩:=NY q; unfold SeqAt.shaped; rw [a]; simp; omega
theorem Ft {α:Type} {xs:List α} {v:α} (h:xs[xs.length - 1]?=some v):o7 xs (-1)=some v:=by
 have hl:0 < xs.length:=by
  have:=(acN.mp h).1
  omega
 have e:xp xs.length (-1)=some (xs.length - 1):=by
  unfold xp
  rw [acW (by decide),acU (by omega)]
  congr 1
  omega
 unfold o7
 rw [e]
 exact h
abbrev D:=PyData
abbrev DS:=List (Option D)
def cA:List (Addr×List V):=[(166,[.int (0),.int (1)])]
theorem aL.oq {H H':Hp} {a:Addr} {xs:List V} (s:aL H H') (h:dh H a xs):dh H' a xs:=by
 rcases h with h | ⟨ob,h⟩
 .exact .inl (s _ _ h)
 .exact .inr ⟨ob,s _ _ h⟩
def wo (H:Hp) (A:List Addr):Hp:=λa=>if a∈A then none else H a
section
variable {K:PySem.W.Frag} {H H':Hp} {A A':List Addr} {a l p r:Addr} {o:HO}
theorem cn (h:a∉A):wo H A a=H a:=by unfold wo; rw [if_neg h]
theorem lx (h:a∈A):wo H A a=none:=by unfold wo; rw [if_pos h]
theorem kb (h:wo H A a=some o):a∉A /\ H a=some o:=by
 unfold wo at h
 split at h
 .cases h
 .exact ⟨by assumption,h⟩
theorem cw:aL (wo H A) H:=λ_ _ h=>(kb h).2
theorem b9 (s:aL H H'):aL (wo H A) (wo H' A):=λb u h=>by
 obtain ⟨h1,h2⟩:=kb h
 rw [cn h1]; exact s b u h2
theorem kc (h:∀ a∈A',a∈A):aL (wo H A) (wo H A'):=λb u q=>by
 obtain ⟨h1,h2⟩:=kb q
 rw [cn λz=>h1 (h b z)]; exact h2
theorem zO:wo H []=H:=by funext a; exact cn (by simp)
theorem Fu (h:p∉A):wo (upd H p o) A=upd (wo H A) p o:=by
 funext a
 by_cases e:a=p
 .subst e; rw [cn h,b8,b8]
 .rw [bp e]
  by_cases z:a∈A
  .rw [lx z,lx z]
  .rw [cn z,cn z,bp e]
theorem vI (h:l∈A):wo (upd H l o) A=wo H A:=by
 funext a
 by_cases z:a∈A
 .rw [lx z,lx z]
 .rw [cn z,cn z,bp]
  intro e; subst e; exact z h
theorem xP (h:H r=none):wo (upd H r o) (r :: A)=wo H A:=by
 funext a
 by_cases e:a=r
 .subst e
  rw [lx (by simp)]
  by_cases z:a∈A
  .rw [lx z]
  .rw [cn z,h]
 .by_cases z:a∈A
  .rw [lx (by simp [z]),lx z]
  .rw [cn (by simp [e,z]),cn z,bp e]
theorem BK (s:aL H H') (h:H r=none):aL (wo H A) (wo H' (r :: A)):=λb u q=>by
 obtain ⟨h1,h2⟩:=kb q
 rw [cn (by simp only [acK,agQ]; exact ⟨bP h2 h,h1⟩)]
 exact s b u h2
def JH:HO->Prop
 | .lst _=>True
 | .dT _=>True
 | _=>False
def Ls (A:List Addr) (H:Hp):Prop:=(∀ a∈A,∃ o,H a=some o /\ JH o) /\ ∀ p xs,(p,xs)∈cA->dh H p xs
theorem Ls.same (h:Ls A H) (s:aL H H'):Ls A H':=⟨λa ha=>let ⟨o,e,q⟩:=h.1 a ha; ⟨o,s _ _ e,q⟩,λp xs m=>s.oq (h.2 p xs m)⟩
theorem dh.apart {xs:List V} (t:dh H p xs) (e:H l=some o) (w:JH o):p≠l:=λz=>by
 subst z
 rcases t with t | ⟨ob,t⟩ <;> rw [e] at t <;> cases t <;> exact w
theorem dh.wo {xs:List V} (t:dh H p xs) (n:p∉A):dh (L2.wo H A) p xs:=by
 rcases t with t | ⟨ob,t⟩
 .exact .inl (by rw [cn n]; exact t)
 .exact .inr ⟨ob,by rw [cn n]; exact t⟩
theorem Ls.free (h:Ls A H) (n:H p=none):p∉A:=λz=>by
 obtain ⟨ys,e,_⟩:=h.1 p z
 rw [n] at e; cases e
end
def iS:Key->D:=Sum.elim .int .str
mutual
inductive HD (K:PySem.W.Frag) (H:Hp):V->D->Prop
 | jz:HD K H .jz .none
 | bl (b:Bool):HD K H (.bl b) (.bool b)
 | int (i:Int):HD K H (.int i) (.int i)
 | str (x:Str):HD K H (.str x) (.str x)
 | lst {a:Addr} {xs:List V} {ds:List D}:zu K H a xs->cx K H xs ds->HD K H (.ref a) (.list ds)
 | tup {a:Addr} {xs:List V} {ds:List D}:dh H a xs->cx K H xs ds->HD K H (.ref a) (.tuple ds)
 | rF {a:Addr} {aV:List (List Key×V)} {kds:List (D×D)}:H a=some (.dT aV)->kds.map (·.1)=aV.map (λp=>PyData.tuple (p.1.map iS))->cx K H (aV.map (·.2)) (kds.map (·.2))->HD K H (.ref a) (.dict kds)
inductive cx (K:PySem.W.Frag) (H:Hp):List V->List D->Prop
 | nil:cx K H [] []
 | cons {x:V} {xs:List V} {d:D} {ds:List D}:HD K H x d->cx K H xs ds->cx K H (x :: xs) (d :: ds)
end
theorem aL.rd {H H':Hp} {a:Addr} {u:HO} (s:aL H H') (h:Rd H a u):Rd H' a u:=by
 rcases h with h | ⟨o,h⟩
 .exact .inl (s _ _ h)
 .exact .inr ⟨o,s _ _ h⟩
theorem zu.of {K:PySem.W.Frag} {H:Hp} {a:Addr} {xs:List V} (h:H a=some (.lst xs)):zu K H a xs:=.inl (.inl h)
theorem zu.sq {K:PySem.W.Frag} {H:Hp} {a:Addr} {xs:List V} (h:zu K H a xs):gX K H a xs:=by
 rcases h with h | ⟨its,n,h1,h2,h3⟩
 .exact .inl h
 .exact .inr ⟨_,its.toArray,n,h1,rfl,rfl,rfl,by rw [List.size_toArray]; exact h2,by simpa using h3⟩
theorem zu.same {K:PySem.W.Frag} {H H':Hp} {a:Addr} {xs:List V} (s:aL H H') (h:zu K H a xs):zu K H' a xs:=by
 rcases h with h | h
 .exact .inl (s.rd h)
 .exact .inr h
theorem Inv.lsd {X:Cx} {pins:List (Addr×Obj)} {σ:St} {H:Hp} {s:Shared} {a:Addr} {xs:List V} (I:Inv X pins σ H s) (h:zu X.K H a xs):xs.length<=sizeLine /\ ∃ (its:List Value) (n:Nat),bj xs its /\ s.heap.get? a=some { cls:=.type "list",data:=.seq its.toArray n }:=by
 rcases h with h | ⟨its,n,h1,h2,h3⟩
 .exact h.ok I.cS
 .exact ⟨by rw [h3.length]; exact h2,its,n,h3,I.uk a _ h1⟩
theorem HD.same {K:PySem.W.Frag} {H H':Hp} (e:aL H H') {x:V} {d:D} (h:HD K H x d):HD K H' x d:=
 HD.rec (motive_1:=λx d _=>HD K H' x d) (motive_2:=λx d _=>cx K H' x d) .jz .bl .int .str (λhq _ i=>.lst (hq.same e) i) (λhq _ i=>.tup (e.oq hq) i) (λhq k _ i=>.rF (e _ _ hq) k i) .nil (λ_ _ i j=>.cons i j) h
theorem cx.same {K:PySem.W.Frag} {H H':Hp} (e:aL H H') {x:List V} {d:List D} (h:cx K H x d):cx K H' x d:=
 cx.rec (motive_1:=λx d _=>HD K H' x d) (motive_2:=λx d _=>cx K H' x d) .jz .bl .int .str (λhq _ i=>.lst (hq.same e) i) (λhq _ i=>.tup (e.oq hq) i) (λhq k _ i=>.rF (e _ _ hq) k i) .nil (λ_ _ i j=>.cons i j) h
section
variable {X:Cx} {pins:List (Addr×Obj)} {σ:St} {H:Hp} {s:Shared}
theorem ke {d:D} (h:SeqAt.shaped d=true):d.canLay0=true:=by
 unfold SeqAt.shaped at h
 rw [adC] at h
 exact h.1
theorem NZ (I:Inv X pins σ H s) {a:Addr} {xs:List V} {ds:List D} {u:Value} (hq:zu X.K H a xs) (r:RelV (.ref a) u) (h:∀ {us},bj xs us->∃ as,ReadsAll s.heap us ds as):∃ as,Reads s.heap u (.list ds) as:=by
 cases (show u=Value.ref a from r)
 obtain ⟨its,rv,⟨o,n,h1,h2,_,h3⟩,_⟩:=I.list hq.sq
 obtain ⟨as,q⟩:=h rv
 exact ⟨_,.list h1 h2 h3 (by simpa using q)⟩
theorem N0 (I:Inv X pins σ H s) {a:Addr} {xs:List V} {ds:List D} {u:Value} (hq:dh H a xs) (r:RelV (.ref a) u) (h:∀ {us},bj xs us->∃ as,ReadsAll s.heap us ds as):∃ as,Reads s.heap u (.tuple ds) as:=by
 cases (show u=Value.ref a from r)
 obtain ⟨its,rv,⟨o,h1,h2,n,h3⟩,_⟩:=I.tuple (.inl hq)
 obtain ⟨as,q⟩:=h rv
 exact ⟨_,.tuple h1 h2 h3 (by simpa using q)⟩
theorem HD.reads (I:Inv X pins σ H s) {x:V} {d:D} (h:HD X.K H x d):∀ {u:Value},RelV x u->PyData.canLay0 d=true->∃ as,Reads s.heap u d as:=
 HD.rec (motive_1:=λx d _=>∀ {u},RelV x u->d.canLay0=true->∃ as,Reads s.heap u d as) (motive_2:=λx d _=>∀ {u},bj x u->PyData.canLayAll0 d=true->∃ as,ReadsAll s.heap u d as)
  (λ{u} r _=>by cases (show u=Value.none from r); exact ⟨_,.none⟩) (λb {u} r _=>by cases (show u=Value.bool b from r); exact ⟨_,.bool b⟩) (λi {u} r _=>by obtain ⟨t,rfl⟩:=r; exact ⟨_,.int i t⟩) (λi {u} r _=>by obtain ⟨t,rfl⟩:=r; exact ⟨_,.str i t⟩)
  (λ{_ _ _} hq _ i {_} r c=>NZ I hq r λrv=>i rv (by rw [PyData.canLay0] at c; exact c)) (λ{_ _ _} hq _ i {_} r c=>N0 I hq r λrv=>i rv (by rw [PyData.canLay0] at c; exact c)) (λ{_ _ _} _ _ _ _ {_} _ c=>by rw [PyData.canLay0] at c; cases c)
  (λ{_} r _=>by cases r; exact ⟨_,.nil⟩) (λ{_ _ _ _} _ _ i j {_} r c=>by
   rw [PyData.canLayAll0,adC] at c
   cases r with
   | cons r rs=>
     obtain ⟨as,q⟩:=i r c.1
     obtain ⟨bs,qs⟩:=j rs c.2
     exact ⟨_,.cons q qs⟩) h
end
theorem cx.len {K:PySem.W.Frag} {H:Hp}:∀ {xs:List V} {ds:List D},cx K H xs ds->xs.length=ds.length
 | _,_,.nil=>rfl
 | _,_,.cons _ t=>by rw [ac3,ac3,cx.len t]
theorem cx.get {K:PySem.W.Frag} {H:Hp}:∀ {xs:List V} {ds:List D} {i:Nat} {d:D},cx K H xs ds->ds[i]?=some d->∃ x,xs[i]?=some x /\ HD K H x d
 | _,_,_,_,.nil,e=>by simp at e
 | _,_,0,_,.cons r _,e=>by simp at e; subst e; exact ⟨_,rfl,r⟩
 | _,_,i + 1,y,.cons _ t,e=>by
   obtain ⟨u,h1,h2⟩:=cx.get (i:=i) (d:=y) t (by simpa using e)
   exact ⟨u,by simpa using h1,h2⟩
theorem cx.app {K:PySem.W.Frag} {H:Hp}:∀ {xs xs':List V} {ds ds':List D},cx K H xs ds->cx K H xs' ds'->cx K H (xs ++ xs') (ds ++ ds')
 | _,_,_,_,.nil,s=>s
 | _,_,_,_,.cons r t,s=>.cons r (cx.app t s)
theorem cx.Fv {K:PySem.W.Frag} {H:Hp}:∀ {xs:List V} {ds:List D} (n:Nat),cx K H xs ds->cx K H (xs.take n) (ds.take n)
 | _,_,0,_=>.nil
 | _,_,_ + 1,.nil=>.nil
 | _,_,n + 1,.cons r t=>.cons r (cx.Fv n t)
theorem cx.LW {K:PySem.W.Frag} {H:Hp}:∀ {xs:List V} {ds:List D} (n:Nat),cx K H xs ds->cx K H (xs.drop n) (ds.drop n)
 | _,_,0,r=>r
 | _,_,_ + 1,.nil=>.nil
 | _,_,n + 1,.cons _ t=>cx.LW n t
theorem cx.N1 {K:PySem.W.Frag} {H:Hp} {x:V} {d:D} (r:HD K H x d):∀ {xs:List V} {ds:List D} (i:Nat),cx K H xs ds->cx K H (xs.set i x) (ds.set i d)
 | _,_,_,.nil=>.nil
 | _,_,0,.cons _ t=>.cons r t
 | _,_,i + 1,.cons q t=>.cons q (cx.N1 r i t)
theorem cx.rep {K:PySem.W.Frag} {H:Hp} {xs:List V} {ds:List D} (h:cx K H xs ds):∀ k:Nat,cx K H (List.replicate k xs).flatten (List.replicate k ds).flatten
 | 0=>.nil
 | k + 1=>by rw [aei,aei,aeO,aeO]; exact h.app (cx.rep h k)
theorem cx.uC {K:PySem.W.Frag} {H:Hp} {xs:List V} {ds:List D} (h:cx K H xs ds):cx K H xs.dropLast ds.dropLast:=by
 rw [List.dropLast_eq_take,List.dropLast_eq_take,h.len]; exact h.Fv _
theorem cx.ints {K:PySem.W.Frag} {H:Hp}:∀ ns:List Int,cx K H (ns.map V.int) (ns.map PyData.int)
 | []=>.nil
 | n :: ns=>.cons (.int n) (cx.ints ns)
theorem BL {H:Hp} {A:List Addr} {a:Addr} {xs:List V} (h:dh H a xs) (al:Ls A H):dh (wo H A) a xs:=by
 rcases h with h | ⟨ob,h⟩
 .refine .inl ?_
  rw [cn λz=>?_]; exact h
  obtain ⟨o,e,q⟩:=al.1 a z
  rw [h] at e; cases e; exact q
 .refine .inr ⟨ob,?_⟩
  rw [cn λz=>?_]; exact h
  obtain ⟨o,e,q⟩:=al.1 a z
  rw [h] at e; cases e; exact q
mutual
def Qe:D->Bool
 | .list _=>false
 | .dict _=>false
 | .tuple ds=>vJ ds
 | _=>true
def vJ:List D->Bool
 | []=>true
 | d :: ds=>Qe d && vJ ds
end
theorem cx.off {K:PySem.W.Frag} {H:Hp} {A:List Addr} (al:Ls A H) {x:List V} {d:List D} (h:cx K H x d):vJ d=true->cx K (wo H A) x d:=
 cx.rec (motive_1:=λx d _=>Qe d=true->HD K (wo H A) x d) (motive_2:=λx d _=>vJ d=true->cx K (wo H A) x d) (λ_=>.jz) (λb _=>.bl b) (λb _=>.int b) (λb _=>.str b) (λ_ _ _ f=>by rw [Qe] at f; cases f) (λhq _ i f=>.tup (BL hq al) (i (by rw [Qe] at f; exact f))) (λ_ _ _ _ f=>by rw [Qe] at f; cases f) (λ_=>.nil) (λ_ _ i j f=>by rw [vJ,adC] at f; exact .cons (i f.1) (j f.2)) h
inductive zP (K:PySem.W.Frag) (H:Hp):HO->D->Prop
 | lst {ys:List V} {ds:List D}:cx K H ys ds->zP K H (.lst ys) (.list ds)
 | rF {aV:List (List Key×V)} {kds:List (D×D)}:kds.map (·.1)=aV.map (λp=>PyData.tuple (p.1.map iS))->cx K H (aV.map (·.2)) (kds.map (·.2))->zP K H (.dT aV) (.dict kds)
theorem zP.same {K:PySem.W.Frag} {H H':Hp} {o:HO} {d:D} (s:aL H H') (h:zP K H o d):zP K H' o d:=by
 cases h with
 | lst q=>exact .lst (q.same s)
 | rF k q=>exact .rF k (q.same s)
theorem zP.own {K:PySem.W.Frag} {H:Hp} {o:HO} {d:D} (h:zP K H o d):JH o:=by cases h <;> trivial
theorem zP.hd {K:PySem.W.Frag} {H:Hp} {o:HO} {d:D} {l:Addr} (h:zP K H o d) (e:H l=some o):HD K H (.ref l) d:=by
 cases h with
 | lst q=>exact .lst (.of e) q
 | rF k q=>exact .rF e k q
def iE (K:PySem.W.Frag) (A:List Addr) (H:Hp) (v:V) (d:D):Prop:=HD K (wo H A) v d \/ ∃ l o,v=.ref l /\ H l=some o /\ zP K (wo H A) o d
section
variable {K:PySem.W.Frag} {H H':Hp} {A A':List Addr} {v:V} {d:D}
theorem iE.of (h:HD K (wo H A) v d):iE K A H v d:=.inl h
theorem iE.same (s:aL H H') (h:iE K A H v d):iE K A H' v d:=by
 rcases h with h | ⟨l,o,rfl,e,q⟩
 .exact .inl (h.same (b9 s))
 .exact .inr ⟨l,o,rfl,s _ _ e,q.same (b9 s)⟩
theorem iE.Rj (h:iE K A H v d):HD K H v d:=by
 rcases h with h | ⟨l,o,rfl,e,q⟩
 .exact h.same cw
 .exact (q.same cw).hd e
theorem iE.list {ds:List D} (h:iE K A H v (.list ds)):∃ l ys,v=.ref l /\ zu K H l ys /\ cx K (wo H A) ys ds:=by
 rcases h with h | ⟨l,o,rfl,e,q⟩
 .cases h with
  | lst hq h=>exact ⟨_,_,rfl,hq.same cw,h⟩
 .cases q with
  | lst q=>exact ⟨l,_,rfl,.of e,q⟩
theorem iE.Rk {ds:List D} (h:iE K A H v (.tuple ds)):∃ l ys,v=.ref l /\ dh H l ys /\ cx K (wo H A) ys ds:=by
 rcases h with h | ⟨l,o,rfl,e,q⟩
 .cases h with
  | tup hq h=>exact ⟨_,_,rfl,cw.oq hq,h⟩
 .cases q
theorem iE.tuple {ds:List D} (h:iE K A H v (.tuple ds)):∃ l ys,v=.ref l /\ jN K H l ys /\ cx K (wo H A) ys ds:=
 let ⟨l,ys,a,b,c⟩:=h.Rk; ⟨l,ys,a,.inl b,c⟩
theorem iE.dict {kds:List (D×D)} (h:iE K A H v (.dict kds)):∃ l aV,v=.ref l /\ H l=some (.dT aV) /\ kds.map (·.1)=aV.map (λp=>PyData.tuple (p.1.map iS)) /\ cx K (wo H A) (aV.map (·.2)) (kds.map (·.2)):=by
 rcases h with h | ⟨l,o,rfl,e,q⟩
 .cases h with
  | rF hq k h=>exact ⟨_,_,rfl,cw _ _ hq,k,h⟩
 .cases q with
  | rF k q=>exact ⟨l,_,rfl,e,k,q⟩
theorem iE.fz {ds:List D} (h:iE K A H v (.tuple ds)):HD K (wo H A) v (.tuple ds):=by
 rcases h with h | ⟨l,o,rfl,e,q⟩
 .exact h
 .cases q
theorem iE.int {i:Int} (h:iE K A H v (.int i)):v=.int i:=by
 rcases h with h | ⟨l,o,rfl,e,q⟩
 .cases h; rfl
 .cases q
theorem iE.bool {b:Bool} (h:iE K A H v (.bool b)):v=.bl b:=by
 rcases h with h | ⟨l,o,rfl,e,q⟩
 .cases h; rfl
 .cases q
theorem iE.str {b:Str} (h:iE K A H v (.str b)):v=.str b:=by
 rcases h with h | ⟨l,o,rfl,e,q⟩
 .cases h; rfl
 .cases q
theorem iE.jz (h:iE K A H v .none):v=.jz:=by
 rcases h with h | ⟨l,o,rfl,e,q⟩
 .cases h; rfl
 .cases q
end
structure Rel (K:PySem.W.Frag) (O:List Nat) (U A0:List Addr) (σ:St) (δ:DS) (H:Hp):Prop where
 len:σ.length=δ.length
 fz:∀ (i:Nat) d,i∉O->δ[i]?=some (some d)->∃ v,σ[i]?=some (some v) /\ HD K (wo H (U ++ A0)) v d
 ow:∀ (i:Nat) d,i∈O->δ[i]?=some (some d)->∃ l o,σ[i]?=some (some (.ref l)) /\ l∈U /\ H l=some o /\ zP K (wo H (U ++ A0)) o d
 inj:∀ (i j:Nat) d e l,i∈O->j∈O->i≠j->δ[i]?=some (some d)->δ[j]?=some (some e)->σ[i]?=some (some (.ref l))->σ[j]?=some (some (.ref l))->False
 al:Ls (U ++ A0) H
section
variable {K:PySem.W.Frag} {O:List Nat} {U A0:List Addr} {σ:St} {δ:DS} {H H':Hp}
theorem Rel.same (R:Rel K O U A0 σ δ H) (s:aL H H'):Rel K O U A0 σ δ H' where
 len:=R.len
 fz:=λi d hi e=>let ⟨v,a,b⟩:=R.fz i d hi e; ⟨v,a,b.same (b9 s)⟩
 ow:=λi d hi e=>let ⟨l,o,a,c,f,g⟩:=R.ow i d hi e; ⟨l,o,a,c,s _ _ f,g.same (b9 s)⟩
 inj:=R.inj
 al:=R.al.same s
theorem Rel.Qf (R:Rel K O U A0 σ δ H) (i:Nat) (d:D) (hi:i∈O) (e:δ[i]?=some (some d)):(∃ l ys ds,σ[i]?=some (some (.ref l)) /\ d=.list ds /\ l∈U /\ H l=some (.lst ys) /\ cx K (wo H (U ++ A0)) ys ds) \/ ∃ kds,d=.dict kds:=by
 obtain ⟨l,o,a,c,f,g⟩:=R.ow i d hi e
 cases g with
 | lst q=>exact .inl ⟨l,_,_,a,rfl,c,f,q⟩
 | rF k q=>exact .inr ⟨_,rfl⟩
theorem Rel.at (R:Rel K O U A0 σ δ H) {i:Nat} {d:D} (e:δ[i]?=some (some d)):∃ v,σ[i]?=some (some v) /\ iE K (U ++ A0) H v d:=by
 by_cases hi:i∈O
 .obtain ⟨l,o,a,c,f,g⟩:=R.ow i d hi e
  exact ⟨_,a,.inr ⟨l,o,rfl,f,g⟩⟩
 .obtain ⟨v,a,b⟩:=R.fz i d hi e
  exact ⟨v,a,.inl b⟩
theorem Rel.set (R:Rel K O U A0 σ δ H) {i:Nat} {v:V} {d:D} (hi:i∉O) (h:HD K (wo H (U ++ A0)) v d):Rel K O U A0 (σ.set i (some v)) (δ.set i (some d)) H where
 len:=by rw [adJ,adJ]; exact R.len
 fz:=λj e hj q=>by
  by_cases rh:i=j
  .subst rh
   have hl:i < δ.length:=by have:=(acN.mp q).1; rwa [adJ] at this
   rw [adx hl] at q
   cases q
   exact ⟨v,adx (by rw [R.len]; exact hl),h⟩
  .rw [adg rh] at q ⊢
   exact R.fz j e hj q
 ow:=λj e hj q=>by
  have rh:i≠j:=λz=>hi (z ▸ hj)
  rw [adg rh] at q ⊢
  exact R.ow j e hj q
 inj:=λj k d e l hj hk Qg q1 q2 e1 e2=>by
  have rh:i≠j:=λz=>hi (z ▸ hj)
  have LX:i≠k:=λz=>hi (z ▸ hk)
  rw [adg rh] at q1 e1
  rw [adg LX] at q2 e2
  exact R.inj j k d e l hj hk Qg q1 q2 e1 e2
 al:=R.al
theorem Rel.Rl (R:Rel K O U A0 σ δ H) (s:aL H H') {i:Nat} {r:Addr} {ob:HO} {db:D} (hr:H r=none) (h:H' r=some ob) (q:zP K (wo H' (r :: (U ++ A0))) ob db) (hi:i∈O):
  Rel K O (r :: U) A0 (σ.set i (some (.ref r))) (δ.set i (some db)) H' where
 len:=by rw [adJ,adJ]; exact R.len
 fz:=λj e hj q=>by
  have rh:i≠j:=λz=>hj (z ▸ hi)
  rw [adg rh] at q ⊢
  obtain ⟨v,a,b⟩:=R.fz j e hj q
  exact ⟨v,a,b.same (BK s hr)⟩
 ow:=λj e hj w=>by
  by_cases rh:i=j
  .subst rh
   have hl:i < δ.length:=by have:=(acN.mp w).1; rwa [adJ] at this
   rw [adx hl] at w
   cases w
   exact ⟨r,ob,adx (by rw [R.len]; exact hl),by simp,h,q⟩
  .rw [adg rh] at w ⊢
   obtain ⟨l,o,a,c,f,g⟩:=R.ow j e hj w
   exact ⟨l,o,a,by simp [c],s _ _ f,g.same (BK s hr)⟩
 inj:=λj k d e l hj hk Qg q1 q2 e1 e2=>by
  have Rm:∀ {x:D},(δ.set i (some db))[i]?=some (some x)->i < δ.length:=λw=>by have:=(acN.mp w).1; rwa [adJ] at this
  by_cases rh:i=j
  .subst rh
   have LX:i≠k:=Qg
   rw [adx (by rw [R.len]; exact Rm q1)] at e1
   rw [adg LX] at q2 e2
   cases e1
   obtain ⟨l,o,a,c,f,g⟩:=R.ow k e hk q2
   rw [a] at e2; cases e2
   rw [hr] at f; cases f
  .by_cases LX:i=k
   .subst LX
    rw [adx (by rw [R.len]; exact Rm q2)] at e2
    rw [adg rh] at q1 e1
    cases e2
    obtain ⟨l,o,a,c,f,g⟩:=R.ow j d hj q1
    rw [a] at e1; cases e1
    rw [hr] at f; cases f
   .rw [adg rh] at q1 e1
    rw [adg LX] at q2 e2
    exact R.inj j k d e l hj hk Qg q1 q2 e1 e2
 al:=⟨λa ha=>by
  rcases adh.mp ha with z | z
  .rcases acK.mp z with z | z
   .subst z; exact ⟨ob,h,q.own⟩
   .exact (R.al.same s).1 a (adv _ z)
  .exact (R.al.same s).1 a (acX _ z),(R.al.same s).2⟩
theorem Rel.Vp (R:Rel K O U A0 σ δ H) (s:aL H H') {i:Nat} {r:Addr} {ys:List V} {ds:List D} (hr:H r=none) (h:H' r=some (.lst ys)) (q:cx K (wo H' (r :: (U ++ A0))) ys ds) (hi:i∈O):
  Rel K O (r :: U) A0 (σ.set i (some (.ref r))) (δ.set i (some (.list ds))) H':=R.Rl s hr h (.lst q) hi
theorem Rel.Rn (R:Rel K O U A0 σ δ H) {i:Nat} {l:Addr} {ob:HO} {db:D} (hi:i∈O) (hl:σ[i]?=some (some (.ref l))) (hU:l∈U) (q:zP K (wo H (U ++ A0)) ob db) (hd:∃ d,δ[i]?=some (some d)):
  Rel K O U A0 σ (δ.set i (some db)) (upd H l ob):=by
 have hw:wo (upd H l ob) (U ++ A0)=wo H (U ++ A0):=vI (adv _ hU)
 obtain ⟨d0,hd⟩:=hd
 have hlen:i < δ.length:=(acN.mp hd).1
 exact {
  len:=by rw [adJ]; exact R.len
  fz:=λj e hj w=>by
   have rh:i≠j:=λz=>hj (z ▸ hi)
   rw [adg rh] at w
   rw [hw]
   exact R.fz j e hj w
  ow:=λj e hj w=>by
   rw [hw]
   by_cases rh:i=j
   .subst rh
    rw [adx hlen] at w
    cases w
    exact ⟨l,ob,hl,hU,b8,q⟩
   .rw [adg rh] at w
    obtain ⟨l',o',a,c,f,g⟩:=R.ow j e hj w
    have lb:l'≠l:=by
     intro z; subst z
     exact R.inj i j d0 e _ hi hj rh hd w hl a
    exact ⟨l',o',a,c,by rw [bp lb]; exact f,g⟩
  inj:=λj k d e l hj hk Qg q1 q2 e1 e2=>by
   have f:∀ {m:Nat} {x:D},(δ.set i (some db))[m]?=some (some x)->∃ y,δ[m]?=some (some y):=by
    intro m x w
    by_cases him:i=m
    .subst him; exact ⟨d0,hd⟩
    .rw [adg him] at w; exact ⟨x,w⟩
   obtain ⟨y1,w1⟩:=f q1
   obtain ⟨y2,w2⟩:=f q2
   exact R.inj j k y1 y2 l hj hk Qg w1 w2 e1 e2
  al:=⟨λa ha=>by
   by_cases e:a=l
   .subst e; exact ⟨ob,b8,q.own⟩
   .rw [bp e]; exact R.al.1 a ha,λp xs m=>
    let ⟨_,e,w⟩:=R.al.1 l (adv _ hU)
    (R.al.2 p xs m).ne ((R.al.2 p xs m).apart e w)⟩ }
theorem Rel.put (R:Rel K O U A0 σ δ H) {i:Nat} {l:Addr} {ys:List V} {ds:List D} (hi:i∈O) (hl:σ[i]?=some (some (.ref l))) (hU:l∈U) (q:cx K (wo H (U ++ A0)) ys ds) (hd:∃ d,δ[i]?=some (some d)):
  Rel K O U A0 σ (δ.set i (some (.list ds))) (upd H l (.lst ys)):=R.Rn hi hl hU (.lst q) hd
end
structure Fx (H0:Hp) (A0 U:List Addr) (H:Hp):Prop where
 same:aL H0 H
 new:∀ a∈U,H0 a=none
 old:Ls A0 H0
section
variable {K:PySem.W.Frag} {O:List Nat} {U U' A0:List Addr} {σ:St} {δ:DS} {H0 H H':Hp}
theorem Fx.grow (F:Fx H0 A0 U H) (s:aL H H'):Fx H0 A0 U H':=⟨F.same.trans s,F.new,F.old⟩
theorem Fx.more (F:Fx H0 A0 U H) (s:aL H H') {r:Addr} (hr:H r=none):Fx H0 A0 (r :: U) H':=⟨F.same.trans s,λa ha=>by
 rcases acK.mp ha with z | z
 .subst z; exact F.same.free hr
 .exact F.new a z,F.old⟩
theorem Fx.put (F:Fx H0 A0 U H) {l:Addr} (hl:l∈U) (o:HO):Fx H0 A0 U (upd H l o):=⟨F.same.upd (F.new l hl) o,F.new,F.old⟩
theorem Fx.out (F:Fx H0 A0 U H) {l:Addr} (hl:l∈U):l∉A0:=λz=>by
 obtain ⟨ys,e,_⟩:=F.old.1 l z
 rw [F.new l hl] at e; cases e
theorem Fx.here (F:Fx H0 A0 U H):Fx (wo H U) A0 U H:=⟨cw,λ_ h=>lx h,λa ha=>by
 obtain ⟨ys,e,q⟩:=F.old.1 a ha
 refine ⟨ys,?_,q⟩
 rw [cn λz=>?_]
 .exact F.same _ _ e
 .exact F.out z ha,λp xs m=>(F.same.oq (F.old.2 p xs m)).wo λz=>by
 rcases F.old.2 p xs m with t | ⟨ob,t⟩ <;> rw [F.new p z] at t <;> cases t⟩
theorem Fx.trans (F:Fx H0 A0 U H) (G:Fx (wo H U) A0 U' H'):Fx H0 A0 U' H':=by
 have k:∀ a o,H0 a=some o->wo H U a=some o:=λa o e=>by
  rw [cn λz=>?_]
  .exact F.same _ _ e
  .rw [F.new a z] at e; cases e
 refine ⟨λa o e=>G.same _ _ (k a o e),λa ha=>?_,F.old⟩
 cases e:H0 a with
 | none=>rfl
 | some o=>
   have:=G.new a ha
   rw [k a o e] at this; cases this
theorem Fx.keeps (G:Fx (wo H U) A0 U' H'):aL (wo H (U ++ A0)) (wo H' (U' ++ A0)):=λb o e=>by
 obtain ⟨h1,h2⟩:=kb e
 simp only [adh,agQ] at h1
 have h3:wo H U b=some o:=by rw [cn h1.1]; exact h2
 rw [cn]
 .exact G.same _ _ h3
 .simp only [adh,agQ]
  refine ⟨λz=>?_,h1.2⟩
  rw [G.new b z] at h3; cases h3
end
def tE (K:PySem.W.Frag) (O:List Nat) (g:DS->Option D):TE:=λσ H Q=>∃ U A0 δ d,Rel K O U A0 σ δ H /\ g δ=some d /\ ∀ v H',aL H H'->HD K (wo H' (U ++ A0)) v d->Q v H'
theorem tE.e {K:PySem.W.Frag} {O:List Nat} {g:DS->Option D}  {σ:_} {H:_} {Q:_} {GG:Prop} (hh:tE K O g σ H Q) (kk:∀ U A0 δ d,(Rel K O U A0 σ δ H)->(g δ=some d)->(∀ v H',aL H H'->HD K (wo H' (U ++ A0)) v d->Q v H')->GG):GG:=by obtain ⟨U,A0,δ,d,x0,x1,x2⟩:=hh; exact kk U A0 δ d x0 x1 x2
def ib (K:PySem.W.Frag) (O:List Nat) (g:DS->Option D):TE:=λσ H Q=>∃ U A0 δ d,Rel K O U A0 σ δ H /\ g δ=some d /\ ∀ v H',aL H H'->iE K (U ++ A0) H' v d->Q v H'
theorem ib.e {K:PySem.W.Frag} {O:List Nat} {g:DS->Option D}  {σ:_} {H:_} {Q:_} {GG:Prop} (hh:ib K O g σ H Q) (kk:∀ U A0 δ d,(Rel K O U A0 σ δ H)->(g δ=some d)->(∀ v H',aL H H'->iE K (U ++ A0) H' v d->Q v H')->GG):GG:=by obtain ⟨U,A0,δ,d,x0,x1,x2⟩:=hh; exact kk U A0 δ d x0 x1 x2
def tN (K:PySem.W.Frag) (O:List Nat) (g:DS->Option (List D)):TE:=λσ H Q=>∃ U A0 δ ds,Rel K O U A0 σ δ H /\ g δ=some ds /\
 ∀ r ys H',aL H H'->H r=none->H' r=some (.lst ys)->cx K (wo H' (r :: (U ++ A0))) ys ds->Q (.ref r) H'
theorem tN.e {K:PySem.W.Frag} {O:List Nat} {g:DS->Option (List D)}  {σ:_} {H:_} {Q:_} {GG:Prop} (hh:tN K O g σ H Q) (kk:∀ U A0 δ ds,(Rel K O U A0 σ δ H)->(g δ=some ds)->(∀ r ys H',aL H H'->H r=none->H' r=some (.lst ys)->cx K (wo H' (r :: (U ++ A0))) ys ds->Q (.ref r) H')->GG):GG:=by obtain ⟨U,A0,δ,ds,x0,x1,x2⟩:=hh; exact kk U A0 δ ds x0 x1 x2
def tT (K:PySem.W.Frag) (O:List Nat) (g:DS->Option Bool):TT:=λσ H Q=>∃ U A0 δ b,Rel K O U A0 σ δ H /\ g δ=some b /\ ∀ H',aL H H'->Q b H'
theorem tT.e {K:PySem.W.Frag} {O:List Nat} {g:DS->Option Bool}  {σ:_} {H:_} {Q:_} {GG:Prop} (hh:tT K O g σ H Q) (kk:∀ U A0 δ b,(Rel K O U A0 σ δ H)->(g δ=some b)->(∀ H',aL H H'->Q b H')->GG):GG:=by obtain ⟨U,A0,δ,b,x0,x1,x2⟩:=hh; exact kk U A0 δ b x0 x1 x2
def Di (K:PySem.W.Frag) (O:List Nat) (g:DS->Option (List D)):TA:=λσ H Q=>∃ U A0 δ ds,Rel K O U A0 σ δ H /\ g δ=some ds /\ ∀ vs H',aL H H'->cx K (wo H' (U ++ A0)) vs ds->Q vs H'
theorem Di.e {K:PySem.W.Frag} {O:List Nat} {g:DS->Option (List D)}  {σ:_} {H:_} {Q:_} {GG:Prop} (hh:Di K O g σ H Q) (kk:∀ U A0 δ ds,(Rel K O U A0 σ δ H)->(g δ=some ds)->(∀ vs H',aL H H'->cx K (wo H' (U ++ A0)) vs ds->Q vs H')->GG):GG:=by obtain ⟨U,A0,δ,ds,x0,x1,x2⟩:=hh; exact kk U A0 δ ds x0 x1 x2
def rG (K:PySem.W.Frag) (A:List Addr) (H:Hp):List V->List D->Prop:=Paired (iE K A H)
def rH (K:PySem.W.Frag) (O:List Nat) (g:DS->Option (List D)):TA:=λσ H Q=>∃ U A0 δ ds,Rel K O U A0 σ δ H /\ g δ=some ds /\ ∀ vs H',aL H H'->rG K (U ++ A0) H' vs ds->Q vs H'
theorem rH.e {K:PySem.W.Frag} {O:List Nat} {g:DS->Option (List D)}  {σ:_} {H:_} {Q:_} {GG:Prop} (hh:rH K O g σ H Q) (kk:∀ U A0 δ ds,(Rel K O U A0 σ δ H)->(g δ=some ds)->(∀ vs H',aL H H'->rG K (U ++ A0) H' vs ds->Q vs H')->GG):GG:=by obtain ⟨U,A0,δ,ds,x0,x1,x2⟩:=hh; exact kk U A0 δ ds x0 x1 x2
inductive Res where
 | nx (δ:DS) | rt (d:D) | bk (δ:DS) | ct (δ:DS)
def qA (K:PySem.W.Frag) (fr:Bool) (H0:Hp) (A0:List Addr) (v:V) (d:D) (H':Hp):Prop:=
 if fr=true then ∃ r o,v=.ref r /\ aL H0 H' /\ H0 r=none /\ H' r=some o /\ zP K (wo H' (r :: A0)) o d else aL H0 H' /\ HD K (wo H' A0) v d
def Ro (K:PySem.W.Frag) (O:List Nat) (fr:Bool) (H0:Hp) (A0:List Addr) (E:Ends):Res->Prop
 | .nx δ=>∀ U σ H,Rel K O U A0 σ δ H->Fx H0 A0 U H->E.nx σ H
 | .bk δ=>∀ U σ H,Rel K O U A0 σ δ H->Fx H0 A0 U H->E.bk σ H
 | .ct δ=>∀ U σ H,Rel K O U A0 σ δ H->Fx H0 A0 U H->E.ct σ H
 | .rt d=>∀ v H,qA K fr H0 A0 v d H->E.rt v H
def tS (K:PySem.W.Frag) (O:List Nat) (fr:Bool) (g:DS->Option Res):TS:=λE σ H=>∃ H0 U A0 δ r,Rel K O U A0 σ δ H /\ Fx H0 A0 U H /\ g δ=some r /\ Ro K O fr H0 A0 E r
theorem tS.e {K:PySem.W.Frag} {O:List Nat} {fr:Bool} {g:DS->Option Res}  {E:_} {σ:_} {H:_} {GG:Prop} (hh:tS K O fr g E σ H) (kk:∀ H0 U A0 δ r,(Rel K O U A0 σ δ H)->(Fx H0 A0 U H)->(g δ=some r)->(Ro K O fr H0 A0 E r)->GG):GG:=by obtain ⟨H0,U,A0,δ,r,x0,x1,x2,x3⟩:=hh; exact kk H0 U A0 δ r x0 x1 x2 x3
def Walks (K:PySem.W.Frag) (A:List Addr) (H1:Hp) (J:It) (ds:List D):Prop:=∀ (A':List Addr) (i:Nat) (H:Hp),aL (wo H1 A) (wo H A')->Ls A' H->
 (∀ d,ds[i]?=some d->J.go i H /\ ∀ x H2,J.QP i H x H2->aL H H2 /\ HD K (wo H2 A') x d) /\ (i=ds.length->J.stop i H)
def tI (K:PySem.W.Frag) (O:List Nat) (g:DS->Option (List D)):TI:=λσ H R=>∃ U A0 δ ds,Rel K O U A0 σ δ H /\ g δ=some ds /\ ∀ J H1,aL H H1->Walks K (U ++ A0) H1 J ds->R J H1
theorem tI.e {K:PySem.W.Frag} {O:List Nat} {g:DS->Option (List D)}  {σ:_} {H:_} {R:_} {GG:Prop} (hh:tI K O g σ H R) (kk:∀ U A0 δ ds,(Rel K O U A0 σ δ H)->(g δ=some ds)->(∀ J H1,aL H H1->Walks K (U ++ A0) H1 J ds->R J H1)->GG):GG:=by obtain ⟨U,A0,δ,ds,x0,x1,x2⟩:=hh; exact kk U A0 δ ds x0 x1 x2
def tG (K:PySem.W.Frag) (O:List Nat) (g:D->DS->Option DS):TG:=λv σ H Q=>∃ U A0 δ d δ',Rel K O U A0 σ δ H /\ HD K (wo H (U ++ A0)) v d /\ g d δ=some δ' /\ ∀ cT,Rel K O U A0 cT δ' H->Q cT H
theorem tG.e {K:PySem.W.Frag} {O:List Nat} {g:D->DS->Option DS}  {v:_} {σ:_} {H:_} {Q:_} {GG:Prop} (hh:tG K O g v σ H Q) (kk:∀ U A0 δ d δ',(Rel K O U A0 σ δ H)->(HD K (wo H (U ++ A0)) v d)->(g d δ=some δ')->(∀ cT,Rel K O U A0 cT δ' H->Q cT H)->GG):GG:=by obtain ⟨U,A0,δ,d,δ',x0,x1,x2,x3⟩:=hh; exact kk U A0 δ d δ' x0 x1 x2 x3
section
variable {X:Cx}
theorem PE.mono {e:Expr} {t t':TE} (h:PE X e t) (m:∀ σ H Q,t' σ H Q->t σ H Q):PE X e t':=λpins s σ H Q I q=>h pins s σ H Q I (m σ H Q q)
theorem PT.mono {e:Expr} {t t':TT} (h:PT X e t) (m:∀ σ H Q,t' σ H Q->t σ H Q):PT X e t':=λpins s σ H Q I q=>h pins s σ H Q I (m σ H Q q)
theorem PW.mono {e:Expr} {t t':TT} (h:PW X e t) (m:∀ σ H Q,t' σ H Q->t σ H Q):PW X e t':=λw pins s σ H Q I q=>h w pins s σ H Q I (m σ H Q q)
theorem PA.mono {e:List Expr} {t t':TA} (h:PA X e t) (m:∀ σ H Q,t' σ H Q->t σ H Q):PA X e t':=λpos pins s σ H Q I q=>h pos pins s σ H Q I (m σ H Q q)
theorem PS.mono {e:Stmt} {t t':TS} (h:PS X e t) (m:∀ E σ H,t' E σ H->t E σ H):PS X e t':=λpins s σ H E I q=>h pins s σ H E I (m E σ H q)
theorem mR.mono {e:List Stmt} {t t':TS} (h:mR X e t) (m:∀ E σ H,t' E σ H->t E σ H):mR X e t':=λpins s σ H E I q=>h pins s σ H E I (m E σ H q)
theorem PI.mono {tg e:Expr} {t t':TI} (h:PI X tg e t) (m:∀ σ H R,t' σ H R->t σ H R):PI X tg e t':=λpins s σ H R I q=>h pins s σ H R I (m σ H R q)
theorem PG.mono {e:Expr} {t t':TG} (h:PG X e t) (m:∀ v σ H Q,t' v σ H Q->t v σ H Q):PG X e t':=λpins s σ H v u Q I r q=>h pins s σ H v u Q I r (m v σ H Q q)
theorem PO.mono {e:Option Expr} {t t':TO} (h:PO X e t) (m:∀ σ H Q,t' σ H Q->t σ H Q):PO X e t':=λpins s σ H Q I q=>h pins s σ H Q I (m σ H Q q)
end
def ae (i:Nat):DS->Option D:=λδ=>(δ[i]?).join
def gC (d:D):DS->Option D:=λ_=>some d
def aP (g:DS->Option (List D)):DS->Option D:=λδ=>(g δ).map .list
theorem join_some {α:Type} {o:Option (Option α)} {d:α} (h:o.join=some d):o=some (some d):=by
 cases o with
 | none=>cases h
 | some p=>cases p with
   | none=>cases h
   | some q=>cases h; rfl
section
variable {X:Cx} {O:List Nat} {e:Expr} {g:DS->Option D}
theorem N2 {i:Nat} (h:PE X e (n6 i)) (hi:i∉O:=by decide):PE X e (tE X.K O (ae i)):=h.mono λσ H Q hh=>hh.e λU A0 δ d R ed q=>by
 obtain ⟨v,hv,hd⟩:=R.fz i d hi (join_some ed)
 exact ⟨v,hv,q v H (aL.refl H) hd⟩
theorem N3 {i:Nat} (h:PE X e (n6 i)):PE X e (ib X.K O (ae i)):=h.mono λσ H Q hh=>hh.e λU A0 δ d R ed q=>by
 obtain ⟨v,hv,hd⟩:=R.at (join_some ed)
 exact ⟨v,hv,q v H (aL.refl H) hd⟩
theorem N4 {v:V} {d:D} (h:PE X e (tC v)) (hd:∀ H,HD X.K H v d):PE X e (tE X.K O (gC d)):=h.mono λσ H Q hh=>hh.e λU A0 δ d' R ed q=>by
 cases ed
 exact q v H (aL.refl H) (hd _)
theorem aD {i:Int} (h:PE X e (tC (.int i))):PE X e (tE X.K O (gC (.int i))):=N4 h λ_=>.int i
theorem Fw {i:Bool} (h:PE X e (tC (.bl i))):PE X e (tE X.K O (gC (.bool i))):=N4 h λ_=>.bl i
theorem fD {i:Str} (h:PE X e (tC (.str i))):PE X e (tE X.K O (gC (.str i))):=N4 h λ_=>.str i
theorem PE.sh (h:PE X e (tE X.K O g)):PE X e (ib X.K O g):=h.mono λσ H Q hh=>hh.e λU A0 δ d R ed q=>⟨U,A0,δ,d,R,ed,λv H' s z=>q v H' s (.inl z)⟩
theorem LY {K:PySem.W.Frag} {g:DS->Option (List D)} {σ:St} {H:Hp} {Q:VK}:tE K O (aP g) σ H Q->tN K O g σ H Q:=λ⟨U,A0,δ,d,R,ed,q⟩=>by
 unfold aP at ed
 cases eg:g δ with
 | none=>rw [eg] at ed; cases ed
 | some ds=>
   rw [eg] at ed; cases ed
   refine ⟨U,A0,δ,ds,R,eg,λr ys H' s hr h1 h2=>q _ H' s ?_⟩
   have hn:=R.al.free hr
   exact .lst (.of (by rw [cn hn]; exact h1)) (h2.same (kc λa ha=>acO _ ha))
theorem PE.nE {g:DS->Option (List D)} (h:PE X e (tN X.K O g)):PE X e (tE X.K O (aP g)):=h.mono λ_ _ _=>LY
end
def g2 (f:D->D->Option D) (a b:DS->Option D):DS->Option D:=λδ=>(a δ).bind λx=>(b δ).bind λy=>f x y
def zQ (f:D->D->Option (List D)) (a b:DS->Option D):DS->Option (List D):=λδ=>(a δ).bind λx=>(b δ).bind λy=>f x y
def jP (K:PySem.W.Frag) (r:R2) (f:D->D->Option D):Prop:=∀ (A:List Addr) (H:Hp) (x y:V) (dx dy d:D) (Q:VK),Ls A H->iE K A H x dx->iE K A H y dy->f dx dy=some d->(∀ v H',aL H H'->HD K (wo H' A) v d->Q v H')->r x y H Q
def Fy (K:PySem.W.Frag) (r:R2) (f:D->D->Option (List D)):Prop:=∀ (A:List Addr) (H:Hp) (x y:V) (dx dy:D) (ds:List D) (Q:VK),Ls A H->iE K A H x dx->iE K A H y dy->f dx dy=some ds->
 (∀ p ys,H p=none->cx K (wo H A) ys ds->Q (.ref p) (upd H p (.lst ys)))->r x y H Q
theorem xQ {α β γ:Type} {a:Option α} {b:Option β} {f:α->β->Option γ} {d:γ} (h:(a.bind λx=>b.bind λy=>f x y)=some d):∃ x y,a=some x /\ b=some y /\ f x y=some d:=by
 cases a with
 | none=>cases h
 | some x=>cases b with
   | none=>cases h
   | some y=>exact ⟨x,y,rfl,rfl,h⟩
theorem bind1 {α β:Type} {a:Option α} {f:α->Option β} {d:β} (h:a.bind f=some d):∃ x,a=some x /\ f x=some d:=by
 cases a with
 | none=>cases h
 | some x=>exact ⟨x,rfl,h⟩
section
variable {X:Cx} {O:List Nat} {a b:Expr} {ga gb:DS->Option D} {pos:Pos} {r:R2}
theorem BM {K:PySem.W.Frag} {f:D->D->Option D} (imp:jP K r f) {σ:St} {H:Hp} {Q:VK}:tE K O (g2 f ga gb) σ H Q->P9 r (ib K O ga) (ib K O gb) σ H Q:=λ⟨U,A0,δ,d,R,ed,q⟩=>by
 obtain ⟨x,y,ex,ey,ef⟩:=xQ ed
 exact ⟨U,A0,δ,x,R,ex,λv1 H1 s1 h1=>⟨U,A0,δ,y,R.same s1,ey,λv2 H2 s2 h2=>imp _ H2 v1 v2 x y d Q (R.same (s1.trans s2)).al (h1.same s2) h2 ef λv H' s h=>q v H' ((s1.trans s2).trans s) h⟩⟩
theorem rJ {K:PySem.W.Frag} {A:List Addr} {H H2:Hp} {ds:List D} {Q:VK} (s:aL H H2) (q:∀ r ys H',aL H H'->H r=none->H' r=some (.lst ys)->cx K (wo H' (r :: A)) ys ds->Q (.ref r) H'):∀ p ys,H2 p=none->cx K (wo H2 A) ys ds->Q (.ref p) (upd H2 p (.lst ys)):=
 λp ys hp h=>q p ys _ (s.trans (cK hp _)) (s.free hp) b8 (by rw [xP hp]; exact h)
theorem Rp {K:PySem.W.Frag} {f:D->D->Option (List D)} (imp:Fy K r f) {σ:St} {H:Hp} {Q:VK}:tN K O (zQ f ga gb) σ H Q->P9 r (ib K O ga) (ib K O gb) σ H Q:=λ⟨U,A0,δ,d,R,ed,q⟩=>by
 obtain ⟨x,y,ex,ey,ef⟩:=xQ ed
 exact ⟨U,A0,δ,x,R,ex,λv1 H1 s1 h1=>⟨U,A0,δ,y,R.same s1,ey,λv2 H2 s2 h2=>imp _ H2 v1 v2 x y d Q (R.same (s1.trans s2)).al (h1.same s2) h2 ef (rJ (s1.trans s2) q)⟩⟩
theorem ay {op:Operator} {f:D->D->Option D} (ho:jo X (binaryOp op) r) (imp:jP X.K r f) (ha:PE X a (ib X.K O ga)) (hb:PE X b (ib X.K O gb)):PE X (.BinOp a op b pos) (tE X.K O (g2 f ga gb)):=(E5 ho ha hb).mono λ_ _ _=>BM imp
theorem pz {op:Operator} {f:D->D->Option (List D)} (ho:jo X (binaryOp op) r) (imp:Fy X.K r f) (ha:PE X a (ib X.K O ga)) (hb:PE X b (ib X.K O gb)):PE X (.BinOp a op b pos) (tN X.K O (zQ f ga gb)):=(E5 ho ha hb).mono λ_ _ _=>Rp imp
theorem rK {op:CmpOp} {f:D->D->Option D} (ho:jo X (compareOp op) r) (imp:jP X.K r f) (ha:PE X a (ib X.K O ga)) (hb:PE X b (ib X.K O gb)) (hm:behindInMarks op b=false):PE X (.Compare a [op] [b] pos) (tE X.K O (g2 f ga gb)):=(Jj ho ha hb hm).mono λ_ _ _=>BM imp
def gB (g:DS->Option D):DS->Option Bool:=λδ=>(g δ).bind λ| .bool b=>some b | _=>none
theorem LZ {K:PySem.W.Frag} {g:DS->Option D} {te:TE} (m:∀ σ H Q,tE K O g σ H Q->te σ H Q) {σ:St} {H:Hp} {Q:Bool->Hp->Prop}:tT K O (gB g) σ H Q->te σ H λx H'=>∃ k,x=.bl k /\ Q k H':=λ⟨U,A0,δ,b,R,ed,q⟩=>by
 obtain ⟨d,e1,e2⟩:=bind1 ed
 cases d with
 | bool c=>
   cases e2
   exact m σ H _ ⟨U,A0,δ,_,R,e1,λv H' s h=>by cases h; exact ⟨_,rfl,q H' s⟩⟩
 | _=>cases e2
theorem aX {op:CmpOp} {f:D->D->Option D} (ho:jo X (compareOp op) r) (imp:jP X.K r f) (ha:PE X a (ib X.K O ga)) (hb:PE X b (ib X.K O gb)) (hm:behindInMarks op b=false):PT X (.Compare a [op] [b] pos) (tT X.K O (gB (g2 f ga gb))):=(Jk ho ha hb hm).mono λ_ _ _=>LZ λ_ _ _=>BM imp
end
def dI (g:Int->Int->D):D->D->Option D
 | .int a,.int b=>some (g a b)
 | _,_=>none
open Classical in
def L3 (C:Int->Int->Prop) (g:Int->Int->D):D->D->Option D
 | .int a,.int b=>if C a b then some (g a b) else none
 | _,_=>none
open Classical in
theorem rL {C:Int->Int->Prop} {g:Int->Int->D} {a b:Int} (h:C a b):L3 C g (.int a) (.int b)=some (g a b):=by
 show (if C a b then some (g a b) else none)=_
 rw [acU h]
theorem uD {g:Int->Int->D} {a b:Int}:dI g (.int a) (.int b)=some (g a b):=rfl
theorem iN {K:PySem.W.Frag} {g:Int->Int->Int}:jP K (E4 λi j=>.int (g i j)) (dI λi j=>.int (g i j)):=by
 intro A H x y dx dy d Q al hx hy e q
 unfold dI at e
 split at e
 .cases e
  exact ⟨_,_,hx.int,hy.int,q _ H (aL.refl H) (.int _)⟩
 .cases e
theorem cV {K:PySem.W.Frag} {g:Int->Int->Bool}:jP K (E4 λi j=>.bl (g i j)) (dI λi j=>.bool (g i j)):=by
 intro A H x y dx dy d Q al hx hy e q
 unfold dI at e
 split at e
 .cases e
  exact ⟨_,_,hx.int,hy.int,q _ H (aL.refl H) (.bl _)⟩
 .cases e
set_option tactic.hygienic true in
theorem aF {K:PySem.W.Frag} {C:Int->Int->Prop} {g:Int->Int->Int}:jP K (rI C λi j=>.int (g i j)) (L3 C λi j=>.int (g i j)):=by
 intro A H x y dx dy d Q al hx hy e q
 unfold L3 at e
 split at e
 .split at e
  .rename_i c
   cases e
   exact ⟨_,_,hx.int,hy.int,c,q _ H (aL.refl H) (.int _)⟩
  .cases e
 .cases e
abbrev g6:D->D->Option D:=dI λi j=>.int (i - j)
abbrev cb:D->D->Option D:=L3 IntMulOk λi j=>.int (i * j)
abbrev ly:D->D->Option D:=L3 BH λi j=>.int (i.fdiv j)
abbrev gU:D->D->Option D:=L3 (λ_ j=>j≠0) λi j=>.int (i.fmod j)
abbrev lz:D->D->Option D:=L3 Nm λi j=>.int (i ^ j.toNat)
abbrev ql:D->D->Option D:=dI λi j=>.bool (decide (i < j))
abbrev dLe:D->D->Option D:=dI λi j=>.bool (decide (i<=j))
abbrev uE:D->D->Option D:=dI λi j=>.bool (decide (j < i))
abbrev Vq:D->D->Option D:=dI λi j=>.bool (decide (j<=i))
def md:D->D->Option D
 | .int a,.int b=>some (.bool (decide (a=b)))
 | a,b=>if (SeqAt.shaped a && SeqAt.shaped b)=true then some (.bool (PyData.eqv a b)) else none
def EA:D->D->Option D:=λa b=>(md a b).bind λ| .bool c=>some (.bool (!c)) | _=>none
set_option tactic.hygienic true in
theorem BN {a b d:D} (h:md a b=some d):SeqAt.shaped a=true /\ SeqAt.shaped b=true /\ d=.bool (PyData.eqv a b):=by
 unfold md at h
 split at h
 .cases h
  refine ⟨by simp [SeqAt.shaped,PyData.canLay0,PyData.depth],by simp [SeqAt.shaped,PyData.canLay0,PyData.depth],?_⟩
  rw [PyData.eqv]; rfl
 .split at h
  .rename_i c
   rw [adC] at c
   cases h
   exact ⟨c.1,c.2,rfl⟩
  .cases h
def JI (K:PySem.W.Frag) (neg:Bool):R2:=λx y H Q=>∃ d e,HD K H x d /\ HD K H y e /\ SeqAt.shaped d=true /\ SeqAt.shaped e=true /\ Q (.bl (if neg=true then !PyData.eqv d e else PyData.eqv d e)) H
section
variable {X:Cx}
theorem iF {k:Nat} (hr:gT k X.A):jo X (compareOp .Eq) (JI X.K false):=by
 intro pins s σ H x y v u Q I rx ry h
 obtain ⟨d,e,h1,h2,s1,s2,q⟩:=h
 obtain ⟨as,r1⟩:=h1.reads I rx (ke s1)
 obtain ⟨bs,r2⟩:=h2.reads I ry (ke s2)
 exact eq_dataH r1 r2 s1 s2 hr.units ⟨.bl _,H,I,rfl,q⟩
theorem lA {k:Nat} (hr:gT k X.A):jo X (compareOp .NotEq) (JI X.K true):=by
 intro pins s σ H x y v u Q I rx ry h
 obtain ⟨d,e,h1,h2,s1,s2,q⟩:=h
 obtain ⟨as,r1⟩:=h1.reads I rx (ke s1)
 obtain ⟨bs,r2⟩:=h2.reads I ry (ke s2)
 exact ne_dataH r1 r2 s1 s2 hr.units ⟨.bl _,H,I,rfl,q⟩
end
theorem imp_eq {K:PySem.W.Frag}:jP K (JI K false) md:=by
 intro A H x y dx dy d Q al hx hy e q
 obtain ⟨a,b,rfl⟩:=BN e
 exact ⟨dx,dy,hx.Rj,hy.Rj,a,b,q _ H (aL.refl H) (.bl _)⟩
theorem lB {K:PySem.W.Frag}:jP K (JI K true) EA:=by
 intro A H x y dx dy d Q al hx hy e q
 obtain ⟨c,e1,e2⟩:=bind1 e
 obtain ⟨a,b,rfl⟩:=BN e1
 cases e2
 exact ⟨dx,dy,hx.Rj,hy.Rj,a,b,q _ H (aL.refl H) (.bl _)⟩
def Fz (K:PySem.W.Frag):R2:=λx y H Q=>∃ l b xs zs,x=.ref l /\ y=.ref b /\ zu K H l xs /\ zu K H b zs /\ xs.length + zs.length<=sizeLine /\ ∀ p,H p=none->Q (.ref p) (upd H p (.lst (xs ++ zs)))
theorem kf {X:Cx}:jo X (binaryOp .Add) (Fz X.K):=by
 intro pins s σ H x y v u Q I rx ry h
 obtain ⟨l,b,xs,zs,rfl,rfl,hH,hB,hz,q⟩:=h
 cases rx
 cases ry
 obtain ⟨z,its,n,r,e⟩:=I.lsd hH
 obtain ⟨z2,tQ,n2,r2,e2⟩:=I.lsd hB
 have hl:=r.length
 have Jy:=r2.length
 refine PySem.P.add_list e e2 ?_ (by rw [ac4,ac4]; omega)
 have ea:its.toArray ++ tQ.toArray=(its ++ tQ).toArray:=by simp
 rw [ea]
 exact ⟨.ref _,_,I.Rb (t':=s.toks) (r.append r2) (by rw [ac7]; omega),rfl,q _ I.fresh⟩
def ou:D->D->Option (List D)
 | .list a,.list b=>if a.length + b.length<=100000 then some (a ++ b) else none
 | _,_=>none
set_option tactic.hygienic true in
theorem kg {K:PySem.W.Frag}:Fy K (Fz K) ou:=by
 intro A H x y dx dy ds Q al hx hy e q
 unfold ou at e
 split at e
 .split at e
  .rename_i hz
   cases e
   obtain ⟨l,xs,rfl,h1,h2⟩:=hx.list
   obtain ⟨b,zs,rfl,h3,h4⟩:=hy.list
   have:=h2.len
   have:=h4.len
   exact ⟨l,b,xs,zs,rfl,rfl,h1,h3,small (by omega),λp hp=>q p _ hp (h2.app h4)⟩
  .cases e
 .cases e
def N5:D->D->Option D
 | .int a,.int b=>some (.int (a + b))
 | .str a,.str b=>if a.length + b.length<=100000 then some (.str (a ++ b)) else none
 | .list a,.list b=>if a.length + b.length<=100000 then some (.list (a ++ b)) else none
 | .tuple a,.tuple b=>if a.length + b.length<=100000 /\ a≠[] then some (.tuple (a ++ b)) else none
 | _,_=>none
def BO (K:PySem.W.Frag):R2:=λx y H Q=>E4 (λi j=>.int (i + j)) x y H Q \/ (∃ i j,x=.str i /\ y=.str j /\ i.length + j.length<=sizeLine /\ Q (.str (i ++ j)) H) \/ Fz K x y H Q \/ LL K x y H Q
theorem JJ {X:Cx}:jo X (binaryOp .Add) (BO X.K):=Nn.or (zG.or (kf.or Jt))
theorem HD.Vr {K:PySem.W.Frag} {A:List Addr} {H:Hp} {p:Addr} {ys:List V} {ds:List D} (al:Ls A H) (hp:H p=none) (h:cx K (wo H A) ys ds):HD K (wo (upd H p (.lst ys)) A) (.ref p) (.list ds):=by
 rw [Fu (al.free hp)]
 have hn:wo H A p=none:=by
  by_cases z:p∈A
  .exact lx z
  .rw [cn z]; exact hp
 exact .lst (.of b8) (h.same (cK hn _))
theorem HD.vK {K:PySem.W.Frag} {A:List Addr} {H:Hp} {p:Addr} {ys:List V} {ds:List D} (al:Ls A H) (hp:H p=none) (h:cx K (wo H A) ys ds):HD K (wo (upd H p (.tup ys)) A) (.ref p) (.tuple ds):=by
 rw [Fu (al.free hp)]
 have hn:wo H A p=none:=by
  by_cases z:p∈A
  .exact lx z
  .rw [cn z]; exact hp
 exact .tup (.inl b8) (h.same (cK hn _))
set_option tactic.hygienic true in
theorem JK {K:PySem.W.Frag}:jP K (BO K) N5:=by
 intro A H x y dx dy d Q al hx hy e q
 unfold N5 at e
 split at e
 .cases e
  exact .inl ⟨_,_,hx.int,hy.int,q _ H (aL.refl H) (.int _)⟩
 .split at e
  .cases e
   exact .inr (.inl ⟨_,_,hx.str,hy.str,small (by assumption),q _ H (aL.refl H) (.str _)⟩)
  .cases e
 .split at e
  .rename_i hz
   cases e
   refine .inr (.inr (.inl (kg (K:=K) A H x y _ _ _ Q al hx hy (show (if _ then some _ else none)=some _ from acU hz) λp ys hp h=>?_)))
   exact q _ _ (cK hp _) (HD.Vr al hp h)
  .cases e
 .split at e
  .rename_i hz
   cases e
   have U3:=hx.fz
   obtain ⟨a,xs,rfl,h1,h2⟩:=hx.tuple
   obtain ⟨b,zs,rfl,h3,h4⟩:=hy.tuple
   have l2:=h2.len
   have l4:=h4.len
   refine .inr (.inr (.inr ⟨a,b,xs,zs,rfl,rfl,h1,h3,?_,small (by omega),λz=>?_,λz p hp=>?_⟩))
   .intro z; subst z; cases h2; exact hz.2 rfl
   .subst z; cases h4
    rw [adV] at q
    exact q _ H (aL.refl H) U3
   .exact q _ _ (cK hp _) (HD.vK al hp (h2.app h4))
  .cases e
 .cases e
def xR (a:DS->Option (List D)) (b:DS->Option D):DS->Option (List D):=λδ=>(a δ).bind λds=>(b δ).bind λy=>match y with
 | .int k=>if k < 2 ^ 62 /\ -(2 ^ 62) < k /\ ds.length * k.toNat<=100000 then some (List.replicate k.toNat ds).flatten else none
 | _=>none
set_option tactic.hygienic true in
theorem BP {X:Cx} {O:List Nat} {a b:Expr} {pos:Pos} {ga:DS->Option (List D)} {gb:DS->Option D} (ha:PE X a (tN X.K O ga)) (hb:PE X b (ib X.K O gb)):PE X (.BinOp a .Mult b pos) (tN X.K O (xR ga gb)):=(E5 NK ha hb).mono λσ H Q hh=>hh.e λU A0 δ d R ed q=>by
 obtain ⟨x,y,ex,ey,ef⟩:=xQ ed
 cases y with
 | int k=>
   simp only at ef
   split at ef
   .rename_i hz
    cases ef
    refine ⟨U,A0,δ,x,R,ex,λr ys H1 s1 hr h1 h2=>⟨U,A0,δ,_,R.same s1,ey,λv2 H2 s2 h3=>?_⟩⟩
    have hl:=h2.len
    refine ⟨r,k,ys,rfl,h3.int,s2 _ _ h1,by omega,by omega,small (by rw [hl]; exact hz.2.2),λp hp=>rJ (s1.trans s2) q p _ hp ?_⟩
    exact cx.rep (h2.same ((kc λa ha=>acO _ ha).trans (b9 s2))) _
   .cases ef
 | _=>cases ef
def bC:D->D->Option D
 | .list ds,.int i=>o7 ds i
 | .tuple ds,.int i=>o7 ds i
 | .str z,.int i=>if z.length<=100000 then (o7 z.cps.toList i).map λc=>.str ⟨#[c]⟩ else none
 | _,_=>none
theorem cx.o7 {K:PySem.W.Frag} {H:Hp} {xs:List V} {ds:List D} {i:Int} {d:D} (h:cx K H xs ds) (e:o7 ds i=some d):∃ v,L2.o7 xs i=some v /\ HD K H v d:=by
 unfold L2.o7 at e ⊢
 obtain ⟨j,e1,e2⟩:=bind1 e
 rw [h.len,e1]
 obtain ⟨x,hx,q⟩:=h.get e2
 exact ⟨x,hx,q⟩
set_option tactic.hygienic true in
theorem N6 {K:PySem.W.Frag}:jP K (rIx K) bC:=by
 intro A H x y dx dy d Q al hx hy e q
 unfold bC at e
 split at e
 .obtain ⟨l,xs,rfl,h1,h2⟩:=hx.list
  obtain ⟨v,e1,e2⟩:=h2.o7 e
  exact .inl ⟨l,xs,_,v,rfl,hy.int,h1.sq,e1,q _ H (aL.refl H) e2⟩
 .obtain ⟨l,xs,rfl,h1,h2⟩:=hx.tuple
  obtain ⟨v,e1,e2⟩:=h2.o7 e
  exact .inr (.inl ⟨l,xs,_,v,rfl,hy.int,h1,e1,q _ H (aL.refl H) e2⟩)
 .split at e
  .rename_i z i hz
   cases ec:L2.o7 z.cps.toList i with
   | none=>rw [ec] at e; cases e
   | some c=>
     rw [ec] at e; cases e
     exact .inr (.inr ⟨z,i,c,hx.str,hy.int,small hz,ec,q _ H (aL.refl H) (.str _)⟩)
  .cases e
 .cases e
section
variable {X:Cx} {O:List Nat} {a b:Expr} {ga gb:DS->Option D} {pos:Pos}
theorem aC (ha:PE X a (ib X.K O ga)) (hb:PE X b (ib X.K O gb)) (hs:BD b:=by exact λ_ _=>rfl):PE X (.Subscript a b pos) (tE X.K O (g2 bC ga gb)):=(Q7 NB ha hb hs).mono λ_ _ _=>BM N6
end
def g1 (f:D->Option D) (a:DS->Option D):DS->Option D:=λδ=>(a δ).bind f
def kh:D->Option D
 | .int a=>some (.int (-a))
 | _=>none
def N7:D->Option D
 | .bool a=>some (.bool (!a))
 | _=>none
section
variable {X:Cx} {O:List Nat} {a b c:Expr} {ga gb:DS->Option D} {pos:Pos}
theorem lC (ha:PE X a (ib X.K O ga)):PE X (.UnaryOp .USub a pos) (tE X.K O (g1 kh ga)):=(QU Np ha).mono λσ H Q hh=>hh.e λU A0 δ d R ed q=>by
 obtain ⟨x,e1,e2⟩:=bind1 ed
 cases x with
 | int i=>cases e2; exact ⟨U,A0,δ,_,R,e1,λv H' s h=>⟨i,h.int,q _ H' s (.int _)⟩⟩
 | _=>cases e2
theorem N8 (ha:PE X a (ib X.K O ga)):PE X (.UnaryOp .Not a pos) (tE X.K O (g1 N7 ga)):=(Ng ha).mono λσ H Q hh=>hh.e λU A0 δ d R ed q=>by
 obtain ⟨x,e1,e2⟩:=bind1 ed
 cases x with
 | bool i=>cases e2; exact ⟨U,A0,δ,_,R,e1,λv H' s h=>⟨i,h.bool,q _ H' s (.bl _)⟩⟩
 | _=>cases e2
def uF (a b:DS->Option D):DS->Option D:=λδ=>(gB a δ).bind λx=>if x=true then b δ else some (.bool false)
theorem JL {g:DS->Option D} {δ:DS} {b:Bool} (h:gB g δ=some b):g δ=some (.bool b):=by
 obtain ⟨d,e1,e2⟩:=bind1 h
 cases d with
 | bool c=>cases e2; exact e1
 | _=>cases e2
theorem FA {rest:List Expr} (ha:PE X a (tE X.K O ga)) (hb:PE X (.BoolOp .And (b :: rest) pos) (tE X.K O gb)):PE X (.BoolOp .And (a :: b :: rest) pos) (tE X.K O (uF ga gb)):=(Nf ha hb).mono λσ H Q hh=>hh.e λU A0 δ d R ed q=>by
 obtain ⟨x,e1,e2⟩:=bind1 ed
 refine ⟨U,A0,δ,_,R,JL e1,λv H' s h=>?_⟩
 cases h
 refine ⟨x,rfl,?_⟩
 cases x with
 | true=>rw [acU rfl] at e2 ⊢; exact ⟨U,A0,δ,d,R.same s,e2,λv H2 s2 h2=>q v H2 (s.trans s2) h2⟩
 | false=>rw [acW acP] at e2 ⊢; cases e2; exact q _ H' s (.bl _)
def jA (a b:DS->Option Bool):DS->Option Bool:=λδ=>(a δ).bind λx=>if x=true then b δ else some false
def FC (a b:DS->Option Bool):DS->Option Bool:=λδ=>(a δ).bind λx=>if x=true then some true else b δ
def qB (a:DS->Option Bool):DS->Option Bool:=λδ=>(a δ).map λx=> !x
variable {ta tb:DS->Option Bool} {rest:List Expr}
theorem me (ha:PT X a (tT X.K O ta)) (hb:PW X (.BoolOp .And (b :: rest) pos) (tT X.K O tb)):PW X (.BoolOp .And (a :: b :: rest) pos) (tT X.K O (jA ta tb)):=(pw_and ha hb).mono λσ H Q hh=>hh.e λU A0 δ d R ed q=>by
 obtain ⟨x,e1,e2⟩:=bind1 ed
 refine ⟨U,A0,δ,_,R,e1,λH' s=>?_⟩
 cases x with
 | true=>rw [acU rfl] at e2 ⊢; exact ⟨U,A0,δ,d,R.same s,e2,λH2 s2=>q H2 (s.trans s2)⟩
 | false=>rw [acW acP] at e2 ⊢; cases e2; exact q H' s
theorem rM (ha:PT X a (tT X.K O ta)) (hb:PW X (.BoolOp .Or (b :: rest) pos) (tT X.K O tb)):PW X (.BoolOp .Or (a :: b :: rest) pos) (tT X.K O (FC ta tb)):=(pw_or ha hb).mono λσ H Q hh=>hh.e λU A0 δ d R ed q=>by
 obtain ⟨x,e1,e2⟩:=bind1 ed
 refine ⟨U,A0,δ,_,R,e1,λH' s=>?_⟩
 cases x with
 | true=>rw [acU rfl] at e2 ⊢; cases e2; exact q H' s
 | false=>rw [acW acP] at e2 ⊢; exact ⟨U,A0,δ,d,R.same s,e2,λH2 s2=>q H2 (s.trans s2)⟩
theorem oy (ha:PT X a (tT X.K O ta)):PT X (.UnaryOp .Not a pos) (tT X.K O (qB ta)):=(Nd ha).mono λσ H Q hh=>hh.e λU A0 δ d R ed q=>by
 unfold qB at ed
 cases e:ta δ with
 | none=>rw [e] at ed; cases ed
 | some x=>rw [e] at ed; cases ed; exact ⟨U,A0,δ,x,R,e,λH' s=>q H' s⟩
def Vs:D->Option Bool
 | .none=>some false
 | .bool b=>some b
 | .int i=>some (i != 0)
 | .str x=>if x.length<=100000 then some ((x.length:Int) != 0) else none
 | .list l=>some (!l.isEmpty)
 | .tuple l=>some (!l.isEmpty)
 | _=>none
def mV (g:DS->Option D):DS->Option Bool:=λδ=>(g δ).bind Vs
theorem rN {K:PySem.W.Frag} {H:Hp} {xs:List V} {ds:List D} (h:cx K H xs ds):xs.isEmpty=ds.isEmpty:=by cases h <;> rfl
theorem i6 (ha:PE X a (ib X.K O ga)) (he:∀ whole,isTrue a X.env whole=(do let v <- whole; standAt a.pos; holding [v] (truthy v)):=by exact λ_=>rfl):PT X a (tT X.K O (mV ga)):=(E8 ha he).mono λσ H Q hh=>hh.e λU A0 δ k R ed q=>by
 obtain ⟨d,e1,e2⟩:=bind1 ed
 refine ⟨U,A0,δ,d,R,e1,λv H' s h=>⟨k,?_,q H' s⟩⟩
 cases d with
 | none=>cases e2; rw [h.jz]; exact rfl
 | bool b=>cases e2; rw [h.bool]; exact rfl
 | int i=>cases e2; rw [h.int]; exact rfl
 | str x=>
   rw [h.str]
   have e3:(if x.length<=100000 then some ((x.length:Int) != 0) else none)=some k:=e2
   split at e3
   .cases e3; exact ⟨small (by assumption),rfl⟩
   .cases e3
 | list l=>
   cases e2
   obtain ⟨p,xs,rfl,h1,h2⟩:=h.list
   exact .inl ⟨xs,h1.sq,by rw [rN h2]⟩
 | tuple l=>
   cases e2
   obtain ⟨p,xs,rfl,h1,h2⟩:=h.tuple
   exact .inr (.inl ⟨xs,h1,by rw [rN h2]⟩)
 | dict _=>cases e2
end
def af:DS->Option (List D):=λ_=>some []
def aa (a:DS->Option D) (r:DS->Option (List D)):DS->Option (List D):=λδ=>(a δ).bind λx=>(r δ).bind λxs=>some (x :: xs)
def aS (r:DS->Option (List D)):DS->Option D:=λδ=>(r δ).bind λxs=>if xs.length<=100000 then some (.tuple xs) else none
def dM (r:DS->Option (List D)):DS->Option (List D):=λδ=>(r δ).bind λxs=>if xs.length<=100000 then some xs else none
section
variable {X:Cx} {O:List Nat} {e:Expr} {es:List Expr} {ga:DS->Option D} {gr:DS->Option (List D)} {pos:Pos}
theorem ag:PA X [] (Di X.K O af):=cz.mono λσ H Q hh=>hh.e λU A0 δ d R ed q=>by cases ed; exact q [] H (aL.refl H) .nil
theorem ab (ha:PE X e (tE X.K O ga)) (hr:PA X es (Di X.K O gr)) (hs:starEach (e :: es) X.env=(false,eval e X.env) :: starEach es X.env:=by rfl):PA X (e :: es) (Di X.K O (aa ga gr)):=(bG ha hr hs).mono λσ H Q hh=>hh.e λU A0 δ ds R ed q=>by
 obtain ⟨x,xs,e1,e2,e3⟩:=xQ ed
 cases e3
 exact ⟨U,A0,δ,x,R,e1,λv H1 s1 h1=>⟨U,A0,δ,xs,R.same s1,e2,λvs H2 s2 h2=>q _ H2 (s1.trans s2) (.cons (h1.same (b9 s2)) h2)⟩⟩
theorem ax:PA X [] (rH X.K O af):=cz.mono λσ H Q hh=>hh.e λU A0 δ d R ed q=>by cases ed; exact q [] H (aL.refl H) .nil
theorem ao (ha:PE X e (ib X.K O ga)) (hr:PA X es (rH X.K O gr)) (hs:starEach (e :: es) X.env=(false,eval e X.env) :: starEach es X.env:=by rfl):PA X (e :: es) (rH X.K O (aa ga gr)):=(bG ha hr hs).mono λσ H Q hh=>hh.e λU A0 δ ds R ed q=>by
 obtain ⟨x,xs,e1,e2,e3⟩:=xQ ed
 cases e3
 exact ⟨U,A0,δ,x,R,e1,λv H1 s1 h1=>⟨U,A0,δ,xs,R.same s1,e2,λvs H2 s2 h2=>q _ H2 (s1.trans s2) (.cons (h1.same s2) h2)⟩⟩
set_option tactic.hygienic true in
theorem ba {x1} (h:PA X es (Di X.K O gr)):PE X (.Tuple es x1 pos) (tE X.K O (aS gr)):=(Nt h).mono λσ H Q hh=>hh.e λU A0 δ d R ed q=>by
 obtain ⟨xs,e1,e2⟩:=bind1 ed
 split at e2
 .rename_i hz
  cases e2
  refine ⟨U,A0,δ,xs,R,e1,λvs H' s h=>⟨by have:=h.len; exact small (by omega),λp hp=>q _ _ (s.trans (cK hp _)) (HD.vK (R.same s).al hp h)⟩⟩
 .cases e2
set_option tactic.hygienic true in
theorem dj (h:PA X es (Di X.K O gr)):PE X (.List es pos) (tN X.K O (dM gr)):=(Nu h).mono λσ H Q hh=>hh.e λU A0 δ d R ed q=>by
 obtain ⟨xs,e1,e2⟩:=bind1 ed
 split at e2
 .rename_i hz
  cases e2
  refine ⟨U,A0,δ,d,R,e1,λvs H' s h=>⟨by have:=h.len; exact small (by omega),λp hp=>rJ s q p vs hp h⟩⟩
 .cases e2
end
def lD (K:PySem.W.Frag) (n:Nat) (G:List D->Option D):Sp:=λvs H Q _=>vs.length=n /\ ∃ A ds d,Ls A H /\ cx K (wo H A) vs ds /\ G ds=some d /\ ∀ v H',aL H H'->HD K (wo H' A) v d->Q v H'
def o8 (K:PySem.W.Frag) (n:Nat) (G:List D->Option (List D)):Sp:=λvs H Q _=>vs.length=n /\ ∃ A ds d,Ls A H /\ cx K (wo H A) vs ds /\ G ds=some d /\
 ∀ r ys H',aL H H'->H r=none->H' r=some (.lst ys)->cx K (wo H' (r :: A)) ys d->Q (.ref r) H'
def az (G:List D->Option D) (n:Nat) (g:DS->Option (List D)):DS->Option D:=λδ=>(g δ).bind λds=>if ds.length=n then G ds else none
def aW (G:List D->Option (List D)) (n:Nat) (g:DS->Option (List D)):DS->Option (List D):=λδ=>(g δ).bind λds=>if ds.length=n then G ds else none
section
variable {X:Cx} {O:List Nat} {e:Expr} {es:List Expr} {gr:DS->Option (List D)} {pos p:Pos} {n k kk:Nat} {x:Str} {ps:List Str}
theorem rG.Rq {K:PySem.W.Frag} {A:List Addr} {H:Hp}:∀ {vs:List V} {ds:List D},rG K A H vs ds->cx K H vs ds
 | _,_,.nil=>.nil
 | _,_,.cons h t=>.cons h.Rj (rG.Rq t)
set_option tactic.hygienic true in
theorem qM {G:List D->Option D} (F:Dn X.prog X.w X.K X.mg X.base k x ps (lD X.K n G)) (hr:gT kk X.A) (hk:k<=kk) (ha:PA X (e :: es) (Di X.K O gr)) (hg:Gl X x:=by rfl)
  (tM:(x == ("__debug__":Str))=false:=by decide) (he:starEach (e :: es) X.env=(false,eval e X.env) :: starEach es X.env:=by rfl) (og:(backTo pos (starEach es X.env)).any (·.1)=false:=by rfl):
  PE X (.Call (.Name x p) (e :: es) [] pos) (tE X.K O (az G n gr)):=(Fo F hr hk ha hg tM he og).mono λσ H Q hh=>hh.e λU A0 δ d R ed q=>by
 obtain ⟨ds,e1,e2⟩:=bind1 ed
 split at e2
 .rename_i hn
  refine ⟨U,A0,δ,ds,R,e1,λvs H' s h=>?_⟩
  show lD X.K n G (vs ++ []) H' Q E0
  rw [adV]
  exact ⟨by rw [h.len]; exact hn,U ++ A0,ds,d,(R.same s).al,h,e2,λv H2 s2 h2=>q v H2 (s.trans s2) h2⟩
 .cases e2
set_option tactic.hygienic true in
theorem aY {G:List D->Option (List D)} (F:Dn X.prog X.w X.K X.mg X.base k x ps (o8 X.K n G)) (hr:gT kk X.A) (hk:k<=kk) (ha:PA X (e :: es) (Di X.K O gr)) (hg:Gl X x:=by rfl)
  (tM:(x == ("__debug__":Str))=false:=by decide) (he:starEach (e :: es) X.env=(false,eval e X.env) :: starEach es X.env:=by rfl) (og:(backTo pos (starEach es X.env)).any (·.1)=false:=by rfl):
  PE X (.Call (.Name x p) (e :: es) [] pos) (tN X.K O (aW G n gr)):=(Fo F hr hk ha hg tM he og).mono λσ H Q hh=>hh.e λU A0 δ d R ed q=>by
 obtain ⟨ds,e1,e2⟩:=bind1 ed
 split at e2
 .rename_i hn
  refine ⟨U,A0,δ,ds,R,e1,λvs H' s h=>?_⟩
  show o8 X.K n G (vs ++ []) H' Q E0
  rw [adV]
  exact ⟨by rw [h.len]; exact hn,U ++ A0,ds,d,(R.same s).al,h,e2,λr ys H2 s2 h0 h1 h2=>q r ys H2 (s.trans s2) (s.free h0) h1 h2⟩
 .cases e2
end
def rO (K:PySem.W.Frag) (r:List V->Hp->VK->Prop) (f:List D->Option D):Prop:=∀ (A:List Addr) (H:Hp) (vs:List V) (ds:List D) (d:D) (Q:VK),Ls A H->rG K A H vs ds->f ds=some d->(∀ v H',aL H H'->HD K (wo H' A) v d->Q v H')->r vs H Q
def FD (K:PySem.W.Frag) (r:List V->Hp->VK->Prop) (f:List D->Option (List D)):Prop:=∀ (A:List Addr) (H:Hp) (vs:List V) (ds:List D) (d:List D) (Q:VK),Ls A H->rG K A H vs ds->f ds=some d->
 (∀ p ys,H p=none->cx K (wo H A) ys d->Q (.ref p) (upd H p (.lst ys)))->r vs H Q
def cM (f:List D->Option D) (g:DS->Option (List D)):DS->Option D:=λδ=>(g δ).bind f
def rP (f:List D->Option (List D)) (g:DS->Option (List D)):DS->Option (List D):=λδ=>(g δ).bind f
section
variable {X:Cx} {O:List Nat} {e:Expr} {es:List Expr} {gr:DS->Option (List D)} {pos p:Pos} {x:Str} {r:List V->Hp->VK->Prop} {id T:String}
theorem L4 {K:PySem.W.Frag} {f:List D->Option D} (imp:rO K r f) {σ:St} {H:Hp} {Q:VK}:tE K O (cM f gr) σ H Q->Ti r (rH K O gr) σ H Q:=λ⟨U,A0,δ,d,R,ed,q⟩=>by
 obtain ⟨ds,e1,e2⟩:=bind1 ed
 exact ⟨U,A0,δ,ds,R,e1,λvs H' s h=>imp _ H' vs ds d Q (R.same s).al h e2 λv H2 s2 h2=>q v H2 (s.trans s2) h2⟩
theorem Rr {K:PySem.W.Frag} {f:List D->Option (List D)} (imp:FD K r f) {σ:St} {H:Hp} {Q:VK}:tN K O (rP f gr) σ H Q->Ti r (rH K O gr) σ H Q:=λ⟨U,A0,δ,d,R,ed,q⟩=>by
 obtain ⟨ds,e1,e2⟩:=bind1 ed
 exact ⟨U,A0,δ,ds,R,e1,λvs H' s h=>imp _ H' vs ds d Q (R.same s).al h e2 (rJ s q)⟩
theorem aG {f:List D->Option D} (hc:eR X (.builtin id) r) (imp:rO X.K r f) (hg:Gl X x) (hm:X.mg x=none) (hv:bootBuiltins x=some (.builtin id)) (ha:PA X (e :: es) (rH X.K O gr)) (hn:x≠"__name__":=by decide) (tM:(x == ("__debug__":Str))=false:=by decide)
  (he:starEach (e :: es) X.env=(false,eval e X.env) :: starEach es X.env:=by rfl) (og:(backTo pos (starEach es X.env)).any (·.1)=false:=by rfl):PE X (.Call (.Name x p) (e :: es) [] pos) (tE X.K O (cM f gr)):=
 (rp hc hg hm hv ha hn tM he og).mono λ_ _ _=>L4 imp
theorem mf {f:List D->Option D} (hc:eR X (.type T) r) (imp:rO X.K r f) (hg:Gl X x) (hm:X.mg x=none) (hv:bootBuiltins x=some (.type T)) (ha:PA X (e :: es) (rH X.K O gr)) (hn:x≠"__name__":=by decide) (tM:(x == ("__debug__":Str))=false:=by decide)
  (he:starEach (e :: es) X.env=(false,eval e X.env) :: starEach es X.env:=by rfl) (og:(backTo pos (starEach es X.env)).any (·.1)=false:=by rfl):PE X (.Call (.Name x p) (e :: es) [] pos) (tE X.K O (cM f gr)):=
 (pj hc hg hm hv ha hn tM he og).mono λ_ _ _=>L4 imp
theorem i7 {f:List D->Option (List D)} (hc:eR X (.type T) r) (imp:FD X.K r f) (hg:Gl X x) (hm:X.mg x=none) (hv:bootBuiltins x=some (.type T)) (ha:PA X (e :: es) (rH X.K O gr)) (hn:x≠"__name__":=by decide) (tM:(x == ("__debug__":Str))=false:=by decide)
  (he:starEach (e :: es) X.env=(false,eval e X.env) :: starEach es X.env:=by rfl) (og:(backTo pos (starEach es X.env)).any (·.1)=false:=by rfl):PE X (.Call (.Name x p) (e :: es) [] pos) (tN X.K O (rP f gr)):=
 (pj hc hg hm hv ha hn tM he og).mono λ_ _ _=>Rr imp
end
theorem FE {K:PySem.W.Frag} {A:List Addr} {H:Hp} {vs:List V} {d:D} (h:rG K A H vs [d]):∃ v,vs=[v] /\ iE K A H v d:=by
 unfold rG at h
 cases h with
 | cons a t=>cases t; exact ⟨_,rfl,a⟩
theorem sh2 {K:PySem.W.Frag} {A:List Addr} {H:Hp} {vs:List V} {d e:D} (h:rG K A H vs [d,e]):∃ v u,vs=[v,u] /\ iE K A H v d /\ iE K A H u e:=by
 unfold rG at h
 cases h with
 | cons a t=>cases t with
   | cons b t=>cases t; exact ⟨_,_,rfl,a,b⟩
def bL:List D->Option D
 | [.list l]=>some (.int l.length)
 | [.tuple l]=>some (.int l.length)
 | [.str z]=>if z.length<=100000 then some (.int z.length) else none
 | _=>none
theorem aM {X:Cx}:eR X (.builtin "len") (λxs H Q=>(∃ p ys,xs=[.ref p] /\ (gX X.K H p ys \/ jN X.K H p ys) /\ Q (.int ys.length) H) \/ ∃ z,xs=[.str z] /\ z.length<=sizeLine /\ Q (.int z.length) H):=vB.or vC
theorem bc {K:PySem.W.Frag}:rO K (λxs H Q=>(∃ p ys,xs=[.ref p] /\ (gX K H p ys \/ jN K H p ys) /\ Q (.int ys.length) H) \/ ∃ z,xs=[.str z] /\ z.length<=sizeLine /\ Q (.int z.length) H) bL:=by
 intro A H vs ds d Q al h e q
 unfold bL at e
 split at e
 .cases e
  obtain ⟨v,rfl,h1⟩:=FE h
  clear h
  have h:=h1
  obtain ⟨p,xs,rfl,h1,h2⟩:=h.list
  refine .inl ⟨p,xs,rfl,.inl h1.sq,?_⟩
  rw [h2.len]
  exact q _ H (aL.refl H) (.int _)
 .cases e
  obtain ⟨v,rfl,h1⟩:=FE h
  clear h
  have h:=h1
  obtain ⟨p,xs,rfl,h1,h2⟩:=h.tuple
  refine .inl ⟨p,xs,rfl,.inr h1,?_⟩
  rw [h2.len]
  exact q _ H (aL.refl H) (.int _)
 .split at e
  .cases e
   obtain ⟨v,rfl,h1⟩:=FE h
   exact .inr ⟨_,by rw [h1.str],small (by assumption),q _ H (aL.refl H) (.int _)⟩
  .cases e
 .cases e
def pA:List D->Option D
 | [.int i]=>some (.int (if i < 0 then -i else i))
 | _=>none
theorem mh {K:PySem.W.Frag}:rO K (λxs H Q=>∃ i,xs=[.int i] /\ Q (.int (if i < 0 then -i else i)) H) pA:=by
 intro A H vs ds d Q al h e q
 unfold pA at e
 split at e
 .cases e
  obtain ⟨v,rfl,h1⟩:=FE h
  clear h
  have h:=h1
  exact ⟨_,by rw [h.int],q _ H (aL.refl H) (.int _)⟩
 .cases e
def xS:List D->Option D
 | [.int i,.int j]=>some (.int (if j > i then j else i))
 | _=>none
theorem JM {K:PySem.W.Frag}:rO K (λxs H Q=>∃ i j,xs=[.int i,.int j] /\ Q (.int (if j > i then j else i)) H) xS:=by
 intro A H vs ds d Q al h e q
 unfold xS at e
 split at e
 .cases e
  obtain ⟨v,u,rfl,h1,h'⟩:=sh2 h
  clear h
  have h:=h1
  exact ⟨_,_,by rw [h.int,h'.int],q _ H (aL.refl H) (.int _)⟩
 .cases e
def Dj:List D->Option D
 | [.int i]=>some (.int i)
 | [.bool k]=>some (.int (if k then 1 else 0))
 | _=>none
theorem BQ {K:PySem.W.Frag}:rO K (λxs H Q=>(∃ i,xs=[.int i] /\ Q (.int i) H) \/ ∃ k,xs=[.bl k] /\ Q (.int (if k then 1 else 0)) H) Dj:=by
 intro A H vs ds d Q al h e q
 unfold Dj at e
 split at e
 .cases e
  obtain ⟨v,rfl,h1⟩:=FE h
  clear h
  have h:=h1
  exact .inl ⟨_,by rw [h.int],q _ H (aL.refl H) (.int _)⟩
 .cases e
  obtain ⟨v,rfl,h1⟩:=FE h
  clear h
  have h:=h1
  exact .inr ⟨_,by rw [h.bool],q _ H (aL.refl H) (.int _)⟩
 .cases e
def jB:List D->Option (List D)
 | [.list l]=>some l
 | [.tuple l]=>some l
 | _=>none
theorem lE {K:PySem.W.Frag}:FD K (λxs H Q=>∃ p ys,xs=[.ref p] /\ (gX K H p ys \/ jN K H p ys) /\ ∀ l,H l=none->Q (.ref l) (upd H l (.lst ys))) jB:=by
 intro A H vs ds d Q al h e q
 unfold jB at e
 split at e
 .cases e
  obtain ⟨v,rfl,h1⟩:=FE h
  clear h
  have h:=h1
  obtain ⟨p,xs,rfl,h1,h2⟩:=h.list
  exact ⟨p,xs,rfl,.inl h1.sq,λl hl=>q l xs hl h2⟩
 .cases e
  obtain ⟨v,rfl,h1⟩:=FE h
  clear h
  have h:=h1
  obtain ⟨p,xs,rfl,h1,h2⟩:=h.tuple
  exact ⟨p,xs,rfl,.inr h1,λl hl=>q l xs hl h2⟩
 .cases e
def oz:List D->Option D
 | [.list l]=>some (.tuple l)
 | [.tuple l]=>some (.tuple l)
 | _=>none
theorem uG {K:PySem.W.Frag}:rO K (λxs H Q=>∃ p ys,xs=[.ref p] /\ ((gX K H p ys /\ ∀ l,H l=none->Q (.ref l) (upd H l (.tup ys))) \/ (jN K H p ys /\ Q (.ref p) H))) oz:=by
 intro A H vs ds d Q al h e q
 unfold oz at e
 split at e
 .cases e
  obtain ⟨v,rfl,h1⟩:=FE h
  clear h
  have h:=h1
  obtain ⟨p,xs,rfl,h1,h2⟩:=h.list
  exact ⟨p,xs,rfl,.inl ⟨h1.sq,λl hl=>q _ _ (cK hl _) (HD.vK al hl h2)⟩⟩
 .cases e
  obtain ⟨v,rfl,h1⟩:=FE h
  clear h
  have h:=h1
  have h':=h.fz
  obtain ⟨p,xs,rfl,h1,h2⟩:=h.tuple
  exact ⟨p,xs,rfl,.inr ⟨h1,q _ H (aL.refl H) h'⟩⟩
 .cases e
def tyName:D->String
 | .none=>"NoneType"
 | .bool _=>"bool"
 | .int _=>"int"
 | .str _=>"str"
 | .list _=>"list"
 | .tuple _=>"tuple"
 | .dict _=>"dict"
theorem N9 {K:PySem.W.Frag} {t n:String} {b:Bool} (h:(Value.type t == Value.type n)=false) (h2:PySem.W.kitMeta n=true) (h3:(fastBuiltinMro t).map (·.contains (Value.type n))=some b):PySem.W.kitOne K (.type t) (.type n)=some b:=by
 unfold PySem.W.kitOne PySem.W.kitCls
 rw [h,acW (by decide)]
 show (if PySem.W.kitMeta n=true then PySem.W.subIn K (.type t) (.type n) else none)=some b
 rw [acU h2]
 exact h3
def fI:List String:=["int","bool","str","list","tuple","NoneType"]
def Oa (n:String):List D->Option D
 | [d]=>if tyName d∈fI /\ n∈fI then some (.bool (decide (tyName d=n) || (decide (tyName d="bool") && decide (n="int")))) else none
 | _=>none
theorem JN {K:PySem.W.Frag} {t n:String} (ht:t∈fI) (hn:n∈fI):PySem.W.kitOne K (.type t) (.type n)=some (decide (t=n) || (decide (t="bool") && decide (n="int"))):=by
 by_cases h:t=n
 .subst h
  rw [Fn]; simp
 .have all:∀ t∈fI,∀ n∈fI,t≠n->(Value.type t == Value.type n)=false /\ PySem.W.kitMeta n=true /\ (fastBuiltinMro t).map (·.contains (Value.type n))=some (decide (t=n) || (decide (t="bool") && decide (n="int"))):=by decide +kernel
  obtain ⟨h1,h2,h3⟩:=all t ht n hn h
  exact N9 h1 h2 h3
theorem iE.ty {K:PySem.W.Frag} {A:List Addr} {H:Hp} {v:V} {d:D} (h:iE K A H v d) (hn:tyName d∈fI):TyW K H v (tyName d):=by
 cases d with
 | none=>rw [h.jz]; exact .inl .jz
 | bool b=>rw [h.bool]; exact .inl (.bl b)
 | int i=>rw [h.int]; exact .inl (.int i)
 | str x=>rw [h.str]; exact .inl (.str x)
 | list l=>obtain ⟨p,xs,rfl,h1,_⟩:=h.list; exact .inr (.inr ⟨p,xs,rfl,h1.sq,rfl⟩)
 | tuple l=>obtain ⟨p,xs,rfl,h1,_⟩:=h.tuple; exact .inr (.inl ⟨p,xs,rfl,h1,rfl⟩)
 | dict l=>simp [tyName,fI] at hn
section
variable {X:Cx} {O:List Nat} {e:Expr} {ga:DS->Option D} {pos p p2:Pos}
def zR (n:String) (g:DS->Option D):DS->Option D:=λδ=>(g δ).bind λd=>Oa n [d]
set_option tactic.hygienic true in
theorem zS {n:Str} (T:String) (hB:X.mg "isinstance"=none) (ha:PE X e (ib X.K O ga)) (ht:PE X (.Name n p2) (tC (.ty T))) (hg:Gl X "isinstance":=by rfl)
  (he:starEach [e,.Name n p2] X.env=(false,eval e X.env) :: starEach [.Name n p2] X.env:=by rfl) (JO:starEach [.Name n p2] X.env=(false,eval (.Name n p2) X.env) :: starEach [] X.env:=by rfl) (og:(backTo pos (starEach [.Name n p2] X.env)).any (·.1)=false:=by rfl):
  PE X (.Call (.Name "isinstance" p) [e,.Name n p2] [] pos) (tE X.K O (zR T ga)):=
 (rp Fm hg hB tV (bG ha (bG ht cz JO) he) (by decide) (by decide) he og).mono λσ H Q hh=>hh.e λU A0 δ d R ed q=>by
  obtain ⟨x,e1,e2⟩:=bind1 ed
  have e3:(if tyName x∈fI /\ T∈fI then some (PyData.bool (decide (tyName x=T) || (decide (tyName x="bool") && decide (T="int")))) else none)=some d:=e2
  split at e3
  .rename_i hz
   cases e3
   refine ⟨U,A0,δ,x,R,e1,λv H' s h=>?_⟩
   exact ⟨v,T,tyName x,_,rfl,h.ty hz.1,JN hz.1 hz.2,q _ H' s (.bl _)⟩
  .cases e3
end
def lF (g:DS->Option D):DS->Option (Option Int):=λδ=>(g δ).bind λ| .int i=>some (some i) | _=>none
def vL:DS->Option (Option Int):=λ_=>some none
def L5 (K:PySem.W.Frag) (O:List Nat) (g:DS->Option (Option Int)):TO:=λσ H Q=>∃ U A0 δ d,Rel K O U A0 σ δ H /\ g δ=some d /\ ∀ H',aL H H'->Q d H'
theorem L5.e {K:PySem.W.Frag} {O:List Nat} {g:DS->Option (Option Int)}  {σ:_} {H:_} {Q:_} {GG:Prop} (hh:L5 K O g σ H Q) (kk:∀ U A0 δ d,(Rel K O U A0 σ δ H)->(g δ=some d)->(∀ H',aL H H'->Q d H')->GG):GG:=by obtain ⟨U,A0,δ,d,x0,x1,x2⟩:=hh; exact kk U A0 δ d x0 x1 x2
def cutD (xs:List D) (lo hi:Option Int):List D:=(xs.drop (HT.tP xs.length 0 lo)).take (HT.tP xs.length xs.length hi - HT.tP xs.length 0 lo)
def JP (a:DS->Option D) (lo hi:DS->Option (Option Int)):DS->Option (List D):=λδ=>(a δ).bind λx=>(lo δ).bind λl=>(hi δ).bind λh=>match x with
 | .list ds=>some (cutD ds l h)
 | _=>none
section
variable {X:Cx} {O:List Nat} {e:Expr} {lo hi:Option Expr} {ga:DS->Option D} {gl gh:DS->Option (Option Int)} {pos p2:Pos}
theorem FF:PO X none (L5 X.K O vL):=Jr.mono λσ H Q hh=>hh.e λU A0 δ d R ed q=>by cases ed; exact q H (aL.refl H)
theorem rQ (h:PE X e (ib X.K O ga)):PO X (some e) (L5 X.K O (lF ga)):=(Js h).mono λσ H Q hh=>hh.e λU A0 δ d R ed q=>by
 obtain ⟨x,e1,e2⟩:=bind1 ed
 cases x with
 | int i=>cases e2; exact ⟨U,A0,δ,_,R,e1,λv H' s h=>⟨i,h.int,q H' s⟩⟩
 | _=>cases e2
theorem Ob (ha:PE X e (ib X.K O ga)) (hl:PO X lo (L5 X.K O gl)) (hh:PO X hi (L5 X.K O gh)):PE X (.Subscript e (.Slice lo hi none p2) pos) (tN X.K O (JP ga gl gh)):=(xG Jw ha hl hh).mono λσ H Q hh=>hh.e λU A0 δ d R ed q=>by
 obtain ⟨x,e1,e2⟩:=bind1 ed
 obtain ⟨l,e3,e4⟩:=bind1 e2
 obtain ⟨h,e5,e6⟩:=bind1 e4
 cases x with
 | list ds=>
   cases e6
   refine ⟨U,A0,δ,_,R,e1,λv H1 s1 h1=>⟨U,A0,δ,l,R.same s1,e3,λH2 s2=>⟨U,A0,δ,h,R.same (s1.trans s2),e5,λH3 s3=>?_⟩⟩⟩
   obtain ⟨p,xs,rfl,r1,r2⟩:=(h1.same (s2.trans s3)).list
   refine ⟨p,xs,rfl,r1.sq,λr hr=>rJ ((s1.trans s2).trans s3) q r _ hr ?_⟩
   unfold Fb cutD
   rw [r2.len]
   exact (r2.LW _).Fv _
 | _=>cases e6
end
def av (a b:DS->Option Res):DS->Option Res:=λδ=>(a δ).bind λ| .nx δ'=>b δ' | r=>some r
def cN:DS->Option Res:=λδ=>some (.nx δ)
def j8 (c:DS->Option Bool) (a b:DS->Option Res):DS->Option Res:=λδ=>(c δ).bind λx=>if x=true then a δ else b δ
def aQ (i:Nat) (g:DS->Option D):DS->Option Res:=λδ=>(g δ).bind λd=>some (.nx (δ.set i (some d)))
def gg (i:Nat) (g:DS->Option (List D)):DS->Option Res:=λδ=>(g δ).bind λd=>some (.nx (δ.set i (some (.list d))))
def bT (g:DS->Option D):DS->Option Res:=λδ=>(g δ).bind λd=>some (.rt d)
def BR (g:DS->Option D):DS->Option Res:=λδ=>(g δ).bind λ_=>some (.nx δ)
def JQ (g:DS->Option D) (t:D->DS->Option DS):DS->Option Res:=λδ=>(g δ).bind λd=>(t d δ).bind λδ'=>some (.nx δ')
section
variable {X:Cx} {O:List Nat} {fr:Bool} {st:Stmt} {rest a b:List Stmt} {ga gb:DS->Option Res} {gc:DS->Option Bool} {ge:DS->Option D} {gl:DS->Option (List D)} {e c:Expr} {pos:Pos}
theorem ai (h1:PS X st (tS X.K O fr ga)) (h2:mR X rest (tS X.K O fr gb)):mR X (st :: rest) (tS X.K O fr (av ga gb)):=(rf h1 h2).mono λE σ H hh=>hh.e λH0 U A0 δ r R F ed P=>by
 obtain ⟨r1,e1,e2⟩:=bind1 ed
 cases r1 with
 | nx δ'=>exact ⟨H0,U,A0,δ,.nx δ',R,F,e1,λU' cT H' R' F'=>⟨H0,U',A0,δ',r,R',F',e2,P⟩⟩
 | rt d=>cases e2; exact ⟨H0,U,A0,δ,_,R,F,e1,P⟩
 | bk d=>cases e2; exact ⟨H0,U,A0,δ,_,R,F,e1,P⟩
 | ct d=>cases e2; exact ⟨H0,U,A0,δ,_,R,F,e1,P⟩
theorem aq (h1:PS X st (tS X.K O fr ga)):mR X [st] (tS X.K O fr ga):=vv h1
theorem dE:mR X [] (tS X.K O fr cN):=Jc.mono λE σ H hh=>hh.e λH0 U A0 δ r R F ed P=>by cases ed; exact P U σ H R F
theorem jQ:PS X st (tS X.K O fr λ_=>none):=ET.mono λE σ H hh=>hh.e λH0 U A0 δ r R F ed P=>by cases ed
theorem Dk:mR X rest (tS X.K O fr λ_=>none):=CV.mono λE σ H hh=>hh.e λH0 U A0 δ r R F ed P=>by cases ed
theorem fu (hc:PT X c (tT X.K O gc)) (ha:mR X a (tS X.K O fr ga)) (hb:mR X b (tS X.K O fr gb)):PS X (.If c a b pos) (tS X.K O fr (j8 gc ga gb)):=(QI hc ha hb).mono λE σ H hh=>hh.e λH0 U A0 δ r R F ed P=>by
 obtain ⟨x,e1,e2⟩:=bind1 ed
 refine ⟨U,A0,δ,x,R,e1,λH' s=>?_⟩
 cases x with
 | true=>rw [acU rfl] at e2 ⊢; exact ⟨H0,U,A0,δ,r,R.same s,F.grow s,e2,P⟩
 | false=>rw [acW acP] at e2 ⊢; exact ⟨H0,U,A0,δ,r,R.same s,F.grow s,e2,P⟩
theorem mW {i:Nat} (h:PS X st (n9 (tE X.K O ge) (iM i))) (hi:i∉O:=by decide):PS X st (tS X.K O fr (aQ i ge)):=h.mono λE σ H hh=>hh.e λH0 U A0 δ r R F ed P=>by
 obtain ⟨d,e1,e2⟩:=bind1 ed
 cases e2
 exact ⟨U,A0,δ,d,R,e1,λv H' s hv=>P U _ H' ((R.same s).set hi hv) (F.grow s)⟩
theorem dB {i:Nat} (h:PS X st (n9 (tN X.K O gl) (iM i))) (hi:i∈O:=by decide):PS X st (tS X.K O fr (gg i gl)):=h.mono λE σ H hh=>hh.e λH0 U A0 δ r R F ed P=>by
 obtain ⟨d,e1,e2⟩:=bind1 ed
 cases e2
 exact ⟨U,A0,δ,d,R,e1,λr ys H' s hr h1 h2=>P (r :: U) _ H' (R.Vp s hr h1 h2 hi) (F.more s hr)⟩
theorem Oc {gt:D->DS->Option DS} (h:PS X st (n9 (tE X.K O ge) (tG X.K O gt))):PS X st (tS X.K O fr (JQ ge gt)):=h.mono λE σ H hh=>hh.e λH0 U A0 δ r R F ed P=>by
 obtain ⟨d,e1,e2⟩:=bind1 ed
 obtain ⟨δ',e3,e4⟩:=bind1 e2
 cases e4
 exact ⟨U,A0,δ,d,R,e1,λv H' s hv=>⟨U,A0,δ,d,δ',R.same s,hv,e3,λcT R'=>P U cT H' R' (F.grow s)⟩⟩
theorem JR (h:PS X st (uo (tE X.K O ge))):PS X st (tS X.K O fr (BR ge)):=h.mono λE σ H hh=>hh.e λH0 U A0 δ r R F ed P=>by
 obtain ⟨d,e1,e2⟩:=bind1 ed
 cases e2
 exact ⟨U,A0,δ,d,R,e1,λv H' s hv=>P U σ H' (R.same s) (F.grow s)⟩
theorem bZ (h:PE X e (tE X.K O ge)):PS X (.Return (some e) pos) (tS X.K O false (bT ge)):=(vw h).mono λE σ H hh=>hh.e λH0 U A0 δ r R F ed P=>by
 obtain ⟨d,e1,e2⟩:=bind1 ed
 cases e2
 refine ⟨U,A0,δ,d,R,e1,λv H' s hv=>P v H' ?_⟩
 unfold qA
 rw [acW acP]
 exact ⟨F.same.trans s,hv.same (kc λa ha=>acX _ ha)⟩
theorem fM (h:PE X e (tN X.K O gl)):PS X (.Return (some e) pos) (tS X.K O true (bT (aP gl))):=(vw h).mono λE σ H hh=>hh.e λH0 U A0 δ r R F ed P=>by
 obtain ⟨d,e1,e2⟩:=bind1 ed
 cases e2
 unfold aP at e1
 cases eg:gl δ with
 | none=>rw [eg] at e1; cases e1
 | some l=>
   rw [eg] at e1; cases e1
   refine ⟨U,A0,δ,l,R,eg,λr ys H' s hr h1 h2=>P (.ref r) H' ?_⟩
   unfold qA
   rw [acU rfl]
   refine ⟨r,_,rfl,F.same.trans s,F.same.free hr,h1,.lst (h2.same (kc λa ha=>?_))⟩
   rcases acK.mp ha with z | z
   .subst z; simp
   .exact acO _ (acX _ z)
theorem c7 {i:Nat} (h:PE X e (n6 i)) (hi:i∈O:=by decide):PS X (.Return (some e) pos) (tS X.K O fr (bT (ae i))):=(vw h).mono λE σ H hh=>hh.e λH0 U A0 δ r R F ed P=>by
 obtain ⟨d,e1,e2⟩:=bind1 ed
 cases e2
 obtain ⟨l,o,hl,hU,h1,h2⟩:=R.ow i d hi (join_some e1)
 refine ⟨.ref l,hl,P (.ref l) H ?_⟩
 unfold qA
 split
 .refine ⟨l,o,rfl,F.same,F.new l hU,h1,h2.same (kc λa ha=>?_)⟩
  rcases acK.mp ha with z | z
  .subst z; exact adv _ hU
  .exact acX _ z
 .refine ⟨F.same,(h2.same (kc λa ha=>acX _ ha)).hd ?_⟩
  rw [cn (F.out hU)]; exact h1
def lg (i:Nat) (g:DS->Option D):DS->Option Res:=λδ=>(ae i δ).bind λx=>(g δ).bind λd=>match x with
 | .list ds=>if ds.length < 100000 then some (.nx (δ.set i (some (.list (ds ++ [d]))))) else none
 | _=>none
set_option tactic.hygienic true in
theorem dG {i:Nat} (h:PS X st (uo (Tj X.K "list" vD (n6 i) (BB (tE X.K O ge) Jm)))) (hi:i∈O:=by decide):PS X st (tS X.K O fr (lg i ge)):=h.mono λE σ H hh=>hh.e λH0 U A0 δ r R F ed P=>by
 obtain ⟨x,e1,e2⟩:=bind1 ed
 obtain ⟨d,e3,e4⟩:=bind1 e2
 rcases R.Qf i x hi (join_some e1) with ⟨l,ys,ds,hl,rfl,hU,h1,h2⟩ | ⟨kds,rfl⟩
 rotate_left
 ·(exfalso; simp_all; done)
 simp only at e4
 split at e4
 .rename_i hz
  cases e4
  refine ⟨.ref l,hl,.inl ⟨rfl,ys,gX.of h1⟩,U,A0,δ,d,R,e3,λv H' s hv=>?_⟩
  have Rt:=s _ _ h1
  have BS:=h2.same (b9 (A:=U ++ A0) s)
  have hlen:=h2.len
  refine ⟨l,ys,v,rfl,rfl,Rt,rC (by omega),?_⟩
  exact P U σ _ ((R.same s).put hi hl hU (BS.app (.cons hv .nil)) ⟨_,join_some e1⟩) ((F.grow s).put hU _)
 .cases e4
def Od (i:Nat):DS->Option Res:=λδ=>(ae i δ).bind λx=>match x with
 | .list ds=>if ds=[] then none else some (.nx (δ.set i (some (.list ds.dropLast))))
 | _=>none
set_option tactic.hygienic true in
theorem Oe {i:Nat} (h:PS X st (uo (Jx X.K "list" NJ (n6 i)))) (hi:i∈O:=by decide):PS X st (tS X.K O fr (Od i)):=h.mono λE σ H hh=>hh.e λH0 U A0 δ r R F ed P=>by
 obtain ⟨x,e1,e2⟩:=bind1 ed
 rcases R.Qf i x hi (join_some e1) with ⟨l,ys,ds,hl,rfl,hU,h1,h2⟩ | ⟨kds,rfl⟩
 rotate_left
 ·(exfalso; simp_all; done)
 simp only at e2
 split at e2
 .cases e2
 .rename_i hz
  cases e2
  have hlen:=h2.len
  have vM:0 < ds.length:=agg.mpr hz
  obtain ⟨y,hy⟩:∃ y,ys[ys.length - 1]?=some y:=⟨_,acL (by omega)⟩
  refine ⟨.ref l,hl,.inl ⟨rfl,ys,gX.of h1⟩,l,ys,y,rfl,rfl,h1,hy,?_⟩
  exact P U σ _ (R.put hi hl hU h2.uC ⟨_,join_some e1⟩) (F.put hU _)
def ki (i:Nat) (gx ge:DS->Option D):DS->Option Res:=λδ=>(ge δ).bind λd=>(ae i δ).bind λx=>(gx δ).bind λk=>match x,k with
 | .list ds,.int n=>(xp ds.length n).bind λj=>some (.nx (δ.set i (some (.list (ds.set j d)))))
 | _,_=>none
theorem xT {i:Nat} {gx:DS->Option D} (h:PS X st (n9 (tE X.K O ge) (QM (n6 i) (ib X.K O gx) Fc))) (hi:i∈O:=by decide):PS X st (tS X.K O fr (ki i gx ge)):=h.mono λE σ H hh=>hh.e λH0 U A0 δ r R F ed P=>by
 obtain ⟨d,e1,e2⟩:=bind1 ed
 obtain ⟨x,e3,e4⟩:=bind1 e2
 obtain ⟨k,e5,e6⟩:=bind1 e4
 rcases R.Qf i x hi (join_some e3) with ⟨l,ys,ds,hl,rfl,hU,h1,h2⟩ | ⟨kds,rfl⟩
 rotate_left
 ·(exfalso; simp_all; done)
 cases k with
 | int n=>
   obtain ⟨j,e7,e8⟩:=bind1 e6
   cases e8
   refine ⟨U,A0,δ,d,R,e1,λv H1 s1 hv=>⟨.ref l,hl,U,A0,δ,_,R.same s1,e5,λv2 H2 s2 BS=>?_⟩⟩
   have s:=s1.trans s2
   refine ⟨l,ys,n,j,rfl,BS.int,s _ _ h1,by rw [h2.len]; exact e7,?_⟩
   exact P U σ _ ((R.same s).put hi hl hU (cx.N1 (hv.same (b9 s2)) j (h2.same (b9 s))) ⟨_,join_some e3⟩) ((F.grow s).put hU _)
 | _=>cases e6
end
def vN (c:DS->Option Bool) (b:DS->Option Res):Nat->DS->Option Res
 | 0,_=>none
 | n + 1,δ=>(c δ).bind λx=>if x=true then (b δ).bind (λ| .nx δ'=>vN c b n δ' | .ct δ'=>vN c b n δ' | .bk δ'=>some (.nx δ') | .rt d=>some (.rt d)) else some (.nx δ)
theorem zT {c:DS->Option Bool} {b:DS->Option Res}:∀ {n:Nat} {δ:DS} {r:Res},vN c b n δ=some r->vN c b (n + 1) δ=some r
 | 0,_,_,h=>by cases h
 | n + 1,δ,r,h=>by
   rw [vN] at h ⊢
   obtain ⟨x,e1,e2⟩:=bind1 h
   rw [e1,acJ]
   cases x with
   | false=>exact e2
   | true=>
     rw [acU rfl] at e2 ⊢
     obtain ⟨q,e3,e4⟩:=bind1 e2
     rw [e3,acJ]
     cases q with
     | nx δ'=>exact zT e4
     | ct δ'=>exact zT e4
     | bk _=>exact e4
     | rt _=>exact e4
theorem FG {c:DS->Option Bool} {b:DS->Option Res} {n m:Nat} {δ:DS} {r:Res} (h:vN c b n δ=some r) (hm:n<=m):vN c b m δ=some r:=by
 induction hm with
 | refl=>exact h
 | step _ ih=>exact zT ih
open Classical in
def eS (c:DS->Option Bool) (b:DS->Option Res):DS->Option Res:=λδ=>if h:∃ p:Nat×Res,vN c b p.1 δ=some p.2 then some (choose h).2 else none
set_option tactic.hygienic true in
theorem xU {c:DS->Option Bool} {b:DS->Option Res} {δ:DS} {r:Res} (h:eS c b δ=some r):∃ n,vN c b n δ=some r:=by
 unfold eS at h
 split at h
 .rename_i hp
  cases h
  exact ⟨_,Classical.choose_spec hp⟩
 .cases h
theorem Dl {c:DS->Option Bool} {b:DS->Option Res} {n:Nat} {δ:DS} {r:Res} (h:vN c b n δ=some r):eS c b δ=some r:=by
 have hp:∃ p:Nat×Res,vN c b p.1 δ=some p.2:=⟨(n,r),h⟩
 unfold eS
 rw [dif_pos hp]
 have h2:=Classical.choose_spec hp
 have a1:=FG h (Nat.le_max_left n (Classical.choose hp).1)
 have a2:=FG h2 (Nat.le_max_right n (Classical.choose hp).1)
 rw [a1] at a2
 exact a2.symm
theorem Dm {c:DS->Option Bool} {b:DS->Option Res} (W:Nat->DS->Prop) (r:DS->Res->Prop) (m:Nat) (δ:DS) (h:W m δ)
  (hs:∀ m δ,W m δ->(c δ=some false /\ r δ (.nx δ)) \/ (c δ=some true /\ ((∃ δ' m',(b δ=some (.nx δ') \/ b δ=some (.ct δ')) /\ m' < m /\ W m' δ' /\ ∀ q,r δ' q->r δ q) \/ (∃ δ',b δ=some (.bk δ') /\ r δ (.nx δ')) \/ ∃ d,b δ=some (.rt d) /\ r δ (.rt d)))):
  ∃ q,eS c b δ=some q /\ r δ q:=by
 suffices hh:∀ k m δ,m < k->W m δ->∃ n q,vN c b n δ=some q /\ r δ q by
  obtain ⟨n,q,e,hq⟩:=hh (m + 1) m δ (adX m) h
  exact ⟨q,Dl e,hq⟩
 intro k
 induction k with
 | zero=>intro m δ hm; omega
 | succ k ih=>
   intro m δ hm hW
   rcases hs m δ hW with ⟨hc,hr⟩ | ⟨hc,⟨δ',m',hb,iG,hW',imp⟩ | ⟨δ',hb,hr⟩ | ⟨d,hb,hr⟩⟩
   .exact ⟨1,_,by rw [vN,hc]; rfl,hr⟩
   .obtain ⟨n,q,e,hq⟩:=ih m' δ' (by omega) hW'
    refine ⟨n + 1,q,?_,imp q hq⟩
    rw [vN,hc,acJ,acU rfl]
    rcases hb with hb | hb <;> rw [hb,acJ] <;> exact e
   .exact ⟨1,_,by rw [vN,hc,acJ,acU rfl,hb]; rfl,hr⟩
   .exact ⟨1,_,by rw [vN,hc,acJ,acU rfl,hb]; rfl,hr⟩
section
variable {X:Cx} {O:List Nat} {fr:Bool} {body:List Stmt} {gb:DS->Option Res} {gc:DS->Option Bool} {c:Expr} {pos:Pos}
theorem i8 (hp:PassesOwn (model X.prog X.w) X.A X.env X.xe) (hc:PT X c (tT X.K O gc)) (hb:mR X body (tS X.K O fr gb)):PS X (.While c body [] pos) (tS X.K O fr (eS gc gb)):=(EZ hp hc hb).mono λE σ H hh=>hh.e λH0 U A0 δ r R F ed P=>by
 obtain ⟨n,en⟩:=xU ed
 refine ⟨λm σ H=>∃ U δ,Rel X.K O U A0 σ δ H /\ Fx H0 A0 U H /\ vN gc gb m δ=some r,⟨n,U,δ,R,F,en⟩,?_⟩
 rintro m σ H ⟨U,δ,R,F,em⟩
 cases m with
 | zero=>cases em
 | succ m=>
   rw [vN] at em
   obtain ⟨x,e1,e2⟩:=bind1 em
   refine ⟨U,A0,δ,x,R,e1,λH' s=>?_⟩
   cases x with
   | false=>rw [acW acP] at e2 ⊢; cases e2; exact P U σ H' (R.same s) (F.grow s)
   | true=>
     rw [acU rfl] at e2 ⊢
     obtain ⟨q,e3,e4⟩:=bind1 e2
     refine ⟨λcT H'=>∃ m',m' < m + 1 /\ ∃ U δ,Rel X.K O U A0 cT δ H' /\ Fx H0 A0 U H' /\ vN gc gb m' δ=some r,λ_ _ h=>h,H0,U,A0,δ,q,R.same s,F.grow s,e3,?_⟩
     cases q with
     | nx δ'=>exact λU' cT H' R' F'=>⟨m,adX m,U',δ',R',F',e4⟩
     | ct δ'=>exact λU' cT H' R' F'=>⟨m,adX m,U',δ',R',F',e4⟩
     | bk δ'=>cases e4; exact P
     | rt d=>cases e4; exact P
end
def au (i:Nat):D->DS->Option DS:=λd δ=>some (δ.set i (some d))
def cW (n:Nat) (g:List D->DS->Option DS):D->DS->Option DS:=λd δ=>match d with
 | .tuple ds=>if ds.length=n then g ds δ else none
 | _=>none
def cY:List D->DS->Option DS:=λds δ=>if ds=[] then some δ else none
def aO (t:D->DS->Option DS) (u:List D->DS->Option DS):List D->DS->Option DS:=λds δ=>match ds with
 | d :: r=>(t d δ).bind λδ'=>u r δ'
 | []=>none
def Qh (K:PySem.W.Frag) (O:List Nat) (g:List D->DS->Option DS):Jd:=λvs σ H Q=>∃ U A0 δ ds δ',Rel K O U A0 σ δ H /\ cx K (wo H (U ++ A0)) vs ds /\ g ds δ=some δ' /\ ∀ cT,Rel K O U A0 cT δ' H->Q cT H
theorem Qh.e {K:PySem.W.Frag} {O:List Nat} {g:List D->DS->Option DS}  {vs:_} {σ:_} {H:_} {Q:_} {GG:Prop} (hh:Qh K O g vs σ H Q) (kk:∀ U A0 δ ds δ',(Rel K O U A0 σ δ H)->(cx K (wo H (U ++ A0)) vs ds)->(g ds δ=some δ')->(∀ cT,Rel K O U A0 cT δ' H->Q cT H)->GG):GG:=by obtain ⟨U,A0,δ,ds,δ',x0,x1,x2,x3⟩:=hh; exact kk U A0 δ ds δ' x0 x1 x2 x3
section
variable {X:Cx} {O:List Nat} {e:Expr} {es:List Expr} {pos:Pos}
theorem EU.mono {t t':Jd} (h:EU X es t) (m:∀ v σ H Q,t' v σ H Q->t v σ H Q):EU X es t':=λpins s σ H v u Q I r q=>h pins s σ H v u Q I r (m v σ H Q q)
theorem ar {i:Nat} (h:PG X e (iM i)) (hi:i∉O:=by decide):PG X e (tG X.K O (au i)):=h.mono λv σ H Q hh=>hh.e λU A0 δ d δ' R hd e1 q=>by
 cases e1
 exact q _ (R.set hi hd)
set_option tactic.hygienic true in
theorem dS:EU X [] (Qh X.K O cY):=Bz.mono λvs σ H Q hh=>hh.e λU A0 δ ds δ' R hd e1 q=>by
 unfold cY at e1
 split at e1
 .rename_i hz
  cases e1
  subst hz
  cases hd
  exact ⟨rfl,q σ R⟩
 .cases e1
theorem aZ {t:D->DS->Option DS} {u:List D->DS->Option DS} (h1:PG X e (tG X.K O t)) (h2:EU X es (Qh X.K O u)) (hs:(assignEach (e :: es) X.env).map (·.2)=assign e X.env :: (assignEach es X.env).map (·.2):=by rfl):EU X (e :: es) (Qh X.K O (aO t u)):=
 (rg h1 h2 hs).mono λvs σ H Q hh=>hh.e λU A0 δ ds δ' R hd e1 q=>by
  cases hd with
  | nil=>cases e1
  | cons hx hr=>
    obtain ⟨fh,e2,e3⟩:=bind1 e1
    exact ⟨_,_,rfl,U,A0,δ,_,fh,R,hx,e2,λLF R1=>⟨U,A0,fh,_,δ',R1,hr,e3,q⟩⟩
set_option tactic.hygienic true in
theorem dU {n k:Nat} {t:List D->DS->Option DS} (hc:X.calm=true) (h:EU X es (Qh X.K O t)) (hn:(assignEach es X.env).length=n:=by rfl) (QL:(assignEach es X.env).findIdx? (·.1)=none:=by rfl):PG X (.Tuple es k pos) (tG X.K O (cW n t)):=
 (EX hc h hn QL).mono λv σ H Q hh=>hh.e λU A0 δ d δ' R hd e1 q=>by
  unfold cW at e1
  split at e1
  .split at e1
   .rename_i hz
    obtain ⟨a,xs,rfl,h1,h2⟩:=(iE.of hd).tuple
    exact ⟨a,xs,rfl,h1,by rw [h2.len]; exact hz,U,A0,δ,_,δ',R,h2,e1,q⟩
   .cases e1
  .cases e1
end
def oA (t:D->DS->Option DS) (b:DS->Option Res):List D->DS->Option Res
 | [],δ=>some (.nx δ)
 | d :: ds,δ=>(t d δ).bind λfh=>(b fh).bind λ| .nx δ'=>oA t b ds δ' | .ct δ'=>oA t b ds δ' | .bk δ'=>some (.nx δ') | .rt d=>some (.rt d)
def eT (gi:DS->Option (List D)) (t:D->DS->Option DS) (b:DS->Option Res):DS->Option Res:=λδ=>(gi δ).bind λds=>oA t b ds δ
set_option tactic.hygienic true in
theorem qA.trans {K:PySem.W.Frag} {fr:Bool} {H0 H H':Hp} {A0 U:List Addr} {v:V} {d:D} (F:Fx H0 A0 U H) (h:qA K fr (wo H U) A0 v d H'):qA K fr H0 A0 v d H':=by
 have k:∀ a o,H0 a=some o->wo H U a=some o:=λa o e=>by
  rw [cn λz=>?_]
  .exact F.same _ _ e
  .rw [F.new a z] at e; cases e
 unfold qA at h ⊢
 split
 .rename_i hf
  rw [acU hf] at h
  obtain ⟨r,ob,a,c,e,f,g⟩:=h
  refine ⟨r,ob,a,λx o q=>c _ _ (k x o q),?_,f,g⟩
  cases q:H0 r with
  | none=>rfl
  | some o=>rw [k r o q] at e; cases e
 .rename_i hf
  rw [acW hf] at h
  exact ⟨λx o q=>h.1 _ _ (k x o q),h.2⟩
section
variable {X:Cx} {O:List Nat} {fr:Bool} {body:List Stmt} {gb:DS->Option Res} {gi:DS->Option (List D)} {tg iter:Expr} {gt:D->DS->Option DS} {pos:Pos}
theorem cZ (hp:PassesOwn (model X.prog X.w) X.A X.env X.xe) (hc:X.calm=true) (hi:PI X tg iter (tI X.K O gi)) (hg:PG X tg (tG X.K O gt)) (hb:mR X body (tS X.K O fr gb))
  (hs:∀ x,foldedSetIterable iter X.env x=pure x:=by intro _; rfl):PS X (.For tg iter body [] pos) (tS X.K O fr (eT gi gt gb)):=(E2 hp hc hi hg hb hs).mono λE σ H hh=>hh.e λH0 U A0 δ r R F ed P=>by
 obtain ⟨ds,e1,e2⟩:=bind1 ed
 refine ⟨U,A0,δ,ds,R,e1,λJ H1 s hw=>?_⟩
 have F1:=F.grow s
 refine ⟨λi m σ H=>m=ds.length - i /\ i<=ds.length /\ ∃ U2 δ,Rel X.K O U2 A0 σ δ H /\ Fx H0 A0 U2 H /\ Fx (wo H1 U) A0 U2 H /\ oA gt gb (ds.drop i) δ=some r,⟨ds.length,by simp,Nat.zero_le _,U,δ,R.same s,F1,F1.here,by simpa using e2⟩,?_⟩
 rintro i m σ H ⟨rfl,hle,U2,δ,R2,F2,G2,ef⟩
 obtain ⟨Of,rR⟩:=hw (U2 ++ A0) i H G2.keeps R2.al
 by_cases iG:i < ds.length
 .obtain ⟨d,hd⟩:∃ d,ds[i]?=some d:=⟨_,acL iG⟩
  have BU:ds.drop i=d :: ds.drop (i + 1):=by
   rw [ael iG]
   rw [acL iG] at hd
   cases hd; rfl
  obtain ⟨go,hy⟩:=Of d hd
  rw [BU,oA] at ef
  obtain ⟨fh,e3,e4⟩:=bind1 ef
  obtain ⟨q,e5,e6⟩:=bind1 e4
  refine .inr ⟨go,λcT H'=>∃ m',m' < ds.length - i /\ (m'=ds.length - (i + 1) /\ i + 1<=ds.length /\ ∃ U2 δ,Rel X.K O U2 A0 cT δ H' /\ Fx H0 A0 U2 H' /\ Fx (wo H1 U) A0 U2 H' /\ oA gt gb (ds.drop (i + 1)) δ=some r),λ_ _ h=>h,λx H2 y=>?_⟩
  obtain ⟨s2,hx⟩:=hy x H2 y
  refine ⟨U2,A0,δ,d,fh,R2.same s2,hx,e3,λcT R'=>?_⟩
  have F3:=F2.grow s2
  have G3:=G2.grow s2
  refine ⟨wo H2 U2,U2,A0,fh,q,R',F3.here,e5,?_⟩
  cases q with
  | nx δ'=>exact λU' cT H' R' F'=>⟨_,by omega,rfl,iG,U',δ',R',F3.trans F',G3.trans F',e6⟩
  | ct δ'=>exact λU' cT H' R' F'=>⟨_,by omega,rfl,iG,U',δ',R',F3.trans F',G3.trans F',e6⟩
  | bk δ'=>cases e6; exact λU' cT H' R' F'=>P U' cT H' R' (F3.trans F')
  | rt d=>cases e6; exact λv H' h=>P v H' (h.trans F3)
 .have hi:i=ds.length:=by omega
  subst hi
  rw [afm,oA] at ef
  cases ef
  exact .inl ⟨rR rfl,P U2 σ H R2 F2⟩
end
def g7 (lo:Int) (n:Nat):List D:=(List.range n).map λk:Nat=>PyData.int (lo + k)
theorem zU {lo:Int} {n i:Nat} {d:D} (h:(g7 lo n)[i]?=some d):i < n /\ d=.int (lo + i):=by
 unfold g7 at h
 rw [adb] at h
 cases e:(List.range n)[i]? with
 | none=>rw [e] at h; cases h
 | some k=>
   rw [e] at h; cases h
   have hi:=(acN.mp e).1
   rw [afg] at hi
   rw [afo hi] at e
   cases e
   exact ⟨hi,rfl⟩
theorem zV {lo:Int} {n:Nat}:(g7 lo n).length=n:=by unfold g7; simp
theorem qo {K:PySem.W.Frag} {A:List Addr} {H1:Hp} {lo:Int} {n:Nat}:Walks K A H1 (QR lo n) (g7 lo n):=by
 intro A' i H _ _
 refine ⟨λd hd=>?_,λhi=>?_⟩
 .obtain ⟨hi,rfl⟩:=zU hd
  refine ⟨hi,λx H2 y=>?_⟩
  obtain ⟨rfl,rfl⟩:=y
  exact ⟨aL.refl _,.int _⟩
 .rw [zV] at hi
  subst hi
  exact ac1 _
def fN (g:DS->Option (List D)):DS->Option (List D):=λδ=>(g δ).bind λ| [.int j]=>if -(2 ^ 62)<=j /\ j < 2 ^ 62 then some (g7 0 j.toNat) else none | _=>none
def qN (g:DS->Option (List D)):DS->Option (List D):=λδ=>(g δ).bind λ| [.int i,.int j]=>if -(2 ^ 62)<=i /\ i < 2 ^ 62 /\ -(2 ^ 62)<=j /\ j < 2 ^ 62 then some (g7 i (j - i).toNat) else none | _=>none
def aI (g:DS->Option D):DS->Option (List D):=λδ=>(g δ).bind λ| .list l=>some l | .tuple l=>some l | _=>none
section
variable {X:Cx} {O:List Nat} {tg a b e:Expr} {gr:DS->Option (List D)} {ge:DS->Option D} {pos p:Pos}
set_option tactic.hygienic true in
theorem g8 (hm:X.mg "range"=none) (ha:PA X [a] (Di X.K O gr)) (hg:Gl X "range":=by rfl) (hs:starEach [a] X.env=[(false,eval a X.env)]:=by rfl):PI X tg (.Call (.Name "range" p) [a] [] pos) (tI X.K O (fN gr)):=(CZ hg hm ha hs).mono λσ H Q hh=>hh.e λU A0 δ ds R ed q=>by
 obtain ⟨x,e1,e2⟩:=bind1 ed
 refine ⟨U,A0,δ,x,R,e1,λvs H' s h=>?_⟩
 split at e2
 .split at e2
  .rename_i hz
   cases e2
   cases h with
   | cons h1 h2=>
     cases h2
     cases h1
     exact ⟨_,rfl,hz.1,hz.2,q _ H' s qo⟩
  .cases e2
 .cases e2
set_option tactic.hygienic true in
theorem Dq (hm:X.mg "range"=none) (ha:PA X [a,b] (Di X.K O gr)) (hg:Gl X "range":=by rfl) (hs:starEach [a,b] X.env=[(false,eval a X.env),(false,eval b X.env)]:=by rfl) (oa:starEach [b] X.env=[(false,eval b X.env)]:=by rfl):PI X tg (.Call (.Name "range" p) [a,b] [] pos) (tI X.K O (qN gr)):=(C0 hg hm ha hs oa).mono λσ H Q hh=>hh.e λU A0 δ ds R ed q=>by
 obtain ⟨x,e1,e2⟩:=bind1 ed
 refine ⟨U,A0,δ,x,R,e1,λvs H' s h=>?_⟩
 split at e2
 .split at e2
  .rename_i hz
   cases e2
   cases h with
   | cons h1 h2=>cases h2 with
     | cons h2 h3=>
       cases h3
       cases h1
       cases h2
       exact ⟨_,_,rfl,hz,q _ H' s qo⟩
  .cases e2
 .cases e2
def Vt (K:PySem.W.Frag) (tl:TE):TI:=λσ H R=>tl σ H λx H1=>(∃ a,x=.ref a /\ (∃ xs,gX K H1 a xs) /\ R (Itl K a) H1) \/ ∃ a,x=.ref a /\ (∃ xs,jN K H1 a xs) /\ R (Itt K a) H1
theorem FH {l:Expr} {tl:TE} (hl:PE X l tl):PI X tg l (Vt X.K tl):=by
 intro pins s σ H R I h
 refine dz (hl pins s σ H _ I h) λv s1 ⟨x,H1,I1,r1,q1⟩=>?_
 rcases q1 with ⟨a,e,⟨xs,hq⟩,q⟩ | ⟨a,e,⟨xs,hq⟩,q⟩
 .subst e
  cases r1
  obtain ⟨its,rv,p,hz⟩:=I1.list hq
  refine afh p.isList ?_
  refine ⟨s1.heap.objs.size,[s1.heap.objs.size],_,_,H1,rfl,I1.kept (t':=s1.toks) λb o e=>acM _ e,CW a _,⟨_,ac8 _ rfl,rfl,rfl⟩,λb hb=>?_,q⟩
  have e:b=s1.heap.objs.size:=by simpa using hb
  subst e
  exact I1.qy (ac1 _) (I1.cS.fresh (ac1 _))
 .subst e
  cases r1
  obtain ⟨its,rv,p,hz⟩:=I1.tuple hq
  refine wpAny_pyIter_tuple (show s1.heap.IsTuple a its.toArray from p) ?_
  refine ⟨s1.heap.objs.size,[s1.heap.objs.size],_,_,H1,rfl,I1.kept (t':=s1.toks) λb o e=>acM _ e,zy a _,⟨_,ac8 _ rfl,rfl,rfl⟩,λb hb=>?_,q⟩
  have e:b=s1.heap.objs.size:=by simpa using hb
  subst e
  exact I1.qy (ac1 _) (I1.cS.fresh (ac1 _))
theorem bD (h:PE X e (tE X.K O ge)):PI X tg e (tI X.K O (aI ge)):=(FH h).mono λσ H Q hh=>hh.e λU A0 δ ds R ed q=>by
 obtain ⟨x,e1,e2⟩:=bind1 ed
 cases x with
 | list l=>
   cases e2
   refine ⟨U,A0,δ,_,R,e1,λv H' s h=>?_⟩
   cases h with
   | lst hq h=>
     refine .inl ⟨_,rfl,⟨_,(hq.same cw).sq⟩,q _ H' s ?_⟩
     intro A' i H2 s2 _
     have Dr:=hq.same s2
     have h2:=h.same s2
     have hL:gX X.K H2 _ _:=(Dr.same cw).sq
     refine ⟨λd hd=>?_,λhi=>⟨_,hL,by rw [h2.len]; omega⟩⟩
     obtain ⟨x,hx,Og⟩:=h2.get hd
     refine ⟨⟨_,x,hL,hx⟩,λy H3 hy=>?_⟩
     obtain ⟨rfl,hy⟩:=hy
     have:=hy _ hL
     rw [hx] at this
     cases this
     exact ⟨aL.refl _,Og⟩
 | tuple l=>
   cases e2
   refine ⟨U,A0,δ,_,R,e1,λv H' s h=>?_⟩
   cases h with
   | tup hq h=>
     refine .inr ⟨_,rfl,⟨_,(.inl (cw.oq hq))⟩,q _ H' s ?_⟩
     intro A' i H2 s2 _
     have Dr:=s2.oq hq
     have h2:=h.same s2
     have hL:jN X.K H2 _ _:=.inl (cw.oq Dr)
     refine ⟨λd hd=>?_,λhi=>⟨_,hL,by rw [h2.len]; omega⟩⟩
     obtain ⟨x,hx,Og⟩:=h2.get hd
     refine ⟨⟨_,x,hL,hx⟩,λy H3 hy=>?_⟩
     obtain ⟨rfl,hy⟩:=hy
     have:=hy _ hL
     rw [hx] at this
     cases this
     exact ⟨aL.refl _,Og⟩
 | _=>cases e2
end
def eB (ix:List Nat) (δ:DS):DS:=ix.map λj=>(δ[j]?).join
def FI (f:D->Option D):List D->Option (List D)
 | []=>some []
 | d :: ds=>(f d).bind λx=>(FI f ds).bind λxs=>some (x :: xs)
def cD (gi:DS->Option (List D)) (ix:List Nat) (ge:DS->Option D):DS->Option (List D):=λδ=>(gi δ).bind λds=>if ds.length<=100000 then FI (λd=>ge (some d :: eB ix δ)) ds else none
section
variable {X:Cx} {O:List Nat} {fr:Bool} {scope:Scope} {x:Str} {elt iter:Expr} {px pos:Pos} {gi:DS->Option (List D)} {ge:DS->Option D}
theorem PS.nE {st:Stmt} {i:Nat} {g:DS->Option (List D)} (h:PS X st (n9 (tN X.K O g) (iM i))):PS X st (n9 (tE X.K O (aP g)) (iM i)):=h.mono λ_ _ _ h=>LY h
end
def gW:Res->Option D
 | .rt d=>some d
 | .nx _=>some .none
 | _=>none
def eU:Res->Option (List D)
 | .rt (.list l)=>some l
 | _=>none
def gE (n:Nat) (g:DS->Option Res):List D->Option D:=λds=>(g (ds.map some ++ List.replicate (n - ds.length) none)).bind gW
def eM (n:Nat) (g:DS->Option Res):List D->Option (List D):=λds=>(g (ds.map some ++ List.replicate (n - ds.length) none)).bind eU
theorem Rel.start {K:PySem.W.Frag} {O:List Nat} {A:List Addr} {N:List Str} {vs:List V} {ds:List D} {H:Hp} (al:Ls A H) (h:cx K (wo H A) vs ds) (hO:∀ i∈O,ds.length<=i):Rel K O [] A (start N vs) (ds.map some ++ List.replicate (N.length - ds.length) none) H:=by
 have hl:=h.len
 have none_of:∀ (i:Nat) d,ds.length<=i->(ds.map some ++ List.replicate (N.length - ds.length) none)[i]?=some (some d)->False:=by
  intro i d hi q
  rw [List.getElem?_append_right (by simpa using hi)] at q
  have:=adk q
  rw [List.mem_replicate] at this
  exact absurd this.2 (by simp)
 exact {
  len:=by unfold L2.start; simp [hl]
  fz:=λi d _ q=>by
   by_cases hi:i < ds.length
   .rw [List.getElem?_append_left (by simpa using hi),List.getElem?_map,List.getElem?_eq_getElem hi] at q
    simp only [adT,aex] at q
    obtain ⟨v,e,hv⟩:=h.get (acL hi)
    refine ⟨v,?_,?_⟩
    .unfold L2.start
     rw [List.getElem?_append_left (by rw [acH]; omega),adb,e]; rfl
    .rw [af9,<- q]; exact hv
   .exact (none_of i d (by omega) q).elim
  ow:=λi d hi q=>(none_of i d (hO i hi) q).elim
  inj:=λi j d e l hi _ _ q=>(none_of i d (hO i hi) q).elim
  al:=al }
theorem Fx.start {A:List Addr} {H:Hp} (al:Ls A H):Fx H A [] H:=⟨aL.refl H,λ_ h=>by simp at h,al⟩
section
variable {P:Program} {w:World} {K:PySem.W.Frag} {mg:Str->Option Value} {base:Heap} {x:Str} {st:Stmt} {N ps:List Str} {k:Nat}
theorem cB (O:List Nat) (g:DS->Option Res) (F:Df K mg x st ps) (S:aB N ps (ah st))
  (body:∀ (f:Addr) (cU:Value) (A:Around) (outer:List Env) (s:Shared) (H:Hp) (E:XK),gT k (A.deeper (envOfC x (ah st) s.heap.objs.size f cU))->mR (tO C9 P w K mg base N x (ah st) f cU A outer s H E).LD (fL st) (tS K O false g))
  (hO:∀ i∈O,ps.length<=i:=by decide) {n m:Nat} (hN:N.length=n:=by rfl) (hP:ps.length=m:=by rfl):Dn P w K mg base (k + 1) x ps (lD K m (gE n g)):=by
 subst hN hP
 refine F.ok S (λvs H Q E h=>h.1) (λf cU A outer s H vs Q E hr h=>⟨_,body f cU A outer s H E hr,?_⟩)
 obtain ⟨hn,A',ds,d,al,hd,e,q⟩:=h
 obtain ⟨r,e1,e2⟩:=bind1 e
 refine ⟨H,[],A',_,r,Rel.start al hd (λi hi=>by have:=hO i hi; rw [<- hd.len,hn]; exact this),Fx.start al,e1,?_⟩
 cases r with
 | nx δ=>cases e2; exact λU σ H' R F'=>q .jz H' F'.same .jz
 | rt d=>cases e2; exact λv H' h=>by unfold qA at h; rw [if_neg Bool.false_ne_true] at h; exact q v H' h.1 h.2
 | bk _=>cases e2
 | ct _=>cases e2
theorem Ru {f:Addr} {fd:FuncData} (O:List Nat) (g:DS->Option Res) (F:gD K x x st f fd) (S:aB N ps (ah st))
  (body:∀ (f:Addr) (cU:Value) (A:Around) (outer:List Env) (s:Shared) (H:Hp) (E:XK),gT k (A.deeper (envOfC x (ah st) s.heap.objs.size f cU))->mR (tO C9 P w K mg base N x (ah st) f cU A outer s H E).LD (fL st) (tS K O false g))
  (hO:∀ i∈O,ps.length<=i:=by decide) {n m:Nat} (hN:N.length=n:=by rfl) (hP:ps.length=m:=by rfl):rn P w K mg base C9 (k + 1) f fd ps (lD K m (gE n g)):=by
 subst hN hP
 refine F.ok S (λvs H Q E h=>h.1) (λcU A outer s H vs Q E hr h=>⟨_,body f cU A outer s H E hr,?_⟩)
 obtain ⟨hn,A',ds,d,al,hd,e,q⟩:=h
 obtain ⟨r,e1,e2⟩:=bind1 e
 refine ⟨H,[],A',_,r,Rel.start al hd (λi hi=>by have:=hO i hi; rw [<- hd.len,hn]; exact this),Fx.start al,e1,?_⟩
 cases r with
 | nx δ=>cases e2; exact λU σ H' R F'=>q .jz H' F'.same .jz
 | rt d=>cases e2; exact λv H' h=>by unfold qA at h; rw [if_neg Bool.false_ne_true] at h; exact q v H' h.1 h.2
 | bk _=>cases e2
 | ct _=>cases e2
theorem cc (O:List Nat) (g:DS->Option Res) (F:Df K mg x st ps) (S:aB N ps (ah st))
  (body:∀ (f:Addr) (cU:Value) (A:Around) (outer:List Env) (s:Shared) (H:Hp) (E:XK),gT k (A.deeper (envOfC x (ah st) s.heap.objs.size f cU))->mR (tO C9 P w K mg base N x (ah st) f cU A outer s H E).LD (fL st) (tS K O true g))
  (hO:∀ i∈O,ps.length<=i:=by decide) {n m:Nat} (hN:N.length=n:=by rfl) (hP:ps.length=m:=by rfl):Dn P w K mg base (k + 1) x ps (o8 K m (eM n g)):=by
 subst hN hP
 refine F.ok S (λvs H Q E h=>h.1) (λf cU A outer s H vs Q E hr h=>⟨_,body f cU A outer s H E hr,?_⟩)
 obtain ⟨hn,A',ds,d,al,hd,e,q⟩:=h
 obtain ⟨r,e1,e2⟩:=bind1 e
 refine ⟨H,[],A',_,r,Rel.start al hd (λi hi=>by have:=hO i hi; rw [<- hd.len,hn]; exact this),Fx.start al,e1,?_⟩
 cases r with
 | rt d'=>
   intro v H' h
   unfold qA at h
   rw [acU rfl] at h
   obtain ⟨r,ob,rfl,a,b,c,f⟩:=h
   cases f with
   | lst f=>cases e2; exact q r _ H' a b c f
   | rF _ _=>cases e2
 | nx δ=>cases e2
 | bk _=>cases e2
 | ct _=>cases e2
end
def kj (f f':D->D->Option D) (a b c:DS->Option D):DS->Option D:=λδ=>(a δ).bind λx=>(b δ).bind λy=>(f x y).bind λz=>match z with
 | .bool true=>(c δ).bind λw=>f' y w
 | .bool false=>some (.bool false)
 | _=>none
section
variable {X:Cx} {O:List Nat} {a b c:Expr} {ga gb gc:DS->Option D} {pos:Pos} {r r':R2}
theorem xV {K:PySem.W.Frag} {f f':D->D->Option D} (imp:jP K r f) (imp':jP K r' f') {σ:St} {H:Hp} {Q:VK}:tE K O (kj f f' ga gb gc) σ H Q->zD r r' (ib K O ga) (ib K O gb) (ib K O gc) σ H Q:=λ⟨U,A0,δ,d,R,ed,q⟩=>by
 obtain ⟨x,e1,ed⟩:=bind1 ed
 obtain ⟨y,e2,ed⟩:=bind1 ed
 obtain ⟨z,e3,ed⟩:=bind1 ed
 refine ⟨U,A0,δ,x,R,e1,λv1 H1 s1 h1=>⟨U,A0,δ,y,R.same s1,e2,λv2 H2 s2 h2=>imp _ H2 v1 v2 x y z _ (R.same (s1.trans s2)).al (h1.same s2) h2 e3 λv3 H3 s3 h3=>?_⟩⟩
 cases z with
 | bool k=>
   cases h3
   refine ⟨k,rfl,?_⟩
   cases k with
   | true=>
     obtain ⟨w,e4,e5⟩:=bind1 ed
     first
      | rw [acU rfl]
      | skip
     exact ⟨U,A0,δ,w,R.same ((s1.trans s2).trans s3),e4,λv4 H4 s4 h4=>imp' _ H4 v2 v4 y w d Q (R.same (((s1.trans s2).trans s3).trans s4)).al (h2.same (s3.trans s4)) h4 e5 λv H' s h=>q v H' ((((s1.trans s2).trans s3).trans s4).trans s) h⟩
   | false=>
     cases ed
     first
      | rw [acW acP]
      | skip
     exact q _ H3 ((s1.trans s2).trans s3) (.bl _)
 | _=>cases ed
theorem FJ {op zE:CmpOp} {f f':D->D->Option D} (ho:jo X (compareOp op) r) (imp:jP X.K r f) (zw:jo X (compareOp zE) r') (imp':jP X.K r' f') (ha:PE X a (ib X.K O ga)) (hb:PE X b (ib X.K O gb)) (hc:PE X c (ib X.K O gc)) (hm:lastMarks [op,zE] [b,c]=false:=by with_unfolding_all rfl):PE X (.Compare a [op,zE] [b,c] pos) (tE X.K O (kj f f' ga gb gc)):=(E6 ho zw ha hb hc hm).mono λ_ _ _=>xV imp imp'
theorem Ds {op zE:CmpOp} {f f':D->D->Option D} (ho:jo X (compareOp op) r) (imp:jP X.K r f) (zw:jo X (compareOp zE) r') (imp':jP X.K r' f') (ha:PE X a (ib X.K O ga)) (hb:PE X b (ib X.K O gb)) (hc:PE X c (ib X.K O gc)) (hm:lastMarks [op,zE] [b,c]=false:=by with_unfolding_all rfl):PT X (.Compare a [op,zE] [b,c] pos) (tT X.K O (gB (kj f f' ga gb gc))):=(E7 ho zw ha hb hc hm).mono λ_ _ _=>LZ λ_ _ _=>xV imp imp'
end
def Oh (i j:Nat) (g:DS->Option (List D)):DS->Option Res:=λδ=>(g δ).bind λ| [x,y]=>some (.nx ((δ.set i (some x)).set j (some y))) | _=>none
section
variable {X:Cx} {O:List Nat} {fr:Bool} {st:Stmt} {gr:DS->Option (List D)} {i j:Nat}
theorem Oi (h:PS X st (QN i j (Di X.K O gr))) (hi:i∉O:=by decide) (hj:j∉O:=by decide):PS X st (tS X.K O fr (Oh i j gr)):=h.mono λE σ H hh=>hh.e λH0 U A0 δ r R F ed P=>by
 obtain ⟨ds,e1,e2⟩:=bind1 ed
 split at e2
 .cases e2
  refine ⟨U,A0,δ,_,R,e1,λvs H' s hv=>?_⟩
  cases hv with
  | cons h1 h2=>cases h2 with
    | cons h2 h3=>
      cases h3
      exact ⟨_,_,rfl,P U _ H' (((R.same s).set hi h1).set hj h2) (F.grow s)⟩
 .cases e2
end
def BV:D->Option D
 | .int i=>some (.int (Builtin.Int.intBits i:Nat))
 | _=>none
theorem BW {X:Cx} {O:List Nat} {o:Expr} {ga:DS->Option D} {apos fH:Pos} (ho:PE X o (ib X.K O ga)) (oi:attributeBase o "bit_length" X.env (eval o X.env)=eval o X.env:=by rfl) (oj:(apos.endLine == fH.line)=true:=by rfl):
  PE X (.Call (.Attribute o "bit_length" apos) [] [] fH) (tE X.K O (g1 BV ga)):=(JE ho oi oj).mono λσ H Q hh=>hh.e λU A0 δ d R ed q=>by
 obtain ⟨x,e1,e2⟩:=bind1 ed
 cases x with
 | int i=>
   cases e2
   refine ⟨U,A0,δ,_,R,e1,λv H' s h=>?_⟩
   rw [h.int]
   exact ⟨rfl,i,rfl,rfl,q _ H' s (.int _)⟩
 | _=>cases e2
abbrev Oj:D->D->Option D:=L3 (λ_ j=>0<=j) λi j=>.int (i / 2 ^ j.toNat)
def lG:D->Bool
 | .none | .bool _ | .int _ | .str _=>true
 | _=>false
def dV:D->V
 | .none=>.jz
 | .bool b=>.bl b
 | .int i=>.int i
 | .str x=>.str x
 | _=>.jz
def FK (a b:D):Bool:=IP (dV a) (dV b)
def JS:D->D->Option D:=λx y=>match y with
 | .list l=>if (lG x && l.all lG)=true then some (.bool (l.any λz=>FK z x)) else none
 | .tuple l=>if (lG x && l.all lG)=true then some (.bool (l.any λz=>FK z x)) else none
 | _=>none
def mX:D->D->Option D:=λx y=>(JS x y).bind λ| .bool c=>some (.bool (!c)) | _=>none
theorem iE.flat {K:PySem.W.Frag} {A:List Addr} {H:Hp} {v:V} {d:D} (h:iE K A H v d) (f:lG d=true):v=dV d /\ k7 v=true:=by
 cases d with
 | none=>rw [h.jz]; exact ⟨rfl,rfl⟩
 | bool b=>rw [h.bool]; exact ⟨rfl,rfl⟩
 | int i=>rw [h.int]; exact ⟨rfl,rfl⟩
 | str x=>rw [h.str]; exact ⟨rfl,rfl⟩
 | _=>cases f
theorem cx.flat {K:PySem.W.Frag} {H:Hp}:∀ {xs:List V} {ds:List D},cx K H xs ds->ds.all lG=true->xs=ds.map dV /\ xs.all k7=true
 | _,_,.nil,_=>⟨rfl,rfl⟩
 | _,_,.cons h t,f=>by
   rw [agP,adC] at f
   obtain ⟨e1,e2⟩:=cx.flat t f.2
   obtain ⟨e3,e4⟩:=(iE.of (A:=[]) (by rw [zO]; exact h)).flat f.1
   exact ⟨by rw [acQ,<- e1,<- e3],by rw [agP,e4,e2]; rfl⟩
theorem L6 (x:D) (l:List D):NF (dV x) (l.map dV)=l.any λz=>FK z x:=by
 unfold NF FK
 rw [List.any_map]; rfl
section
variable {X:Cx}
theorem FL:jo X (compareOp .In) (Qc X.K false):=C5
theorem uH:jo X (compareOp .NotIn) (Qc X.K true):=vA
end
set_option tactic.hygienic true in
theorem BX {K:PySem.W.Frag} {A:List Addr} {H:Hp} {x y:V} {dx dy d:D} (hx:iE K A H x dx) (hy:iE K A H y dy) (e:JS dx dy=some d):∃ p xs b,y=.ref p /\ (gX K H p xs \/ jN K H p xs) /\ k7 x=true /\ xs.all k7=true /\ d=.bool b /\ NF x xs=b:=by
 unfold JS at e
 split at e
 .split at e
  .rename_i hf
   rw [adC] at hf
   cases e
   obtain ⟨p,xs,rfl,h1,h2⟩:=hy.list
   obtain ⟨e1,e2⟩:=h2.flat hf.2
   obtain ⟨e3,e4⟩:=hx.flat hf.1
   exact ⟨p,xs,_,rfl,.inl h1.sq,e4,e2,rfl,by rw [e1,e3,L6]⟩
  .cases e
 .split at e
  .rename_i hf
   rw [adC] at hf
   cases e
   obtain ⟨p,xs,rfl,h1,h2⟩:=hy.tuple
   obtain ⟨e1,e2⟩:=h2.flat hf.2
   obtain ⟨e3,e4⟩:=hx.flat hf.1
   exact ⟨p,xs,_,rfl,.inr h1,e4,e2,rfl,by rw [e1,e3,L6]⟩
  .cases e
 .cases e
theorem FN {K:PySem.W.Frag}:jP K (Qc K false) JS:=by
 intro A H x y dx dy d Q al hx hy e q
 obtain ⟨p,xs,b,h1,h2,h3,h4,rfl,h5⟩:=BX hx hy e
 refine ⟨p,xs,h1,h2,h3,h4,?_⟩
 show Q (.bl (NF x xs)) H
 rw [h5]
 exact q _ H (aL.refl H) (.bl _)
theorem uI {K:PySem.W.Frag}:jP K (Qc K true) mX:=by
 intro A H x y dx dy d Q al hx hy e q
 obtain ⟨c,e1,e2⟩:=bind1 e
 obtain ⟨p,xs,b,h1,h2,h3,h4,rfl,h5⟩:=BX hx hy e1
 cases e2
 refine ⟨p,xs,h1,h2,h3,h4,?_⟩
 show Q (.bl (!NF x xs)) H
 rw [h5]
 exact q _ H (aL.refl H) (.bl _)
theorem BY (a b:Int):FK (.int a) (.int b)=decide (a=b):=by
 simp only [FK,dV,IP]
 rw [Bool.beq_eq_decide_eq]
def lH (G:List D->Option (List D)) (n:Nat) (g:DS->Option (List D)):DS->Option (List D):=λδ=>(g δ).bind λds=>if ds.length=n then (G ds).bind λd=>if vJ d=true then some d else none else none
set_option tactic.hygienic true in
theorem rS {X:Cx} {O:List Nat} {e:Expr} {es:List Expr} {gr:DS->Option (List D)} {pos p:Pos} {n k kk:Nat} {x:Str} {ps:List Str} {G:List D->Option (List D)} (F:Dn X.prog X.w X.K X.mg X.base k x ps (o8 X.K n G)) (hr:gT kk X.A) (hk:k<=kk) (ha:PA X (e :: es) (rH X.K O gr)) (hg:Gl X x:=by rfl)
  (tM:(x == ("__debug__":Str))=false:=by decide) (he:starEach (e :: es) X.env=(false,eval e X.env) :: starEach es X.env:=by rfl) (og:(backTo pos (starEach es X.env)).any (·.1)=false:=by rfl):
  PE X (.Call (.Name x p) (e :: es) [] pos) (tN X.K O (lH G n gr)):=(Fo F hr hk ha hg tM he og).mono λσ H Q hh=>hh.e λU A0 δ d R ed q=>by
 obtain ⟨ds,e1,e2⟩:=bind1 ed
 split at e2
 .rename_i hn
  obtain ⟨d',e3,e4⟩:=bind1 e2
  split at e4
  .rename_i hL
   cases e4
   refine ⟨U,A0,δ,ds,R,e1,λvs H' s h=>?_⟩
   show o8 X.K n G (vs ++ []) H' Q E0
   rw [adV]
   have h':=h.Rq
   refine ⟨by rw [h'.len]; exact hn,[],ds,d,⟨λ_ z=>by simp at z,(R.same s).al.2⟩,by rw [zO]; exact h',e3,λr ys H2 s2 h0 h1 h2=>q r ys H2 (s.trans s2) (s.free h0) h1 ?_⟩
   have h3:cx X.K H2 ys d:=h2.same cw
   refine cx.off ⟨λa ha=>?_,(R.same (s.trans s2)).al.2⟩ h3 hL
   rcases acK.mp ha with z | z
   .subst z; exact ⟨_,h1,trivial⟩
   .exact (R.same (s.trans s2)).al.1 a z
  .cases e4
 .cases e2
section
variable {X:Cx} {O:List Nat} {fr:Bool} {st:Stmt} {ge gx:DS->Option D} {gl:DS->Option (List D)} {i:Nat}
def zW (i:Nat) (g:DS->Option (List D)):DS->Option Res:=λδ=>(ae i δ).bind λx=>(g δ).bind λzs=>match x with
 | .list ds=>if ds.length + zs.length<=100000 then some (.nx (δ.set i (some (.list (ds ++ zs))))) else none
 | _=>none
set_option tactic.hygienic true in
theorem mi (h:PS X st (uo (Tj X.K "list" BE (n6 i) (BB (tN X.K O gl) Jm)))) (hi:i∈O:=by decide):PS X st (tS X.K O fr (zW i gl)):=h.mono λE σ H hh=>hh.e λH0 U A0 δ r R F ed P=>by
 obtain ⟨x,e1,e2⟩:=bind1 ed
 obtain ⟨zs,e3,e4⟩:=bind1 e2
 rcases R.Qf i x hi (join_some e1) with ⟨l,ys,ds,hl,rfl,hU,h1,h2⟩ | ⟨kds,rfl⟩
 rotate_left
 ·(exfalso; simp_all; done)
 simp only at e4
 split at e4
 .rename_i hz
  cases e4
  refine ⟨.ref l,hl,.inl ⟨rfl,ys,gX.of h1⟩,U,A0,δ,zs,R,e3,λp ws H' s hp Tt Tq=>?_⟩
  have Rt:=s _ _ h1
  have BS:=h2.same (b9 (A:=U ++ A0) s)
  have hp3:=Tq.same (kc (A':=U ++ A0) λa ha=>acO _ ha)
  have hlen:=h2.len
  have ac0:=Tq.len
  refine ⟨l,p,ys,ws,rfl,rfl,Rt,Tt,small (by omega),?_⟩
  exact P U σ _ ((R.same s).put hi hl hU (BS.app hp3) ⟨_,join_some e1⟩) ((F.grow s).put hU _)
 .cases e4
end
section
variable {X:Cx} {O:List Nat} {tg a:Expr} {ge:DS->Option D} {p pos:Pos}
end
section
variable {X:Cx} {pins:List (Addr×Obj)} {σ:St} {H:Hp} {s:Shared} {h':Heap}
theorem Inv.jr {t':Nat} {ch:List Addr} (I:Inv X pins σ H s) (k:∀ b o,b∉ch->s.heap.get? b=some o->h'.get? b=some o) (hf:∀ b∈ch,qx X pins H b):Inv X pins σ H { s with heap:=h',toks:=t' }:=by
 have QA:∀ b u,H b=some u->b∉ch:=λb u e z=>by rw [(hf b z).1] at e; cases e
 refine I.step (g':=s.gens) (d':=s.drawn) (ch:=ch) (λb hb=>?_) (λb o _ _ hc e _=>k b o hc e) (λb o _ _ hc e _=>⟨o.slots,k b o hc e⟩) (λ_ _ _ _ n=>n)
  (λb o hc e=>⟨o,k b o hc e⟩) (λ_ _ e=>e) (λ_ _ _ e=>e) (λb ps e=>⟨#[],by rw [e]; simp⟩) (λm hm=>?_) (λb u e=>?_) I.bare
 .obtain ⟨_,a,_,b',c,d⟩:=hf b hb
  exact ⟨b',a,c,d⟩
 .obtain ⟨o,es,ep,ho,r⟩:=hm
  exact ⟨o,es,ep,k _ o (λz=>(hf _ z).2.1 rfl) ho,r⟩
 .refine (I.cS b u e).ve (λc v hc q=>k c v ?_ q) (λ_ q=>q) λ_ _ q=>q
  rcases hc with z | z
  .rw [z]; exact QA b u e
  .exact QA c _ z
theorem Inv.vO {D:Addr} {ys:List V} {its:List Value} (I:Inv X pins σ H s) (hD:H D=none) (hs:X.gZ.heap.objs.size<=D) (hl:D≠X.env.locals) (hc:∀ x c,X.env.cells.lookup x=some c->c≠D)
  (hp:∀ p∈X.pn ++ pins,p.1≠D) (e:IsTup s.heap D its.toArray) (r:bj ys its) (hz:ys.length<=sizeLine):Inv X pins σ (upd H D (.tup ys)) s:=by
 have h:=I.step (H':=upd H D (.tup ys)) (h':=s.heap) (g':=s.gens) (t':=s.toks) (d':=s.drawn) (ch:=[D]) (λb hb=>by
   have e:b=D:=by simpa using hb
   subst e
   exact ⟨.inr hs,hl,hc,hp⟩)
  (λb o _ _ _ q _=>q) (λb o _ _ _ q _=>⟨o.slots,q⟩) (λb o hb _ q=>by rw [bp (by simpa using hb)]; exact q) (λb o _ q=>⟨o,q⟩)
  (λb xs q=>by rw [bp (bP q hD)]; exact q) (λb o u q=>by rw [bp (bP q hD)]; exact q) (λb ps q=>⟨#[],by rw [bp (bP q hD),agt]; exact q⟩) (λm hm=>hm) (λb u q=>?_) I.bare
 .exact h
 .by_cases hb:b=D
  .subst hb
   rw [b8] at q; cases q
   exact ⟨hz,its,r,e⟩
  .rw [bp hb] at q
   exact (I.cS b u q).ve (λ_ _ _ z=>z) (λc z=>by rw [bp (bP z hD)]; exact z) λc xs z=>z.new hD
end
def Ite (K:PySem.W.Frag) (a:Addr):It:=
 ⟨λi H=>∃ xs x,gX K H a xs /\ xs[i]?=some x,λi H x H'=>∃ p v,H p=none /\ x=.ref p /\ H'=upd H p (.tup [.int i,v]) /\ ∀ xs,gX K H a xs->xs[i]?=some v,λi H=>∃ xs,gX K H a xs /\ xs.length<=i⟩
theorem Du {P:Program} {w:World} {K:PySem.W.Frag} {es:List Expr} {kk} {i5:Pos} (a e it:Addr) (lb:e≠it):Turn P w K (.Tuple es kk i5) (Ite K a) [e,it] e (λi h=>(∃ old,IsEnum h e it i old) /\ h.IsListIter it a i) where
 mem:=by simp
 obj:=λi h st b hb=>by
  obtain ⟨⟨old,he⟩,o,ho,c,d⟩:=st
  rcases acK.mp hb with z | z
  .subst z; exact ⟨_,he,λv z=>by cases z⟩
  .have z:b=it:=by simpa using z
   subst z; exact ⟨o,ho,λv z=>by rw [d] at z; cases z⟩
 keep:=λi h h' st k=>by
  obtain ⟨⟨old,he⟩,jq⟩:=st
  exact ⟨⟨old,k e (by simp) _ he⟩,jq.at λo eo=>k it (by simp) o eo⟩
 item:=by
  intro X hP hw hK hc i pins s σ H E I hf st hg
  subst hP hw hK
  obtain ⟨xs,x,hq,hx⟩:=hg
  obtain ⟨its,rv,p,hz⟩:=I.list hq
  obtain ⟨u,hu,ru⟩:=rv.get hx
  obtain ⟨⟨old,he⟩,jq⟩:=st
  refine wpAny_pyNext_enum_item he jq p.isList (x:=u) (by simpa using hu) lb λh1 CS Vu Qi JT EB=>?_
  refine ⟨_,rfl,afi CS λh2 JO oa=>?_⟩
  replace oa:Heap.SameBut e h1 h2:=oa
  have L7:e < s.heap.objs.size:=acV he
  have I1:Inv X pins σ H { s with heap:=h2,toks:=s.toks + 1 }:=I.jr (t':=s.toks + 1) (ch:=[e,it]) (λb o hb eo=>by
   simp only [acK,adz,aez,agQ] at hb
   exact (oa.2 b hb.1).trans (EB b o hb.1 hb.2 eo)) hf
  have Ol:IsTup h2 s.heap.objs.size [Value.int i s.toks,u].toArray:=⟨_,(oa.2 _ (ae8 L7)).trans Qi,rfl,_,rfl⟩
  have xq:H s.heap.objs.size=none:=I.cS.fresh (ac1 _)
  have fo:=I.qy (H':=H) (ac1 _) xq
  have I2:Inv X pins σ (upd H s.heap.objs.size (.tup [.int i,x])) { s with heap:=h2,toks:=s.toks + 1 }:=I1.vO xq (ado I.sz (ac1 _)) fo.2.1 fo.2.2.2.2.1 fo.2.2.2.2.2 Ol (.cons ⟨_,rfl⟩ (.cons ru .nil)) (by show 2<=sizeLine; decide)
  refine ⟨.ref s.heap.objs.size,_,I2,rfl,⟨_,x,xq,rfl,rfl,λys hy=>by rw [I.n8 hy hq]; exact hx⟩,⟨⟨u,JO⟩,Vu.extBut oa.extBut (aeW lb)⟩,λb hb=>?_⟩
  have iG:b < s.heap.objs.size:=by
   rcases acK.mp hb with z | z
   .subst z; exact L7
   .have z:b=it:=by simpa using z
    subst z
    obtain ⟨o,ho,_⟩:=jq
    exact acV ho
  rw [bp (adj iG)]
  exact (hf b hb).1
 done:=by
  intro X hP hw hK hc i pins s σ H E I hf st hg
  subst hP hw hK
  obtain ⟨xs,hq,hx⟩:=hg
  obtain ⟨its,rv,p,hz⟩:=I.list hq
  obtain ⟨⟨old,he⟩,jq⟩:=st
  have hl:=rv.length
  refine wpAny_pyNext_enum_end (I.ok.hd hc) he jq p.isList (by simp; omega) λh1 eb=>⟨rfl,?_⟩
  exact I.jr (t':=s.toks) (ch:=[e,it]) (λb o hb eo=>eb b o (λz=>hb (by simp [z])) eo) hf
 self:=λ_ _ _ _ _ st h=>by
  obtain ⟨⟨old,he⟩,_⟩:=st
  exact aeP he h
theorem kl:bootBuiltins "enumerate"=some (.type "enumerate"):=by decide +kernel
def i9 (l:List D):List D:=l.zipIdx.map λp=>.tuple [.int (p.2:Nat),p.1]
theorem uJ {l:List D} {i:Nat} {d:D} (h:(i9 l)[i]?=some d):∃ x,l[i]?=some x /\ d=.tuple [.int (i:Nat),x]:=by
 unfold i9 at h
 rw [adb,aev] at h
 cases e:l[i]? with
 | none=>rw [e] at h; cases h
 | some x=>rw [e] at h; simp at h; exact ⟨x,rfl,h.symm⟩
theorem pB {l:List D}:(i9 l).length=l.length:=by unfold i9; simp
section
variable {X:Cx} {O:List Nat} {a:Expr} {ge:DS->Option D} {p pos:Pos} {es:List Expr} {kk} {i5:Pos}
def Rv (K:PySem.W.Frag) (ta:TA):TI:=λσ H R=>ta σ H λvs H1=>∃ a xs,vs=[.ref a] /\ gX K H1 a xs /\ R (Ite K a) H1
theorem JU {ta:TA} (hg:Gl X "enumerate") (hm:X.mg "enumerate"=none) (ha:PA X [a] ta) (hs:starEach [a] X.env=[(false,eval a X.env)]:=by rfl):PI X (.Tuple es kk i5) (.Call (.Name "enumerate" p) [a] [] pos) (Rv X.K ta):=by
 intro pins s σ H R I h
 refine Call_ (ka I hg hm kl (adZ (dz (ha pos pins s σ H _ I h) λus s1 ⟨vs,H1,I1,r1,q1⟩=>?_) hs rfl))
 obtain ⟨b,xs,e,hq,q⟩:=q1
 subst e
 obtain ⟨u,rfl,ru⟩:=vals1 r1
 cases ru
 obtain ⟨its,rv,pl,hz⟩:=I1.list hq
 refine call_enumerate_list pl.isList λh' he hit hsz hk=>?_
 refine aeP he ?_
 refine ⟨s1.heap.objs.size + 1,[s1.heap.objs.size + 1,s1.heap.objs.size],_,_,H1,rfl,I1.kept (t':=s1.toks) hk,Du b _ s1.heap.objs.size (ag0 _),⟨⟨_,he⟩,hit⟩,λb hb=>?_,q⟩
 have hle:s1.heap.objs.size<=b:=by
  simp only [acK,adz,aez] at hb
  rcases hb with z | z
  .rw [z]; exact aeQ _
  .rw [z]; exact ac1 _
 exact I1.qy hle (I1.cS.fresh hle)
def dX (g:DS->Option D):DS->Option (List D):=λδ=>(g δ).bind λ| .list l=>some (i9 l) | _=>none
theorem km (hm:X.mg "enumerate"=none) (ha:PE X a (tE X.K O ge)) (hg:Gl X "enumerate":=by rfl) (hs:starEach [a] X.env=[(false,eval a X.env)]:=by rfl) (JV:starEach ([]:List Expr) X.env=[]:=by rfl):PI X (.Tuple es kk i5) (.Call (.Name "enumerate" p) [a] [] pos) (tI X.K O (dX ge)):=
 (JU hg hm (bG ha cz (by rw [hs,JV])) hs).mono λσ H Q hh=>hh.e λU A0 δ ds R ed q=>by
  obtain ⟨x,e1,e2⟩:=bind1 ed
  cases x with
  | list l=>
    cases e2
    refine ⟨U,A0,δ,_,R,e1,λv H' s h=>?_⟩
    cases h with
    | lst hq h=>
      refine ⟨_,_,rfl,(hq.same cw).sq,q _ H' s ?_⟩
      intro A' i H2 s2 al
      have h2:=h.same s2
      have hL:gX X.K H2 _ _:=((hq.same s2).same cw).sq
      refine ⟨λd hd=>?_,λhi=>⟨_,hL,by rw [hi,pB,h2.len]; exact ac1 _⟩⟩
      obtain ⟨y,hy,rfl⟩:=uJ hd
      obtain ⟨v,hv,Rw⟩:=h2.get hy
      refine ⟨⟨_,v,hL,hv⟩,λz H3 hz=>?_⟩
      obtain ⟨p,v',hp,rfl,rfl,Rx⟩:=hz
      have:=Rx _ hL
      rw [hv] at this
      cases this
      exact ⟨cK hp _,HD.vK al hp (.cons (.int _) (.cons Rw .nil))⟩
  | _=>cases e2
end
def L8:V->V->Hp->VK->Prop:=λo i H Q=>∃ p xs k v,o=.ref p /\ i=.int k /\ 0<=k /\ H p=some (.lst xs) /\ o7 xs k=some v /\ Q v H
theorem get_own {X:Cx}:QO X L8:=by
 intro pins s σ H o i v u Q I ro ri h
 obtain ⟨p,xs,k,w,rfl,rfl,h0,hp,ha,q⟩:=h
 cases ro
 obtain ⟨t,rfl⟩:=ri
 obtain ⟨its,r,pl,hz⟩:=I.list (gX.of hp)
 obtain ⟨j,h1,h2,h3,h4,h5⟩:=qL ha
 obtain ⟨u',hu,ru⟩:=r.get h2
 have hn:=lp
 have hj:k.toNat=j:=by
  rw [seqIndex_of h0 h5] at h1
  exact adp h1
 exact wpAny_getItem_list pl.isList h0 (by omega) (by rw [hj]; simpa using hu) ⟨w,H,I,ru,q⟩
def rT (i:Nat) (f:Int->Int->Int) (gx ge:DS->Option D):DS->Option Res:=λδ=>(ae i δ).bind λx=>(gx δ).bind λk=>(ge δ).bind λy=>match x,k,y with
 | .list ds,.int n,.int b=>if 0<=n then (xp ds.length n).bind λj=>(ds[j]?).bind λ| .int a=>some (.nx (δ.set i (some (.list (ds.set j (.int (f a b))))))) | _=>none else none
 | _,_,_=>none
set_option tactic.hygienic true in
theorem FO {X:Cx} {O:List Nat} {fr:Bool} {st:Stmt} {ge gx:DS->Option D} {i:Nat} {f:Int->Int->Int} (h:PS X st (LG (n6 i) (ib X.K O gx) (ib X.K O ge) L8 (ipI f) Fc)) (hi:i∈O:=by decide):PS X st (tS X.K O fr (rT i f gx ge)):=h.mono λE σ H hh=>hh.e λH0 U A0 δ r R F ed P=>by
 obtain ⟨x,e1,ed⟩:=bind1 ed
 obtain ⟨k,e2,ed⟩:=bind1 ed
 obtain ⟨y,e3,ed⟩:=bind1 ed
 rcases R.Qf i x hi (join_some e1) with ⟨l,ys,ds,hl,rfl,hU,h1,h2⟩ | ⟨kds,rfl⟩
 rotate_left
 ·(exfalso; simp_all; done)
 cases k with
 | int n=>cases y with
   | int b=>
     simp only at ed
     split at ed
     .rename_i h0
      obtain ⟨j,e4,ed⟩:=bind1 ed
      obtain ⟨a,e5,ed⟩:=bind1 ed
      cases a with
      | int a=>
        cases ed
        obtain ⟨v,hv,hd⟩:=h2.get e5
        cases hd
        refine ⟨.ref l,hl,U,A0,δ,_,R,e2,λv2 H2 s2 BS=>⟨l,ys,n,.int a,rfl,BS.int,h0,s2 _ _ h1,?_,U,A0,δ,_,R.same s2,e3,λv3 H3 s3 h3'=>⟨a,b,rfl,h3'.int,l,ys,n,j,rfl,BS.int,(s2.trans s3) _ _ h1,by rw [h2.len]; exact e4,?_⟩⟩⟩
        .unfold L2.o7; rw [h2.len,e4]; exact hv
        .exact P U σ _ ((R.same (s2.trans s3)).put hi hl hU (cx.N1 (.int _) j (h2.same (b9 (s2.trans s3)))) ⟨_,join_some e1⟩) ((F.grow (s2.trans s3)).put hU _)
      | _=>cases ed
     .cases ed
   | _=>cases ed
 | _=>cases y <;> cases ed
def WalksS (K:PySem.W.Frag) (A:List Addr) (H1:Hp) (J:It) (ds:List D):Prop:=∀ (i:Nat) (H:Hp),aL H1 H->
 (∀ d,ds[i]?=some d->J.go i H /\ ∀ x H2,J.QP i H x H2->aL H H2 /\ HD K (wo H2 A) x d) /\ (i=ds.length->J.stop i H)
def L9 (K:PySem.W.Frag) (O:List Nat) (g:DS->Option (List D)):TI:=λσ H R=>∃ U A0 δ ds,Rel K O U A0 σ δ H /\ g δ=some ds /\ ∀ J H1,aL H H1->WalksS K (U ++ A0) H1 J ds->R J H1
theorem L9.e {K:PySem.W.Frag} {O:List Nat} {g:DS->Option (List D)}  {σ:_} {H:_} {R:_} {GG:Prop} (hh:L9 K O g σ H R) (kk:∀ U A0 δ ds,(Rel K O U A0 σ δ H)->(g δ=some ds)->(∀ J H1,aL H H1->WalksS K (U ++ A0) H1 J ds->R J H1)->GG):GG:=by obtain ⟨U,A0,δ,ds,x0,x1,x2⟩:=hh; exact kk U A0 δ ds x0 x1 x2
section
variable {X:Cx} {O:List Nat} {tg e:Expr} {gi:DS->Option (List D)} {ge:DS->Option D} {pos:Pos}
theorem PI.c (h:PI X tg e (tI X.K O gi)):PI X tg e (L9 X.K O gi):=h.mono λσ H Q hh=>hh.e λU A0 δ ds R ed q=>⟨U,A0,δ,ds,R,ed,λJ H1 s hw=>q J H1 s λi H2 s2=>hw (U ++ A0) i H2 (b9 s2) ((R.same (s.trans s2)).al)⟩
theorem JW (h:PE X e (ib X.K O ge)):PI X tg e (L9 X.K O (aI ge)):=(FH h).mono λσ H Q hh=>hh.e λU A0 δ ds R ed q=>by
 obtain ⟨x,e1,e2⟩:=bind1 ed
 cases x with
 | list l=>
   cases e2
   refine ⟨U,A0,δ,_,R,e1,λv H' s h=>?_⟩
   obtain ⟨p,xs,rfl,h1,h2⟩:=h.list
   refine .inl ⟨_,rfl,⟨_,h1.sq⟩,q _ H' s ?_⟩
   intro i H2 s2
   have BS:=h2.same (b9 (A:=U ++ A0) s2)
   have hL:gX X.K H2 _ _:=(h1.same s2).sq
   refine ⟨λd hd=>?_,λhi=>⟨_,hL,by rw [BS.len]; omega⟩⟩
   obtain ⟨x,hx,Og⟩:=BS.get hd
   refine ⟨⟨_,x,hL,hx⟩,λy H3 hy=>?_⟩
   obtain ⟨rfl,hy⟩:=hy
   have:=hy _ hL
   rw [hx] at this
   cases this
   exact ⟨aL.refl _,Og⟩
 | tuple l=>
   cases e2
   refine ⟨U,A0,δ,_,R,e1,λv H' s h=>?_⟩
   obtain ⟨p,xs,rfl,h1,h2⟩:=h.tuple
   refine .inr ⟨_,rfl,⟨_,h1⟩,q _ H' s ?_⟩
   intro i H2 s2
   have BS:=h2.same (b9 (A:=U ++ A0) s2)
   have hL:jN X.K H2 _ _:=s2.tup h1
   refine ⟨λd hd=>?_,λhi=>⟨_,hL,by rw [BS.len]; omega⟩⟩
   obtain ⟨x,hx,Og⟩:=BS.get hd
   refine ⟨⟨_,x,hL,hx⟩,λy H3 hy=>?_⟩
   obtain ⟨rfl,hy⟩:=hy
   have:=hy _ hL
   rw [hx] at this
   cases this
   exact ⟨aL.refl _,Og⟩
 | _=>cases e2
end
section
variable {X:Cx} {O:List Nat} {fr:Bool} {scope:Scope} {x:Str} {elt iter:Expr} {px pos:Pos} {gi:DS->Option (List D)} {ge:DS->Option D}
end
end L2
namespace LS
open PySem PySem.Spec PyProof.Rows
section
variable {prog:Program} {w:World} {A:Around} {E:Value->Shared->Prop} {s:Shared} {it t:Addr} {i:Nat} {items:Array Value}
theorem zX {x:Value} {Q:Value->Shared->Prop} (hit:s.heap.IsTupleIter it t i) (ht:s.heap.IsTuple t items) (hx:items[i]?=some x)
  (hQ:∀ h',h'.IsTupleIter it t (i + 1)->Heap.SameBut it s.heap h'->Q x { s with heap:=h' }):wpAny (model prog w) A (Builtin.SmallTypes.nextOf (.ref it)) Q E s:=by
 obtain ⟨o,ho,hc,hd⟩:=id hit
 obtain ⟨ol,Om,_,nl,Vv⟩:=ht
 unfold Builtin.SmallTypes.nextOf
 refine acI (ad7 (name:=Str.ofString "__next__") hit.typeIs aec (ad8 aec hit.typeIs afI ?_ (afz _)))
 show wpAny _ _ (field (.ref it) 0 >>= _) _ _ s
 refine acI (wpAny_field ho hd (x:=.ref t) rfl ?_)
 show wpAny _ _ (if (Value.ref t == Value.none)=true then _ else _) _ _ s
 rw [acW (show ¬ ((Value.ref t == Value.none)=true) from acP)]
 show wpAny _ _ (field (.ref it) 1 >>= _) _ _ s
 refine acI (wpAny_field ho hd (x:=.int i 0) rfl ?_)
 show wpAny _ _ (seqItems? (.ref t) >>= _) _ _ s
 refine acI (agu Om Vv ?_)
 simp only [adA,hx]
 refine acI (aeH ho hd (by simp) (acT ⟨x,rfl,acT (hQ _ ?_ (adN ..))⟩))
 exact ⟨_,adM _ ho (aeJ (adR hd _)),(afP ..).trans hc,by rw [adR hd]; simp [rawInt]⟩
theorem Dv {Q:Value->Shared->Prop} (hh:A.handled=none) (hit:s.heap.IsTupleIter it t i) (ht:s.heap.IsTuple t items) (hx:items[i]?=none)
  (hE:∀ h' e,Heap.ExtBut it s.heap h'->(∃ o,h'.get? e=some o /\ o.cls=.type "StopIteration")->E (.ref e) { s with heap:=h' }):wpAny (model prog w) A (Builtin.SmallTypes.nextOf (.ref it)) Q E s:=by
 obtain ⟨o,ho,hc,hd⟩:=id hit
 obtain ⟨ol,Om,_,nl,Vv⟩:=ht
 unfold Builtin.SmallTypes.nextOf
 refine acI (ad7 (name:=Str.ofString "__next__") hit.typeIs aec (ad8 aec hit.typeIs afI ?_ (afz _)))
 show wpAny _ _ (field (.ref it) 0 >>= _) _ _ s
 refine acI (wpAny_field ho hd (x:=.ref t) rfl ?_)
 show wpAny _ _ (if (Value.ref t == Value.none)=true then _ else _) _ _ s
 rw [acW (show ¬ ((Value.ref t == Value.none)=true) from acP)]
 show wpAny _ _ (field (.ref it) 1 >>= _) _ _ s
 refine acI (wpAny_field ho hd (x:=.int i 0) rfl ?_)
 show wpAny _ _ (seqItems? (.ref t) >>= _) _ _ s
 refine acI (agu Om Vv ?_)
 simp only [adA,hx]
 refine acI (afZ (acI (aeH ho hd (by simp) ?_)))
 show wpAny _ _ (newExc (.type "StopIteration") [] >>= _) _ _ _
 refine acI ?_
 simp only [newExc,newTuple]
 refine acI (adP ?_ (by size_fits))
 refine acI (m:=firstArgMember _ _) (agI (a:=Value.none) (by first | rfl | (simp only [firstArgMember]; rfl)) ?_)
 refine adP ?_ (by size_fits)
 simp only [raiseNew]
 refine acI (wpAny_handled ?_)
 first | rw [show A.in1.handled=none from hh] | rw [hh]
 refine acI (acT (wpAny_throw ?_))
 exact hE _ _ (((adN ..).extBut.push _).push _) ⟨_,ac8 _ rfl,rfl⟩
theorem js (hh:A.handled=none) (it l:Addr) (lb:l≠it) (items:Array Value):
  Draws prog w A it [it,l] items.size (λi v=>items[i]?=some v) (λi h=>h.IsTupleIter it l i /\ h.IsTuple l items) where
 live:=λ_ _ st=>let ⟨o,ho,_⟩:=st.1; ⟨o,ho⟩
 frame:=λ_ _ _ st hk=>⟨st.1.at λo e=>hk it (by simp) o e,st.2.at λo e=>hk l (by simp) o e⟩
 item:=λi s Q E hi st hQ=>zX st.1 st.2 (x:=items[i]) (by simp [hi]) λh' zY qC=>hQ _ h' s.toks (by simp [hi]) ⟨zY,st.2.extBut qC.extBut lb⟩ qC
 done:=λs Q E st hE=>Dv hh st.1 st.2 (by simp) hE
end
set_option maxHeartbeats 1000000 in
set_option tactic.hygienic true in
theorem vK (l:Addr) (items:Array Value) (n:Nat) (rF:Option Addr) (sl:Array (Option Value)):
  Meets (Builtin.«enumerate.__new__» ⟨[.type "enumerate",.ref l],[]⟩) (λ_ R s=>s.heap.get? l=some { cls:=.type "tuple",dict:=rF,data:=.seq items n,slots:=sl } /\
   R (.ok (.ret (.ref (s.heap.push { cls:=.type "tuple_iterator",data:=.fields #[.ref l,.int 0 0] }).objs.size)))
     { s with heap:=(s.heap.push { cls:=.type "tuple_iterator",data:=.fields #[.ref l,.int 0 0] }).push { cls:=.type "enumerate",data:=.fields #[.none,.bool false,.ref s.heap.objs.size,rawInt 0,.none,.none] } }):=
 .of_wp λprog w A R s h=>by
  obtain ⟨hp,g,d,tk,os⟩:=s; obtain ⟨hl,h⟩:=h
  have xW:=sub_enumerate
  have hL:Heap.IsTuple (Shared.heap ⟨hp,g,d,tk,os⟩) l items:=⟨_,hl,rfl,n,rfl⟩
  wp_walk using AutoSeq1.wpAny_loadPart' hl
  refine wpAny_stack_any λst=>acT ?_
  split
  .rename_i c _ _ _ _ _
   cases (c == Value.type "enumerate")
   .wp_walk using AutoSeq1.wpAny_loadPart' hl,wpAny_pyIter_tuple hL
    exact ⟨_,rfl,h⟩
   .wp_walk using AutoSeq1.wpAny_loadPart' hl,wpAny_pyIter_tuple hL
    exact ⟨_,rfl,h⟩
  .wp_walk using AutoSeq1.wpAny_loadPart' hl,wpAny_pyIter_tuple hL
   exact ⟨_,rfl,h⟩
section
variable {prog:Program} {w:World} {A:Around} {E:Value->Shared->Prop} {s:Shared}
theorem zZ {l:Addr} {items:Array Value} {Q:Value->Shared->Prop} (hL:s.heap.IsTuple l items)
  (h:∀ h',IsEnum h' (s.heap.objs.size + 1) s.heap.objs.size 0 .none->h'.IsTupleIter s.heap.objs.size l 0->h'.objs.size=s.heap.objs.size + 2->(∀ b o,s.heap.get? b=some o->h'.get? b=some o)->Q (.ref (s.heap.objs.size + 1)) { s with heap:=h' }):
  wpAny (model prog w) A (call (.type "enumerate") [.ref l]) Q E s:=by
 obtain ⟨⟨c,rF,dt,sl⟩,hl,hc,n,hd⟩:=hL
 simp only at hc hd
 subst hc hd
 refine callType_new aeV (by decide) (PySem.F.typeCall_enumerate_1 _) (PySem.F.newCall_enumerate_1 _) (λobj=>PySem.F.args_object_init_2 obj _) PySem.F.entry_enumerate_new (vK l items n rF sl) ⟨hl,?_⟩
 have hz:(s.heap.push { cls:=.type "tuple_iterator",data:=.fields #[.ref l,.int 0 0] }).objs.size=s.heap.objs.size + 1:=aef ..
 show _ /\ _
 rw [hz]
 have he:IsEnum ((s.heap.push { cls:=.type "tuple_iterator",data:=.fields #[.ref l,.int 0 0] }).push { cls:=.type "enumerate",data:=.fields #[.none,.bool false,.ref s.heap.objs.size,rawInt 0,.none,.none] }) (s.heap.objs.size + 1) s.heap.objs.size 0 .none:=by
  have q:=ac8 (s.heap.push { cls:=.type "tuple_iterator",data:=.fields #[.ref l,.int 0 0] }) (o:={ cls:=.type "enumerate",data:=.fields #[.none,.bool false,.ref s.heap.objs.size,rawInt 0,.none,.none] }) rfl
  rw [hz] at q; exact q
 exact ⟨⟨_,he,rfl⟩,h _ he ⟨_,acM _ (ac8 _ rfl),rfl,rfl⟩ (by rw [aef,hz]) λb o x=>acM _ (acM _ x)⟩
end
end LS
namespace LS
open PySem
def uK (l:List Nat):Prop:=l.Pairwise (· < ·)
theorem mj {xs:Array Nat} (h:uK xs.toList) {a b:Nat} (BZ:a < b) (hb:b < xs.size) (d e:Nat):xs.getD a d < xs.getD b e:=by
 have ha:a < xs.size:=by omega
 have:=List.pairwise_iff_getElem.mp h a b (by simpa using ha) (by simpa using hb) BZ
 simpa [Array.getD,ha,hb] using this
theorem FP {xs:Array Nat} (hs:uK xs.toList) (j:Nat) (fuel:Nat):∀ (lo hi:Nat),hi - lo<=fuel->lo<=hi->hi<=xs.size->(∀ k,k < lo->xs.getD k 0 < j)->(∀ k,hi<=k->k < xs.size->j<=xs.getD k 0)->
  SetTable.below.go xs j fuel lo hi<=xs.size /\ (∀ k,k < SetTable.below.go xs j fuel lo hi->xs.getD k 0 < j) /\ ∀ k,SetTable.below.go xs j fuel lo hi<=k->k < xs.size->j<=xs.getD k 0:=by
 induction fuel with
 | zero=>
   intro lo hi h1 h2 h3 h4 h5
   have e:lo=hi:=agb h2 (Nat.le_of_sub_eq_zero (Nat.le_zero.mp h1))
   subst e
   exact ⟨h3,h4,h5⟩
 | succ fuel ih=>
   intro lo hi h1 h2 h3 h4 h5
   rw [SetTable.below.go]
   by_cases hl:lo < hi
   .rw [acU hl]
    have a:lo<=(lo + hi) / 2 /\ (lo + hi) / 2 < hi:=by omega
    dsimp only
    generalize (lo + hi) / 2=m at a
    have hm:m < xs.size:=ada a.2 h3
    have hg:xs.getD m j=xs.getD m 0:=by simp [Array.getD,hm]
    rw [hg]
    by_cases hc:xs.getD m 0 < j
    .rw [acU hc]
     refine ih _ hi (by omega) a.2 h3 (λk hk=>?_) h5
     rcases Nat.lt_or_eq_of_le (Nat.le_of_lt_succ hk) with q | q
     .exact Nat.lt_trans (mj hs q hm 0 0) hc
     .rw [q]; exact hc
    .rw [acW hc]
     have hc:=afl hc
     refine ih lo _ (by omega) a.1 (aer hm) h4 (λk hk Ma=>?_)
     rcases Nat.lt_or_eq_of_le hk with q | q
     .exact ado hc (aer (mj hs q Ma 0 0))
     .rw [<- q]; exact hc
   .rw [acW hl]
    have e:lo=hi:=agb h2 (afl hl)
    subst e
    exact ⟨h3,h4,h5⟩
theorem below_at {xs:Array Nat} (hs:uK xs.toList) (j:Nat):SetTable.below xs j<=xs.size /\ (∀ k,k < SetTable.below xs j->xs.getD k 0 < j) /\ ∀ k,SetTable.below xs j<=k->k < xs.size->j<=xs.getD k 0:=
 FP hs j xs.size 0 xs.size (by omega) (aek _) (ac1 _) (λk hk=>by omega) λk h1 h2=>by omega
theorem rV {xs:Array Nat} (hs:uK xs.toList) {i j:Nat} (hi:i<=xs.size) (h1:∀ k,k < i->xs.getD k 0 < j) (h2:∀ k,i<=k->k < xs.size->j<=xs.getD k 0):SetTable.below xs j=i:=by
 obtain ⟨a,b,c⟩:=below_at hs j
 rcases Nat.lt_trichotomy (SetTable.below xs j) i with h | h | h
 .have:=h1 _ h
  have:=c _ (ac1 _) (by omega)
  omega
 .exact h
 .have:=b i h
  have:=h2 i (ac1 _) (by omega)
  omega
theorem FQ {xs:Array Nat} (hs:uK xs.toList) {j:Nat} (h:xs[SetTable.below xs j]?≠some j):j∉xs.toList:=by
 intro hm
 obtain ⟨k,hk,e⟩:=aeA hm
 have Ma:k < xs.size:=by simpa using hk
 have ek:xs.getD k 0=j:=by simpa [Array.getD,Ma] using e
 have:SetTable.below xs j=k:=rV hs (aer Ma) (λi hi=>by rw [<- ek]; exact mj hs hi Ma 0 0) (λi h1 h2=>by
  by_cases LX:k=i
  .subst LX; omega
  .have:=mj hs (show k < i by omega) h2 0 0
   omega)
 rw [this] at h
 refine h ?_
 rw [adQ Ma]
 simpa using e
theorem JX {t:SetTable} (hs:uK t.place.toList) {j:Nat} (h:t.place[SetTable.below t.place j]?≠some j):uK (t.put j).1.place.toList:=by
 have hn:=FQ hs h
 obtain ⟨a,b,c⟩:=below_at hs j
 show uK (SetTable.insertAt t.place (SetTable.below t.place j) j).toList
 rw [SetTable.toList_insertAt]
 have qC:(t.place.toList.take (SetTable.below t.place j) ++ t.place.toList.drop (SetTable.below t.place j)).Pairwise (· < ·):=by rw [List.take_append_drop]; exact hs
 rw [afj] at qC
 refine afj.mpr ⟨qC.1,adD.mpr ⟨λx hx=>?_,qC.2.1⟩,λx hx y hy=>?_⟩
 .obtain ⟨k,hk,e⟩:=aeA hx
  rw [List.getElem_drop] at e
  have xX:SetTable.below t.place j + k < t.place.size:=by
   have:=List.length_drop (i:=SetTable.below t.place j) (l:=t.place.toList)
   have Tu:=hk
   rw [this] at Tu
   simp at Tu
   omega
  have:=c (SetTable.below t.place j + k) (by omega) xX
  have e2:t.place.getD (SetTable.below t.place j + k) 0=x:=by simpa [Array.getD,xX] using e
  have lb:x≠j:=λz=>hn (by rw [<- z]; exact List.mem_of_mem_drop hx)
  omega
 .obtain ⟨k,hk,e⟩:=aeA hx
  have xX:k < SetTable.below t.place j:=by
   have:=adF (i:=SetTable.below t.place j) (l:=t.place.toList)
   omega
  have Tu:k < t.place.size:=by omega
  rw [List.getElem_take] at e
  have e2:t.place.getD k 0=x:=by simpa [Array.getD,Tu] using e
  have hxj:=b k xX
  rw [e2] at hxj
  rcases acK.mp hy with z | z
  .rw [z]; exact hxj
  .exact qC.2.2 x hx y z
set_option tactic.hygienic true in
theorem mY {t:SetTable} {f:Nat->Int} {h:Int}:∀ {fuel:Nat} {p:SetTable.Probe} {j:Nat} {dm:Option Nat},(∀ d,p.dummy=some d->t.place[SetTable.below t.place d]?≠some d)->
  SetTable.probe.go t f h fuel p=some (.empty j dm)->t.place[SetTable.below t.place (dm.getD j)]?≠some (dm.getD j)
 | 0,p,j,dm,_,e=>by cases e
 | fuel + 1,p,j,dm,hd,e=>by
   have hdm:∀ q:SetTable.Probe,(t.advance q).dummy=q.dummy:=λq=>by unfold SetTable.advance; split <;> rfl
   rw [SetTable.probe.go] at e
   have nl:∀ i,t.slot i=.empty \/ t.slot i=.dummy->t.place[SetTable.below t.place i]?≠some i:=by
    intro i hi z
    unfold SetTable.slot at hi
    dsimp only at hi
    rw [z] at hi
    simp at hi
   split at e
   .rename_i hs
    cases e
    cases hp:p.dummy with
    | none=>exact nl _ (.inl hs)
    | some d=>exact hd d hp
   .rename_i hs
    refine mY (λd EN=>?_) e
    rw [hdm] at EN
    cases EN
    exact nl _ (.inr hs)
   .split at e
    .cases e
    .exact mY (λd EN=>hd d (by rw [hdm] at EN; exact EN)) e
theorem ml (n:Nat):uK (Array.range n).toList:=by rw [Array.toList_range]; exact List.pairwise_lt_range
theorem tW {t:SetTable} {n:Nat} (h:uK t.place.toList):uK (t.orStandIn n).place.toList /\ (t.orStandIn n).led=t.led:=by
 unfold SetTable.orStandIn
 split
 .exact ⟨h,rfl⟩
 .exact ⟨ml n,rfl⟩
set_option tactic.hygienic true in
theorem z5 {t:SetTable} {es:Array (Int×Value)} {h:Int} {x:Value} (hs:uK t.place.toList):uK (layNew t es h x).2.1.place.toList /\ (layNew t es h x).2.1.led=t.led:=by
 unfold layNew
 split
 .rename_i slot wd e
  unfold SetTable.freeSlot at e
  split at e
  .rename_i j dm ep
   cases e
   have:=mY (t:=t) (λd z=>by cases z) ep
   obtain ⟨a,b⟩:=tW (n:=(SetTable.insertAt es (t.put (dm.getD j)).2 (h,x)).size) (JX hs this)
   exact ⟨a,b⟩
  .cases e
 .exact ⟨ml _,rfl⟩
set_option tactic.hygienic true in
theorem vP {t:SetTable} {es:Array (Int×Value)} {n:Nat}:uK (relayAll t es n).2.1.place.toList /\ (relayAll t es n).2.1.led=t.led:=by
 unfold relayAll
 split
 .rename_i t' order e
  dsimp only
  split
  .unfold SetTable.relaid SetTable.laid at e
   obtain ⟨owner,_,e2⟩:=Option.bind_eq_some_iff.mp e
   cases e2
   refine ⟨?_,rfl⟩
   show uK (List.map _ _)
   refine agJ.mpr (List.pairwise_filterMap.mpr ?_)
   refine List.pairwise_lt_range.imp λ{a b} BZ x hx y hy=>?_
   cases ea:owner.getD a none with
   | none=>rw [ea] at hx; cases hx
   | some u=>
     cases eb:owner.getD b none with
     | none=>rw [eb] at hy; cases hy
     | some v=>
       rw [ea] at hx; rw [eb] at hy
       cases hx; cases hy
       exact BZ
  .exact ⟨ml _,rfl⟩
 .exact ⟨ml _,rfl⟩
end LS
namespace LS
open PySem PyProof.Rows
def iv:Value->Int
 | .int n _=>n
 | _=>0
theorem eD:∀ {vs:List Value} {ns:List Int},IntsAre vs ns↔(∀ v∈vs,∃ n t,v=.int n t) /\ ns=vs.map iv
 | [],ns=>⟨λh=>by cases h; exact ⟨λv hv=>by simp at hv,rfl⟩,λ⟨_,h⟩=>by subst h; exact .nil⟩
 | v :: vs,ns=>⟨λh=>by
     cases h with
     | cons n t h=>
       obtain ⟨h1,h2⟩:=eD.mp h
       refine ⟨λu hu=>?_,by rw [h2]; rfl⟩
       rcases acK.mp hu with z | z
       .exact ⟨n,t,z⟩
       .exact h1 u z,λ⟨h1,h2⟩=>by
     obtain ⟨n,t,rfl⟩:=h1 v acR
     subst h2
     exact .cons n t (eD.mpr ⟨λu hu=>h1 u (acO _ hu),rfl⟩)⟩
theorem pE {vs Vw:List Value} {ns:List Int} (h:IntsAre vs ns) (p:Vw.Perm vs):∃ n0,IntsAre Vw n0 /\ n0.Perm ns:=by
 obtain ⟨h1,h2⟩:=eD.mp h
 exact ⟨Vw.map iv,eD.mpr ⟨λv hv=>h1 v (p.mem_iff.mp hv),rfl⟩,by rw [h2]; exact p.map iv⟩
def jR (prog:Program) (w:World) (h:Heap) (a:Addr) (led:Bool) (ns:List Int):Prop:=∃ o es ep t,h.get? a=some o /\ o.ExactSet /\ o.data=.set es ep t /\ ElemsOf (intKind prog w) es.toList /\
 IntsAre (es.toList.map (·.2)) ns /\ ns.Nodup /\ es.size < scanBound /\ t.fits es.size=true /\ t.led=led /\ uK t.place.toList
section
variable {prog:Program} {w:World} {A:Around} {E:Value->Shared->Prop} {s:Shared} {a:Addr} {led:Bool} {ns:List Int}
theorem jR.keeps {h h':Heap} (x:jR prog w h a led ns) (k:∀ o,h.get? a=some o->h'.get? a=some o):jR prog w h' a led ns:=by
 obtain ⟨o,es,ep,t,ho,r⟩:=x
 exact ⟨o,es,ep,t,k o ho,r⟩
theorem xY {h:Heap} {o:Obj} {es:Array (Int×Value)} {ep:Nat} {t:SetTable} (ho:h.get? a=some o) (hex:o.ExactSet) (hd:o.data=.set es ep t) {xA:Array (Int×Value)} {t':SetTable} {n0:List Int}
  (h1:ElemsOf (intKind prog w) xA.toList) (h2:IntsAre (xA.toList.map (·.2)) n0) (h3:n0.Nodup) (h4:xA.size < scanBound) (h5:t'.fits xA.size=true) (h6:t'.led=led) (h7:uK t'.place.toList):
  (h.update a (Obj.putSet xA t')).get? a=some { o with data:=.set xA (ep + 1) t' } /\ jR prog w (h.update a (Obj.putSet xA t')) a led n0:=by
 have hg:(h.update a (Obj.putSet xA t')).get? a=some { o with data:=.set xA (ep + 1) t' }:=by
  have q:=adM (Obj.putSet xA t') ho (by rw [putSet_of xA t' hd]; rfl)
  rwa [putSet_of xA t' hd] at q
 exact ⟨hg,_,xA,ep + 1,t',hg,hex,rfl,h1,h2,h3,h4,h5,h6,h7⟩
theorem uL {g:Bool->Sem Unit} (hg:∀ (b:Bool) (bR:Shared) (Q':Unit->Shared->Prop),Q' () bR->wpAny (model prog w) A (g b) Q' E bR) {o:Obj} {es:Array (Int×Value)} {ep:Nat} {t:SetTable}
  (ho:s.heap.get? a=some o) (hex:o.ExactSet) (hd:o.data=.set es ep t) {qD:Array (Int×Value)} {t2:SetTable} {Oo:List Int} (h1:ElemsOf (intKind prog w) qD.toList) (h2:IntsAre (qD.toList.map (·.2)) Oo) (h3:Oo.Nodup) (h4:qD.size < scanBound)
  (h5:t2.fits qD.size=true) (h6:t2.led=led) (h7:uK t2.place.toList) {wd:Bool} {R:Option Bool->Shared->Prop}
  (h:∀ h' n0,Heap.SameBut a s.heap h'->jR prog w h' a led n0->n0.Perm Oo->R (some true) { s with heap:=h' }):
  wpAny (model prog w) A (do
    storeSet a qD t2
    if (!wd && t2.tooFull)=true then do
        g (relayAll t2 qD (SetTable.grown qD.size)).2.2
        storeSet a (relayAll t2 qD (SetTable.grown qD.size)).1 (relayAll t2 qD (SetTable.grown qD.size)).2.1
        pure (some true)
     else pure (some true)) R E s:=by
 refine acI (wpAny_storeSet_of ho hd ?_ (fits_of_scanBound h4))
 obtain ⟨EI,S1⟩:=xY (led:=led) ho hex hd h1 h2 h3 h4 h5 h6 h7
 have b1:=adN s.heap a (Obj.putSet qD t2)
 split
 .have hp:=relayAll_perm t2 qD (SetTable.grown qD.size)
  have hf:=relayAll_fits t2 qD (SetTable.grown qD.size)
  obtain ⟨hr,hl⟩:=vP (t:=t2) (es:=qD) (n:=SetTable.grown qD.size)
  generalize relayAll t2 qD (SetTable.grown qD.size)=Z at hp hf hr hl ⊢
  obtain ⟨es2,t3,Vx⟩:=Z
  dsimp only at hp hf hr hl ⊢
  obtain ⟨ns2,i2,p2⟩:=pE h2 (hp.map (·.2))
  have hz:es2.size=qD.size:=by rw [<- Array.length_toList,hp.length_eq,aeX]
  have b2:es2.size < scanBound:=by rw [hz]; exact h4
  refine acI (hg _ _ _ (acI (wpAny_storeSet_of EI rfl ?_ (fits_of_scanBound b2))))
  obtain ⟨_,S2⟩:=xY (led:=led) EI hex rfl (h1.perm hp) i2 (p2.nodup_iff.mpr h3) b2 hf (hl.trans h6) hr
  exact acT (h _ ns2 (b1.trans (adN _ a _)) S2 p2)
 .exact acT (h _ Oo b1 S1 (.refl _))
theorem xZ {es:List (Int×Value)} {i:Int} (h:IntsAre (es.map (·.2)) ns):i∈ns↔∃ e∈es,Value.isInt i e.2=true:=by
 obtain ⟨h1,h2⟩:=eD.mp h
 subst h2
 constructor
 .intro hm
  obtain ⟨v,hv,e⟩:=ac5.mp hm
  obtain ⟨x,hx,rfl⟩:=ac5.mp hv
  obtain ⟨n,t,q⟩:=h1 _ hv
  rw [q] at e
  cases e
  exact ⟨x,hx,by rw [q]; simp [Value.isInt,iv]⟩
 .rintro ⟨e,he,q⟩
  obtain ⟨t,z⟩:=Value.isInt_shape q
  exact ac5.mpr ⟨e.2,ac5.mpr ⟨e,he,rfl⟩,by rw [z]; rfl⟩
theorem FR {i:Int} {tk:Tok} {Q:Bool->Shared->Prop} (hS:jR prog w s.heap a led ns) (room:ns.length + 1 < scanBound)
  (h:∀ h' n0 b,Heap.SameBut a s.heap h'->jR prog w h' a led n0->(∀ k,k∈n0↔k∈ns \/ k=i)->n0.length<=ns.length + 1->Q b { s with heap:=h' }):
  wpAny (model prog w) A (setAddHashed a (.int i tk) (hashInt i)) Q E s:=by
 obtain ⟨o,es,ep,t,ho,hex,hd,h1,h2,h3,h4,h5,h6,h7⟩:=hS
 have hlen:ns.length=es.size:=by
  obtain ⟨_,e⟩:=eD.mp h2
  rw [e]; simp
 have hk:(intKind prog w).is i (.int i tk)=true:=intKind_is prog w i tk
 have Vy:(Value.int i tk).scannable=true:=rfl
 unfold setAddHashed setAddHashedIn
 refine aet (acI (aeR ho hd h5 ?_))
 dsimp only
 rw [byScan_of Vy h4 h1]
 simp only [↓reduceIte]
 unfold setAddByScan
 refine acI (acI (afZ (acI (wpAny_setScan_of (knd:=intKind prog w) (k:=i) hk ho hd h5 h1 ?_))))
 cases hf:List.findIdx? (λe=>(intKind prog w).is i e.2) es.toList with
 | some j=>
   dsimp only
   obtain ⟨hj,hpj,_⟩:=List.findIdx?_eq_some_iff_getElem.mp hf
   have hm:i∈ns:=(xZ h2).mpr ⟨_,aeG hj,hpj⟩
   refine acT (acT ?_)
   have q:=h s.heap ns false (Heap.SameBut.refl a s.heap) ⟨o,es,ep,t,ho,hex,hd,h1,h2,h3,h4,h5,h6,h7⟩ (λk=>⟨.inl,λz=>z.elim id λe=>e ▸ hm⟩) (aeQ _)
   exact q
 | none=>
   dsimp only
   have hn:i∉ns:=λhm=>by
    obtain ⟨e,he,q⟩:=(xZ h2).mp hm
    have z:=List.findIdx?_eq_none_iff.mp hf e he
    rw [show (intKind prog w).is i e.2=true from q] at z
    cases z
   have gw:∀ (b:Bool) {bR:Shared} {Q':Unit->Shared->Prop},Q' () bR->wpAny (model prog w) A (match b with | true=>rule "set.scan.the-table-gave-way" | false=>pure ()) Q' E bR:=
    λb bR Q' hq=>by cases b <;> first | exact acT hq | exact afZ hq
   have hp:=layNew_perm t es (hashInt i) (.int i tk)
   have Ry:=layNew_fits t es (hashInt i) (.int i tk)
   obtain ⟨hr,hl⟩:=z5 (t:=t) (es:=es) (h:=hashInt i) (x:=.int i tk) h7
   generalize layNew t es (hashInt i) (.int i tk)=Z at hp Ry hr hl ⊢
   obtain ⟨qD,t1,wd,Vx⟩:=Z
   dsimp only at hp Ry hr hl ⊢
   rw [Array.toList_push] at hp
   have e1:ElemsOf (intKind prog w) qD.toList:=(h1.push hk Vy).perm hp
   have i0:IntsAre ((es.toList ++ [(hashInt i,Value.int i tk)]).map (·.2)) (ns ++ [i]):=by
    obtain ⟨x1,x2⟩:=eD.mp h2
    refine eD.mpr ⟨λv hv=>?_,by rw [x2]; simp [iv]⟩
    rw [ade] at hv
    rcases adh.mp hv with z | z
    .exact x1 v z
    .simp at z; exact ⟨i,tk,z⟩
   obtain ⟨Oo,i1,p1⟩:=pE i0 (hp.map (·.2))
   have nd:Oo.Nodup:=p1.nodup_iff.mpr (by
    rw [aeS]
    exact ⟨h3,by simp,λx hx y hy=>by simp at hy; rw [hy]; exact λz=>hn (z ▸ hx)⟩)
   have hz:qD.size=es.size + 1:=by rw [<- Array.length_toList,hp.length_eq,ac7,aeX]; rfl
   have b1:qD.size < scanBound:=by omega
   have fin:∀ h' n0,Heap.SameBut a s.heap h'->jR prog w h' a led n0->n0.Perm Oo->Q true { s with heap:=h' }:=λh' n0 sb S p=>by
    refine h h' n0 true sb S (λk=>?_) ?_
    .rw [p.mem_iff,p1.mem_iff]; simp
    .rw [p.length_eq,p1.length_eq]; simp
   refine acI (gw _ ?_)
   split
   .rw [hashByValue_scannable 8 Vy]
    refine acI (acT ?_)
    refine uL (led:=led) ?_ ho hex hd e1 i1 nd b1 ?_ ?_ ?_ λh' n0 sb S p=>?_
    .intro b bR Q' hq; cases b <;> first | exact acT hq | exact afZ hq
    .split
     .exact Ry
     .exact SetTable.fits_plain_off Ry
    .split <;> exact hl.trans h6
    .split <;> exact hr
    .dsimp only; exact wpAny_pure (fin h' n0 sb S p)
   .refine acI (acT ?_)
    simp only [↓reduceIte]
    refine uL (led:=led) ?_ ho hex hd e1 i1 nd b1 Ry (hl.trans h6) hr λh' n0 sb S p=>?_
    .intro b bR Q' hq; cases b <;> first | exact acT hq | exact afZ hq
    .dsimp only; exact wpAny_pure (fin h' n0 sb S p)
end
end LS
namespace LS
open PySem PySem.Spec PyProof.Rows
section
variable {prog:Program} {w:World} {A:Around} {E:Value->Shared->Prop} {s:Shared}
abbrev lI (w:World):Bool:= !w.params.followText "set-order"
abbrev ic (w:World):Obj:={ cls:=.type "set",dict:=none,data:=.set #[] 0 (.fresh 0 0 (lI w)) }
theorem Dw {h:Heap} {a:Addr} (e:h.get? a=some (ic w)):jR prog w h a (lI w) []:=
 ⟨_,#[],0,_,e,⟨rfl,rfl,rfl⟩,rfl,λx hx=>by simp at hx,.nil,.nil,by decide,rfl,rfl,List.Pairwise.nil⟩
theorem JY (a:Value) {Q₁:Value->Shared->Prop} (h:Q₁ (.ref s.heap.objs.size) { s with heap:=s.heap.push (ic w) }):
  codeAny (model prog w) A (.call (.builtin "set.__new__") ⟨[.type "set",a],[]⟩) (wants Q₁ E) s:=by
 refine codeAny_of_tree ?_
 show wpAny _ A.in1 (checkBuiltinCall "set.__new__" ⟨[.type "set",a],[]⟩ >>= λ_=>again (.builtin "set.__new__" ⟨[.type "set",a],[]⟩)) _ _ s
 refine acI (agI (PySem.F.newCall_set_1 a) (acT ⟨af3 PySem.F.plain_set_new _,aeL PySem.F.entry_set_new ?_⟩))
 rw [aeT PySem.F.plain_set_new _]
 unfold Builtin.«set.__new__» Builtin.Frozenset.newClass
 have xW:=sub_set_self
 obtain ⟨hp,g,d,tk,os⟩:=s
 dsimp only
 wp_walk
 refine ae2 (acT ?_)
 dsimp only
 simp only [newObj]
 exact acI (wpAny_alloc (acT (acT h)))
end
section
variable {prog:Program} {w:World} {A:Around} {R:Result->Shared->Prop} {I:Addr} {fp wr:List Addr} {G:Array GenState->Array GenState->Prop} {n:Nat} {P:Nat->Value->Prop} {St:Nat->Shared->Prop} {led:Bool}
theorem FT (W:WalksS prog w A.in1 I fp wr G n P St) (S:Addr) (Oq:S∉fp) (val:Nat->Int) (FU:∀ i v,P i v->∃ t,v=.int (val i) t) (hb:n + 1 < scanBound):
  ∀ (k i:Nat) (s:Shared) (ns:List Int),n - i=k->i<=n->St i s->jR prog w s.heap S led ns->ns.length<=i->(∀ x,x∈ns↔∃ j,j < i /\ val j=x)->
    (∀ s' n0,Moved (S :: wr) G s s'->jR prog w s'.heap S led n0->n0.length<=n->(∀ x,x∈n0↔∃ j,j < n /\ val j=x)->R (.ok (.ret .none)) s')->
    codeAny (model prog w) A (.builtin "set.update.loop" ⟨[.ref S,.ref I],[]⟩) R s:=by
 have hSw:S∉wr:=λh=>Oq (W.sub _ h)
 have xW:∀ b∈wr,b∈S :: wr:=λb hb=>acO _ hb
 intro k
 induction k with
 | zero=>
   intro i s ns hk hi st hS hl hm hR
   have hin:i=n:=by omega
   subst hin
   refine aeL afp ?_
   rw [aeT aeB _]
   show wpAny _ A.in1 (pyNext (.ref I) >>= _) _ _ s
   refine acI (W.done s _ _ st λs' mv=>?_)
   show wpAny _ A.in1 (ret Value.none) _ _ s'
   exact acT (hR s' ns (mv.mono xW) (hS.keeps λo e=>mv.heap S o hSw e) hl hm)
 | succ k ih=>
   intro i s ns hk hi st hS hl hm hR
   have iG:i < n:=by omega
   refine aeL afp ?_
   rw [aeT aeB _]
   show wpAny _ A.in1 (pyNext (.ref I) >>= _) _ _ s
   refine acI (W.item i s _ _ iG st λv s' hP CY mv=>?_)
   obtain ⟨t,rfl⟩:=FU i v hP
   have Qj:jR prog w s'.heap S led ns:=hS.keeps λo e=>mv.heap S o hSw e
   show wpAny _ A.in1 (holding [Value.int (val i) t] (setAdd S (.int (val i) t)) >>= _) _ _ s'
   refine acI (aet ?_)
   unfold setAdd
   refine aet (acI ((intKind prog w).pyHash (k:=val i) (intKind_is _ _ _ _) ?_))
   refine FR (s:={ s' with toks:=s'.toks + 1 }) Qj (by omega) λh' n0 b sb S2 Vz Jy=>?_
   refine acT ⟨af3 aeB _,ih (i + 1) _ n0 (by omega) iG (W.frame _ s' _ _ CY (aeQ _) λb hb o e=>?_) S2 (by omega) (λx=>?_) λQ0 VA VB S3 l3 m3=>?_⟩
   .rw [sb.2 b (λz:b=S=>Oq (by rw [<- z]; exact hb))]; exact e
   .rw [Vz,hm]
    constructor
    .rintro (⟨j,hj,e⟩ | e)
     .exact ⟨j,by omega,e⟩
     .exact ⟨i,by omega,e.symm⟩
    .rintro ⟨j,hj,e⟩
     by_cases hji:j=i
     .subst hji; exact .inr e.symm
     .exact .inl ⟨j,by omega,e⟩
   .refine hR Q0 VA (Moved.trans W.gtrans ((mv.mono xW).then_heap (aeQ _) λb o hb e=>?_) VB) S3 l3 m3
    rw [sb.2 b (λz:b=S=>hb (by rw [z]; exact acR))]; exact e
end
section
variable {prog:Program} {w:World} {A:Around} {E:Value->Shared->Prop} {s:Shared}
structure z6 (prog:Program) (w:World) (h:Heap) (r:Addr) (items:Array Value) (T:String) (oI:Obj) (St:Addr->Nat->Heap->Prop):Prop where
 ty:∃ o,h.get? r=some o /\ o.cls=.type T
 Ot:isSubtype (.type T) (.type "set")=pure false
 Ou:isSubtype (.type T) (.type "frozenset")=pure false
 nd:(Value.type T == Value.type "dict")=false
 iter:∀ (A':Around) (s':Shared) (Q:Value->Shared->Prop) (E:Value->Shared->Prop),(∀ o,h.get? r=some o->s'.heap.get? r=some o)->Q (.ref s'.heap.objs.size) { s' with heap:=s'.heap.push oI }->wpAny (model prog w) A' (pyIter (.ref r)) Q E s'
 walk:∀ (A':Around) (I:Addr),A'.handled=none->r≠I->Walks prog w A' I [I,r] [I] items.size (λi v=>items[i]?=some v) (St I)
 st:∀ h':Heap,(∀ o,h.get? r=some o->h'.get? r=some o)->St h'.objs.size 0 (h'.push oI)
theorem src_list {h:Heap} {l:Addr} {items:Array Value} (hl:h.IsList l items):z6 prog w h l items "list" { cls:=.type "list_iterator",data:=.fields #[.ref l,.int 0 0] } (λI i h=>h.IsListIter I l i /\ h.IsList l items) where
 ty:=let ⟨o,e,c,_⟩:=hl; ⟨o,e,c⟩
 Ot:=PySem.F.sub_list_set
 Ou:=PySem.F.sub_list_frozenset
 nd:=by decide
 iter:=λA' s' Q E k q=>afh (hl.at k) q
 walk:=λA' I hh lb=>Walks.list hh I l lb items
 st:=λh' k=>⟨⟨_,ac8 _ rfl,rfl,rfl⟩,(hl.at k).push _⟩
theorem src_tuple {h:Heap} {l:Addr} {items:Array Value} (hl:h.IsTuple l items):z6 prog w h l items "tuple" { cls:=.type "tuple_iterator",data:=.fields #[.ref l,.int 0 0] } (λI i h=>h.IsTupleIter I l i /\ h.IsTuple l items) where
 ty:=let ⟨o,e,c,_⟩:=hl; ⟨o,e,c⟩
 Ot:=by rw [afR]; kernel_rfl
 Ou:=by rw [afR]; kernel_rfl
 nd:=by decide
 iter:=λA' s' Q E k q=>wpAny_pyIter_tuple (hl.at k) q
 walk:=λA' I hh lb=>Walks.tuple hh I l lb items
 st:=λh' k=>⟨⟨_,ac8 _ rfl,rfl,rfl⟩,(hl.at k).push _⟩
set_option maxHeartbeats 3200000 in
theorem ya {r:Addr} {items:Array Value} {ms:List Int} {T:String} {oI:Obj} {St:Addr->Nat->Heap->Prop} {Q:Value->Shared->Prop} (hh:A.handled=none) (src:z6 prog w s.heap r items T oI St) (hi:IntsAre items.toList ms) (hb:items.size + 1 < scanBound)
  (h:∀ (h':Heap) (tk:Nat) (ns:List Int),jR prog w h' s.heap.objs.size (lI w) ns->(∀ x,x∈ns↔x∈ms)->ns.length<=ms.length->(∀ b o,s.heap.get? b=some o->h'.get? b=some o)->Q (.ref s.heap.objs.size) { s with heap:=h',toks:=tk }):
  wpAny (model prog w) A (call (.type "set") [.ref r]) Q E s:=by
 obtain ⟨c,tl,aeC⟩:=ad6.mro
 have ac6:=ad6.made
 have xW:=ad6.sub
 refine wpAny_call (codeAny_of_tree ?_)
 show wpAny _ _ (callAny (.type "set") _) _ _ _
 refine acT ⟨Code.quiet_builtin _ (by decide +kernel),aeL PySem.F.entry_type_call ?_⟩
 rw [Around.under_plain (weight_type_call_type "set" [.ref r] []) rfl]
 have h1:=ad6.notType
 have h2:=ad6.canCreate
 have hct:=PySem.F.typeCall_set_1 (.ref r)
 repeat (any_goals (first | assumption | wp_step))
 refine ae9 (JY (.ref r) (E:=E) (Q₁:=λobj bR=>obj=.ref s.heap.objs.size /\ bR={ s with heap:=s.heap.push (ic w) }) ⟨rfl,rfl⟩) λq bR hq=>?_
 cases q with
 | error e=>exact hq
 | ok fl=>
   cases fl with
   | ret obj=>
     obtain ⟨rfl,rfl⟩:=hq
     have hS:(s.heap.push (ic w)).get? s.heap.objs.size=some (ic w):=ac8 _ rfl
     have hT:Shared.TypeIs { s with heap:=s.heap.push (ic w) } (.ref s.heap.objs.size) "set":=⟨_,hS,rfl⟩
     have hli:=ad6.init.lookup
     have hbi:=ad6.init.bind (.ref s.heap.objs.size)
     repeat (any_goals (first | assumption | wp_step))
     refine ae9 (af5 (R:=wants (λv mT=>v=.none /\ ∃ h' tk ns,mT={ s with heap:=h',toks:=tk } /\ jR prog w h' s.heap.objs.size (lI w) ns /\ (∀ x,x∈ns↔x∈ms) /\ ns.length<=ms.length /\ ∀ b o,s.heap.get? b=some o->h'.get? b=some o) E)
      ad6.init.plain PySem.F.entry_set_init (check_set_init_1 hT ?_)) λVC mT FV=>?_
     .obtain ⟨VD,Mb,rW⟩:=src.ty
      obtain ⟨aeD,Rz,RA,Ov⟩:=VD
      simp only at rW
      subst rW
      have aeE:(s.heap.push (ic w)).get? r=some { cls:=.type T,dict:=Rz,data:=RA,slots:=Ov }:=acM _ Mb
      have FW:=src.Ot
      have oa:=src.Ou
      have lb:=src.nd
      unfold Builtin.«set.__init__» noKeywords Builtin.Frozenset.updateFrom
      generalize hPI:pyIter=PI
      wp_walk
      subst hPI
      refine src.iter _ _ _ _ (λo e=>acM _ e) ?_
      refine acI (wpAny_runValue ?_)
      have hrS:r < s.heap.objs.size:=acV Mb
      have hh3:A.in1.in1.in1.handled=none:=by simp [hh]
      have hz:(s.heap.push (ic w)).objs.size=s.heap.objs.size + 1:=aef _ _
      have VE:r≠(s.heap.push (ic w)).objs.size:=by rw [hz]; exact adj (aeg hrS)
      have Oq:s.heap.objs.size∉[(s.heap.push (ic w)).objs.size,r]:=by
       rw [hz]; simp only [acK,adz,aez,agQ]
       exact ⟨adj (adX _),ae8 hrS⟩
      have FU:∀ (i:Nat) (v:Value),items[i]?=some v->∃ t,v=.int ((λi=>ms.getD i 0) i) t:=λi v hv=>IntsAre.int_at hi i v (by rw [Array.getElem?_toList]; exact hv)
      have hlen:ms.length=items.size:=by have:=(eD.mp hi).2; rw [this]; simp
      refine FT ((src.walk _ _ hh3 VE).toS) s.heap.objs.size Oq (λi=>ms.getD i 0) FU hb (items.size - 0) 0 _ [] (by omega) (aek _) (src.st _ λo e=>acM _ e) (Dw (acM _ hS)) (ac1 _) (λx=>by simp) ?_
      intro s' n0 mv S' l' m'
      obtain ⟨h',g',d',tk',Ve⟩:=s'
      have eg:g'=s.gens:=mv.gens
      have ed:d'=s.drawn:=mv.drawn
      have eo:Ve=s.os:=mv.os
      subst eg ed eo
      show wpAny _ _ _ _ _ _
      refine acT ?_
      show wpAny _ _ (ret Value.none) _ _ _
      refine acT ⟨rfl,h',tk',n0,rfl,S',λx=>?_,by omega,λb o e=>?_⟩
      .rw [m',<- hlen]
       constructor
       .rintro ⟨j,hj,e⟩
        rw [acS,acL hj] at e
        rw [<- e]; exact aeG hj
       .intro hx
        obtain ⟨j,hj,e⟩:=aeA hx
        exact ⟨j,hj,by rw [acS,acL hj]; exact e⟩
      .have Ow:=acV e
       refine mv.heap b o ?_ (acM _ (acM _ e))
       rw [hz]
       simp only [acK,adz,aez,agQ]
       exact ⟨adj Ow,adj (aeg Ow)⟩
     .cases VC with
      | error e=>exact FV
      | ok RB=>
        cases RB with
        | ret v=>
          obtain ⟨rfl,h',tk,ns,rfl,S',m',l',k'⟩:=FV
          repeat (any_goals (first | assumption | wp_step))
          exact h _ _ ns S' m' l' k'
        | _=>exact FV.elim
   | _=>exact hq.elim
end
end LS
namespace LS
open PySem PyProof.Rows
set_option maxRecDepth 100000
theorem cf:Slot "set_iterator" "__next__" "set_iterator.__next__":=
 .of (owner:="set_iterator") (n:="__next__") (by rw [typeLookup_type,builtinLookup_eq_fast]; kernel_rfl) (by decide +kernel) (by decide +kernel) (by decide +kernel) (by first | exact .inl (by decide +kernel) | exact .inr (by decide +kernel)) (by rw [afR]; kernel_rfl)
theorem oB:Slot "set_iterator" "__iter__" "set_iterator.__iter__":=
 .of (owner:="set_iterator") (n:="__iter__") (by rw [typeLookup_type,builtinLookup_eq_fast]; kernel_rfl) (by decide +kernel) (by decide +kernel) (by decide +kernel) (by first | exact .inl (by decide +kernel) | exact .inr (by decide +kernel)) (by rw [afR]; kernel_rfl)
theorem ie:entryFor table "set_iterator.__next__"=some Builtin.«set_iterator.__next__»:=entryFor_of_tree (by kernel_rfl)
theorem tX:entryFor table "set_iterator.__iter__"=some Builtin.«dict_keyiterator.__iter__»:=
 entryFor_alias (id':="dict_keyiterator.__iter__") (by kernel_rfl) (by first | rfl | decide +kernel | (unfold String.splitOn; simp +decide [String.splitOnAux])) (by decide +kernel) (by kernel_rfl)
theorem rX:entryFor table "set.__iter__"=some Builtin.«frozenset.__iter__»:=
 entryFor_alias (id':="frozenset.__iter__") (by kernel_rfl) (by first | rfl | decide +kernel | (unfold String.splitOn; simp +decide [String.splitOnAux])) (by decide +kernel) (by kernel_rfl)
theorem yb:Manifest.owners.lookup (String.ofList ['r','o','t','a','r','e','t','i','_','t','e','s'].reverse)=some Manifest.sig_set_iterator:=by kernel_rfl
theorem iT (a:Value):argsOk "set_iterator.__next__" ⟨[a],[]⟩:=by
 unfold argsOk; rw [signature?_of (id:="set_iterator.__next__") (n:=['_','_','t','x','e','n','_','_']) (o:=['r','o','t','a','r','e','t','i','_','t','e','s']) (by kernel_rfl) yb]; kernel_rfl
theorem vQ (a:Value):argsOk "set_iterator.__iter__" ⟨[a],[]⟩:=by
 unfold argsOk; rw [signature?_of (id:="set_iterator.__iter__") (n:=['_','_','r','e','t','i','_','_']) (o:=['r','o','t','a','r','e','t','i','_','t','e','s']) (by kernel_rfl) yb]; kernel_rfl
def ko (h:Heap) (it a:Addr) (first:Value) (i n ep:Nat):Prop:=∃ o,h.get? it=some o /\ o.cls=.type "set_iterator" /\ o.data=.fields #[first,.int i 0,.ref a,.int n 0,.int ep 0]
section
variable {prog:Program} {w:World} {A:Around} {E:Value->Shared->Prop} {s:Shared} {it a:Addr} {first:Value} {i n ep:Nat}
theorem ko.at {h h':Heap} (x:ko h it a first i n ep) (k:∀ o,h.get? it=some o->h'.get? it=some o):ko h' it a first i n ep:=let ⟨o,e,r⟩:=x; ⟨o,k o e,r⟩
theorem ko.typeIs (x:ko s.heap it a first i n ep):s.TypeIs (.ref it) "set_iterator":=let ⟨o,e,c,_⟩:=x; ⟨o,e,c⟩
def gY (h:Heap) (a:Addr) (es:Array (Int×Value)) (ep:Nat) (t:SetTable):Prop:=∃ o,h.get? a=some o /\ o.ExactSet /\ o.data=.set es ep t
theorem gY.at {h h':Heap} {es:Array (Int×Value)} {t:SetTable} (x:gY h a es ep t) (k:∀ o,h.get? a=some o->h'.get? a=some o):gY h' a es ep t:=let ⟨o,e,r⟩:=x; ⟨o,k o e,r⟩
theorem vR (hit:ko s.heap it a first i n ep) {Q:Value->Shared->Prop} (h:Q (.ref it) s):wpAny (model prog w) A (pyIter (.ref it)) Q E s:=by
 refine wpAny_pyIter_slot hit.typeIs oB (ad8 oB hit.typeIs tX ?_ (vQ _))
 show wpAny _ _ (ret (.ref it)) _ _ s
 exact acT ⟨_,rfl,"set_iterator",_,hit.typeIs,cf.lookup,h⟩
variable {es:Array (Int×Value)} {t:SetTable} {slot:Nat}
theorem B0 {x:Value} {next:Nat} {Q:Option Value->Shared->Prop} (hit:ko s.heap it a (.int slot 0) i n ep) (hS:gY s.heap a es ep t) (hf:t.fits es.size=true) (hn:es.size=n)
  (hx:∀ (A':Around) (Q':Option (Value×Nat)->Shared->Prop) (E':Value->Shared->Prop),Q' (some (x,next)) s->wpAny (model prog w) A' (setNext a slot i ep) Q' E' s)
  (hQ:∀ h',ko h' it a (.int next 0) (i + 1) n ep->Heap.SameBut it s.heap h'->Q (some x) { s with heap:=h' }):wpAny (model prog w) A (pyNext (.ref it)) Q E s:=by
 obtain ⟨o,ho,hc,hd⟩:=id hit
 obtain ⟨os,Mc,hex,Md⟩:=id hS
 unfold pyNext
 refine acI (wpAny_attempt (ad7 (name:=Str.ofString "__next__") hit.typeIs cf (ad8 cf hit.typeIs ie ?_ (iT _))))
 unfold Builtin.«set_iterator.__next__»
 refine acI (acT ?_)
 dsimp only
 refine acI (agv ho hd ?_)
 dsimp only
 refine acI (aeZ Mc Md hf ?_)
 rw [acW (by rw [hn]; simp)]
 refine acI ?_
 simp only [adA]
 refine hx _ _ _ ?_
 dsimp only
 refine acI (aeH ho hd (by simp) ?_)
 have e1:=adM (Obj.mapFields (·.setIfInBounds 0 (rawInt next))) ho (aeJ (adR hd _))
 have d1:=adR hd (·.setIfInBounds 0 (rawInt next))
 refine acI (aeH e1 d1 (by simp) ?_)
 refine acT ⟨x,rfl,acT (hQ _ ?_ ((adN ..).trans (adN ..)))⟩
 refine ⟨_,adM _ e1 (aeJ (adR d1 _)),?_,?_⟩
 .rw [afP,afP]; exact hc
 .rw [adR d1]; simp [rawInt]
theorem FX {Q:Option Value->Shared->Prop} (hh:A.handled=none) (hit:ko s.heap it a (.int slot 0) i n ep) (hS:gY s.heap a es ep t) (hf:t.fits es.size=true) (hn:es.size=n)
  (hx:∀ (A':Around) (Q':Option (Value×Nat)->Shared->Prop) (E':Value->Shared->Prop),Q' none s->wpAny (model prog w) A' (setNext a slot i ep) Q' E' s)
  (hQ:∀ h',Heap.ExtBut it s.heap h'->Q none { s with heap:=h' }):wpAny (model prog w) A (pyNext (.ref it)) Q E s:=by
 obtain ⟨o,ho,hc,hd⟩:=id hit
 obtain ⟨os,Mc,hex,Md⟩:=id hS
 unfold pyNext
 refine acI (wpAny_attempt (ad7 (name:=Str.ofString "__next__") hit.typeIs cf (ad8 cf hit.typeIs ie ?_ (iT _))))
 unfold Builtin.«set_iterator.__next__»
 refine acI (acT ?_)
 dsimp only
 refine acI (agv ho hd ?_)
 dsimp only
 refine acI (aeZ Mc Md hf ?_)
 rw [acW (by rw [hn]; simp)]
 refine acI ?_
 simp only [adA]
 refine hx _ _ _ ?_
 dsimp only
 refine acI (aeH ho hd (by simp) ?_)
 refine acI ?_
 simp only [newExc,newTuple]
 refine acI (adP ?_ (by size_fits))
 refine acI (m:=firstArgMember _ _) (agI (a:=Value.none) (by first | rfl | (simp only [firstArgMember]; rfl)) ?_)
 refine adP ?_ (by size_fits)
 simp only [raiseNew]
 refine acI (wpAny_handled ?_)
 first | rw [show A.in1.handled=none from hh] | rw [hh]
 refine acI (acT (wpAny_throw ?_))
 refine acI (wpAny_isInstance (T:="StopIteration") (b:=true) ⟨_,ac8 _ rfl,rfl⟩ isSubtype_stop ?_)
 exact acT (hQ _ (((adN ..).extBut.push _).push _))
theorem FY {x:Value} {pl:Nat} {tp:Addr} {ps:Array Value} {hsh:Int} {Q:Option Value->Shared->Prop} (hit:ko s.heap it a (.ref tp) i n ep) (ht:s.heap.IsTuple tp ps) (hS:gY s.heap a es ep t) (hf:t.fits es.size=true) (hn:es.size=n)
  (hp:ps[i]?=some (.int pl 0)) (hx:es[pl]?=some (hsh,x))
  (hQ:∀ h',ko h' it a (.ref tp) (i + 1) n ep->Heap.SameBut it s.heap h'->Q (some x) { s with heap:=h' }):wpAny (model prog w) A (pyNext (.ref it)) Q E s:=by
 obtain ⟨o,ho,hc,hd⟩:=id hit
 obtain ⟨os,Mc,hex,Md⟩:=id hS
 obtain ⟨ot,VF,_,nt,VG⟩:=ht
 unfold pyNext
 refine acI (wpAny_attempt (ad7 (name:=Str.ofString "__next__") hit.typeIs cf (ad8 cf hit.typeIs ie ?_ (iT _))))
 unfold Builtin.«set_iterator.__next__»
 refine acI (acT ?_)
 dsimp only
 refine acI (agv ho hd ?_)
 dsimp only
 refine acI (aeZ Mc Md hf ?_)
 rw [acW (by rw [hn]; simp)]
 refine acI (agu VF VG ?_)
 dsimp only
 simp only [adA,hp]
 refine acI ?_
 unfold setNextDrawn
 refine acI (aeR Mc Md hf ?_)
 dsimp only
 rw [acW (by simp)]
 simp only [hx]
 refine acT ?_
 refine acI (aeH ho hd (by simp) ?_)
 refine acT ⟨x,rfl,acT (hQ _ ?_ (adN ..))⟩
 refine ⟨_,adM _ ho (aeJ (adR hd _)),?_,?_⟩
 .rw [afP]; exact hc
 .rw [adR hd]; simp [rawInt]
theorem JZ {tp:Addr} {ps:Array Value} {Q:Option Value->Shared->Prop} (hh:A.handled=none) (hit:ko s.heap it a (.ref tp) i n ep) (ht:s.heap.IsTuple tp ps) (hS:gY s.heap a es ep t) (hf:t.fits es.size=true) (hn:es.size=n)
  (hp:ps[i]?=none) (hQ:∀ h',Heap.ExtBut it s.heap h'->Q none { s with heap:=h' }):wpAny (model prog w) A (pyNext (.ref it)) Q E s:=by
 obtain ⟨o,ho,hc,hd⟩:=id hit
 obtain ⟨os,Mc,hex,Md⟩:=id hS
 obtain ⟨ot,VF,_,nt,VG⟩:=ht
 unfold pyNext
 refine acI (wpAny_attempt (ad7 (name:=Str.ofString "__next__") hit.typeIs cf (ad8 cf hit.typeIs ie ?_ (iT _))))
 unfold Builtin.«set_iterator.__next__»
 refine acI (acT ?_)
 dsimp only
 refine acI (agv ho hd ?_)
 dsimp only
 refine acI (aeZ Mc Md hf ?_)
 rw [acW (by rw [hn]; simp)]
 refine acI (agu VF VG ?_)
 dsimp only
 simp only [adA,hp]
 refine acI (aeH ho hd (by simp) ?_)
 have e1:=adM (Obj.mapFields (·.setIfInBounds 0 (rawInt 0))) ho (aeJ (adR hd _))
 have d1:=adR hd (·.setIfInBounds 0 (rawInt 0))
 refine acI (aeH e1 d1 (by simp) ?_)
 refine acI ?_
 simp only [newExc,newTuple]
 refine acI (adP ?_ (by size_fits))
 refine acI (m:=firstArgMember _ _) (agI (a:=Value.none) (by first | rfl | (simp only [firstArgMember]; rfl)) ?_)
 refine adP ?_ (by size_fits)
 simp only [raiseNew]
 refine acI (wpAny_handled ?_)
 first | rw [show A.in1.handled=none from hh] | rw [hh]
 refine acI (acT (wpAny_throw ?_))
 refine acI (wpAny_isInstance (T:="StopIteration") (b:=true) ⟨_,ac8 _ rfl,rfl⟩ isSubtype_stop ?_)
 exact acT (hQ _ ((((adN ..).trans (adN ..)).extBut.push _).push _))
theorem rY (hS:gY s.heap a es ep t) (hf:t.fits es.size=true) (hw:w.params.followText "set-order"=false) (hl:t.led=true) (hp:(!t.plain && decide (es.size > 1))=false) {Q:Option (Value×Nat)->Shared->Prop}
  (h:Q (match es[SetTable.below t.place slot]?,t.place[SetTable.below t.place slot]? with | some (_,x),some j=>some (x,j + 1) | _,_=>none) s):wpAny (model prog w) A (setNext a slot i ep) Q E s:=by
 obtain ⟨o,ho,_,hd⟩:=hS
 unfold setNext
 refine acI (aeR ho hd hf ?_)
 dsimp only
 refine acI ?_
 unfold setsByText
 refine acI (ae2 (acT ?_))
 show wpAny _ _ (if w.params.followText "set-order"=true then _ else _) _ _ _
 rw [hw,acW acP]
 show wpAny _ _ (if (!t.plain && decide (es.size > 1))=true then _ else _) _ _ _
 rw [hp,acW acP]
 refine acI ?_
 show wpAny _ _ (if (!t.led && !es.isEmpty)=true then _ else _) _ _ _
 rw [hl,acW (by simp)]
 exact acT (acT h)
theorem uM (hS:gY s.heap a es ep t) (hf:t.fits es.size=true) (hw:w.params.followText "set-order"=true) {Q:Option (Value×Nat)->Shared->Prop}
  (h:Q (((pickOrder (w.params.setOrder a ep) es)[i]?).map λe=>(e.2,slot)) s):wpAny (model prog w) A (setNext a slot i ep) Q E s:=by
 obtain ⟨o,ho,_,hd⟩:=hS
 unfold setNext
 refine acI (aeR ho hd hf ?_)
 dsimp only
 refine acI ?_
 unfold setsByText
 refine acI (ae2 (acT ?_))
 show wpAny _ _ (if w.params.followText "set-order"=true then _ else _) _ _ _
 rw [hw,acU rfl]
 rw [acW (by simp)]
 refine acI ?_
 unfold setWalk
 refine acI (aeR ho hd hf ?_)
 dsimp only
 refine acI ?_
 unfold setsByText
 refine acI (ae2 (acT ?_))
 show wpAny _ _ (if w.params.followText "set-order"=true then _ else _) _ _ _
 rw [hw,acU rfl]
 exact acI (ae2 (acT (acT h)))
end
end LS
namespace LS
open PySem PySem.Spec PyProof.Rows
theorem mZ {α:Type}:∀ {l:List α} {i:Nat} (h:i < l.length),(l[i] :: l.eraseIdx i).Perm l
 | x :: l,0,_=>by simp
 | x :: l,i + 1,h=>by
   have h':i < l.length:=by simpa using h
   have:=mZ h'
   simp only [List.getElem_cons_succ,List.eraseIdx_cons_succ]
   exact (List.Perm.swap _ _ _).trans (List.Perm.cons _ this)
theorem B1 {α:Type} (next:Nat->Nat):∀ (fuel k:Nat) (left:List α) (out:Array α),left.length=fuel->(pickOrder.go next fuel k left out).toList.Perm (out.toList ++ left)
 | 0,k,left,out,h=>by
   have:left=[]:=afE.mp h
   subst this
   rw [pickOrder.go,adV]
 | fuel + 1,k,left,out,h=>by
   rw [pickOrder.go]
   have hl:next k % left.length < left.length:=Nat.mod_lt _ (by omega)
   rw [acL hl]
   dsimp only
   refine (B1 next fuel (k + 1) _ _ (by rw [List.length_eraseIdx_of_lt hl]; omega)).trans ?_
   rw [Array.toList_push,aew]
   exact List.Perm.append_left _ (mZ hl)
theorem Dx {α:Type} (next:Nat->Nat) (xs:Array α):(pickOrder next xs).toList.Perm xs.toList:=by
 have:=B1 next xs.size 0 xs.toList #[] (by simp)
 simpa [pickOrder] using this
section
variable {prog:Program} {w:World} {A:Around} {E:Value->Shared->Prop} {s:Shared} {it a:Addr} {first:Value} {i n ep:Nat} {es:Array (Int×Value)} {t:SetTable}
theorem z7 {M:Model} {src:Source} {Q:Nat->Shared->Prop} (hn:n≠0) (h:∀ i d',i < n->Q i { s with drawn:=d' }):wpAny M A (choose src n) Q E s:=
 λ_ _ _=>⟨hn,h _ _ (Nat.mod_lt _ (Nat.pos_of_ne_zero hn))⟩
theorem rZ {α:Type} {M:Model}:∀ (n:Nat) (xs:List α) (s:Shared) (Q:List α->Shared->Prop),xs.length=n->(∀ ys d',ys.Perm xs->Q ys { s with drawn:=d' })->wpAny M A (drawOrder n xs) Q E s
 | 0,xs,s,Q,hl,h=>by
   have e:xs=[]:=afE.mp hl
   subst e
   rw [drawOrder]
   exact acT (h [] s.drawn (.refl _))
 | n + 1,[],s,Q,hl,h=>by cases hl
 | n + 1,x :: xs,s,Q,hl,h=>by
   rw [drawOrder]
   rotate_left
   .intro z; cases z
   refine acI (z7 (by simp) λi d' hi=>?_)
   rw [acL hi]
   dsimp only
   refine acI (rZ n _ _ _ (by rw [List.length_eraseIdx_of_lt hi]; simp at hl ⊢; omega) λys d2 hp=>acT ?_)
   refine h _ d2 ?_
   exact (List.Perm.cons _ hp).trans (mZ hi)
theorem Dy {I:Addr} (hf:t.fits es.size=true) (hw:w.params.followText "set-order"=true) (lb:a≠I) (hh:A.handled=none):
  Walks prog w A I [I,a] [I] (pickOrder (w.params.setOrder a ep) es).size (λi v=>((pickOrder (w.params.setOrder a ep) es).toList.map (·.2))[i]?=some v) (λi h=>ko h I a (.int (0:Nat) 0) i es.size ep /\ gY h a es ep t) where
 sub:=λb hb=>by simp at hb; simp [hb]
 frame:=λ_ _ _ st hk=>⟨st.1.at λo e=>hk I (by simp) o e,st.2.at λo e=>hk a (by simp) o e⟩
 item:=λi s Q E hi st hQ=>by
  refine B0 (x:=((pickOrder (w.params.setOrder a ep) es)[i]).2) (next:=0) st.1 st.2 hf rfl (λA' Q' E' q=>uM st.2 hf hw (by rw [adQ hi]; exact q)) λh' zY qC=>?_
  exact hQ _ h' s.toks (by simp [hi]) ⟨zY,st.2.at λo e=>qC.extBut a o lb e⟩ λb o hb e=>qC.extBut b o (λh=>hb (by simp [h])) e
 done:=λs Q E st hQ=>FX hh st.1 st.2 hf rfl (λA' Q' E' q=>uM st.2 hf hw (by rw [afS (by simp)]; exact q)) λh' RC=>hQ h' s.toks λb o hb e=>RC b o (λh=>hb (by simp [h])) e
 self:=λ_ _ _ _ st hQ=>vR st.1 hQ
theorem z8 {I:Addr} (hf:t.fits es.size=true) (hw:w.params.followText "set-order"=false) (hl:t.led=true) (hp:(!t.plain && decide (es.size > 1))=false) (hr:uK t.place.toList) (lb:a≠I) (hh:A.handled=none):
  Walks prog w A I [I,a] [I] es.size (λi v=>(es.toList.map (·.2))[i]?=some v)
   (λi h=>∃ slot:Nat,ko h I a (.int slot 0) i es.size ep /\ gY h a es ep t /\ (∀ k,k < i->t.place.getD k 0 < slot) /\ ∀ k,i<=k->k < t.place.size->slot<=t.place.getD k 0) where
 sub:=λb hb=>by simp at hb; simp [hb]
 frame:=λ_ _ _ ⟨slot,IQ,jq,LH⟩ hk=>⟨slot,IQ.at λo e=>hk I (by simp) o e,jq.at λo e=>hk a (by simp) o e,LH⟩
 item:=λi s Q E hi ⟨slot,IQ,jq,LH,VH⟩ hQ=>by
  have hz:t.place.size=es.size:=by simp only [SetTable.fits,adC,beq_iff_eq] at hf; exact hf.1
  have hb:SetTable.below t.place slot=i:=rV hr (by omega) LH VH
  have og:t.place[i]?=some (t.place.getD i 0):=by rw [adQ (by omega)]; simp [Array.getD,hz,hi]
  refine B0 (x:=es[i].2) (next:=t.place.getD i 0 + 1) IQ jq hf rfl (λA' Q' E' q=>rY jq hf hw hl hp (by rw [hb,adQ hi,og]; exact q)) λh' zY qC=>?_
  refine hQ _ h' s.toks (by simp [hi]) ⟨_,zY,jq.at λo e=>qC.extBut a o lb e,λk hk=>?_,λk h1 h2=>?_⟩ λb o hb e=>qC.extBut b o (λh=>hb (by simp [h])) e
  .by_cases hki:k=i
   .rw [hki]; omega
   .have:=mj hr (show k < i by omega) (by omega) 0 0
    omega
  .have:=mj hr (show i < k by omega) h2 0 0
   omega
 done:=λs Q E ⟨slot,IQ,jq,LH,VH⟩ hQ=>by
  have hz:t.place.size=es.size:=by simp only [SetTable.fits,adC,beq_iff_eq] at hf; exact hf.1
  have hb:SetTable.below t.place slot=es.size:=rV hr (by omega) LH VH
  exact FX hh IQ jq hf rfl (λA' Q' E' q=>rY jq hf hw hl hp (by rw [hb,afS (ac1 _)]; exact q)) λh' RC=>hQ h' s.toks λb o hb e=>RC b o (λh=>hb (by simp [h])) e
 self:=λ_ _ _ _ ⟨slot,IQ,_⟩ hQ=>vR IQ hQ
theorem z9 {I tp:Addr} {ys:List Nat} (hf:t.fits es.size=true) (hy:ys.Perm (List.range es.size)) (lb:a≠I) (hnt:tp≠I) (hh:A.handled=none):
  Walks prog w A I [I,a,tp] [I] es.size (λi v=>(ys.map λp=>(es.getD p (0,Value.none)).2)[i]?=some v) (λi h=>ko h I a (.ref tp) i es.size ep /\ h.IsTuple tp (ys.map λp:Nat=>rawInt p).toArray /\ gY h a es ep t) where
 sub:=λb hb=>by simp at hb; simp [hb]
 frame:=λ_ _ _ st hk=>⟨st.1.at λo e=>hk I (by simp) o e,st.2.1.at λo e=>hk tp (by simp) o e,st.2.2.at λo e=>hk a (by simp) o e⟩
 item:=λi s Q E hi st hQ=>by
  have Ox:ys.length=es.size:=by rw [hy.length_eq]; simp
  have hp:ys[i] < es.size:=afK.mp (hy.mem_iff.mp (aeG (by omega)))
  refine FY (x:=es[ys[i]].2) (pl:=ys[i]) (hsh:=es[ys[i]].1) st.1 st.2.1 st.2.2 hf rfl (by simp [Ox,hi,rawInt]) (by rw [adQ hp]) λh' zY qC=>?_
  refine hQ _ h' s.toks ?_ ⟨zY,st.2.1.at λo e=>qC.extBut tp o hnt e,st.2.2.at λo e=>qC.extBut a o lb e⟩ λb o hb e=>qC.extBut b o (λh=>hb (by simp [h])) e
  rw [adb,acL (by omega)]
  simp [Array.getD,hp]
 done:=λs Q E st hQ=>by
  have Ox:ys.length=es.size:=by rw [hy.length_eq]; simp
  exact JZ hh st.1 st.2.1 st.2.2 hf rfl (by simp [Ox]) λh' RC=>hQ h' s.toks λb o hb e=>RC b o (λh=>hb (by simp [h])) e
 self:=λ_ _ _ _ st hQ=>vR st.1 hQ
theorem FZ {Q:Value->Shared->Prop} (hS:gY s.heap a es ep t) (hf:t.fits es.size=true) (hr:uK t.place.toList) (hl:t.led=lI w) (hz:es.size<=sizeLine)
  (h:∀ (I:Addr) (fp:List Addr) (ord:List Value) (St:Nat->Heap->Prop) (h1:Heap) (d1:Drawn),ord.Perm (es.toList.map (·.2))->(∀ A':Around,A'.handled=none->Walks prog w A' I fp [I] ord.length (λi v=>ord[i]?=some v) St)->St 0 h1->
   (∀ b o,s.heap.get? b=some o->h1.get? b=some o)->s.heap.objs.size<=I->(∀ b∈fp,b=a \/ s.heap.objs.size<=b)->Q (.ref I) { s with heap:=h1,drawn:=d1 }):wpAny (model prog w) A (pyIter (.ref a)) Q E s:=by
 obtain ⟨o,ho,hex,hd⟩:=id hS
 have hT:s.TypeIs (.ref a) "set":=⟨o,ho,hex.1⟩
 have iG:=acV ho
 refine wpAny_pyIter_slot hT PySem.F.slot_set_iter (ad8 PySem.F.slot_set_iter hT rX ?_ (PySem.F.args_set_iter_1 _))
 unfold Builtin.«frozenset.__iter__»
 refine acI (acT ?_)
 refine acI ?_
 unfold Builtin.Frozenset.sizeOf
 refine acI (aeZ ho hd hf (acT ?_))
 refine acI ?_
 unfold setDrawn
 refine acI (aeR ho hd hf ?_)
 dsimp only
 refine acI ?_
 unfold setsByText
 refine acI (ae2 (acT (acT ?_)))
 show wpAny _ _ (if (!w.params.followText "set-order" && (!t.plain && decide (es.size > 1)))=true then _ else _) _ _ _
 have slots:∀ {ord:List Value} (St:Addr->Nat->Heap->Prop),ord.Perm (es.toList.map (·.2))->(∀ (A':Around) (I:Addr),a≠I->A'.handled=none->Walks prog w A' I [I,a] [I] ord.length (λi v=>ord[i]?=some v) (St I))->
   (∀ h' I,ko h' I a (.int (0:Nat) 0) 0 es.size ep->gY h' a es ep t->St I 0 h')->Q (.ref s.heap.objs.size) { s with heap:=s.heap.push { cls:=.type "set_iterator",data:=.fields #[.int (0:Nat) 0,.int (0:Nat) 0,.ref a,.int (es.size:Nat) 0,.int (ep:Nat) 0] } }:=by
  intro ord St hp hW QL
  have lb:a≠s.heap.objs.size:=adj iG
  exact h s.heap.objs.size [s.heap.objs.size,a] ord (St s.heap.objs.size) _ s.drawn hp (λA' hh=>hW A' _ lb hh) (QL _ _ ⟨_,ac8 _ rfl,rfl,rfl⟩ (hS.at λo e=>acM _ e)) (λb o e=>acM _ e) (ac1 _)
   λb hb=>by
    rcases acK.mp hb with z | z
    .exact .inr (by rw [z]; exact ac1 _)
    .exact .inl (by simpa using z)
 by_cases Tv:(!w.params.followText "set-order" && (!t.plain && decide (es.size > 1)))=true
 .rw [acU Tv]
  refine acI (rZ _ _ _ _ (by simp) λys d' hy=>?_)
  refine wpAny_bind (wpAny_newTuple ?_ (by rw [List.length_map,hy.length_eq]; simpa using hz))
  have hT1:(s.heap.push { cls:=.type "tuple",data:=.seq (ys.map λp:Nat=>rawInt p).toArray }).IsTuple s.heap.objs.size (ys.map λp:Nat=>rawInt p).toArray:=⟨_,ac8 _ rfl,rfl,_,rfl⟩
  have Qk:=hS.at (h':=s.heap.push { cls:=.type "tuple",data:=.seq (ys.map λp:Nat=>rawInt p).toArray }) λo e=>acM _ e
  obtain ⟨o1,EI,_,Oy⟩:=id Qk
  refine acI (wpAny_setEpoch_of EI Oy hf ?_)
  have FW:(s.heap.push { cls:=.type "tuple",data:=.seq (ys.map λp:Nat=>rawInt p).toArray }).objs.size=s.heap.objs.size + 1:=aef _ _
  refine acI (adP (acT ⟨_,rfl,"set_iterator",_,⟨_,ac8 _ rfl,rfl⟩,cf.lookup,?_⟩))
  have hy2:(ys.map λp=>(es.getD p (0,Value.none)).2).Perm (es.toList.map (·.2)):=by
   refine (hy.map _).trans ?_
   have e:(List.range es.size).map (λp=>(es.getD p (0,Value.none)).2)=es.toList.map (·.2):=by
    refine ag2 (by simp) λi h1 h2=>?_
    simp at h1
    simp [Array.getD,h1]
   rw [e]
  have Om:(ys.map λp=>(es.getD p (0,Value.none)).2).length=es.size:=by rw [acH,hy.length_eq]; simp
  refine h (s.heap.push { cls:=.type "tuple",data:=.seq (ys.map λp:Nat=>rawInt p).toArray }).objs.size [_,a,s.heap.objs.size] _ (λi h=>ko h (s.heap.push { cls:=.type "tuple",data:=.seq (ys.map λp:Nat=>rawInt p).toArray }).objs.size a (.ref s.heap.objs.size) i es.size ep /\ h.IsTuple s.heap.objs.size (ys.map λp:Nat=>rawInt p).toArray /\ gY h a es ep t) _ d' hy2 (λA' hh=>by rw [Om]; exact z9 (t:=t) (ep:=ep) hf hy (by rw [FW]; exact adj (aeg iG)) (by rw [FW]; exact adj (adX _)) hh)
   ⟨⟨_,ac8 _ rfl,rfl,by simp [rawInt]⟩,hT1.push _,Qk.at λo e=>acM _ e⟩ (λb o e=>acM _ (acM _ e)) (by rw [FW]; exact aeQ _) λb hb=>?_
  simp only [acK,adz,aez] at hb
  rcases hb with z | z | z
  .exact .inr (by rw [z,FW]; exact aeQ _)
  .exact .inl z
  .exact .inr (by rw [z]; exact ac1 _)
 .rw [acW Tv]
  refine acI (acT ?_)
  refine acI (wpAny_setEpoch_of ho hd hf ?_)
  refine acI (adP (acT ⟨_,rfl,"set_iterator",_,⟨_,ac8 _ rfl,rfl⟩,cf.lookup,?_⟩))
  cases hw:w.params.followText "set-order" with
  | true=>
    have VI:((pickOrder (w.params.setOrder a ep) es).toList.map (·.2)).length=(pickOrder (w.params.setOrder a ep) es).size:=by simp
    exact slots (ord:=(pickOrder (w.params.setOrder a ep) es).toList.map (·.2)) (λI i h=>ko h I a (.int (0:Nat) 0) i es.size ep /\ gY h a es ep t) ((Dx _ _).map _) (λA' I lb hh=>by rw [VI]; exact Dy hf hw lb hh) λh' I x y=>⟨x,y⟩
  | false=>
    rw [hw] at Tv
    have og:(!t.plain && decide (es.size > 1))=false:=by simpa using Tv
    have hle:t.led=true:=by rw [hl]; simp [lI,hw]
    have VI:(es.toList.map (·.2)).length=es.size:=by simp
    refine slots (ord:=es.toList.map (·.2)) (λI i h=>∃ slot:Nat,ko h I a (.int slot 0) i es.size ep /\ gY h a es ep t /\ (∀ k,k < i->t.place.getD k 0 < slot) /\ ∀ k,i<=k->k < t.place.size->slot<=t.place.getD k 0) (.refl _)
     (λA' I lb hh=>by rw [VI]; exact z8 hf hw hle og hr lb hh) λh' I x y=>⟨0,x,y,λk hk=>by omega,λk _ _=>aek _⟩
end
end LS
namespace LS
open PySem PySem.Spec PySem.Calls PyProof.Rows
section
variable {prog:Program} {w:World} {A:Around} {E:Value->Shared->Prop} {s:Shared} {a:Addr} {ns:List Int}
theorem F0 {Q:Bool->Shared->Prop} (hT:s.TypeIs (.ref a) "set") (h:Q false s):wpAny (model prog w) A (Builtin.List.listLengthHint (.ref a)) Q E s:=by
 unfold Builtin.List.listLengthHint
 refine acI (wpAny_specialOf hT PySem.F.slot_set_len.lookup ?_)
 generalize hid:("set.__len__":String)=id0
 wp_delta
 rw [show splitId id0=some ("set","__len__") from by subst hid; decide +kernel]
 subst hid
 refine acI (wpAny_isInstance (T:="set") (b:=true) hT (by rw [afR]; kernel_rfl) ?_)
 refine wpAny_ite_split (λz=>absurd z (by decide)) λ_=>?_
 refine wpAny_ite_split (λ_=>?_) λz=>absurd (by decide +kernel) z
 exact acI (wpAny_typeOf hT (acT h))
theorem yc {R:List Value->Shared->Prop} (hh:A.handled=none) (hS:jR prog w s.heap a (lI w) ns)
  (h:∀ (h':Heap) (tk:Nat) (d':Drawn) (vs:List Value) (ms:List Int),(∀ b o,s.heap.get? b=some o->h'.get? b=some o)->s.heap.objs.size < h'.objs.size->IntsAre vs ms->ms.Perm ns->R vs { s with heap:=h',toks:=tk,drawn:=d' }):
  wpAny (model prog w) A (collect (.ref a)) R E s:=by
 obtain ⟨o,es,ep,t,ho,hex,hd,h1,h2,h3,h4,h5,h6,h7⟩:=hS
 have hz:=fits_of_scanBound h4
 have iG:=acV ho
 have hS0:gY s.heap a es ep t:=⟨o,ho,hex,hd⟩
 unfold collect
 refine acI (wpAny_runValue (aeL entry_proto_collect' ?_))
 rw [aeT PySem.F.plain_proto_collect _]
 show wpAny _ A.in1 (newList [] >>= λl=>again (.builtin "list.__iadd__" ⟨[l,.ref a],[]⟩)) _ _ s
 refine acI (adP ?_)
 refine acT ⟨af3 PySem.F.plain_list_iadd _,aeL entry_list_iadd' ?_⟩
 rw [aeT PySem.F.plain_list_iadd _]
 generalize hP:s.heap.push { cls:=.type "list",data:=.seq ([]:List Value).toArray }=P1
 have Me:∀ b o,s.heap.get? b=some o->P1.get? b=some o:=λb o e=>by rw [<- hP]; exact acM _ e
 have hL:P1.get? s.heap.objs.size=some { cls:=.type "list",data:=.seq #[] }:=by rw [<- hP]; exact ac8 _ rfl
 have JT:P1.objs.size=s.heap.objs.size + 1:=by rw [<- hP]; exact aef _ _
 show wpAny _ A.in1 (Builtin.List.listExtendWith (.ref s.heap.objs.size) (.ref a) (.ref s.heap.objs.size)) _ _ { s with heap:=P1 }
 have key:wpAny (model prog w) A.in1 (Builtin.List.listExtendWith (.ref s.heap.objs.size) (.ref a) (.ref s.heap.objs.size))
   (λfin s'=>match fin with
    | .done f=>False
    | .again c'=>c'.quiet=true /\ codeAny (model prog w) A c' (λq s'=>∃ (h':Heap) (tk:Nat) (d':Drawn) (acc:Array Value) (c':Nat) (ms:List Int),q=.ok (.ret (.ref s.heap.objs.size)) /\ s'={ s with heap:=h',toks:=tk,drawn:=d' } /\
      (∀ b o,s.heap.get? b=some o->h'.get? b=some o) /\ h'.get? s.heap.objs.size=some { cls:=.type "list",dict:=none,data:=.seq acc c',slots:=#[] } /\ IntsAre acc.toList ms /\ ms.Perm ns) s') (λ_ _=>False) { s with heap:=P1 }:=by
  unfold Builtin.List.listExtendWith
  have Qk:=hS0.at (h':=P1) λo e=>Me a o e
  obtain ⟨o1,EI,VJ,Oy⟩:=id Qk
  refine acI (wpAny_typeOf (T:="set") ⟨o1,EI,VJ.1⟩ ?_)
  have q1:Builtin.List.listSameRef (.ref s.heap.objs.size) (.ref a)=false:=by simp [Builtin.List.listSameRef,ae8 iG]
  have q2:(Value.type "set" == Value.type "list")=false:=by decide
  have q3:(Value.type "set" == Value.type "tuple")=false:=by decide
  simp only [q1,q2,q3,Bool.or_false,Bool.false_eq_true,agX]
  refine acI (FZ (s:={ s with heap:=P1 }) Qk h5 h7 h6 hz λI fp ord St RD d1 hp hW st0 kp hI VL=>?_)
  replace kp:∀ b o,P1.get? b=some o->RD.get? b=some o:=kp
  replace hI:P1.objs.size<=I:=hI
  replace VL:∀ b∈fp,b=a \/ P1.objs.size<=b:=VL
  have Oq:s.heap.objs.size∉fp:=λz=>by
   rcases VL _ z with e | e
   .exact adK _ (e ▸ iG)
   .rw [JT] at e; exact Nat.not_succ_le_self _ e
  have hSI:s.heap.objs.size≠I:=λz=>by rw [<- z,JT] at hI; exact Nat.not_succ_le_self _ hI
  obtain ⟨o2,iY,hex2,_⟩:=Qk.at (h':=RD) λo e=>kp a o e
  obtain ⟨i0,Ql⟩:=pE h2 hp
  have Om:ord.length<=sizeLine:=by rw [hp.length_eq]; simpa using hz
  have run:∀ (g:Heap) (c0:Nat),St 0 g->(∀ b o,b≠s.heap.objs.size->RD.get? b=some o->g.get? b=some o)->g.get? s.heap.objs.size=some { cls:=.type "list",data:=.seq #[] c0 }->
    codeAny (model prog w) A (.builtin "list.extend.loop" ⟨[.ref s.heap.objs.size,.ref I,.ref s.heap.objs.size],[]⟩) (λq s'=>∃ (h':Heap) (tk:Nat) (d':Drawn) (acc:Array Value) (c':Nat) (ms:List Int),q=.ok (.ret (.ref s.heap.objs.size)) /\ s'={ s with heap:=h',toks:=tk,drawn:=d' } /\
     (∀ b o,s.heap.get? b=some o->h'.get? b=some o) /\ h'.get? s.heap.objs.size=some { cls:=.type "list",dict:=none,data:=.seq acc c',slots:=#[] } /\ IntsAre acc.toList ms /\ ms.Perm ns) { s with heap:=g,drawn:=d1 }:=by
   intro g c0 st k hg
   refine codeAny_extend_loopS (hW A.in1 hh).toS Om _ Oq _ ord.length 0 _ #[] c0 rfl (aek _) st hg (ItemsOf.nil _) λs' Oz c' mv Qj yd=>?_
   obtain ⟨hx,gx,dx,tx,ox⟩:=s'
   have eg:gx=s.gens:=mv.gens
   have ed:dx=d1:=mv.drawn
   have eo:ox=s.os:=mv.os
   subst eg ed eo
   have VM:Oz.toList=ord:=by
    refine List.ext_getElem? λj=>?_
    by_cases hj:j < Oz.size
    .have q:=yd.2 j _ (adQ hj)
     rw [q]; simp [hj]
    .rw [ad4 (by simp; omega),ad4 (by rw [<- yd.1]; omega)]
   refine ⟨hx,tx,dx,Oz,c',i0,rfl,rfl,λb o e=>?_,Qj,by rw [VM]; exact Ql.1,Ql.2⟩
   have hb:=acV e
   refine mv.heap b o ?_ (k b o (adj hb) (kp b o (Me b o e)))
   simp only [acK,adz,aez,agQ]
   exact ⟨adj hb,adj (ada hb (ado (by rw [JT]; exact aeQ _) hI))⟩
  have VN:RD.get? s.heap.objs.size=some { cls:=.type "list",data:=.seq #[] }:=kp _ _ hL
  refine acI (aet (F0 ⟨o2,iY,hex2.1⟩ ?_))
  refine wpAny_ite_split (λ_=>?_) (λ_=>acT ⟨af3 PySem.F.plain_extend_loop _,run RD 0 st0 (λb o _ e=>e) VN⟩)
  refine acI (afZ (acI ?_))
  show wpAny _ _ (updateSeq s.heap.objs.size (·.push .none) >>= λ_=>updateSeq s.heap.objs.size (·.pop)) _ _ _
  refine acI (wpAny_updateSeq VN rfl ?_)
  have hg2:=adM (Obj.mapSeq (·.push Value.none)) VN rfl
  refine wpAny_updateSeq (hz:=by seq_fits) hg2 rfl ?_
  have hg3:=adM (Obj.mapSeq (·.pop)) hg2 rfl
  refine acT ⟨af3 PySem.F.plain_extend_loop _,run _ _ ((hW A.in1 hh).frame 0 _ _ st0 λb hb o e=>?_) (λb o hb e=>?_) hg3⟩
  .have hbS:b≠s.heap.objs.size:=λz=>Oq (z ▸ hb)
   exact (ad3 _ _ (aeW hbS)).trans ((ad3 _ _ (aeW hbS)).trans e)
  .exact (ad3 _ _ (aeW hb)).trans ((ad3 _ _ (aeW hb)).trans e)
 refine adG key (λfin s' x=>?_) λ_ _ z=>z.elim
 cases fin with
 | done f=>exact x.elim
 | again c₁=>
   refine ⟨x.1,ae9 x.2 λq mT y=>?_⟩
   obtain ⟨h',tk,d',acc,c',ms,rfl,rfl,hk,Qj,i1,p1⟩:=y
   show wpAny _ A (load s.heap.objs.size >>= _) _ _ _
   exact acI (wpAny_load Qj (acT (h h' tk d' acc.toList ms hk (acV Qj) i1 p1)))
theorem qE {Q:Value->Shared->Prop} (hh:A.handled=none) (hS:jR prog w s.heap a (lI w) ns) (VO:ns.length < 64)
  (h:∀ (D:Addr) (h':Heap) (tk:Nat) (d':Drawn) (out:Array Value) (n:Nat) (ms:List Int),s.heap.objs.size<=D->(∀ b o,s.heap.get? b=some o->h'.get? b=some o)->h'.get? D=some (seqObj "list" out n)->IntsAre out.toList ms->ms.Perm ns->ms.Pairwise (·<=·)->Q (.ref D) { s with heap:=h',toks:=tk,drawn:=d' }):
  wpAny (model prog w) A (call (.builtin "sorted") [.ref a]) Q E s:=by
 refine call_function_entry kind_sorted plain_sorted entry_sorted (args_sorted1 _) ?_
 unfold Builtin.«sorted»
 refine acI (m:=checkCount "sorted" 1 1 _) (acT ?_)
 refine acI (yc (A:=A.in1) hh hS λh' tk d' vs ms hk hgr hi hp=>?_)
 have hl:vs.length=ns.length:=by rw [<- hp.length_eq,(eD.mp hi).2,acH]
 have hzl:vs.length<=sizeLine:=by rw [sizeLine_eq]; omega
 refine acI (wpAny_newList ?_ hzl)
 have QC:(h'.push (seqObj "list" vs.toArray 0)).get? h'.objs.size=some (seqObj "list" vs.toArray 0):=ac8 _ rfl
 refine acI (aet (ad8 slot_list_sort ⟨_,QC,rfl⟩ entry_list_sort (list_sort_tree QC hi (by omega) λout ms' a1 a2 a3=>⟨_,rfl,?_⟩) (args_list_sort _)))
 obtain ⟨en,RE⟩:=sortedHeap_at (out:=out) QC
 refine acT ⟨_,rfl,h h'.objs.size _ tk d' out en ms' (aer hgr) (λb o e=>?_) RE a1 (a2.trans hp) a3⟩
 have hb:=acV (hk b o e)
 rw [sortedHeap_old (adj hb) (by rw [size_push']; exact aeg hb)]
 exact acM _ (hk b o e)
end
end LS
namespace L2
open PySem PySem.Spec PyProof.Rows LS
def ins (x:Int):List Int->List Int
 | []=>[x]
 | y :: l=>if x < y then x :: y :: l else if x=y then y :: l else y :: ins x l
def ss:List Int->List Int
 | []=>[]
 | x :: l=>ins x (ss l)
set_option tactic.hygienic true in
theorem vS {x z:Int}:∀ {l:List Int},z∈ins x l↔z=x \/ z∈l
 | []=>by simp [ins]
 | y :: l=>by
   rw [ins]
   split
   .simp
   .split
    .rename_i h; subst h; simp
    .simp only [acK,vS]
     constructor
     .rintro (h | h | h)
      .exact .inr (.inl h)
      .exact .inl h
      .exact .inr (.inr h)
     .rintro (h | h | h)
      .exact .inr (.inl h)
      .exact .inl h
      .exact .inr (.inr h)
set_option tactic.hygienic true in
theorem r6 {x:Int}:∀ {l:List Int},l.Pairwise (· < ·)->(ins x l).Pairwise (· < ·)
 | [],_=>by simp [ins]
 | y :: l,h=>by
   rw [adD] at h
   rw [ins]
   split
   .rename_i EC
    refine adD.mpr ⟨λz hz=>?_,adD.mpr h⟩
    rcases acK.mp hz with e | e
    .rw [e]; exact EC
    .exact Int.lt_trans EC (h.1 z e)
   .split
    .exact adD.mpr h
    .refine adD.mpr ⟨λz hz=>?_,r6 h.2⟩
     rcases vS.mp hz with e | e
     .rw [e]; omega
     .exact h.1 z e
theorem Aa {z:Int}:∀ {l:List Int},z∈ss l↔z∈l
 | []=>by simp [ss]
 | x :: l=>by rw [ss,vS,Aa,acK]
theorem fi:∀ {l:List Int},(ss l).Pairwise (· < ·)
 | []=>.nil
 | _ :: _=>r6 fi
theorem r8:∀ {l m:List Int},l.Pairwise (· < ·)->m.Pairwise (· < ·)->(∀ z,z∈l↔z∈m)->l=m
 | [],[],_,_,_=>rfl
 | [],y :: m,_,_,h=>absurd ((h y).mpr acR) (by simp)
 | x :: l,[],_,_,h=>absurd ((h x).mp acR) (by simp)
 | x :: l,y :: m,hl,hm,h=>by
   rw [adD] at hl hm
   have e:x=y:=by
    rcases acK.mp ((h x).mp acR) with a | a
    .exact a
    .rcases acK.mp ((h y).mpr acR) with b | b
     .exact b.symm
     .have:=hl.1 y b
      have:=hm.1 x a
      omega
   subst e
   rw [r8 hl.2 hm.2 λz=>⟨λhz=>?_,λhz=>?_⟩]
   .rcases acK.mp ((h z).mp (acO _ hz)) with a | a
    .have:=hl.1 z hz; omega
    .exact a
   .rcases acK.mp ((h z).mpr (acO _ hz)) with a | a
    .have:=hm.1 z hz; omega
    .exact a
theorem Mf {l m:List Int} (hm:m.Pairwise (· < ·)) (h:∀ z,z∈m↔z∈l):ss l=m:=r8 fi hm λz=>by rw [Aa,h]
section
variable {X:Cx} {pins:List (Addr×Obj)} {σ:St} {H:Hp} {s:Shared}
theorem Inv.drew (I:Inv X pins σ H s) (d':Drawn):Inv X pins σ H { s with drawn:=d' }:=
 I.step (d':=d') (g':=s.gens) (t':=s.toks) (ch:=[]) (λb hb=>by simp at hb) (λ_ _ _ _ _ e _=>e) (λb o _ _ _ e _=>⟨o.slots,e⟩) (λ_ _ _ _ n=>n) (λb o _ e=>⟨o,e⟩) (λ_ _ e=>e) (λ_ _ _ e=>e)
  (λb ps e=>⟨#[],by rw [e]; simp⟩) (λ_ h=>h) I.cS I.bare
def J0 (P:Program) (w:World) (a:Addr) (ns:List Int):HO:=.ext λh=>jR P w h a (lI w) ns
def VP (P:Program) (w:World) (K:PySem.W.Frag):List V->Hp->VK->Prop:=λxs H Q=>∃ (p:Addr) (ms:List Int),xs=[.ref p] /\ (gX K H p (ms.map V.int) \/ jN K H p (ms.map V.int)) /\ ms.length + 1 < scanBound /\
 ∀ (l:Addr) (ns:List Int),H l=none->(∀ x,x∈ns↔x∈ms)->ns.length<=ms.length->Q (.ref l) (upd H l (J0 P w l ns))
theorem Dz (hc:X.calm=true):eR X (.type "set") (VP X.prog X.w X.K):=by
 intro pins s σ H xs us Q I r h
 obtain ⟨p,ms,rfl,hq,hb,q⟩:=h
 obtain ⟨u,rfl,rx⟩:=vals1 r
 cases rx
 have hh:=I.ok.hd hc
 have fin:∀ (h':Heap) (tk:Nat) (ns:List Int),jR X.prog X.w h' s.heap.objs.size (lI X.w) ns->(∀ x,x∈ns↔x∈ms)->ns.length<=ms.length->(∀ b o,s.heap.get? b=some o->h'.get? b=some o)->EP X pins σ Q (.ref s.heap.objs.size) { s with heap:=h',toks:=tk }:=λh' tk ns S m l k=>
  ⟨.ref s.heap.objs.size,_,I.laid (o:=J0 X.prog X.w s.heap.objs.size ns) k (ac1 _) ⟨S,(let ⟨o,_,_,_,e,_⟩:=S; ⟨o,e⟩),λh1 h2 S1 kk=>S1.keeps kk⟩,rfl,q _ ns (I.cS.fresh (ac1 _)) m l⟩
 rcases hq with hq | hq
 .obtain ⟨its,rv,pl,_⟩:=I.list hq
  have hi:IntsAre its ms:=intsAre_of rv
  have hl:its.length=ms.length:=by rw [(eD.mp hi).2,acH]
  exact ya hh (src_list pl.isList) hi (by rw [ac4,hl]; exact hb) fin
 .obtain ⟨its,rv,pl,_⟩:=I.tuple hq
  have hi:IntsAre its ms:=intsAre_of rv
  have hl:its.length=ms.length:=by rw [(eD.mp hi).2,acH]
  exact ya hh (src_tuple (show s.heap.IsTuple p its.toArray from pl)) hi (by rw [ac4,hl]; exact hb) fin
def F5 (P:Program) (w:World):List V->Hp->VK->Prop:=λxs H Q=>∃ (p:Addr) (ns:List Int),xs=[.ref p] /\ H p=some (J0 P w p ns) /\ ns.length < 64 /\ ∀ (l:Addr) (out:List Int),H l=none->out.Pairwise (· < ·)->(∀ x,x∈out↔x∈ns)->Q (.ref l) (upd H l (.lst (out.map V.int)))
theorem ye:∀ {vs:List Value} {ns:List Int},IntsAre vs ns->bj (ns.map V.int) vs
 | _,_,.nil=>.nil
 | _,_,.cons n t h=>.cons ⟨t,rfl⟩ (ye h)
theorem J1 {prog:Program} {w:World} {h:Heap} {a:Addr} {led:Bool} {ns:List Int} (h:jR prog w h a led ns):ns.Nodup:=by
 obtain ⟨_,_,_,_,_,_,_,_,_,z,_⟩:=h
 exact z
theorem vT (hc:X.calm=true):eR X (.builtin "sorted") (F5 X.prog X.w):=by
 intro pins s σ H xs us Q I r h
 obtain ⟨p,ns,rfl,hp,VO,q⟩:=h
 obtain ⟨u,rfl,rx⟩:=vals1 r
 cases rx
 have hS:jR X.prog X.w s.heap p (lI X.w) ns:=(show c9 X.prog X.w H s.heap p (J0 X.prog X.w p ns) from I.cS p _ hp).1
 have nd:ns.Nodup:=J1 hS
 refine qE (I.ok.hd hc) hS VO λD h' tk d' out n ms hD k e hi F6 RF=>?_
 have hl:ms.length=ns.length:=F6.length_eq
 have J:=(I.drew d').laid (t':=tk) (o:=.lst (ms.map V.int)) (h':=h') k hD ⟨by rw [List.length_map,sizeLine_eq]; omega,out.toList,n,ye hi,by simpa using e⟩
 refine ⟨.ref D,_,J,rfl,q D ms (I.cS.fresh hD) ?_ λx=>F6.mem_iff⟩
 have VQ:ms.Nodup:=F6.nodup_iff.mpr nd
 refine (List.Pairwise.and RF VQ).imp λ{a b} BZ=>?_
 have:=BZ.1
 have:=BZ.2
 omega
end
theorem OA:bootBuiltins "set"=some (.type "set"):=by decide +kernel
theorem DA:bootBuiltins "sorted"=some (.builtin "sorted"):=by decide +kernel
def k8:List D->Option (List Int)
 | []=>some []
 | .int i :: l=>(k8 l).map (i :: ·)
 | _ :: _=>none
theorem mm:∀ (ns:List Int),k8 (ns.map .int)=some ns
 | []=>rfl
 | n :: ns=>by rw [acQ,k8,mm ns]; rfl
theorem ja:∀ {l:List D} {ns:List Int},k8 l=some ns->l=ns.map .int
 | [],_,h=>by cases h; rfl
 | d :: l,ns,h=>by
   cases d with
   | int i=>
     rw [k8] at h
     cases e:k8 l with
     | none=>rw [e] at h; cases h
     | some m=>rw [e] at h; cases h; rw [ja e]; rfl
   | _=>cases h
def OB:D->Option (List D)
 | .list l=>some l
 | .tuple l=>some l
 | _=>none
def OC (g:DS->Option D):DS->Option (List D):=λδ=>(g δ).bind λd=>(OB d).bind λl=>(k8 l).bind λns=>if ns.length < 64 then some ((ss ns).map .int) else none
theorem cx.toInts {K:PySem.W.Frag} {H:Hp}:∀ {ns:List Int} {xs:List V},cx K H xs (ns.map PyData.int)->xs=ns.map V.int
 | [],_,h=>by cases h; rfl
 | n :: ns,_,h=>by
   rw [acQ] at h
   cases h with
   | cons a t=>cases a; rw [cx.toInts t]; rfl
set_option tactic.hygienic true in
theorem m7 {X:Cx} {O:List Nat} {e:Expr} {ge:DS->Option D} {p1 p2 q1 q2:Pos} (h1:X.mg "sorted"=none) (h2:X.mg "set"=none) (he:PE X e (ib X.K O ge)) (hc:X.calm=true:=by rfl) (g1:Gl X "sorted":=by rfl) (g2:Gl X "set":=by rfl)
  (s1:starEach [Expr.Call (.Name "set" p2) [e] [] q2] X.env=(false,eval (Expr.Call (.Name "set" p2) [e] [] q2) X.env) :: starEach [] X.env:=by rfl) (s2:starEach [e] X.env=(false,eval e X.env) :: starEach [] X.env:=by rfl)
  (b1:(backTo q1 (starEach [] X.env)).any (·.1)=false:=by rfl) (b2:(backTo q2 (starEach [] X.env)).any (·.1)=false:=by rfl):
  PE X (.Call (.Name "sorted" p1) [.Call (.Name "set" p2) [e] [] q2] [] q1) (tN X.K O (OC ge)):=
 (rp (vT hc) g1 h1 DA (bG (pj (Dz hc) g2 h2 OA (bG he cz s2) (by decide) (by decide) s2 b2) cz s1) (by decide) (by decide) s1 b1).mono λσ H Q hh=>hh.e λU A0 δ ds R ed q=>by
  obtain ⟨d,e1,ed⟩:=bind1 ed
  obtain ⟨l,e2,ed⟩:=bind1 ed
  obtain ⟨ns,e3,ed⟩:=bind1 ed
  split at ed
  .rename_i VO
   cases ed
   refine ⟨U,A0,δ,d,R,e1,λv H1 s1 hv=>?_⟩
   have row:∃ p,v=.ref p /\ (gX X.K H1 p (ns.map V.int) \/ jN X.K H1 p (ns.map V.int)):=by
    unfold OB at e2
    split at e2
    .cases e2
     obtain ⟨p,xs,rfl,r1,r2⟩:=hv.list
     rw [ja e3] at r2
     rw [<- r2.toInts]
     exact ⟨p,rfl,.inl r1.sq⟩
    .cases e2
     obtain ⟨p,xs,rfl,r1,r2⟩:=hv.tuple
     rw [ja e3] at r2
     rw [<- r2.toInts]
     exact ⟨p,rfl,.inr r1⟩
    .cases e2
   obtain ⟨p,rfl,F7⟩:=row
   refine ⟨p,ns,rfl,F7,by unfold scanBound; omega,λl1 ms RG hm hle=>?_⟩
   refine ⟨l1,ms,rfl,b8,by omega,λl2 out Jy hr Vz=>?_⟩
   have eo:out=ss ns:=(Mf hr λz=>by rw [Vz,hm]).symm
   subst eo
   refine q l2 _ _ (s1.trans ((cK RG _).trans (cK Jy _))) (s1.free ((cK RG _).free Jy)) b8 (cx.ints _)
  .cases ed
end L2
namespace L2
open PySem PySem.Spec PyProof.Rows
section
variable {prog:Program} {w:World} {A:Around} {R:Result->Shared->Prop} {s:Shared}
theorem vU {elt target iter:Expr} {ifs:List Expr} {scope:Scope} {pos:Pos} {it acc:Value} {env:Env} (I:Nat->Shared->Prop)
  (turn:∀ n s,I n s->wpAny (model prog w) A (pyNext it) (λr bR=>match r with
   | none=>R (.ok .next) bR
   | some v=>wpAny (model prog w) A (letOwnedTupleGo target it v) (λ_ mT=>wpAny (model prog w) A (assign target env v) (λ_ pq=>
     wpAny (model prog w) A (forIn ifs true λc r=>if r=true then do let ok <- isTrue c env (eval c env); pure (ForInStep.yield ok) else pure (ForInStep.yield r)) (λok Ab=>
      if ok=true then wpAny (model prog w) A (eval elt env) (λx RH=>
       wpAny (model prog w) A (call (.builtin "list.append") [acc,x]) (λ_ RI=>∃ m,m < n /\ I m RI) (notedBy (model prog w) A env λe s'=>R (.error e) s') RH) (notedBy (model prog w) A env λe s'=>R (.error e) s') Ab
      else ∃ m,m < n /\ I m Ab) (notedBy (model prog w) A env λe s'=>R (.error e) s') pq) (notedBy (model prog w) A env λe s'=>R (.error e) s') mT) (notedBy (model prog w) A env λe s'=>R (.error e) s') bR) (notedBy (model prog w) A env λe s'=>R (.error e) s') s)
  (n:Nat) (h:I n s):codeAny (model prog w) A (.compLoop (.ListComp elt [⟨target,iter,ifs,0⟩] scope pos) 0 it acc env) R s:=by
 refine codeAny_loop rfl I (λn s hI=>?_) n h
 show wpAny _ A ((compTurn (.ListComp elt [⟨target,iter,ifs,0⟩] scope pos) 0 it acc env).onRaise (λx=>do noteFrame x env; theTreesLotGoes x)) _ _ s
 refine wpAny_noted ?_
 rw [compTurn_list]
 refine acI (afu (acI (adG (turn n s hI) (λr bR pk=>?_) λ_ _ z=>z)))
 cases r with
 | none=>exact acT pk
 | some v=>
   refine acI (adG pk (λ_ mT vF=>acI (adG vF (λ_ pq NQ=>acI (adG NQ (λok Ab RJ=>?_) λ_ _ z=>z)) λ_ _ z=>z)) λ_ _ z=>z)
   cases ok with
   | false=>exact acT ⟨rfl,RJ⟩
   | true=>exact acI (acI (adG RJ (λx RH VR=>acI (adG VR (λ_ RI VS=>acT (acT ⟨rfl,VS⟩)) λ_ _ z=>z)) λ_ _ z=>z))
end
def PF (X:Cx) (ifs:List Expr) (t:TT):Prop:=
 ∀ (pins:List (Addr×Obj)) (s:Shared) (σ:St) (H:Hp) (Q:Bool->Hp->Prop),Inv X pins σ H s->t σ H Q->
   wpAny (model X.prog X.w) X.A (forIn ifs true λc r=>if r=true then do let ok <- isTrue c X.env (eval c X.env); pure (ForInStep.yield ok) else pure (ForInStep.yield r)) (TP X pins σ Q) X.xe s
def VT:TT:=λ_ H Q=>Q true H
theorem OD {X:Cx}:PF X [] VT:=λ_ _ _ H _ I q=>acT ⟨H,I,q⟩
theorem pF {X:Cx} {c:Expr} {t:TT} (h:PT X c t):PF X [c] t:=λpins s σ H Q I q=>wpAny_tests_one (h pins s σ H Q I q)
section
variable {X:Cx}
structure mn (X:Cx) (scope:Scope) (xs:List Str) (ix:List Nat) (N':List Str):Prop where
 kind:scope.kind=.function
 OE:∀ y∈scope.names,y.2≠.cell
 names:∀ y∈scope.names,y.2=.local->scope.names.lookup y.1=some .local
 free:∀ y∈scope.names,y.2=.free->X.env.kindOf y.1=some .cell \/ X.env.kindOf y.1=some .free
 only:∀ n,(X.env.scope.kind=.function)->((relabel scope X.env).names.lookup n=some .cell \/ (relabel scope X.env).names.lookup n=some .free)->(n,NameKind.free)∈scope.names
 nm:N'=xs ++ ix.map λj=>X.N.getD j ""
 ixs:∀ j∈ix,j < X.N.length /\ (X.N.getD j "",NameKind.free)∈scope.names /\ ((relabel scope X.env).names.lookup (X.N.getD j "")=some .cell \/ (relabel scope X.env).names.lookup (X.N.getD j "")=some .free)
section
variable {scope:Scope} {xs:List Str} {ix:List Nat} {N':List Str} {cl:List (Str×Addr)} {C:Addr} {s2 s3:Shared} {H2:Hp} {fp:List Addr} {pins:List (Addr×Obj)} {σ:St}
theorem F8 (S:mn X scope xs ix N') (I:Inv X pins σ H2 s2) (hC:s2.heap.objs.size<=C) (h1:∀ n c,cl.lookup n=some c->X.env.cells.lookup n=some c) (h2:∀ n,(n,NameKind.free)∈scope.names->∃ c,cl.lookup n=some c)
  (hf:∀ b∈fp,qx X pins H2 b) (OF:∀ b∈fp,b < s2.heap.objs.size):(cm X scope N' cl C s2 H2 fp pins).Ok where
 mod:=I.ok.mod
 kind:=by show (relabel scope X.env).kind=_; exact S.kind
 glob:=I.ok.glob
 blt:=I.ok.blt
 above:=hC
 inj:=λa b c e1 e2=>I.ok.inj a b c (h1 _ _ e1) (h1 _ _ e2)
 has:=λa h=>h2 a (S.only a I.ok.kind h)
 P7:=λa c h=>by cases h
 hd:=I.ok.hd
 frames:=I.ok.frames
 Qw:=.inl rfl
 UP:=λb hb=>⟨adj (ada (OF b hb) hC),λa c e=>(hf b hb).2.2.2.2.1 a c (h1 _ _ e)⟩
 bs:=I.bs
 LA:=ado I.ok.LA I.sz
 CU:=λb o e hb=>by
  rcases (hf b hb).2.2.2.1 with z | z
  .exact I.ok.CU b o e z
  .have:=(I.ok.bs b o e).1
   exact absurd (ada (acV this) z) (adK _)
 EM:=λb hb z=>by
  rcases acK.mp (I.pd b z) with e | e
  .exact (hf b hb).2.1 e
  .exact (hf b hb).2.2.1 e
 qw:=I.stack
 Na:=I.Bx
theorem DB (S:mn X scope xs ix N') (I:Inv X pins σ H2 s2) (hC:s2.heap.objs.size<=C) (h1:∀ n c,cl.lookup n=some c->X.env.cells.lookup n=some c) (h2:∀ n,(n,NameKind.free)∈scope.names->∃ c,cl.lookup n=some c)
  (hf:∀ b∈fp,qx X pins H2 b) (OF:∀ b∈fp,b < s2.heap.objs.size) (VU:s3.os=s2.os) (hg:s3.gens=s2.gens) (k:∀ b o,s2.heap.get? b=some o->s3.heap.get? b=some o) {m:Str->Option Value} (hn:s3.heap.Ns C m):
  Inv (cm X scope N' cl C s2 H2 fp pins) [] (List.replicate xs.length none ++ oo ix σ) H2 s3 where
 ok:=F8 S I hC h1 h2 hf OF
 os:=VU
 bare:=by rw [hg]; exact I.bare
 base:=⟨λb o e _ _ _=>k b o e,λb o e _ _ _=>⟨o.slots,k b o e⟩,λb o e n _=>n,λb o e _=>⟨o,k b o e⟩,λ_ _ e=>e,λ_ _ _ e=>e,λb ps e=>⟨#[],by rw [agt]; exact e⟩⟩
 loc:=by
  refine ⟨m,hn,λi y v e1 e2 e3=>?_⟩
  by_cases hi:i < xs.length
  .rw [List.getElem?_append_left (by simpa using hi),List.getElem?_replicate,if_pos hi] at e2
   cases e2
  .have Mg:(oo ix σ)[i - xs.length]?=some (some v):=by rw [List.getElem?_append_right (by simp; omega)] at e2; simpa using e2
   obtain ⟨j,ej,es⟩:=Fp Mg
   have Mh:N'[i]?=some y:=e1
   rw [S.nm,aeI (by omega),adb,ej] at Mh
   have ey:X.N.getD j ""=y:=adp Mh
   obtain ⟨hj,xq,hk⟩:=S.ixs j (adk ej)
   obtain ⟨m0,Tw,hl0⟩:=I.loc
   have eN:X.N[j]?=some y:=by rw [<- ey,acS,acL hj]; rfl
   have kd:=S.free _ xq rfl
   have hv:Qv X.env.scope y:=by
    rw [<- ey]
    rcases kd with z | z
    .exact .inr (.inl z)
    .exact .inr (.inr z)
   obtain ⟨u,r,l⟩:=hl0 j y v eN es hv
   refine ⟨u,r,.inr ?_⟩
   rcases l with ⟨q,_⟩ | ⟨_,c,ec,z⟩
   .have kd':X.env.kindOf y=some .cell \/ X.env.kindOf y=some .free:=by rw [<- ey]; exact kd
    rcases kd' with w | w <;> rw [q] at w <;> cases w
   .obtain ⟨c',e'⟩:=h2 _ xq
    rw [ey] at e'
    have:=h1 _ _ e'
    rw [ec] at this; cases this
    obtain ⟨o,ho,hd⟩:=z
    exact ⟨by rw [<- ey]; exact hk,c,e',o,k c o ho,hd⟩
 cell:=λa c e=>by
  obtain ⟨v,o,ho,hd⟩:=I.cell a c (h1 _ _ e)
  exact ⟨v,o,k c o ho,hd⟩
 free:=I.cS.fresh hC
 lh:=λa c e=>I.lh a c (h1 _ _ e)
 pin:=λp hp=>by
  have hp':p∈X.pn ++ pins:=by
   rcases adh.mp hp with z | z
   .exact z
   .simp at z
  obtain ⟨e,n,ne,nf,d⟩:=I.pin p hp'
  refine ⟨k _ _ e,n,adj (ada (acV e) hC),λz=>?_,d⟩
  rcases acK.mp (I.pd _ z) with q | q
  .exact ne q
  .exact nf q
 cS:=I.cS.kept k
 len:=by
  show (List.replicate xs.length none ++ oo ix σ).length=N'.length
  rw [S.nm]
  unfold oo
  simp
end
def qO (J:It) (k:Nat) (ix:List Nat) (g:TG) (tc:TT) (te:TE) (σ:St) (H:Hp) (Q:VK):Prop:=∃ W:Nat->Nat->List V->St->Hp->Prop,(∃ m,W 0 m [] (List.replicate k none ++ oo ix σ) H) /\ ∀ i m ys τ H,W i m ys τ H->ys.length<=sizeLine /\
 ((J.stop i H /\ ∀ p,H p=none->Q (.ref p) (upd H p (.lst ys))) \/ (J.go i H /\ ys.length < sizeLine /\ ∀ v H',J.QP i H v H'->g v τ H' λAc H2=>tc Ac H2 λb H3=>
   if b=true then te Ac H3 λy H4=>∃ m',m' < m /\ W (i + 1) m' (ys ++ [y]) Ac H4 else ∃ m',m' < m /\ W (i + 1) m' ys Ac H3))
def Ad (wi:TI) (k:Nat) (ix:List Nat) (g:TG) (tc:TT) (te:TE):TE:=λσ H Q=>wi σ H λJ H1=>qO J k ix g tc te σ H1 Q
section
variable {scope:Scope} {xs:List Str} {ix:List Nat} {N':List Str} {elt iter tg:Expr} {ifs:List Expr} {pos:Pos} {wi:TI} {te:TE} {tc:TT} {g:TG}
structure CIn (X':Cx) (D:Addr) (fp:List Addr) (tn:Nat->Heap->Prop) (W:Nat->Nat->List V->St->Hp->Prop) (n:Nat) (s':Shared) (i:Nat) (ys:List V) (its:List Value) (k:Nat) (cT:St) (H':Hp):Prop where
 I:Inv X' [(D,BI its k)] cT H' s'
 st:tn i s'.heap
 fr:∀ b∈fp,H' b=none
 w:W i n ys cT H'
 rv:bj ys its
def RK (X':Cx) (D:Addr) (fp:List Addr) (tn:Nat->Heap->Prop) (W:Nat->Nat->List V->St->Hp->Prop) (n:Nat) (s':Shared):Prop:=∃ i ys its k cT H',CIn X' D fp tn W n s' i ys its k cT H'
theorem OG {X':Cx} {D:Addr} {fp:List Addr} {tn:Nat->Heap->Prop} {W:Nat->Nat->List V->St->Hp->Prop} {n:Nat} {s':Shared} {P:Prop} (h:RK X' D fp tn W n s') (k:∀ i ys its k cT H',CIn X' D fp tn W n s' i ys its k cT H'->P):P:=by
 obtain ⟨_,_,_,_,_,_,t⟩:=h
 exact k _ _ _ _ _ _ t
theorem RL {X:Cx} {pins:List (Addr×Obj)} {σ:St} {tg:Expr} {R:It->Hp->Prop} {IL:Value} {s2:Shared} {P:Value->Prop} (h:Th X pins σ tg R IL s2) (k:∀ it fp tn J H',Inv X pins σ H' s2->Turn X.prog X.w X.K tg J fp it tn->tn 0 s2.heap->(∀ b∈fp,qx X pins H' b)->R J H'->P (.ref it)):P IL:=by
 obtain ⟨it,fp,tn,J,H',rfl,a,b,c,d,e⟩:=h
 exact k it fp tn J H' a b c d e
theorem uN (S:mn X scope xs ix N') (hc:X.calm=true) (hg:∀ cl C s2 H2 fp pins,PG (cm X scope N' cl C s2 H2 fp pins) tg g) (hf:∀ cl C s2 H2 fp pins,PF (cm X scope N' cl C s2 H2 fp pins) ifs tc) (r9:∀ cl C s2 H2 fp pins,PE (cm X scope N' cl C s2 H2 fp pins) elt te)
  {pins:List (Addr×Obj)} {σ:St} {s2:Shared} {Q:VK} {IL:Value} (h:Th X pins σ tg (λJ H1=>qO J xs.length ix g tc te σ H1 Q) IL s2) {cl:List (Str×Addr)} (h1:∀ n c,cl.lookup n=some c->X.env.cells.lookup n=some c) (h2:∀ n,(n,NameKind.free)∈scope.names->∃ c,cl.lookup n=some c)
  {use:Option (Value->Sem Unit)} {QQ:Value->Shared->Prop}
  (fin:∀ (D C:Addr) (H':Hp) (s1:Shared) (m:Str->Option Value),s1.heap.Ns C m->H' C=none->X.gZ.heap.objs.size<=C->C≠X.env.locals->(∀ a c,X.env.cells.lookup a=some c->c≠C)->(∀ p∈X.pn ++ pins,p.1≠C)->(∀ h',Heap.SameBut C s1.heap h'->Inv X pins σ H' { s1 with heap:=h' })->Q (.ref D) H'->
   compPost (model X.prog X.w) X.A X.xe use QQ (.ref D) C (.ok .next) s1):
  wpAny (model X.prog X.w) X.A (newList []) (λacc pq=>wpAny (model X.prog X.w) X.A (newFunctionEnv scope X.env.globals cl [] X.env.qual none .none (some X.env)) (λF9 Ab=>
   codeAny (model X.prog X.w) X.A (.compStart (.ListComp elt [⟨tg,iter,ifs,0⟩] scope pos) 0 IL acc { F9 with scope:=relabel scope X.env }) (compPost (model X.prog X.w) X.A X.xe use QQ acc F9.locals) Ab) X.xe pq) X.xe s2:=by
 refine RL (P:=λIL=>wpAny (model X.prog X.w) X.A (newList []) (λacc pq=>wpAny (model X.prog X.w) X.A (newFunctionEnv scope X.env.globals cl [] X.env.qual none .none (some X.env)) (λF9 Ab=>
   codeAny (model X.prog X.w) X.A (.compStart (.ListComp elt [⟨tg,iter,ifs,0⟩] scope pos) 0 IL acc { F9 with scope:=relabel scope X.env }) (compPost (model X.prog X.w) X.A X.xe use QQ acc F9.locals) Ab) X.xe pq) X.xe s2) h λit fp tn J H1 I2 T jq f2 hR=>?_
 clear h
 obtain ⟨W,⟨m0,w0⟩,turn⟩:=hR
 have OF:∀ b∈fp,b < s2.heap.objs.size:=λb hb=>by
  obtain ⟨o,e,_⟩:=T.obj _ _ jq b hb
  exact acV e
 refine adP (wpAny_newFunctionEnv S.OE (by intro y hy; simp at hy) (λpk Ae vV=>?_) S.kind)
 dsimp only at Ae vV ⊢
 generalize RM:s2.heap.push { cls:=.type "list",dict:=none,data:=.seq ([]:List Value).toArray }=P2 at Ae vV ⊢
 have hC:P2.objs.size=s2.heap.objs.size + 1:=by rw [<- RM,aef]
 have LR:s2.heap.objs.size≠P2.objs.size:=by rw [hC]; exact adj (adX _)
 have Af:s2.heap.objs.size<=P2.objs.size:=by rw [hC]; exact aeQ _
 have below:∀ b,b < s2.heap.objs.size->b≠P2.objs.size:=λb hb=>by rw [hC]; exact adj (aeg hb)
 have old:∀ b o,s2.heap.get? b=some o->pk.get? b=some o:=λb o e=>vV.extBut b o (below b (acV e)) (acM _ (RM ▸ acM _ e))
 have yd:pk.get? s2.heap.objs.size=some (BI [] 0):=vV.extBut _ _ LR (acM _ (RM ▸ ac8 _ rfl))
 generalize P2.objs.size=C at *
 generalize Ga:s2.heap.objs.size=D at *
 have neP:∀ p∈X.pn ++ pins,p.1≠D /\ p.1≠C:=λp hp=>by
  have:=acV (I2.pin p hp).1
  rw [Ga] at this
  exact ⟨adj this,adj (ada this Af)⟩
 have VW:D∉fp:=λhb=>adK _ (OF D hb)
 have CnF:C∉fp:=λhb=>absurd (ada (OF C hb) Af) (adK _)
 have Mi:∀ a c,X.env.cells.lookup a=some c->c≠D /\ c≠C:=λa c e=>by
  obtain ⟨v,q⟩:=I2.cell a c e
  have:=q.lt
  rw [Ga] at this
  exact ⟨adj this,adj (ada this Af)⟩
 have RN:X.env.locals < D:=by have:=I2.lt; rw [Ga] at this; exact this
 have s0D:X.gZ.heap.objs.size<=D:=by rw [<- Ga]; exact I2.sz
 have I3:=DB (s3:={ s2 with heap:=pk,toks:=s2.toks + ([]:List (Str×Value)).length }) S I2 (by rw [Ga]; exact Af) h1 h2 f2 (by rw [Ga]; exact OF) rfl rfl old Ae
 have zA:∀ {H':Hp} {pp:List (Addr×Obj)},(∀ p∈pp,p.1∉fp)->(∀ b∈fp,H' b=none)->∀ b∈fp,qx (cm X scope N' cl C s2 H1 fp pins) pp H' b:=λ{H' pp} RO hn b hb=>by
  obtain ⟨f0,f1,f3,f4,f5,f6⟩:=f2 b hb
  refine ⟨hn b hb,λz=>CnF (by rw [<- show b=C from z]; exact hb),λz=>?_,.inl hb,λa c e=>f5 a c (h1 _ _ e),λp hp=>?_⟩
  .rcases acK.mp (I2.pd b z) with q | q
   .exact f1 q
   .exact f3 q
  .rcases adh.mp hp with q | q
   .exact f6 p q
   .intro z; exact RO p q (by rw [z]; exact hb)
 have DnS:∀ b,D<=b->b∉Bw X.stack:=λb hb z=>by
  rcases acK.mp (I2.pd b z) with q | q
  .rw [q] at hb; exact absurd (ada RN hb) (adK _)
  .exact I2.Qx (by rw [Ga]; exact hb) q
 have loop:∀ pq:Shared,pq={ s2 with heap:=pk,toks:=s2.toks + ([]:List (Str×Value)).length }->
   codeAny (model X.prog X.w) X.A (.compLoop (.ListComp elt [⟨tg,iter,ifs,0⟩] scope pos) 0 (.ref it) (.ref D) (compEnvC scope cl C X.env)) (compPost (model X.prog X.w) X.A X.xe use QQ (.ref D) C) pq:=by
  rintro pq rfl
  refine vU (RK (cm X scope N' cl C s2 H1 fp pins) D fp tn W) ?_ m0
   ⟨0,[],[],0,_,H1,?_,T.keep _ _ _ jq (λb hb o e=>old b o e),λb hb=>(f2 b hb).1,w0,.nil⟩
  .refine λn s' z=>OG z λi ys its k cT H' t=>?_
   have I:=t.I
   have st:=t.st
   have fr:=t.fr
   have rv:=t.rv
   obtain ⟨hz,w⟩:=turn i n ys cT H' t.w
   have pD:=I.pin (D,BI its k) (acX _ acR)
   have RO:∀ p∈[(D,BI its k)],p.1∉fp:=λp hp=>by
    have e:p=(D,BI its k):=by simpa using hp
    rw [e]; exact VW
   rcases w with ⟨stop,q⟩ | ⟨go,hz',step⟩
   .refine adG (T.done (cm X scope N' cl C s2 H1 fp pins) rfl rfl rfl hc i _ s' _ H' (λ_ _=>False) I (zA RO fr) st stop) (λr s1 hr=>?_) λ_ _ z=>z.elim
    obtain ⟨rfl,I1⟩:=hr
    obtain ⟨m,hn,_⟩:=I1.loc
    have p1:=I1.pin (D,BI its k) (acX _ acR)
    have fC:H' C=none:=I1.free
    refine fin D C (upd H' D (.lst ys)) s1 m hn (by rw [bp (aeW LR)]; exact fC) (ado s0D Af) (ae8 (ada RN Af)) (λa c e=>(Mi a c e).2) (λp hp=>(neP p hp).2) (λh' hs=>?_) (q D p1.2.1)
    exact Dh (N':=N') I2 (by rw [Ga]; exact Af) (by rw [Ga]; exact ac1 _) f2 I1 rv hz hs LR
   .refine adG (T.item (cm X scope N' cl C s2 H1 fp pins) rfl rfl rfl hc i _ s' _ H' (λ_ _=>False) I (zA RO fr) st go) (λr s4 hr=>?_) λ_ _ z=>z.elim
    obtain ⟨u,rfl,h4⟩:=hr
    refine adG h4 (λ_ s5 h5=>?_) λ_ _ z=>z.elim
    obtain ⟨v,H5,I5,r5,y5,Jh,U5⟩:=h5
    have U6:=I5.pinned (zA RO U5) (T.obj _ _ Jh)
    refine adG (hg cl C s2 H1 fp pins _ s5 cT H5 v u _ U6 r5 (step v H5 y5)) (λ_ s6 h6=>?_) λ_ _ z=>z.elim
    obtain ⟨Ac,H6,I6,q6⟩:=h6
    have gone:∀ {τ:St} {H9:Hp} {s9:Shared},Inv (cm X scope N' cl C s2 H1 fp pins) ([(D,BI its k)] ++ mS fp s5.heap) τ H9 s9->tn (i + 1) s9.heap /\ ∀ b∈fp,H9 b=none:=λ{τ H9 s9} I9=>
     ⟨T.keep _ _ _ Jh λb hb o e=>(I9.pin (b,o) (acX _ (acX _ (g5 hb e)))).1,λb hb=>by
      obtain ⟨o,e,d⟩:=T.obj _ _ Jh b hb
      exact (I9.pin (b,o) (acX _ (acX _ (g5 hb e)))).2.1⟩
    refine adG (hf cl C s2 H1 fp pins _ s6 Ac H6 _ I6 q6) (λok s6' h6'=>?_) λ_ _ z=>z.elim
    obtain ⟨H6',Tx,Tz⟩:=h6'
    cases ok with
    | false=>
      rw [acW acP] at Tz ⊢
      obtain ⟨m',VX,w7⟩:=Tz
      obtain ⟨g1,g2⟩:=gone Tx
      exact ⟨m',VX,i + 1,ys,its,k,Ac,H6',Tx.l9 λp hp=>Tx.pin p (acX _ (adv _ hp)),g1,g2,w7,rv⟩
    | true=>
    rw [acU rfl] at Tz ⊢
    refine adG (r9 cl C s2 H1 fp pins _ s6' Ac H6' _ Tx Tz) (λy s7 h7=>?_) λ_ _ z=>z.elim
    obtain ⟨yv,H7,I7,r7,m',VX,w7⟩:=h7
    have p7:=I7.pin (D,BI its k) (acX _ (adv _ acR))
    have hl:=rv.length
    refine agr adu ⟨_,p7.1,rfl⟩ F.entry_list_append (F.args_list_append_2 _ _) (PySem.list_append D its.toArray k y (by rw [ac4]; omega)) ⟨p7.1,?_⟩
    have q:=PySem.IsL.update p7.1 (·.push y)
    have Mj:∀ b o,b≠D->s7.heap.get? b=some o->(s7.heap.update D (Obj.mapSeq (·.push y))).get? b=some o:=λb o hb e=>(ad3 s7.heap _ (aeW hb)).trans e
    have I8:Inv (cm X scope N' cl C s2 H1 fp pins) (mS fp s5.heap) Ac H7 s7:=I7.l9 λp hp=>I7.pin p (acX _ (acX _ hp))
    have I9:Inv (cm X scope N' cl C s2 H1 fp pins) (mS fp s5.heap) Ac H7 { s7 with heap:=s7.heap.update D (Obj.mapSeq (·.push y)) }:=I8.turned (t':=s7.toks) (it:=D) Mj p7.2.1 LR (.inr (by show s2.heap.objs.size<=D; rw [Ga]; exact ac1 _)) (λa c e=>(Mi a c (h1 _ _ e)).1) λp hp z=>by
     rcases adh.mp hp with z' | z'
     .exact (neP p z').1 z
     .exact VW (by rw [<- z]; exact (uq z').1)
    refine ⟨m',VX,i + 1,ys ++ [yv],its ++ [y],(if (its.toArray.push y).size == its.toArray.size then k else k + 1),Ac,H7,I9.l9 (pins':=[(D,BI (its ++ [y]) ((if (its.toArray.push y).size == its.toArray.size then k else k + 1)))]) λp hp=>?_,T.keep _ _ _ Jh λb hb o e=>?_,λb hb=>?_,w7,rv.append (.cons r7 .nil)⟩
    .have e:p=(D,BI (its ++ [y]) ((if (its.toArray.push y).size == its.toArray.size then k else k + 1))):=by simpa using hp
     subst e
     refine ⟨by rw [q,List.push_toArray],p7.2.1,LR,DnS D (ac1 _),λv z=>by cases z⟩
    .have pb:=I7.pin (b,o) (acX _ (acX _ (g5 hb e)))
     exact Mj b o (λz=>VW (by rw [<- z]; exact hb)) pb.1
    .obtain ⟨o,e,d⟩:=T.obj _ _ Jh b hb
     exact (I7.pin (b,o) (acX _ (acX _ (g5 hb e)))).2.1
  .exact I3.l9 λp hp=>by
    have e:p=(D,BI [] 0):=by simpa using hp
    subst e
    exact ⟨yd,I2.cS.fresh (by rw [Ga]; exact ac1 _),LR,DnS D (ac1 _),λv z=>by cases z⟩
 exact codeAny_compStart_list (loop _ rfl) (T.self _ 0 _ _ _ (T.keep _ _ _ jq λb hb o e=>old b o e) (loop _ rfl))
theorem uO (S:mn X scope xs ix N') (hc:X.calm=true) (hi:PI X tg iter wi) (hg:∀ cl C s2 H2 fp pins,PG (cm X scope N' cl C s2 H2 fp pins) tg g) (hf:∀ cl C s2 H2 fp pins,PF (cm X scope N' cl C s2 H2 fp pins) ifs tc) (r9:∀ cl C s2 H2 fp pins,PE (cm X scope N' cl C s2 H2 fp pins) elt te)
  (hs:∀ x,foldedSetIterable iter X.env x=pure x):PE X (.ListComp elt [⟨tg,iter,ifs,0⟩] scope pos) (Ad wi xs.length ix g tc te):=by
 intro pins s σ H Q I h
 obtain ⟨cl,rW,h1,h2⟩:=rE (scope:=scope) (env:=X.env) (λy hy hk=>I.ok.has y.1 (S.free y hy hk))
 rw [eval_ListComp]
 refine wpAny_comprehension_free (use:=none) rfl hs rW S.kind S.names (adG (hi pins s σ H _ I h) (λxv bR pk=>adG pk (λit mT vF=>?_) λ_ _ e=>e) λ_ _ e=>e)
 exact uN S hc hg hf r9 vF h1 h2 λD C H' s1 m hn fC c1 c2 c3 c4 hI q=>⟨m,hn,λh' qC=>⟨.ref D,H',hI h' qC,rfl,q⟩⟩
theorem DC {i:Nat} {y:Str} {py Gb:Pos} (S:mn X scope xs ix N') (hc:X.calm=true) (hi:PI X tg iter wi) (hg:∀ cl C s2 H2 fp pins,PG (cm X scope N' cl C s2 H2 fp pins) tg g) (hf:∀ cl C s2 H2 fp pins,PF (cm X scope N' cl C s2 H2 fp pins) ifs tc) (r9:∀ cl C s2 H2 fp pins,PE (cm X scope N' cl C s2 H2 fp pins) elt te)
  (hs:∀ x,foldedSetIterable iter X.env x=pure x) (VY:X.N.Nodup) (Ql:X.N[i]?=some y) (hy:X.env.scope.names.lookup y=some .local) (VZ:swapsWith (.ListComp elt [⟨tg,iter,ifs,0⟩] scope pos) (some (.Name y py)) Gb.line X.env=pure true):
  PS X (.Assign [.Name y py] (.ListComp elt [⟨tg,iter,ifs,0⟩] scope pos) Gb) (n9 (Ad wi xs.length ix g tc te) (iM i)):=by
 intro pins s σ H D I h
 obtain ⟨cl,rW,h1,h2⟩:=rE (scope:=scope) (env:=X.env) (λy hy hk=>I.ok.has y.1 (S.free y hy hk))
 rw [exec_Assign_Name_used _ _ _ _ VZ]
 refine acI (afu (acI ?_))
 show wpAny _ X.A (do let _ <- comprehension (.ListComp elt [⟨tg,iter,ifs,0⟩] scope pos) scope X.env _ (newList []) false (eval iter X.env) (some (assign (.Name y py) X.env))) _ _ s
 refine acI (adG (wpAny_comprehension_free (use:=some (assign (.Name y py) X.env)) (Q:=λ_ s'=>SP X pins D .next s') rfl hs rW S.kind S.names
  (adG (hi pins s σ H _ I h) (λxv bR pk=>adG pk (λit mT vF=>?_) λ_ _ e=>e) λ_ _ e=>e)) (λ_ s' hq=>acT (acT hq)) λ_ _ e=>e)
 refine uN S hc hg hf r9 vF h1 h2 λA C H' s1 m hn fC c1 c2 c3 c4 hI q=>?_
 have I1:Inv X pins σ H' s1:=hI s1.heap (.refl ..)
 refine wpAny_assign_Name (um I1 VY Ql (.inl hy) (show RelV (.ref A) (.ref A) from rfl) (λs3 I3 ch=>?_) (.inr hy))
 obtain ⟨a,VU,ha⟩:=ch
 have hCa:C≠a:=by
  rcases ha with z | z
  .rw [z]; exact c2
  .intro e; exact c3 y a z e.symm
 refine ⟨m,hn.sameBut VU hCa,λh' qC=>?_⟩
 exact ⟨_,H',I3.turned (t':=s3.toks) (it:=C) (λb o hb e=>(qC.2 b hb).trans e) fC c2 (.inr c1) c3 c4,q⟩
end
def lJ (sc scope:Scope) (N:List Str) (xs:List Str) (ix:List Nat) (N':List Str):Bool:=
 (scope.kind == .function) && scope.names.all (λy=> !(y.2 == .cell)) && scope.names.all (λy=> !(y.2 == .local) || (scope.names.lookup y.1 == some .local))
 && scope.names.all (λy=> !(y.2 == .free) || (sc.names.lookup y.1 == some .cell || sc.names.lookup y.1 == some .free))
 && (JG sc scope).all (λy=> !(y.2 == .cell || y.2 == .free) || scope.names.any (λz=>z.1 == y.1 && z.2 == .free))
 && (N' == xs ++ ix.map λj=>N.getD j "") && ix.all (λj=>decide (j < N.length) && scope.names.any (λz=>z.1 == N.getD j "" && z.2 == .free) && ((JG sc scope).lookup (N.getD j "") == some .cell || (JG sc scope).lookup (N.getD j "") == some .free))
theorem m8 {sc scope:Scope} {N:List Str} {xs:List Str} {ix:List Nat} {N':List Str} (h:lJ sc scope N xs ix N'=true) (e1:X.env.scope=sc) (e2:X.N=N):mn X scope xs ix N':=by
 subst e1 e2
 unfold lJ at h
 simp only [adC,af0,Bool.or_eq_true,Bool.not_eq_true',ag4,adt,beq_iff_eq,age] at h
 obtain ⟨⟨⟨⟨⟨⟨a1,a2⟩,a3⟩,a5⟩,a6⟩,a7⟩,a8⟩:=h
 refine ⟨a1,a2,λy hy hk=>(a3 y hy).elim (λz=>absurd hk z) id,λy hy hk=>(a5 y hy).elim (λz=>absurd hk z) id,λn _ hn=>?_,a7,λj hj=>?_⟩
 .have:∃ k,(n,k)∈JG X.env.scope scope /\ (k=NameKind.cell \/ k=NameKind.free):=by
   rcases hn with z | z
   .exact ⟨_,lookup_mem z,.inl rfl⟩
   .exact ⟨_,lookup_mem z,.inr rfl⟩
  obtain ⟨k,hk,xX⟩:=this
  rcases a6 (n,k) hk with z | ⟨z,hz,e1,e2⟩
  .exfalso
   simp at z
   rcases xX with q | q
   .exact z.1 q
   .exact z.2 q
  .obtain ⟨z1,z2⟩:=z
   cases e1; cases e2; exact hz
 .obtain ⟨⟨b1,⟨z,hz,e1,e2⟩⟩,b3⟩:=a8 j hj
  refine ⟨b1,?_,b3⟩
  obtain ⟨z1,z2⟩:=z
  cases e2
  have Mh:z1=X.N.getD j "":=e1
  rw [<- Mh]; exact hz
end
end L2
namespace L2
open PySem PySem.Spec PyProof.Rows LS
def m9 (f:D->Option (Option D)):List D->Option (List D)
 | []=>some []
 | d :: ds=>(f d).bind λo=>(m9 f ds).bind λxs=>some (match o with | some x=>x :: xs | none=>xs)
def bU (gi:DS->Option (List D)) (k:Nat) (ix:List Nat) (gt:D->DS->Option DS) (gc:DS->Option Bool) (ge:DS->Option D):DS->Option (List D):=λδ=>(gi δ).bind λds=>if ds.length<=100000 then
 m9 (λd=>(gt d (List.replicate k none ++ eB ix δ)).bind λfh=>(gc fh).bind λb=>if b=true then (ge fh).map some else some none) ds else none
def Mk (k:Nat) (gt:D->DS->Option DS):Prop:=∀ d c fh,gt d (List.replicate k none ++ c)=some fh->∃ own:DS,own.length=k /\ fh=own ++ c
theorem jC:Mk 1 (au 0):=λd c fh h=>by cases h; exact ⟨[some d],rfl,rfl⟩
set_option tactic.hygienic true in
theorem yf:Mk 2 (cW 2 (aO (au 0) (aO (au 1) cY))):=λd c fh h=>by
 unfold cW at h
 split at h
 .split at h
  .rename_i ds hl
   match ds,hl with
   | [a,b],_=>cases h; exact ⟨[some a,some b],rfl,rfl⟩
  .cases h
 .cases h
section
variable {K:PySem.W.Frag} {O:List Nat} {U A0:List Addr} {σ:St} {δ:DS} {H H1:Hp}
theorem Rel.weak {own c:DS} (R:Rel K [] U A0 σ (own ++ c) H):Rel K [] U A0 σ (List.replicate own.length none ++ c) H where
 len:=by rw [R.len]; simp
 fz:=λi e hi q=>by
  by_cases h:i < own.length
  .rw [List.getElem?_append_left (by simpa using h),List.getElem?_replicate,if_pos h] at q
   cases q
  .refine R.fz i e hi ?_
   rw [List.getElem?_append_right (by simpa using h)] at q
   rw [aeI (by omega)]
   simpa using q
 ow:=λi e hi=>by simp at hi
 inj:=λi j d e l hi=>by simp at hi
 al:=R.al
theorem Rel.RP (R:Rel K O U A0 σ δ H) {ix:List Nat} (k:Nat) (J2:∀ j∈ix,j∉O):Rel K [] U A0 (List.replicate k none ++ L2.oo ix σ) (List.replicate k none ++ eB ix δ) H where
 len:=by simp [L2.oo,eB]
 fz:=λi e _ q=>by
  by_cases h:i < k
  .rw [List.getElem?_append_left (by simpa using h),List.getElem?_replicate,if_pos h] at q
   cases q
  .rw [List.getElem?_append_right (by simpa using h)] at q ⊢
   simp only [aem] at q ⊢
   unfold eB at q
   unfold L2.oo
   rw [adb] at q ⊢
   cases ei:ix[i - k]? with
   | none=>rw [ei] at q; cases q
   | some j=>
     rw [ei] at q
     simp only [adT,aex] at q
     obtain ⟨u,hu,hd⟩:=R.fz j e (J2 j (adk ei)) (join_some q)
     exact ⟨u,by simp [hu],hd⟩
 ow:=λi e hi=>by simp at hi
 inj:=λi j d e l hi=>by simp at hi
 al:=R.al
structure CB (K:PySem.W.Frag) (U A0:List Addr) (H1:Hp) (ds xs:List D) (F:D->Option (Option D)) (base:DS) (i:Nat) (ys:List V) (τ:St) (H2:Hp) (zs rest:List D):Prop where
 le:i<=ds.length
 s:aL H1 H2
 R:Rel K [] U A0 τ base H2
 yl:ys.length<=i
 hz:cx K (wo H2 (U ++ A0)) ys zs
 he:m9 F (ds.drop i)=some rest
 hx:zs ++ rest=xs
def CBW (K:PySem.W.Frag) (U A0:List Addr) (H1:Hp) (ds xs:List D) (F:D->Option (Option D)) (base:DS) (i m:Nat) (ys:List V) (τ:St) (H2:Hp):Prop:=m=ds.length - i /\ ∃ zs rest,CB K U A0 H1 ds xs F base i ys τ H2 zs rest
theorem DD {J:It} {ix:List Nat} {k:Nat} {gt:D->DS->Option DS} {gc:DS->Option Bool} {ge:DS->Option D} {ds xs:List D} {Q:VK} (own:Mk k gt) (R:Rel K O U A0 σ δ H) (s:aL H H1) (J2:∀ j∈ix,j∉O) (hw:WalksS K (U ++ A0) H1 J ds)
  (hl:ds.length<=100000) (e:m9 (λd=>(gt d (List.replicate k none ++ eB ix δ)).bind λfh=>(gc fh).bind λb=>if b=true then (ge fh).map some else some none) ds=some xs)
  (q:∀ r ys H',aL H H'->H r=none->H' r=some (.lst ys)->cx K (wo H' (r :: (U ++ A0))) ys xs->Q (.ref r) H'):qO J k ix (tG K [] gt) (tT K [] gc) (tE K [] ge) σ H1 Q:=by
 have Tp:(100000:Nat) < sizeLine:=by decide
 obtain ⟨F,hF⟩:∃ F:D->Option (Option D),F=λd=>(gt d (List.replicate k none ++ eB ix δ)).bind λfh=>(gc fh).bind λb=>if b=true then (ge fh).map some else some none:=⟨_,rfl⟩
 rw [<- hF] at e
 refine ⟨CBW K U A0 H1 ds xs F (List.replicate k none ++ eB ix δ),⟨ds.length,rfl,[],xs,aek _,aL.refl _,(R.same s).RP k J2,ac1 _,.nil,e,rfl⟩,?_⟩
 rintro i m ys τ H2 ⟨rfl,zs,rest,w⟩
 have hle:=w.le
 have Ox:=w.yl
 have he:=w.he
 refine ⟨by omega,?_⟩
 obtain ⟨Of,rR⟩:=hw i H2 w.s
 by_cases iG:i < ds.length
 .obtain ⟨go,Qm⟩:=Of _ (acL iG)
  rw [ael iG,m9] at he
  generalize ds[i]=d at Qm he
  obtain ⟨o,e1,e2⟩:=bind1 he
  obtain ⟨rs,e3,e4⟩:=bind1 e2
  rw [hF] at e1
  obtain ⟨fh,f1,f2⟩:=bind1 e1
  obtain ⟨b,f3,f4⟩:=bind1 f2
  obtain ⟨jC,ol,oe⟩:=own d _ fh f1
  refine .inr ⟨go,by omega,λv H3 y=>?_⟩
  obtain ⟨s3,hv⟩:=Qm v H3 y
  refine ⟨U,A0,_,d,fh,w.R.same s3,hv,f1,λAc R3=>⟨U,A0,fh,b,R3,f3,λH4 s4=>?_⟩⟩
  have wk:∀ {H':Hp},aL H3 H'->Rel K [] U A0 Ac (List.replicate k none ++ eB ix δ) H':=λ{H'} s'=>by
   rw [<- ol]
   rw [oe] at R3
   exact (R3.same s').weak
  have lt:ds.length - (i + 1) < ds.length - i:=Nat.sub_lt_sub_left iG (adX i)
  cases b with
  | true=>
    rw [acU rfl] at f4
    dsimp only
    rw [acU rfl]
    cases eg:ge fh with
    | none=>rw [eg] at f4; cases f4
    | some x=>
      rw [eg] at f4; cases f4
      cases e4
      exact ⟨U,A0,fh,x,R3.same s4,eg,λu H5 s5 hu=>⟨_,lt,rfl,zs ++ [x],rs,iG,((w.s.trans s3).trans s4).trans s5,wk (s4.trans s5),by rw [ac7]; exact Nat.succ_le_succ Ox,(w.hz.same (b9 ((s3.trans s4).trans s5))).app (.cons hu .nil),e3,by rw [<- w.hx,aew]; rfl⟩⟩
  | false=>
    rw [acW acP] at f4
    dsimp only
    rw [acW acP]
    cases f4
    cases e4
    exact ⟨_,lt,rfl,zs,rs,iG,(w.s.trans s3).trans s4,wk s4,Nat.le_succ_of_le Ox,w.hz.same (b9 (s3.trans s4)),e3,w.hx⟩
 .have hi:i=ds.length:=agb hle (afl iG)
  subst hi
  rw [afm,m9] at he
  cases he
  have hx:=w.hx
  rw [adV] at hx
  subst hx
  exact .inl ⟨rR rfl,λp hp=>rJ (s.trans w.s) q p ys hp w.hz⟩
end
section
variable {X:Cx} {O:List Nat} {fr:Bool} {scope:Scope} {elt iter tg:Expr} {ifs:List Expr} {pos:Pos} {gi:DS->Option (List D)} {ge:DS->Option D} {gt:D->DS->Option DS} {gc:DS->Option Bool} {k:Nat}
theorem PF.mono {t t':TT} (h:PF X ifs t) (m:∀ σ H Q,t' σ H Q->t σ H Q):PF X ifs t':=λpins s σ H Q I q=>h pins s σ H Q I (m σ H Q q)
theorem cy:PF X [] (tT X.K O λ_=>some true):=OD.mono λσ H Q hh=>hh.e λU A0 δ b R e q=>by cases e; exact q H (aL.refl H)
set_option tactic.hygienic true in
theorem yg {K:PySem.W.Frag} {ix:List Nat} (own:Mk k gt) (J2:∀ j∈ix,j∉O) {σ:St} {H:Hp} {Q:VK}:tN K O (bU gi k ix gt gc ge) σ H Q->Ad (L9 K O gi) k ix (tG K [] gt) (tT K [] gc) (tE K [] ge) σ H Q:=λ⟨U,A0,δ,xs,R,ed,q⟩=>by
 obtain ⟨ds,e1,e2⟩:=bind1 ed
 split at e2
 .rename_i hl
  exact ⟨U,A0,δ,ds,R,e1,λJ H1 s hw=>DD own R s J2 hw hl e2 q⟩
 .cases e2
theorem bX (sc:Scope) (N:List Str) (ix:List Nat) (N' xs:List Str) (own:Mk k gt) (hi:PI X tg iter (L9 X.K O gi)) (hg:∀ cl C s2 H2 fp pins,PG (cm X scope N' cl C s2 H2 fp pins) tg (tG X.K [] gt)) (hf:∀ cl C s2 H2 fp pins,PF (cm X scope N' cl C s2 H2 fp pins) ifs (tT X.K [] gc))
  (r9:∀ cl C s2 H2 fp pins,PE (cm X scope N' cl C s2 H2 fp pins) elt (tE X.K [] ge)) (J2:∀ j∈ix,j∉O:=by decide) (hk:lJ sc scope N xs ix N'=true:=by decide +kernel) (hl:xs.length=k:=by rfl)
  (e1:X.env.scope=sc:=by rfl) (e2:X.N=N:=by rfl) (hc:X.calm=true:=by rfl) (hs:∀ x,foldedSetIterable iter X.env x=pure x:=by intro _; rfl):PE X (.ListComp elt [⟨tg,iter,ifs,0⟩] scope pos) (tN X.K O (bU gi k ix gt gc ge)):=by
 subst hl
 exact (uO (m8 hk e1 e2) hc hi hg hf r9 hs).mono λ_ _ _=>yg own J2
theorem jS {i:Nat} {y:Str} {py Gb:Pos} (sc:Scope) (N:List Str) (ix:List Nat) (N' xs:List Str) (VY:X.N.Nodup) (Ql:X.N[i]?=some y) (hy:X.env.scope.names.lookup y=some .local) (own:Mk k gt) (hi:PI X tg iter (L9 X.K O gi))
  (hg:∀ cl C s2 H2 fp pins,PG (cm X scope N' cl C s2 H2 fp pins) tg (tG X.K [] gt)) (hf:∀ cl C s2 H2 fp pins,PF (cm X scope N' cl C s2 H2 fp pins) ifs (tT X.K [] gc)) (r9:∀ cl C s2 H2 fp pins,PE (cm X scope N' cl C s2 H2 fp pins) elt (tE X.K [] ge))
  (J2:∀ j∈ix,j∉O:=by decide) (hk:lJ sc scope N xs ix N'=true:=by decide +kernel) (hl:xs.length=k:=by rfl)
  (e1:X.env.scope=sc:=by rfl) (e2:X.N=N:=by rfl) (hc:X.calm=true:=by rfl) (hs:∀ x,foldedSetIterable iter X.env x=pure x:=by intro _; rfl) (VZ:swapsWith (.ListComp elt [⟨tg,iter,ifs,0⟩] scope pos) (some (.Name y py)) Gb.line X.env=pure true:=by rfl):
  PS X (.Assign [.Name y py] (.ListComp elt [⟨tg,iter,ifs,0⟩] scope pos) Gb) (n9 (tN X.K O (bU gi k ix gt gc ge)) (iM i)):=by
 subst hl
 exact (DC (m8 hk e1 e2) hc hi hg hf r9 hs VY Ql hy VZ).mono λ_ _ _ h=>yg own J2 h
end
theorem sd:∀ {bs:List Bool} {its:List Value},bj (bs.map V.bl) its->its=bs.map Value.bool
 | [],_,.nil=>rfl
 | b :: l,_,.cons r t=>by
   rw [acQ,<- sd t]
   cases (show _=Value.bool b from r)
   rfl
theorem all_range {bs:List Bool}:(List.range bs.length).all (λi=>bs.getD i true)=bs.all id:=by
 rw [aga,af0,af0]
 constructor
 .intro h b hb
  obtain ⟨i,hi,e⟩:=aeA hb
  have:=h i (afK.mpr hi)
  rw [acS,acL hi] at this
  rw [<- e]; exact this
 .intro h i hi
  have hi:=afK.mp hi
  rw [acS,acL hi]
  exact h _ (aeG hi)
theorem DE {X:Cx} (hc:X.calm=true):eR X (.builtin "all") (λxs H Q=>∃ (p:Addr) (bs:List Bool),xs=[.ref p] /\ gX X.K H p (bs.map V.bl) /\ Q (.bl (bs.all id)) H):=by
 intro pins s σ H xs us Q I r h
 obtain ⟨p,bs,rfl,hq,q⟩:=h
 obtain ⟨u,rfl,rx⟩:=vals1 r
 cases rx
 obtain ⟨its,rv,pl,_⟩:=I.list hq
 have e:=sd rv
 subst e
 have iG:p≠s.heap.objs.size:=by
  obtain ⟨o,n,e1,_⟩:=pl
  exact adj (acV e1)
 refine call_all_walk (afh pl.isList ?_)
 refine ⟨s.heap.objs.size,[s.heap.objs.size,p],[s.heap.objs.size],_,_,_,λi=>bs.getD i true,rfl,Walks.list (A:=X.A.in1) (I.ok.hd hc) _ p iG (bs.map Value.bool).toArray,⟨⟨_,ac8 _ rfl,rfl,rfl⟩,pl.isList.push _⟩,λi v s' Q' E' hP hQ=>?_,λh' tk k=>?_⟩
 .have Gc:(bs.map Value.bool)[i]?=some v:=by simpa using hP
  rw [adb] at Gc
  cases eb:bs[i]? with
  | none=>rw [eb] at Gc; cases Gc
  | some b=>
    rw [eb] at Gc; cases Gc
    have hQ':Q' (bs.getD i true) s':=hQ
    rw [acS,eb] at hQ'
    exact aeb hQ'
 .have e:(List.range (bs.map Value.bool).toArray.size).all (λi=>bs.getD i true)=bs.all id:=by rw [<- all_range]; simp
  rw [e]
  refine ⟨.bl _,H,I.kept (t':=tk) λb o e=>k b o (λz=>?_) (acM _ e),rfl,q⟩
  rw [adm] at z
  exact absurd (acV e) (by rw [z]; exact adK _)
theorem OH:bootBuiltins "all"=some (.builtin "all"):=by decide +kernel
def kq:List D->Option (List Bool)
 | []=>some []
 | .bool i :: l=>(kq l).map (i :: ·)
 | _ :: _=>none
theorem se:∀ (ns:List Bool),kq (ns.map .bool)=some ns
 | []=>rfl
 | n :: ns=>by rw [acQ,kq,se ns]; rfl
theorem qp:∀ {l:List D} {ns:List Bool},kq l=some ns->l=ns.map .bool
 | [],_,h=>by cases h; rfl
 | d :: l,ns,h=>by
   cases d with
   | bool i=>
     rw [kq] at h
     cases e:kq l with
     | none=>rw [e] at h; cases h
     | some m=>rw [e] at h; cases h; rw [qp e]; rfl
   | _=>cases h
theorem cx.toBools {K:PySem.W.Frag} {H:Hp}:∀ {ns:List Bool} {xs:List V},cx K H xs (ns.map PyData.bool)->xs=ns.map V.bl
 | [],_,h=>by cases h; rfl
 | n :: ns,_,h=>by
   rw [acQ] at h
   cases h with
   | cons a t=>cases a; rw [cx.toBools t]; rfl
def OI:List D->Option D
 | [.list l]=>(kq l).map λbs=>.bool (bs.all id)
 | _=>none
set_option tactic.hygienic true in
theorem J3 {K:PySem.W.Frag}:rO K (λxs H Q=>∃ (p:Addr) (bs:List Bool),xs=[.ref p] /\ gX K H p (bs.map V.bl) /\ Q (.bl (bs.all id)) H) OI:=by
 intro A H vs ds d Q al h e q
 unfold OI at e
 split at e
 .rename_i l
  cases eb:kq l with
  | none=>rw [eb] at e; cases e
  | some bs=>
    rw [eb] at e; cases e
    obtain ⟨v,rfl,h1⟩:=FE h
    obtain ⟨p,xs,rfl,h2,h3⟩:=h1.list
    rw [qp eb] at h3
    rw [h3.toBools] at h2
    exact ⟨p,bs,rfl,h2.sq,q _ H (aL.refl H) (.bl _)⟩
 .cases e
section
variable {X:Cx}
def Ag (K:PySem.W.Frag):R2:=λx y H Q=>∃ a b ys,x=.ref a /\ y=.ref b /\ jN K H a [] /\ jN K H b ys /\ Q (.ref b) H
theorem Gd:jo X (binaryOp .Add) (Ag X.K):=by
 intro pins s σ H x y v u Q I rx ry h
 obtain ⟨a,b,ys,rfl,rfl,ha,hb,q⟩:=h
 cases rx
 cases ry
 obtain ⟨its,r1,p1,_⟩:=I.tuple ha
 obtain ⟨tQ,r2,p2,_⟩:=I.tuple hb
 have e:=r1.qK.mpr rfl
 subst e
 obtain ⟨⟨c1,d1,dt1,V0⟩,ho,hc,n,hd⟩:=id p1
 obtain ⟨⟨c2,d2,dt2,Qb⟩,iY,hc2,n2,hd2⟩:=id p2
 simp only at hc hd hc2 hd2
 subst hc hd hc2 hd2
 exact concat_meets ⟨_,ho,rfl⟩ ⟨_,iY,rfl⟩ noFill_tuple_add seq_tuple_add afL afC (afv _ _) (tuple_addW0 a b #[] tQ.toArray n n2 d1 d2 V0 Qb (by simp)) ⟨ho,iY,⟨.ref b,H,I,rfl,q⟩⟩
end
def bM (a b:D):Option D:=match a,b with
 | .tuple [],.tuple l=>some (.tuple l)
 | a,b=>N5 a b
theorem bH {X:Cx}:jo X (binaryOp .Add) (λx y H Q=>BO X.K x y H Q \/ Ag X.K x y H Q):=JJ.or Gd
theorem bg {K:PySem.W.Frag}:jP K (λx y H Q=>BO K x y H Q \/ Ag K x y H Q) bM:=by
 intro A H x y dx dy d Q al hx hy e q
 unfold bM at e
 split at e
 .cases e
  have hf:=hy.fz
  obtain ⟨a,xs,rfl,h1,h2⟩:=hx.tuple
  obtain ⟨b,zs,rfl,h3,h4⟩:=hy.tuple
  cases h2
  exact .inr ⟨a,b,zs,rfl,rfl,h1,h3,q _ H (aL.refl H) hf⟩
 .exact .inl (JK A H x y _ _ d Q al hx hy e q)
def RQ (K:PySem.W.Frag) (a:Addr):It:=
 ⟨λi H=>∃ xs x,jN K H a xs /\ xs[i]?=some x,λi H x H'=>∃ p v,H p=none /\ x=.ref p /\ H'=upd H p (.tup [.int i,v]) /\ ∀ xs,jN K H a xs->xs[i]?=some v,λi H=>∃ xs,jN K H a xs /\ xs.length=i⟩
theorem Ah {P:Program} {w:World} {K:PySem.W.Frag} {es:List Expr} {kk} {i5:Pos} (a e it:Addr) (lb:e≠it):Turn P w K (.Tuple es kk i5) (RQ K a) [e,it] e (λi h=>(∃ old,IsEnum h e it i old) /\ h.IsTupleIter it a i) where
 mem:=by simp
 obj:=λi h st b hb=>by
  obtain ⟨⟨old,he⟩,o,ho,c,d⟩:=st
  rcases acK.mp hb with z | z
  .subst z; exact ⟨_,he,λv z=>by cases z⟩
  .have z:b=it:=by simpa using z
   subst z; exact ⟨o,ho,λv z=>by rw [d] at z; cases z⟩
 keep:=λi h h' st k=>by
  obtain ⟨⟨old,he⟩,jq⟩:=st
  exact ⟨⟨old,k e (by simp) _ he⟩,jq.at λo eo=>k it (by simp) o eo⟩
 item:=by
  intro X hP hw hK hc i pins s σ H E I hf st hg
  subst hP hw hK
  obtain ⟨xs,x,hq,hx⟩:=hg
  obtain ⟨its,rv,p,hz⟩:=I.tuple hq
  obtain ⟨u,hu,ru⟩:=rv.get hx
  obtain ⟨⟨old,he⟩,jq⟩:=st
  have hp:s.heap.IsTuple a its.toArray:=p
  have V1:e≠a:=λz=>by
   obtain ⟨o,ho,rW,_⟩:=hp
   rw [<- z] at ho
   have:=ho.symm.trans he
   cases this
   exact absurd (ae3 rW) (by decide)
  have OJ:a≠it:=λz=>by
   obtain ⟨o,ho,rW,_⟩:=hp
   obtain ⟨o2,iY,sf,_⟩:=jq
   rw [z] at ho
   have:=ho.symm.trans iY
   cases this
   rw [rW] at sf
   exact absurd (ae3 sf) (by decide)
  have IS:i < its.toArray.size:=by
   have:=(acN.mp hu).1
   simpa using this
  refine wpAny_pyNext_enum_itemD (js (A:=X.A.in1) (I.ok.hd hc) it a OJ its.toArray) he ⟨jq,hp⟩ IS lb (by simp [lb,V1]) λy h1 tk hy CS Ge Qi JT EB=>?_
  have V2:y=u:=by
   have h3:its.toArray[i]?=some u:=by simpa using hu
   have h4:its.toArray[i]?=some y:=hy
   rw [h3] at h4; cases h4; rfl
  subst V2
  refine ⟨_,rfl,afi CS λh2 JO oa=>?_⟩
  replace oa:Heap.SameBut e h1 h2:=oa
  have L7:e < s.heap.objs.size:=acV he
  have I1:Inv X pins σ H { s with heap:=h2,toks:=tk + 1 }:=I.jr (t':=tk + 1) (ch:=[e,it]) (λb o hb eo=>by
   simp only [acK,adz,aez,agQ] at hb
   exact (oa.2 b hb.1).trans (EB b o hb.1 hb.2 eo)) hf
  have Ol:IsTup h2 s.heap.objs.size [Value.int i tk,y].toArray:=⟨_,(oa.2 _ (ae8 L7)).trans Qi,rfl,_,rfl⟩
  have xq:H s.heap.objs.size=none:=I.cS.fresh (ac1 _)
  have fo:=I.qy (H':=H) (ac1 _) xq
  have I2:Inv X pins σ (upd H s.heap.objs.size (.tup [.int i,x])) { s with heap:=h2,toks:=tk + 1 }:=I1.vO xq (ado I.sz (ac1 _)) fo.2.1 fo.2.2.2.2.1 fo.2.2.2.2.2 Ol (.cons ⟨_,rfl⟩ (.cons ru .nil)) (by show 2<=sizeLine; decide)
  refine ⟨.ref s.heap.objs.size,_,I2,rfl,⟨_,x,xq,rfl,rfl,λys hy=>by rw [I.pe hy hq]; exact hx⟩,⟨⟨y,JO⟩,Ge.1.extBut oa.extBut (aeW lb)⟩,λb hb=>?_⟩
  have iG:b < s.heap.objs.size:=by
   rcases acK.mp hb with z | z
   .subst z; exact L7
   .have z:b=it:=by simpa using z
    subst z
    obtain ⟨o,ho,_⟩:=jq
    exact acV ho
  rw [bp (adj iG)]
  exact (hf b hb).1
 done:=by
  intro X hP hw hK hc i pins s σ H E I hf st hg
  subst hP hw hK
  obtain ⟨xs,hq,hx⟩:=hg
  obtain ⟨its,rv,p,hz⟩:=I.tuple hq
  obtain ⟨⟨old,he⟩,jq⟩:=st
  have hp:s.heap.IsTuple a its.toArray:=p
  have OJ:a≠it:=λz=>by
   obtain ⟨o,ho,rW,_⟩:=hp
   obtain ⟨o2,iY,sf,_⟩:=jq
   rw [z] at ho
   have:=ho.symm.trans iY
   cases this
   rw [rW] at sf
   exact absurd (ae3 sf) (by decide)
  have hl:=rv.length
  have hsz:its.toArray.size=i:=by rw [ac4,<- hl]; exact hx
  refine wpAny_pyNext_enum_endD (js (A:=X.A.in1) (I.ok.hd hc) it a OJ its.toArray) he ⟨by rw [hsz]; exact jq,hp⟩ λh1 eb=>⟨rfl,?_⟩
  exact I.jr (t':=s.toks) (ch:=[e,it]) (λb o hb eo=>eb b o (λz=>hb (by simp [z])) eo) hf
 self:=λ_ _ _ _ _ st h=>by
  obtain ⟨⟨old,he⟩,_⟩:=st
  exact aeP he h
section
variable {X:Cx} {O:List Nat} {a:Expr} {ge:DS->Option D} {p pos:Pos} {es:List Expr} {kk} {i5:Pos}
def OK (K:PySem.W.Frag) (ta:TA):TI:=λσ H R=>ta σ H λvs H1=>∃ a xs,vs=[.ref a] /\ jN K H1 a xs /\ R (RQ K a) H1
theorem Gf {ta:TA} (hg:Gl X "enumerate") (hm:X.mg "enumerate"=none) (ha:PA X [a] ta) (hs:starEach [a] X.env=[(false,eval a X.env)]:=by rfl):PI X (.Tuple es kk i5) (.Call (.Name "enumerate" p) [a] [] pos) (OK X.K ta):=by
 intro pins s σ H R I h
 refine Call_ (ka I hg hm kl (adZ (dz (ha pos pins s σ H _ I h) λus s1 ⟨vs,H1,I1,r1,q1⟩=>?_) hs rfl))
 obtain ⟨b,xs,e,hq,q⟩:=q1
 subst e
 obtain ⟨u,rfl,ru⟩:=vals1 r1
 cases ru
 obtain ⟨its,rv,pl,hz⟩:=I1.tuple hq
 refine zZ (show s1.heap.IsTuple b its.toArray from pl) λh' he hit hsz hk=>?_
 refine aeP he ?_
 refine ⟨s1.heap.objs.size + 1,[s1.heap.objs.size + 1,s1.heap.objs.size],_,_,H1,rfl,I1.kept (t':=s1.toks) hk,Ah b _ s1.heap.objs.size (ag0 _),⟨⟨_,he⟩,hit⟩,λb hb=>?_,q⟩
 have hle:s1.heap.objs.size<=b:=by
  simp only [acK,adz,aez] at hb
  rcases hb with z | z
  .rw [z]; exact aeQ _
  .rw [z]; exact ac1 _
 exact I1.qy hle (I1.cS.fresh hle)
def Gg (g:DS->Option D):DS->Option (List D):=λδ=>(g δ).bind λ| .tuple l=>some (i9 l) | _=>none
theorem Gh (hm:X.mg "enumerate"=none) (ha:PE X a (tE X.K O ge)) (hg:Gl X "enumerate":=by rfl) (hs:starEach [a] X.env=[(false,eval a X.env)]:=by rfl) (JV:starEach ([]:List Expr) X.env=[]:=by rfl):PI X (.Tuple es kk i5) (.Call (.Name "enumerate" p) [a] [] pos) (tI X.K O (Gg ge)):=
 (Gf hg hm (bG ha cz (by rw [hs,JV])) hs).mono λσ H Q hh=>hh.e λU A0 δ ds R ed q=>by
  obtain ⟨x,e1,e2⟩:=bind1 ed
  cases x with
  | tuple l=>
    cases e2
    refine ⟨U,A0,δ,_,R,e1,λv H' s h=>?_⟩
    cases h with
    | tup hq h=>
      refine ⟨_,_,rfl,.inl (cw.oq hq),q _ H' s ?_⟩
      intro A' i H2 s2 al
      have h2:=h.same s2
      have hL:jN X.K H2 _ _:=.inl (cw.oq (s2.oq hq))
      refine ⟨λd hd=>?_,λhi=>⟨_,hL,by rw [hi,pB,h2.len]⟩⟩
      obtain ⟨y,hy,rfl⟩:=uJ hd
      obtain ⟨v,hv,Rw⟩:=h2.get hy
      refine ⟨⟨_,v,hL,hv⟩,λz H3 hz=>?_⟩
      obtain ⟨p,v',hp,rfl,rfl,Rx⟩:=hz
      have:=Rx _ hL
      rw [hv] at this
      cases this
      exact ⟨cK hp _,HD.vK al hp (.cons (.int _) (.cons Rw .nil))⟩
  | _=>cases e2
end
end L2
namespace L2
open PySem PySem.Spec PyProof.Rows
def OL:D->Option Key
 | .int i=>some (.inl i)
 | .str x=>some (.inr x)
 | _=>none
def keysOf:List D->Option (List Key)
 | []=>some []
 | d :: ds=>(OL d).bind λk=>(keysOf ds).bind λks=>some (k :: ks)
def keyOf:D->Option (List Key)
 | .tuple ds=>keysOf ds
 | _=>none
theorem fS:∀ k:List Key,keysOf (k.map iS)=some k
 | []=>rfl
 | .inl i :: k=>by rw [acQ,keysOf,fS k]; rfl
 | .inr i :: k=>by rw [acQ,keysOf,fS k]; rfl
theorem uP {K:PySem.W.Frag} {H:Hp}:∀ {xs:List V} {ds:List D} {k:List Key},cx K H xs ds->keysOf ds=some k->xs=k.map kV
 | _,_,_,.nil,e=>by cases e; rfl
 | _,_,_,.cons h t,e=>by
   rw [keysOf] at e
   obtain ⟨a,e1,e2⟩:=bind1 e
   obtain ⟨b,e3,e4⟩:=bind1 e2
   cases e4
   rw [uP t e3,acQ]
   cases h with
   | int i=>cases e1; rfl
   | str x=>cases e1; rfl
   | _=>cases e1
def cj (kds:List (D×D)) (k:List Key):Option D:=(kds.find? λp=>decide (keyOf p.1=some k)).map (·.2)
def jT (kds:List (D×D)) (k:List Key) (d:D):List (D×D):=
 if (kds.any λp=>decide (keyOf p.1=some k))=true then kds.map (λp=>if keyOf p.1=some k then (p.1,d) else p) else kds ++ [(.tuple (k.map iS),d)]
theorem dH {p:D×D} {r:List (D×D)} {k:List Key} (e:keyOf p.1=some k):cj (p :: r) k=some p.2:=by simp [cj,aey,e]
theorem dJ {p:D×D} {r:List (D×D)} {k:List Key} (e:¬ keyOf p.1=some k):cj (p :: r) k=cj r k:=by simp [cj,aey,e]
theorem mo (k:List Key):∀ kds:List (D×D),(kds.any λp=>decide (keyOf p.1=some k))=(cj kds k).isSome
 | []=>rfl
 | p :: r=>by
   rw [afw]
   by_cases e:keyOf p.1=some k
   .simp only [dH e,ac2 e,Bool.true_or,Option.isSome_some]
   .rw [dJ e,acZ e,Bool.false_or]; exact mo k r
theorem uQ (k j:List Key) (y:D):∀ kds:List (D×D),cj (kds.map λp=>if keyOf p.1=some k then (p.1,y) else p) j=(cj kds j).map λx=>if j=k then y else x
 | []=>rfl
 | p :: r=>by
   have ih:=uQ k j y r
   rw [acQ]
   by_cases h:keyOf p.1=some k
   .rw [acU h]
    by_cases e:keyOf p.1=some j
    .rw [dH (p:=(p.1,y)) e,dH e,adT,acU (adp (e.symm.trans h))]
    .rw [dJ (p:=(p.1,y)) e,dJ e,ih]
   .rw [acW h]
    by_cases e:keyOf p.1=some j
    .rw [dH (p:=p) e,dH e,adT,acW (λz=>h (by rw [e,z]))]
    .rw [dJ (p:=p) e,dJ e,ih]
theorem uR (j:List Key):∀ a b:List (D×D),cj (a ++ b) j=(cj a j).or (cj b j)
 | [],b=>by rw [af9]; rfl
 | p :: r,b=>by
   rw [ae4]
   by_cases e:keyOf p.1=some j
   .rw [dH e,dH e]; rfl
   .rw [dJ e,dJ e]; exact uR j r b
theorem uS (kds:List (D×D)) (k j:List Key) (d:D):cj (jT kds k d) j=if j=k then some d else cj kds j:=by
 unfold jT
 by_cases a:(kds.any λp=>decide (keyOf p.1=some k))=true
 .rw [acU a,uQ]
  rw [mo] at a
  by_cases e:j=k
  .obtain ⟨x,hx⟩:=Option.isSome_iff_exists.mp a
   rw [acU e,e,hx,adT,acU rfl]
  .rw [acW e]
   cases cj kds j with
   | none=>rfl
   | some x=>rw [adT,acW e]
 .rw [acW a,uR]
  rw [mo] at a
  have hk:keyOf (.tuple (k.map iS))=some k:=fS k
  by_cases e:j=k
  .subst e
   have:cj kds j=none:=by
    cases q:cj kds j with
    | none=>rfl
    | some x=>rw [q] at a; exact (a rfl).elim
   rw [acU rfl,this,dH hk]; rfl
  .rw [acW e,dJ (by rw [hk]; exact λz=>e (adp z).symm)]
   exact Option.or_none
theorem pG (kds:List (D×D)) (k:List Key) (d:D):(jT kds k d).length<=kds.length + 1:=by
 unfold jT
 split
 .rw [acH]; omega
 .rw [ac7,ac3,aej]; omega
inductive DK (K:PySem.W.Frag) (H:Hp):List (List Key×V)->List (D×D)->Prop
 | nil:DK K H [] []
 | cons {k:List Key} {v:V} {d:D} {r:List (List Key×V)} {s:List (D×D)}:HD K H v d->DK K H r s->DK K H ((k,v) :: r) ((.tuple (k.map iS),d) :: s)
section
variable {K:PySem.W.Frag} {H H':Hp} {A:List Addr}
theorem DK.of:∀ {aV:List (List Key×V)} {kds:List (D×D)},kds.map (·.1)=aV.map (λp=>PyData.tuple (p.1.map iS))->cx K H (aV.map (·.2)) (kds.map (·.2))->DK K H aV kds
 | [],[],_,_=>.nil
 | [],_ :: _,e,_=>by simp at e
 | _ :: _,[],e,_=>by simp at e
 | (k,v) :: r,(x,d) :: s,e,h=>by
   simp only [acQ,List.cons.injEq] at e
   obtain ⟨e1,e2⟩:=e
   subst e1
   cases h with
   | cons h1 h2=>exact .cons h1 (DK.of e2 h2)
theorem DK.keys:∀ {aV:List (List Key×V)} {kds:List (D×D)},DK K H aV kds->kds.map (·.1)=aV.map (λp=>PyData.tuple (p.1.map iS))
 | _,_,.nil=>rfl
 | _,_,.cons _ t=>by rw [acQ,acQ,DK.keys t]
theorem DK.vals:∀ {aV:List (List Key×V)} {kds:List (D×D)},DK K H aV kds->cx K H (aV.map (·.2)) (kds.map (·.2))
 | _,_,.nil=>.nil
 | _,_,.cons h t=>.cons h (DK.vals t)
theorem DK.own {aV:List (List Key×V)} {kds:List (D×D)} (h:DK K H aV kds):zP K H (.dT aV) (.dict kds):=.rF h.keys h.vals
theorem DK.same {aV:List (List Key×V)} {kds:List (D×D)} (s:aL H H') (h:DK K H aV kds):DK K H' aV kds:=DK.of h.keys (h.vals.same s)
theorem DK.len:∀ {aV:List (List Key×V)} {kds:List (D×D)},DK K H aV kds->aV.length=kds.length
 | _,_,.nil=>rfl
 | _,_,.cons _ t=>by rw [ac3,ac3,DK.len t]
theorem DK.look (k:List Key):∀ {aV:List (List Key×V)} {kds:List (D×D)},DK K H aV kds->(∀ d,cj kds k=some d->∃ v,mU aV k=some v /\ HD K H v d) /\ (cj kds k=none->mU aV k=none)
 | _,_,.nil=>⟨λd e=>(by cases e),λ_=>rfl⟩
 | _,_,.cons (k:=j) (v:=v) (d:=d) (r:=r) (s:=s) h t=>by
   have hj:keyOf (.tuple (j.map iS))=some j:=fS j
   by_cases e:j=k
   .subst e
    rw [dH (p:=(PyData.tuple (j.map iS),d)) hj,lr (p:=(j,v)) rfl]
    exact ⟨λd' q=>by cases q; exact ⟨v,rfl,h⟩,λq=>by cases q⟩
   .rw [dJ (p:=(PyData.tuple (j.map iS),d)) (by rw [hj]; exact λz=>e (adp z)),lu (p:=(j,v)) e]
    exact DK.look k t
theorem DK.rep (k:List Key) {v:V} {d:D} (hv:HD K H v d):∀ {aV:List (List Key×V)} {kds:List (D×D)},DK K H aV kds->DK K H (aV.map λkv=>if kv.1=k then (kv.1,v) else kv) (kds.map λp=>if keyOf p.1=some k then (p.1,d) else p)
 | _,_,.nil=>.nil
 | _,_,.cons (k:=j) h t=>by
   have hj:keyOf (.tuple (j.map iS))=some j:=fS j
   rw [acQ,acQ]
   by_cases e:j=k
   .subst e
    rw [acU rfl,acU hj]; exact .cons hv (DK.rep j hv t)
   .rw [acW e,acW (by rw [hj]; exact λz=>e (adp z))]; exact .cons h (DK.rep k hv t)
theorem DK.app:∀ {a:List (List Key×V)} {b:List (D×D)} {a':List (List Key×V)} {b':List (D×D)},DK K H a b->DK K H a' b'->DK K H (a ++ a') (b ++ b')
 | _,_,_,_,.nil,q=>q
 | _,_,_,_,.cons h t,q=>.cons h (DK.app t q)
theorem DK.put {aV:List (List Key×V)} {kds:List (D×D)} (h:DK K H aV kds) (k:List Key) {v:V} {d:D} (hv:HD K H v d):DK K H (putK aV k v) (jT kds k d):=by
 have e:(aV.any λkv=>decide (kv.1=k))=kds.any λp=>decide (keyOf p.1=some k):=by
  rw [rq,mo]
  cases q:cj kds k with
  | none=>rw [(h.look k).2 q]; rfl
  | some x=>obtain ⟨w,hw,_⟩:=(h.look k).1 x q; rw [hw]; rfl
 unfold putK jT
 rw [e]
 split
 .exact h.rep k hv
 .exact h.app (.cons hv .nil)
theorem iE.dk {x:V} {kds:List (D×D)} (h:iE K A H x (.dict kds)):∃ a aV,x=.ref a /\ H a=some (.dT aV) /\ DK K (wo H A) aV kds:=
 let ⟨a,aV,e,h1,h2,h3⟩:=h.dict; ⟨a,aV,e,h1,DK.of h2 h3⟩
theorem iE.key {y:V} {d:D} {k:List Key} (h:iE K A H y d) (e:keyOf d=some k):∃ b,y=.ref b /\ dh H b (k.map kV):=by
 cases d with
 | tuple ds=>
   obtain ⟨b,ys,rfl,hb,hd⟩:=h.Rk
   exact ⟨b,rfl,by rw [<- uP hd e]; exact hb⟩
 | _=>cases e
end
def jU (gd gk:DS->Option D):DS->Option D:=λδ=>(gd δ).bind λx=>(gk δ).bind λy=>match x with
 | .dict kds=>(keyOf y).bind λk=>cj kds k
 | _=>none
def pH (gd gk ge:DS->Option D):DS->Option D:=λδ=>(gd δ).bind λx=>(gk δ).bind λy=>(ge δ).bind λz=>match x with
 | .dict kds=>(keyOf y).bind λk=>some ((cj kds k).getD z)
 | _=>none
def yh (i:Nat) (gk ge:DS->Option D):DS->Option Res:=λδ=>(ge δ).bind λd=>(ae i δ).bind λx=>(gk δ).bind λy=>match x with
 | .dict kds=>(keyOf y).bind λk=>if kds.length < 100000 then some (.nx (δ.set i (some (.dict (jT kds k d))))) else none
 | _=>none
def B2 (i:Nat) (g:DS->Option (List (D×D))):DS->Option Res:=λδ=>(g δ).bind λd=>some (.nx (δ.set i (some (.dict d))))
def Gi:DS->Option (List (D×D)):=λ_=>some []
def Gj (gk ge:DS->Option D):DS->Option (List (D×D)):=λδ=>(gk δ).bind λy=>(ge δ).bind λd=>(keyOf y).bind λk=>some [(.tuple (k.map iS),d)]
def V3 (K:PySem.W.Frag) (O:List Nat) (g:DS->Option (List (D×D))):TE:=λσ H Q=>∃ U A0 δ kds,Rel K O U A0 σ δ H /\ g δ=some kds /\
 ∀ r aV H',aL H H'->H r=none->H' r=some (.dT aV)->DK K (wo H' (r :: (U ++ A0))) aV kds->Q (.ref r) H'
section
variable {X:Cx} {O:List Nat} {fr:Bool} {st:Stmt} {gd gk ge:DS->Option D} {gl:DS->Option (List (D×D))} {o i e f value:Expr} {pos apos fH:Pos}
theorem oC (hu:X.A.units + 1 < cLine) (ho:PE X o (ib X.K O gd)) (hi:PE X i (ib X.K O gk)) (hs:NP i:=by intro _ _; rfl):PE X (.Subscript o i pos) (tE X.K O (jU gd gk)):=(BG hu ho hi hs).mono λσ H Q hh=>hh.e λU A0 δ d R ed q=>by
 obtain ⟨x,e1,e2⟩:=bind1 ed
 obtain ⟨y,e3,e4⟩:=bind1 e2
 refine ⟨U,A0,δ,x,R,e1,λv H1 s1 h1=>⟨U,A0,δ,y,R.same s1,e3,λv2 H2 s2 h2=>?_⟩⟩
 cases x with
 | dict kds=>
   obtain ⟨k,e5,e6⟩:=bind1 e4
   obtain ⟨a,aV,rfl,ha,dk⟩:=(h1.same s2).dk
   obtain ⟨b,rfl,hb⟩:=h2.key e5
   obtain ⟨w,hw,hd⟩:=(dk.look k).1 d e6
   refine ⟨a,w,rfl,?_,q w H2 (s1.trans s2) hd⟩
   rw [<- hw]; exact tU.t ha hb
 | _=>cases e4
theorem si (hu:X.A.units + 1 < cLine) (ho:PE X o (ib X.K O gd)) (hi:PE X e (ib X.K O gk)) (hx:PE X f (tE X.K O ge)) (m:M2 X o "get" apos e f fH:=by exact ⟨rfl,rfl,rfl,rfl⟩):PE X (.Call (.Attribute o "get" apos) [e,f] [] fH) (tE X.K O (pH gd gk ge)):=(Fl hu ho hi hx m).mono λσ H Q hh=>hh.e λU A0 δ d R ed q=>by
 obtain ⟨x,e1,e2⟩:=bind1 ed
 obtain ⟨y,e3,e4⟩:=bind1 e2
 obtain ⟨z,e5,e6⟩:=bind1 e4
 refine ⟨U,A0,δ,x,R,e1,λv H1 s1 h1=>?_⟩
 cases x with
 | dict kds=>
   obtain ⟨k,e7,e8⟩:=bind1 e6
   cases e8
   obtain ⟨a,aV,rfl,ha,dk⟩:=h1.dk
   refine ⟨a,rfl,.inr ⟨_,.inl ha⟩,U,A0,δ,y,R.same s1,e3,λv2 H2 s2 h2=>⟨U,A0,δ,z,(R.same s1).same s2,e5,λv3 H3 s3 h3=>?_⟩⟩
   obtain ⟨b,rfl,hb⟩:=(h2.same s3).key e7
   have dk3:=dk.same (b9 (A:=U ++ A0) (s2.trans s3))
   refine ⟨mU aV k,tU.t ((s2.trans s3) _ _ ha) hb,q _ H3 (s1.trans (s2.trans s3)) ?_⟩
   cases w:cj kds k with
   | none=>rw [(dk3.look k).2 w]; exact h3
   | some d'=>obtain ⟨w',hw',EN⟩:=(dk3.look k).1 d' w; rw [hw']; exact EN
 | _=>cases e6
set_option tactic.hygienic true in
theorem B3 {i:Nat} (h:PS X st (Fi (n6 i) (ib X.K O gk) (tE X.K O ge))) (hi:i∈O:=by decide):PS X st (tS X.K O fr (yh i gk ge)):=h.mono λE σ H hh=>hh.e λH0 U A0 δ r R F ed P=>by
 obtain ⟨d,e1,e2⟩:=bind1 ed
 obtain ⟨x,e3,e4⟩:=bind1 e2
 obtain ⟨y,e5,e6⟩:=bind1 e4
 obtain ⟨l,o,hl,hU,h1,h2⟩:=R.ow i x hi (join_some e3)
 cases h2 with
 | lst _=>cases e6
 | rF kk hv=>
   obtain ⟨k,e7,e8⟩:=bind1 e6
   split at e8
   .rename_i hz
    cases e8
    refine ⟨U,A0,δ,d,R,e1,λv H1 s1 hv1=>⟨.ref l,hl,U,A0,δ,y,R.same s1,e5,λv2 H2 s2 h3=>?_⟩⟩
    obtain ⟨b,rfl,hb⟩:=h3.key e7
    have dk:=DK.of kk hv
    have hlen:=dk.len
    have dk2:=dk.same (b9 (A:=U ++ A0) (s1.trans s2))
    refine ⟨l,_,rfl,Dd.t ((s1.trans s2) _ _ h1) hb (rC (by omega)),?_⟩
    exact P U σ _ ((R.same (s1.trans s2)).Rn hi hl hU (dk2.put k (hv1.same (b9 s2))).own ⟨_,join_some e3⟩) ((F.grow (s1.trans s2)).put hU _)
   .cases e8
theorem vW {i:Nat} (h:PS X st (n9 (V3 X.K O gl) (iM i))) (hi:i∈O:=by decide):PS X st (tS X.K O fr (B2 i gl)):=h.mono λE σ H hh=>hh.e λH0 U A0 δ r R F ed P=>by
 obtain ⟨d,e1,e2⟩:=bind1 ed
 cases e2
 exact ⟨U,A0,δ,d,R,e1,λr aV H' s hr h1 h2=>P (r :: U) _ H' (R.Rl s hr h1 h2.own hi) (F.more s hr)⟩
theorem B4:PE X (.Dict [] [] pos) (V3 X.K O Gi):=Fj.mono λσ H Q ⟨U,A0,δ,d,R,ed,q⟩ p hp=>by
 cases ed
 exact q p [] _ (cK hp _) hp b8 .nil
theorem Rel.RR {K:PySem.W.Frag} {O:List Nat} {U A0:List Addr} {σ:St} {δ:DS} {H H':Hp} (R:Rel K O U A0 σ δ H) (s:aL H H') {r:Addr} {o:HO} (hr:H r=none) (h:H' r=some o) (ho:JH o):Rel K O U (r :: A0) σ δ H':=by
 have k:aL (wo H (U ++ A0)) (wo H' (U ++ (r :: A0))):=λb o q=>by
  obtain ⟨h1,h2⟩:=kb q
  rw [cn]
  .exact s b o h2
  .simp only [adh,acK,agQ] at h1 ⊢
   exact ⟨h1.1,bP h2 hr,h1.2⟩
 exact {
  len:=R.len
  fz:=λi d hi e=>let ⟨v,a,b⟩:=R.fz i d hi e; ⟨v,a,b.same k⟩
  ow:=λi d hi e=>let ⟨l,o,a,c,f,g⟩:=R.ow i d hi e; ⟨l,o,a,c,s _ _ f,g.same k⟩
  inj:=R.inj
  al:=⟨λa ha=>by
   simp only [adh,acK] at ha
   rcases ha with z | z | z
   .exact (R.al.same s).1 a (by simp [z])
   .subst z; exact ⟨_,h,ho⟩
   .exact (R.al.same s).1 a (by simp [z]),(R.al.same s).2⟩ }
def OM (tk tv:TE):TE:=λσ H Q=>∀ p,H p=none->zM [(tk,tv)] σ (upd H p (.dT [])) λps H2=>H2 p=some (.dT []) /\ ∃ b ks y,ps=[(.ref b,y)] /\ dh H2 b (ks.map kV) /\ Q (.ref p) (upd H2 p (.dT [(ks,y)]))
theorem Gk {k v:Expr} {tk tv:TE} (hu:X.A.units + 1 < cLine) (hk:PE X k tk) (hv:PE X v tv):PE X (.Dict [some k] [v] pos) (OM tk tv):=by
 intro pins s σ H Q I q
 have hn:=I.cS.fresh (ac1 s.heap.objs.size)
 have I1:=I.laid (a:=s.heap.objs.size) (o:=.dT []) (h':=s.heap.push { cls:=.type "dict",data:=.dict #[] }) (t':=s.toks) (λ_ _ q=>acM _ q) (ac1 _) (xO s.heap I.Tp)
 have pp:Tr X pos [some k] [v] [(tk,tv)]:=Fk hk hv JC
 refine wpAny_Dict_any rfl rfl (by simp) (by simp) (dz (pp pins _ σ _ _ I1 (q _ hn)) λws s2 ⟨ps,H2,I2,rel,e,b,ks,y,e2,e4,q2⟩=>?_)
 subst e2
 cases rel with
 | @cons _ w _ _ h t=>
   cases t
   obtain ⟨u1,u2⟩:=w
   obtain ⟨r1,r2⟩:=h
   cases (show u1=Value.ref b from r1)
   have hf:storeAll s.heap.objs.size [(Value.ref b,u2)]=(do dictSet s.heap.objs.size (Value.ref b) u2):=by
    unfold storeAll
    rw [List.forIn_cons]
    simp
   rw [hf]
   obtain ⟨z,hd,xs,rl,dd⟩:=LN I2.cS e
   cases rl
   refine wpAny_dictSet_heap (show X.A.units < cLine by omega) (rA I2.cS e4) dd (λh' Qd hs=>⟨.ref s.heap.objs.size,_,?_,rfl,q2⟩) (aek _)
   obtain ⟨q,es,ep,hq,h2,h3,h4,_,h5⟩:=Qd
   have V4:KT H2 [] []:=.nil
   refine vE I2 (by rw [e]; exact True.intro) hs ⟨q,hq⟩ ⟨small (by simp),hd,_,(V4.put ks e4 r2).keeps λc ys ec=>?_,q,es,ep,hq,h2,h3,h4,h5⟩
   exact ec.dT e
theorem Gm {k v:Expr} (hu:X.A.units + 1 < cLine) (hk:PE X k (ib X.K O gk)) (hv:PE X v (tE X.K O ge)):PE X (.Dict [some k] [v] pos) (V3 X.K O (Gj gk ge)):=(Gk hu hk hv).mono λσ H Q ⟨U,A0,δ,d,R,ed,q⟩ p hp=>by
 obtain ⟨y,e1,e2⟩:=bind1 ed
 obtain ⟨d',e3,e4⟩:=bind1 e2
 obtain ⟨ks,e5,e6⟩:=bind1 e4
 cases e6
 have s0:=cK hp (.dT [])
 have R0:Rel X.K O U (p :: A0) σ δ (upd H p (.dT [])):=R.RR s0 hp b8 trivial
 refine ⟨U,p :: A0,δ,y,R0,e1,λv H1 s1 h1=>⟨U,p :: A0,δ,d',R0.same s1,e3,λw H2 s2 h2=>?_⟩⟩
 obtain ⟨b,rfl,hb⟩:=(h1.same s2).key e5
 have RM:H2 p=some (.dT []):=(s1.trans s2) _ _ b8
 refine ⟨RM,b,ks,w,rfl,hb,q p _ _ (s0.trans (s1.trans s2) |>.upd hp _) hp b8 ?_⟩
 have ew:wo (upd H2 p (.dT [(ks,w)])) (p :: (U ++ A0))=wo H2 (p :: (U ++ A0)):=vI (by simp)
 rw [ew]
 exact .cons (h2.same (kc λa ha=>by simp only [adh,acK] at ha ⊢; rcases ha with z | z | z; exact .inr (.inl z); exact .inl z; exact .inr (.inr z))) .nil
end
end L2
namespace LS
open PySem PySem.Spec PyProof.Rows
section
variable {prog:Program} {w:World} {A:Around} {E:Value->Shared->Prop} {s:Shared}
theorem V5 {T nw:String} {Bn:Builtin} {us:List Value} {kw:List (Str×Value)} {S:PySem.Spec} {Q:Value->Shared->Prop} (ft:TypeCalled T nw "object.__init__") (c1:checkTypeCall T ⟨us,kw⟩=pure ()) (c2:checkBuiltinCall nw ⟨.type T :: us,kw⟩=pure ())
  (en:entryFor table nw=some Bn) (g:Meets (Bn ⟨.type T :: us,kw⟩) S) (c3:∀ o,argsOk "object.__init__" ⟨o :: us,kw⟩) (gi:∀ o,Meets (Builtin.«object.__init__» ⟨o :: us,kw⟩) (λ_ R s=>s.TypeIs o T /\ R (.ok (.ret .none)) s))
  (h:S A.in1 (wants (λo s1=>s1.TypeIs o T /\ Q o s1) E) s):wpAny (model prog w) A (call (.type T) us kw) Q E s:=by
 obtain ⟨hc,tl,hm⟩:=ft.mro
 have k1:=ft.made
 have k2:=ft.sub
 have k3:=ft.notType
 have k4:=ft.canCreate
 refine wpAny_call (codeAny_of_tree (show wpAny _ _ (callAny (.type T) _) _ _ _ from acT ⟨Code.quiet_builtin _ (by decide +kernel),aeL F.entry_type_call ?_⟩))
 rw [Around.under_plain (weight_type_call_type T us kw) (units_type_call_type T us kw)]
 repeat any_goals first | assumption | wp_step
 refine ae9 (af5 ft.plain en (agI c2 (g prog w A.in1 _ s h))) λr s1 hr=>?_
 cases r with
 | error e=>exact hr
 | ok fl=>
   cases fl with
   | ret o=>
     obtain ⟨hT,hq⟩:=hr
     have k5:=ft.init.lookup
     have k6:=ft.init.bind o
     repeat any_goals first | assumption | wp_step
     refine ae9 (af5 ft.init.plain F.entry_object_init (ft.init.check _ _ _ _ _ _ _ _ hT (c3 o) (gi o prog w A.in1 (wants (λr s2=>r=.none /\ Q o s2) E) s1 ⟨hT,rfl,hq⟩))) λr2 s2 Qn=>?_
     cases r2 with
     | error e=>exact Qn
     | ok f2=>
       cases f2 with
       | ret r=>
         obtain ⟨rfl,q2⟩:=Qn
         repeat any_goals first | assumption | wp_step
       | _=>exact Qn.elim
   | _=>exact hr.elim
end
theorem initK {T nw:String} {o:Value} {us:List Value} {kw:List (Str×Value)} (hl:typeLookup (.type T) "__init__"=pure (some (.builtin "object.__init__"))) (hm:Bind.madeBy (.type T)=pure (some nw)) (lb:(some nw != some "object.__new__")=true) (u:Value):
  Meets (Builtin.«object.__init__» ⟨o :: u :: us,kw⟩) (λ_ R s=>s.TypeIs o T /\ R (.ok (.ret .none)) s):=by
 refine Meets.of_wp λprog w A R s hs=>?_
 obtain ⟨hT,hq⟩:=hs
 repeat any_goals first | assumption | wp_step
 exact ⟨_,rfl,hq⟩
theorem tcS (a b:Value):checkTypeCall "enumerate" ⟨[a],[("start",b)]⟩=pure ():=by kernel_rfl
theorem bcS (a b:Value):checkBuiltinCall "enumerate.__new__" ⟨[.type "enumerate",a],[("start",b)]⟩=pure ():=by kernel_rfl
theorem aoS (o a b:Value):argsOk "object.__init__" ⟨[o,a],[("start",b)]⟩:=by kernel_rfl
set_option maxHeartbeats 1000000 in
set_option tactic.hygienic true in
theorem V6 (l:Addr) (items:Array Value) (n:Nat) (rF:Option Addr) (sl:Array (Option Value)) (t:Tok):
  Meets (Builtin.«enumerate.__new__» ⟨[.type "enumerate",.ref l],[("start",.int 1 t)]⟩) (λ_ R s=>s.heap.get? l=some { cls:=.type "tuple",dict:=rF,data:=.seq items n,slots:=sl } /\
   R (.ok (.ret (.ref (s.heap.push { cls:=.type "tuple_iterator",data:=.fields #[.ref l,.int 0 0] }).objs.size)))
     { s with heap:=(s.heap.push { cls:=.type "tuple_iterator",data:=.fields #[.ref l,.int 0 0] }).push { cls:=.type "enumerate",data:=.fields #[.none,.bool false,.ref s.heap.objs.size,rawInt 1,.none,.none] } }):=
 .of_wp λprog w A R s h=>by
  obtain ⟨hp,g,d,tk,os⟩:=s; obtain ⟨hl,h⟩:=h
  have xW:=sub_enumerate
  have hL:Heap.IsTuple (Shared.heap ⟨hp,g,d,tk,os⟩) l items:=⟨_,hl,rfl,n,rfl⟩
  wp_walk using AutoSeq1.wpAny_loadPart' hl
  refine wpAny_stack_any λst=>acT ?_
  split
  .rename_i c _ _ _ _ _
   cases (c == Value.type "enumerate")
   .wp_walk using AutoSeq1.wpAny_loadPart' hl,wpAny_pyIter_tuple hL
    exact ⟨_,rfl,h⟩
   .wp_walk using AutoSeq1.wpAny_loadPart' hl,wpAny_pyIter_tuple hL
    exact ⟨_,rfl,h⟩
  .wp_walk using AutoSeq1.wpAny_loadPart' hl,wpAny_pyIter_tuple hL
   exact ⟨_,rfl,h⟩
section
variable {prog:Program} {w:World} {A:Around} {E:Value->Shared->Prop} {s:Shared}
theorem Ai {l:Addr} {items:Array Value} {t:Tok} {Q:Value->Shared->Prop} (hL:s.heap.IsTuple l items)
  (h:∀ h',IsEnum h' (s.heap.objs.size + 1) s.heap.objs.size 1 .none->h'.IsTupleIter s.heap.objs.size l 0->h'.objs.size=s.heap.objs.size + 2->(∀ b o,s.heap.get? b=some o->h'.get? b=some o)->Q (.ref (s.heap.objs.size + 1)) { s with heap:=h' }):
  wpAny (model prog w) A (call (.type "enumerate") [.ref l] [("start",.int 1 t)]) Q E s:=by
 obtain ⟨⟨c,rF,dt,sl⟩,hl,hc,n,hd⟩:=hL
 simp only at hc hd
 subst hc hd
 refine V5 aeV (tcS _ _) (bcS _ _) PySem.F.entry_enumerate_new (V6 l items n rF sl t) (λo=>aoS o _ _) (λo=>initK aeV.init.lookup aeV.made (by decide) _) ⟨hl,?_⟩
 have hz:(s.heap.push { cls:=.type "tuple_iterator",data:=.fields #[.ref l,.int 0 0] }).objs.size=s.heap.objs.size + 1:=aef ..
 show _ /\ _
 rw [hz]
 have he:IsEnum ((s.heap.push { cls:=.type "tuple_iterator",data:=.fields #[.ref l,.int 0 0] }).push { cls:=.type "enumerate",data:=.fields #[.none,.bool false,.ref s.heap.objs.size,rawInt 1,.none,.none] }) (s.heap.objs.size + 1) s.heap.objs.size 1 .none:=by
  have q:=ac8 (s.heap.push { cls:=.type "tuple_iterator",data:=.fields #[.ref l,.int 0 0] }) (o:={ cls:=.type "enumerate",data:=.fields #[.none,.bool false,.ref s.heap.objs.size,rawInt 1,.none,.none] }) rfl
  rw [hz] at q; exact q
 exact ⟨⟨_,he,rfl⟩,h _ he ⟨_,acM _ (ac8 _ rfl),rfl,rfl⟩ (by rw [aef,hz]) λb o x=>acM _ (acM _ x)⟩
theorem yi {it:Addr} {fp:List Addr} {n:Nat} {P:Nat->Value->Prop} {St:Nat->Heap->Prop} (d:Draws prog w A it fp n P St):Draws prog w A it fp (n + 1) (λi v=>∃ j,i=j + 1 /\ P j v) (λi h=>∃ j,i=j + 1 /\ St j h) where
 live:=λ_ h ⟨j,_,q⟩=>d.live j h q
 frame:=λ_ h h' ⟨j,e,q⟩ k=>⟨j,e,d.frame j h h' q k⟩
 item:=λi s Q E hi ⟨j,e,q⟩ hQ=>d.item j s Q E (by omega) q λx h' tk p st sb=>hQ x h' tk ⟨j,e,p⟩ ⟨j + 1,by omega,st⟩ sb
 done:=λs Q E ⟨j,e,q⟩ hE=>d.done s Q E ((show j=n by omega) ▸ q) hE
theorem sj {M:Model} {env:Env} {pos:Pos} {T:String} {e:Expr} {es:List Expr} {Nw:List Keyword} {Q:Value->Shared->Prop}
  (h:wpAny M A (spliced (backTo pos (starEach (e :: es) env))) (λvs s1=>wpAny M A (evalAll ((backToKw pos (keywordEach Nw env)).map (·.2))) (λks s2=>wpAny M A (call (.type T) vs (((backToKw pos (keywordEach Nw env)).filterMap (·.1)).zip ks)) Q E s2) E s1) E s)
  (he:backTo pos (starEach (e :: es) env)=(false,eval e env) :: backTo pos (starEach es env)) (hp:(backTo pos (starEach (e :: es) env)).any (·.1)=false) (ha:(backToKw pos (keywordEach Nw env)).all (·.1.isSome)=true) (hk:(backToKw pos (keywordEach Nw env)).any (·.1.isNone)=false):
  wpAny M A (callWith pos (.type T) [] (backTo pos (starEach (e :: es) env)) (backToKw pos (keywordEach Nw env))) Q E s:=by
 have h1:wpAny M A (evalArgs (.type T) true (backTo pos (starEach (e :: es) env)) (backToKw pos (keywordEach Nw env))) (λa s1=>wpAny M A (call (.type T) a.pos a.kw) Q E s1) E s:=by
  rw [he] at h ⊢
  exact evalArgs_kwB ha h
 unfold callWith
 refine acI (aet (adG h1 (λa s1 q=>acI (afu ?_)) λ_ _ x=>x))
 simp only [hp,hk,Bool.or_false]
 exact acI (acT (acI (adG q (λr s2 hr=>acI (aet (wpAny_point (acT hr)))) λ_ _ x=>x)))
end
end LS
namespace L2
open PySem PySem.Spec PyProof.Rows LS
def RS (K:PySem.W.Frag) (a:Addr):It:=
 ⟨λi H=>∃ xs x,jN K H a xs /\ xs[i]?=some x,λi H x H'=>∃ p v,H p=none /\ x=.ref p /\ H'=upd H p (.tup [.int ((i:Int) + 1),v]) /\ ∀ xs,jN K H a xs->xs[i]?=some v,λi H=>∃ xs,jN K H a xs /\ xs.length=i⟩
theorem Aj {P:Program} {w:World} {K:PySem.W.Frag} {es:List Expr} {kk} {i5:Pos} (a e it:Addr) (lb:e≠it):Turn P w K (.Tuple es kk i5) (RS K a) [e,it] e (λi h=>(∃ old,IsEnum h e it ((i:Int) + 1) old) /\ h.IsTupleIter it a i) where
 mem:=by simp
 obj:=λi h st b hb=>by
  obtain ⟨⟨old,he⟩,o,ho,c,d⟩:=st
  rcases acK.mp hb with z | z
  .subst z; exact ⟨_,he,λv z=>by cases z⟩
  .have z:b=it:=by simpa using z
   subst z; exact ⟨o,ho,λv z=>by rw [d] at z; cases z⟩
 keep:=λi h h' st k=>by
  obtain ⟨⟨old,he⟩,jq⟩:=st
  exact ⟨⟨old,k e (by simp) _ he⟩,jq.at λo eo=>k it (by simp) o eo⟩
 item:=by
  intro X hP hw hK hc i pins s σ H E I hf st hg
  subst hP hw hK
  obtain ⟨xs,x,hq,hx⟩:=hg
  obtain ⟨its,rv,p,hz⟩:=I.tuple hq
  obtain ⟨u,hu,ru⟩:=rv.get hx
  obtain ⟨⟨old,he⟩,jq⟩:=st
  have hp:s.heap.IsTuple a its.toArray:=p
  have V1:e≠a:=λz=>by
   obtain ⟨o,ho,rW,_⟩:=hp
   rw [<- z] at ho
   have:=ho.symm.trans he
   cases this
   exact absurd (ae3 rW) (by decide)
  have OJ:a≠it:=λz=>by
   obtain ⟨o,ho,rW,_⟩:=hp
   obtain ⟨o2,iY,sf,_⟩:=jq
   rw [z] at ho
   have:=ho.symm.trans iY
   cases this
   rw [rW] at sf
   exact absurd (ae3 sf) (by decide)
  have IS:i < its.toArray.size:=by
   have:=(acN.mp hu).1
   simpa using this
  refine wpAny_pyNext_enum_itemD (i:=i + 1) (LS.yi (js (A:=X.A.in1) (I.ok.hd hc) it a OJ its.toArray)) (by push_cast; exact he) ⟨i,rfl,jq,hp⟩ (Nat.succ_lt_succ IS) lb (by simp [lb,V1]) λy h1 tk hy CS Ge Qi JT EB=>?_
  obtain ⟨j,ej,hy⟩:=hy
  obtain ⟨j',ej',Ge⟩:=Ge
  cases ej
  cases ej'
  push_cast at CS Qi
  have V2:y=u:=by
   have h3:its.toArray[i]?=some u:=by simpa using hu
   have h4:its.toArray[i]?=some y:=hy
   rw [h3] at h4; cases h4; rfl
  subst V2
  refine ⟨_,rfl,afi CS λh2 JO oa=>?_⟩
  replace oa:Heap.SameBut e h1 h2:=oa
  have L7:e < s.heap.objs.size:=acV he
  have I1:Inv X pins σ H { s with heap:=h2,toks:=tk + 1 }:=I.jr (t':=tk + 1) (ch:=[e,it]) (λb o hb eo=>by
   simp only [acK,adz,aez,agQ] at hb
   exact (oa.2 b hb.1).trans (EB b o hb.1 hb.2 eo)) hf
  have Ol:IsTup h2 s.heap.objs.size [Value.int ((i:Int) + 1) tk,y].toArray:=⟨_,(oa.2 _ (ae8 L7)).trans Qi,rfl,_,rfl⟩
  have xq:H s.heap.objs.size=none:=I.cS.fresh (ac1 _)
  have fo:=I.qy (H':=H) (ac1 _) xq
  have I2:Inv X pins σ (upd H s.heap.objs.size (.tup [.int ((i:Int) + 1),x])) { s with heap:=h2,toks:=tk + 1 }:=I1.vO xq (ado I.sz (ac1 _)) fo.2.1 fo.2.2.2.2.1 fo.2.2.2.2.2 Ol (.cons ⟨_,rfl⟩ (.cons ru .nil)) (by show 2<=sizeLine; decide)
  refine ⟨.ref s.heap.objs.size,_,I2,rfl,⟨_,x,xq,rfl,rfl,λys hy=>by rw [I.pe hy hq]; exact hx⟩,⟨⟨y,by push_cast; exact JO⟩,Ge.1.extBut oa.extBut (aeW lb)⟩,λb hb=>?_⟩
  have iG:b < s.heap.objs.size:=by
   rcases acK.mp hb with z | z
   .subst z; exact L7
   .have z:b=it:=by simpa using z
    subst z
    obtain ⟨o,ho,_⟩:=jq
    exact acV ho
  rw [bp (adj iG)]
  exact (hf b hb).1
 done:=by
  intro X hP hw hK hc i pins s σ H E I hf st hg
  subst hP hw hK
  obtain ⟨xs,hq,hx⟩:=hg
  obtain ⟨its,rv,p,hz⟩:=I.tuple hq
  obtain ⟨⟨old,he⟩,jq⟩:=st
  have hp:s.heap.IsTuple a its.toArray:=p
  have OJ:a≠it:=λz=>by
   obtain ⟨o,ho,rW,_⟩:=hp
   obtain ⟨o2,iY,sf,_⟩:=jq
   rw [z] at ho
   have:=ho.symm.trans iY
   cases this
   rw [rW] at sf
   exact absurd (ae3 sf) (by decide)
  have hl:=rv.length
  have hsz:its.toArray.size=i:=by rw [ac4,<- hl]; exact hx
  refine wpAny_pyNext_enum_endD (LS.yi (js (A:=X.A.in1) (I.ok.hd hc) it a OJ its.toArray)) he ⟨_,rfl,by rw [hsz]; exact jq,hp⟩ λh1 eb=>⟨rfl,?_⟩
  exact I.jr (t':=s.toks) (ch:=[e,it]) (λb o hb eo=>eb b o (λz=>hb (by simp [z])) eo) hf
 self:=λ_ _ _ _ _ st h=>by
  obtain ⟨⟨old,he⟩,_⟩:=st
  exact aeP he h
section
variable {X:Cx} {O:List Nat} {a:Expr} {ge:DS->Option D} {p pos:Pos} {es:List Expr} {kk} {i5:Pos}
def ON (K:PySem.W.Frag) (ta:TA):TI:=λσ H R=>ta σ H λvs H1=>∃ a xs,vs=[.ref a] /\ jN K H1 a xs /\ R (RS K a) H1
theorem Gn {ta:TA} {jj} {cp kp:Pos} (hg:Gl X "enumerate") (hm:X.mg "enumerate"=none) (ha:PA X [a] ta) (hs:starEach [a] X.env=[(false,eval a X.env)]:=by rfl):PI X (.Tuple es kk i5) (.Call (.Name "enumerate" p) [a] [⟨some "start",.Constant (.int 1) jj cp,kp⟩] pos) (ON X.K ta):=by
 intro pins s σ H R I h
 refine afa (ka I hg hm kl (LS.sj (dz (ha pos pins s σ H _ I h) λus s1 ⟨vs,H1,I1,r1,q1⟩=>?_) (by rw [hs]; rfl) (by rw [hs]; rfl) rfl rfl))
 obtain ⟨b,xs,e,hq,q⟩:=q1
 subst e
 obtain ⟨u,rfl,ru⟩:=vals1 r1
 cases ru
 refine PyProof.Rows.evalAll_cons (acI (dz (aH pins s1 σ H1 (λv H2=>v=V.int 1 /\ H2=H1) I1 ⟨rfl,rfl⟩) λkv s2 ⟨v,H2,I2,Qo,e1,e2⟩=>acI (afu (acT (PyProof.Rows.evalAll_nil ?_)))))
 subst e1 e2
 obtain ⟨t,rfl⟩:=Qo
 obtain ⟨its,rv,pl,hz⟩:=I2.tuple hq
 refine LS.Ai (show s2.heap.IsTuple b its.toArray from pl) λh' he hit hsz hk=>?_
 refine aeP he ?_
 refine ⟨s2.heap.objs.size + 1,[s2.heap.objs.size + 1,s2.heap.objs.size],_,_,H2,rfl,I2.kept (t':=s2.toks) hk,Aj b _ s2.heap.objs.size (ag0 _),⟨⟨_,he⟩,hit⟩,λb hb=>?_,q⟩
 have hle:s2.heap.objs.size<=b:=by
  simp only [acK,adz,aez] at hb
  rcases hb with z | z
  .rw [z]; exact aeQ _
  .rw [z]; exact ac1 _
 exact I2.qy hle (I2.cS.fresh hle)
def qq (l:List D):List D:=(l.zipIdx 1).map λp=>.tuple [.int (p.2:Nat),p.1]
theorem DF (l:List D):(qq l).length=l.length:=by unfold qq; simp
theorem DG {l:List D} {i:Nat} {d:D} (h:(qq l)[i]?=some d):∃ x,l[i]?=some x /\ d=.tuple [.int ((i:Int) + 1),x]:=by
 unfold qq at h
 rw [adb,aev] at h
 cases e:l[i]? with
 | none=>rw [e] at h; cases h
 | some x=>
   rw [e] at h
   simp only [adT,aex] at h
   refine ⟨x,rfl,?_⟩
   rw [<- h]
   push_cast
   rw [Int.add_comm]
def Gp (g:DS->Option D):DS->Option (List D):=λδ=>(g δ).bind λ| .tuple l=>some (qq l) | _=>none
theorem Gr {jj} {cp kp:Pos} (hm:X.mg "enumerate"=none) (ha:PE X a (tE X.K O ge)) (hg:Gl X "enumerate":=by rfl) (hs:starEach [a] X.env=[(false,eval a X.env)]:=by rfl) (JV:starEach ([]:List Expr) X.env=[]:=by rfl):PI X (.Tuple es kk i5) (.Call (.Name "enumerate" p) [a] [⟨some "start",.Constant (.int 1) jj cp,kp⟩] pos) (tI X.K O (Gp ge)):=
 (Gn hg hm (bG ha cz (by rw [hs,JV])) hs).mono λσ H Q hh=>hh.e λU A0 δ ds R ed q=>by
  obtain ⟨x,e1,e2⟩:=bind1 ed
  cases x with
  | tuple l=>
    cases e2
    refine ⟨U,A0,δ,_,R,e1,λv H' s h=>?_⟩
    cases h with
    | tup hq h=>
      refine ⟨_,_,rfl,.inl (cw.oq hq),q _ H' s ?_⟩
      intro A' i H2 s2 al
      have h2:=h.same s2
      have hL:jN X.K H2 _ _:=.inl (cw.oq (s2.oq hq))
      refine ⟨λd hd=>?_,λhi=>⟨_,hL,by rw [hi,DF,h2.len]⟩⟩
      obtain ⟨y,hy,rfl⟩:=DG hd
      obtain ⟨v,hv,Rw⟩:=h2.get hy
      refine ⟨⟨_,v,hL,hv⟩,λz H3 hz=>?_⟩
      obtain ⟨p,v',hp,rfl,rfl,Rx⟩:=hz
      have:=Rx _ hL
      rw [hv] at this
      cases this
      exact ⟨cK hp _,HD.vK al hp (.cons (.int _) (.cons Rw .nil))⟩
  | _=>cases e2
end
def Itz (K:PySem.W.Frag) (a b:Addr):It:=
 ⟨λi H=>∃ xs ys x y,gX K H a xs /\ gX K H b ys /\ xs[i]?=some x /\ ys[i]?=some y,λi H v H'=>∃ p x y,H p=none /\ v=.ref p /\ H'=upd H p (.tup [x,y]) /\ (∀ xs,gX K H a xs->xs[i]?=some x) /\ ∀ ys,gX K H b ys->ys[i]?=some y,λi H=>∃ xs ys,gX K H a xs /\ gX K H b ys /\ min xs.length ys.length=i⟩
theorem Gs {P:Program} {w:World} {K:PySem.W.Frag} {es:List Expr} {kk} {i5:Pos} (l1 l2 z TI TO i1 i2:Addr) (D:ZipApart z TI TO i1 i2 l1 l2):Turn P w K (.Tuple es kk i5) (Itz K l1 l2) [z,TI,TO,i1,i2] z (λi h=>IsZip h z TI TO .none /\ IsPair h TI (.ref i1) (.ref i2) /\ (∃ a b,IsPair h TO a b) /\ h.IsListIter i1 l1 i /\ h.IsListIter i2 l2 i) where
 mem:=by simp
 obj:=λi h st b hb=>by
  obtain ⟨h1,h2,⟨a,c,h3⟩,⟨o4,h4,_,d4⟩,o5,h5,_,d5⟩:=st
  simp only [acK,adz,aez] at hb
  rcases hb with rfl | rfl | rfl | rfl | rfl
  .exact ⟨_,h1,λv z=>by cases z⟩
  .exact ⟨_,h2,λv z=>by cases z⟩
  .exact ⟨_,h3,λv z=>by cases z⟩
  .exact ⟨o4,h4,λv z=>by rw [d4] at z; cases z⟩
  .exact ⟨o5,h5,λv z=>by rw [d5] at z; cases z⟩
 keep:=λi h h' st k=>by
  obtain ⟨h1,h2,⟨a,c,h3⟩,h4,h5⟩:=st
  exact ⟨k z (by simp) _ h1,k TI (by simp) _ h2,⟨a,c,k TO (by simp) _ h3⟩,h4.at λo e=>k i1 (by simp) o e,h5.at λo e=>k i2 (by simp) o e⟩
 item:=by
  intro X hP hw hK hc i pins s σ H E I hf st hg
  subst hP hw hK
  obtain ⟨xs,ys,x,y,J4,Dr,hx,hy⟩:=hg
  obtain ⟨t1,TB,p1,JT⟩:=I.list J4
  obtain ⟨t2,Qo,p2,hz2⟩:=I.list Dr
  obtain ⟨u1,hu1,ru1⟩:=TB.get hx
  obtain ⟨u2,hu2,ru2⟩:=Qo.get hy
  obtain ⟨s1,s2,s3,s4,s5⟩:=st
  have W:=WalksT.zip2 (prog:=X.prog) (w:=X.w) (A:=X.A) (I.ok.hd hc) z TI TO i1 i2 l1 l2 D t1.toArray t2.toArray
  have hi:i < min t1.toArray.size t2.toArray.size:=by
   have a:=(acN.mp hu1).1
   have b:=(acN.mp hu2).1
   simp only [ac4]; omega
  refine W.item i s _ E hi ⟨s1,s2,s3,s4,s5,p1.isList,p2.isList⟩ λT vals h1 tk hv hT ht hm hk=>⟨_,rfl,W.go _ _ _ i T _ _ _ hm λh2 jq xX=>?_⟩
  obtain ⟨x',y',e1,e2,rfl⟩:=hv
  have Mh:x'=u1:=by
   have:t1.toArray[i]?=some u1:=by simpa using hu1
   rw [this] at e1; cases e1; rfl
  have Mg:y'=u2:=by
   have:t2.toArray[i]?=some u2:=by simpa using hu2
   rw [this] at e2; cases e2; rfl
  subst Mh Mg
  have hTw:=W.apart i T h1 hm
  have I1:Inv X pins σ H { s with heap:=h2,toks:=tk }:=I.jr (t':=tk) (ch:=[z,TI,TO,i1,i2]) (λb o hb eo=>by
   have B5:b∉[z,TO,i1,i2]:=λq=>hb (by simp only [acK,adz,aez] at q ⊢; rcases q with q | q | q | q <;> simp [q])
   exact xX b o B5 (hk b o B5 eo)) hf
  have Ol:IsTup h2 T [x',y'].toArray:=by
   obtain ⟨o,ho,c,n,d⟩:=ht
   exact ⟨o,xX T o hTw ho,c,n,d⟩
  have xq:H T=none:=I.cS.fresh hT
  have fo:=I.qy (H':=H) hT xq
  have I2:Inv X pins σ (upd H T (.tup [x,y])) { s with heap:=h2,toks:=tk }:=I1.vO xq (ado I.sz hT) fo.2.1 fo.2.2.2.2.1 fo.2.2.2.2.2 Ol (.cons ru1 (.cons ru2 .nil)) (by show 2<=sizeLine; decide)
  obtain ⟨r1,r2,r3,r4,r5,_,_⟩:=jq
  refine ⟨.ref T,_,I2,rfl,⟨T,x,y,xq,rfl,rfl,λzs hz=>by rw [I.n8 hz J4]; exact hx,λzs hz=>by rw [I.n8 hz Dr]; exact hy⟩,⟨r1,r2,r3,r4,r5⟩,λb hb=>?_⟩
  have iG:b < s.heap.objs.size:=by
   obtain ⟨a,c,s3⟩:=s3
   obtain ⟨o4,s4,_⟩:=s4
   obtain ⟨o5,s5,_⟩:=s5
   simp only [acK,adz,aez] at hb
   rcases hb with q | q | q | q | q
   .rw [q]; exact acV s1
   .rw [q]; exact acV s2
   .rw [q]; exact acV s3
   .rw [q]; exact acV s4
   .rw [q]; exact acV s5
  rw [bp (adj (ada iG hT))]
  exact (hf b hb).1
 done:=by
  intro X hP hw hK hc i pins s σ H E I hf st hg
  subst hP hw hK
  obtain ⟨xs,ys,J4,Dr,hx⟩:=hg
  obtain ⟨t1,TB,p1,JT⟩:=I.list J4
  obtain ⟨t2,Qo,p2,hz2⟩:=I.list Dr
  obtain ⟨s1,s2,s3,s4,s5⟩:=st
  have W:=WalksT.zip2 (prog:=X.prog) (w:=X.w) (A:=X.A) (I.ok.hd hc) z TI TO i1 i2 l1 l2 D t1.toArray t2.toArray
  have a1:=TB.length
  have a2:=Qo.length
  have hi:min t1.toArray.size t2.toArray.size=i:=by simp only [ac4]; omega
  refine W.done s _ E (by rw [hi]; exact ⟨s1,s2,s3,s4,s5,p1.isList,p2.isList⟩) λh1 tk hk=>⟨rfl,?_⟩
  exact I.jr (t':=tk) (ch:=[z,TI,TO,i1,i2]) (λb o hb eo=>hk b o (λq=>hb (by simp only [acK,adz,aez] at q ⊢; rcases q with q | q | q | q <;> simp [q])) eo) hf
 self:=λ_ _ _ _ _ st h=>wpAny_pyIter_zip st.1 h
theorem OO:bootBuiltins "zip"=some (.type "zip"):=by decide +kernel
section
variable {X:Cx} {O:List Nat} {a b:Expr} {ga gb:DS->Option D} {p pos:Pos} {es:List Expr} {kk} {i5:Pos}
def V7 (K:PySem.W.Frag) (ta:TA):TI:=λσ H R=>ta σ H λvs H1=>∃ a b xs ys,vs=[.ref a,.ref b] /\ gX K H1 a xs /\ gX K H1 b ys /\ R (Itz K a b) H1
theorem OP {ta:TA} (hg:Gl X "zip") (hm:X.mg "zip"=none) (ha:PA X [a,b] ta) (hs:starEach [a,b] X.env=(false,eval a X.env) :: starEach [b] X.env:=by rfl) (oa:(backTo pos (starEach [b] X.env)).any (·.1)=false:=by rfl):PI X (.Tuple es kk i5) (.Call (.Name "zip" p) [a,b] [] pos) (V7 X.K ta):=by
 intro pins s σ H R I h
 refine afa (ka I hg hm OO (adZ (dz (ha pos pins s σ H _ I h) λus s1 ⟨vs,H1,I1,r1,q1⟩=>?_) hs oa))
 obtain ⟨l1,l2,xs,ys,e,J4,Dr,q⟩:=q1
 subst e
 cases r1 with
 | cons r1 t1=>
   cases t1 with
   | cons r2 t2=>
     cases t2
     cases r1
     cases r2
     obtain ⟨t1,TB,p1,JT⟩:=I1.list J4
     obtain ⟨t2,Qo,p2,hz2⟩:=I1.list Dr
     have lt1:l1 < s1.heap.objs.size:=by obtain ⟨o,ho,_⟩:=p1.isList; exact acV ho
     have lt2:l2 < s1.heap.objs.size:=by obtain ⟨o,ho,_⟩:=p2.isList; exact acV ho
     refine call_zip_2 p1.isList p2.isList λh' hz hTI hTO hi1 hi2 hsz hk=>wpAny_pyIter_zip hz ?_
     refine ⟨s1.heap.objs.size + 4,[s1.heap.objs.size + 4,s1.heap.objs.size + 2,s1.heap.objs.size + 3,s1.heap.objs.size,s1.heap.objs.size + 1],_,_,H1,rfl,I1.kept (t':=s1.toks) hk,Gs l1 l2 _ _ _ _ _ (zipApart_new lt1 lt2),⟨hz,hTI,⟨_,_,hTO⟩,hi1,hi2⟩,λb hb=>?_,q⟩
     have hle:s1.heap.objs.size<=b:=by
      simp only [acK,adz,aez] at hb
      rcases hb with z | z | z | z | z
      .rw [z]; exact af1 _ _
      .rw [z]; exact af1 _ _
      .rw [z]; exact af1 _ _
      .rw [z]; exact ac1 _
      .rw [z]; exact af1 _ _
     exact I1.qy hle (I1.cS.fresh hle)
def oD (x y:List D):List D:=List.zipWith (λa b=>.tuple [a,b]) x y
def kr (ga gb:DS->Option D):DS->Option (List D):=λδ=>(ga δ).bind λx=>(gb δ).bind λy=>match x,y with
 | .list x,.list y=>some (oD x y)
 | _,_=>none
theorem nc (hm:X.mg "zip"=none) (ha:PE X a (tE X.K O ga)) (hb:PE X b (tE X.K O gb)) (hg:Gl X "zip":=by rfl) (hs:starEach [a,b] X.env=(false,eval a X.env) :: starEach [b] X.env:=by rfl) (FW:starEach [b] X.env=(false,eval b X.env) :: starEach [] X.env:=by rfl) (oa:(backTo pos (starEach [b] X.env)).any (·.1)=false:=by rfl):PI X (.Tuple es kk i5) (.Call (.Name "zip" p) [a,b] [] pos) (tI X.K O (kr ga gb)):=
 (OP hg hm (bG ha (bG hb cz FW) hs) hs oa).mono λσ H Q hh=>hh.e λU A0 δ ds R ed q=>by
  obtain ⟨x,e1,e2⟩:=bind1 ed
  obtain ⟨y,e3,e4⟩:=bind1 e2
  refine ⟨U,A0,δ,x,R,e1,λv H1 s1 h1=>⟨U,A0,δ,y,R.same s1,e3,λv2 H2 s2 h2=>?_⟩⟩
  cases x with
  | list x=>
    cases y with
    | list y=>
      cases e4
      have Rt:=h1.same (b9 (A:=U ++ A0) s2)
      cases Rt with
      | lst J4 d1=>
        cases h2 with
        | lst Dr d2=>
          refine ⟨_,_,_,_,rfl,(J4.same cw).sq,(Dr.same cw).sq,q _ H2 (s1.trans s2) ?_⟩
          intro A' i H3 s3 al
          have k1:=d1.same s3
          have k2:=d2.same s3
          have l1:gX X.K H3 _ _:=((J4.same s3).same cw).sq
          have l2:gX X.K H3 _ _:=((Dr.same s3).same cw).sq
          refine ⟨λd hd=>?_,λhi=>⟨_,_,l1,l2,by rw [hi,oD,List.length_zipWith,k1.len,k2.len]⟩⟩
          rw [oD,List.getElem?_zipWith] at hd
          cases ex:x[i]? with
          | none=>rw [ex] at hd; cases hd
          | some dx=>
            cases ey:y[i]? with
            | none=>rw [ex,ey] at hd; cases hd
            | some dy=>
              rw [ex,ey] at hd
              cases hd
              obtain ⟨vx,hvx,hdx⟩:=k1.get ex
              obtain ⟨vy,hvy,hdy⟩:=k2.get ey
              refine ⟨⟨_,_,vx,vy,l1,l2,hvx,hvy⟩,λz H4 hz=>?_⟩
              obtain ⟨p,x',y',hp,rfl,rfl,f1,f2⟩:=hz
              have g1:=f1 _ l1
              have g2:=f2 _ l2
              rw [hvx] at g1; rw [hvy] at g2
              cases g1; cases g2
              exact ⟨cK hp _,HD.vK al hp (.cons hdx (.cons hdy .nil))⟩
    | _=>cases e4
  | _=>cases e4
end
end L2
namespace L2
open PySem PySem.Spec PyProof.Rows
section
variable {X:Cx} {O:List Nat} {e:Expr}
theorem Gu {p:Addr} {xs:List V} {ds:List D} (h:PE X e (tC (.ref p))) (m:(p,xs)∈cA) (hd:∀ H,cx X.K H xs ds):PE X e (tE X.K O (gC (.tuple ds))):=h.mono λσ H Q hh=>hh.e λU A0 δ d R ed q=>by
 cases ed
 exact q (.ref p) H (aL.refl H) (.tup (BL (R.al.2 p xs m) R.al) (hd _))
end
theorem Gv:∀ {l:List (Addr×List V)} {p:Addr} {xs:List V},l.lookup p=some xs->(p,xs)∈l
 | [],_,_,h=>by cases h
 | (q,ys) :: l,p,xs,h=>by
   rw [adW] at h
   by_cases e:p=q
   .subst e
    rw [beq_self_eq_true] at h
    cases h
    exact acR
   .rw [show (p == q)=false by simpa using e] at h
    exact acO _ (Gv h)
def bF (K0:PySem.W.Frag):PySem.W.Frag:=K0.filter λq=>(cA.lookup q.1).isNone
theorem jV (b:Addr):∀ K0:PySem.W.Frag,(bF K0).lookup b=if (cA.lookup b).isNone=true then K0.lookup b else none
 | []=>by simp [bF]
 | (c,o) :: r=>by
   have ih:=jV b r
   unfold bF at ih ⊢
   rw [adH]
   by_cases e:b=c
   .subst e
    by_cases q:(cA.lookup b).isNone=true
    .rw [acU q,acU q,adW,adW]; simp
    .rw [acW q,acW q]; rw [acW q] at ih; exact ih
   .have e':(b == c)=false:=by simpa using e
    rw [adW,e']
    by_cases q:(cA.lookup c).isNone=true
    .rw [acU q,adW,e']; exact ih
    .rw [acW q]; exact ih
structure oE (K0:PySem.W.Frag):Prop where
 one:∀ p xs,(p,xs)∈cA->cA.lookup p=some xs
 tup:∀ p xs,cA.lookup p=some xs->∃ (od:Option Addr) (its:Array Value) (n:Nat) (sl:Array (Option Value)),K0.lookup p=some ⟨.type "tuple",od,.seq its n,sl⟩ /\ xs.length<=sizeLine /\ bj xs its.toList
theorem oE.look {K0:PySem.W.Frag} (C:oE K0) {b:Addr} {o:Obj} (h:K0.lookup b=some o) (n:∀ its n,o.data≠.seq its n):(bF K0).lookup b=some o:=by
 rw [jV]
 cases q:cA.lookup b with
 | none=>exact h
 | some xs=>
   obtain ⟨od,its,k,sl,e,_⟩:=C.tup b xs q
   rw [h] at e; cases e
   exact absurd rfl (n its k)
theorem oE.func {K0:PySem.W.Frag} (C:oE K0) {x qual:Str} {st:Stmt} {f:Addr} {fd:FuncData} (F:gD K0 x qual st f fd):gD (bF K0) x qual st f fd:=by
 obtain ⟨⟨oc,od,kV,doc,pm,an,cU,ct,IM,e1,e2,e3⟩,kp⟩:=F
 have Mg:=C.look e2 (λits n z=>by cases z)
 refine ⟨⟨oc,od,kV,doc,pm,an,cU,ct,IM,e1,Mg,?_⟩,?_⟩
 .unfold PySem.W.codeIn at e3 ⊢
  cases cU with
  | ref c=>
    simp only at e3 ⊢
    cases q:K0.lookup c with
    | none=>rw [q] at e3; exact absurd e3 (by simp)
    | some ob=>
      obtain ⟨c1,c2,dt,c4⟩:=ob
      rw [q] at e3
      cases dt with
      | fields vs=>rw [C.look q (λits n z=>by cases z)]; exact e3
      | _=>exact absurd e3 (by simp)
  | _=>exact e3
 .unfold PySem.W.keepIn
  simp only [Mg]
def Hc (K0:PySem.W.Frag):Hp:=λb=>match cA.lookup b with
 | some xs=>(K0.lookup b).map λob=>HO.tJ ob (.tup xs)
 | none=>none
theorem DH {P:Program} {w:World} {K0:PySem.W.Frag} {mg mb:Str->Option Value} {CX:E9} {k:Nat} {fa a:Addr} {fd:FuncData} {x:Str} {sp:Sp} {bR:Shared} {vs:List Value} {ns:List Int} (C:oE K0)
  (KX:K0.In bR.heap) (hns:bR.heap.Ns mainGlobals mg) (hb:bR.heap.Ns builtinsNs mb) (hbb:∀ x:Str,x≠"__name__"->mb x=bootBuiltins x) (V8:bR.heap.NoLimit) (hg:bR.gens=#[])
  (ha:bR.heap.get? a=some { cls:=.type "list",data:=.seq vs.toArray }) (hi:IntsAre vs ns) (hl:ns.length<=sizeLine) (hr:gT k callerA)
  (F:∀ base:Heap,(bF K0).In base->base.Ns mainGlobals mg->rn P w (bF K0) mg base CX k fa fd [x] sp) (RT:∀ (s:Shared) (u:Value),BindsTo s fd ⟨[u],[]⟩ [(x,u)])
  (Ez:∀ H:Hp,zu (bF K0) H a (ns.map V.int)->(∀ p xs,(p,xs)∈cA->dh H p xs)->sp [.ref a] H (λv _=>v=.bl true) λ_ _ _=>False)
  (V9:∀ H e s',CX [] H bR (λ_ _ _=>False) e s'->False):
  codeAny (model P w) callerA (.call (.ref fa) ⟨[.ref a],[]⟩) (λr s'=>r=.ok (.ret (.bool true)) /\ OldK bR.heap s'.heap /\ s'.os=bR.os /\ AllBare s'.gens) bR:=by
 have rv:=uy hi
 have Wa:=hi.length
 have core:∀ H:Hp,(∀ b,H b=none \/ ∃ o u,H b=some (.tJ o u))->zu (bF K0) H a (ns.map V.int)->mQ P w H bR.heap->(∀ p xs,(p,xs)∈cA->dh H p xs)->(∀ b o es ep,H b≠none->bR.heap.get? b=some o->o.data≠.dict es ep)->(∀ b,H b≠none->(bF K0).lookup b=none)->
   codeAny (model P w) callerA (.call (.ref fa) ⟨[.ref a],[]⟩) (λr s'=>r=.ok (.ret (.bool true)) /\ OldK bR.heap s'.heap /\ s'.os=bR.os /\ AllBare s'.gens) bR:=by
  intro H hO hS cS hT hD hK
  have B6:∀ {b:Addr} {o:Obj},bR.heap.get? b=some o->H b=none->(vj bR.heap H).get? b=some o:=λe n=>EK e n
  have Q2:∀ {b:Addr} {o:Obj} {es:Array DictEntry} {ep:Nat},bR.heap.get? b=some o->o.data=.dict es ep->H b=none:=λ{b o es ep} e d=>by
   cases q:H b with
   | none=>rfl
   | some u=>exact absurd d (hD b o es ep (by rw [q]; simp) e)
  have TC:∀ {b:Addr} {m:Str->Option Value},bR.heap.Ns b m->(vj bR.heap H).Ns b m:=λ{b m} ⟨o,es,ep,e,d,r⟩=>⟨o,es,ep,B6 e (Q2 e d),d,r⟩
  have hKb:(bF K0).In (vj bR.heap H):=λb o e=>by
   have e0:K0.lookup b=some o:=by
    rw [jV] at e
    split at e
    .exact e
    .cases e
   refine B6 (KX b o e0) ?_
   cases q:H b with
   | none=>rfl
   | some u=>rw [hK b (by rw [q]; simp)] at e; cases e
  have hM:Mod (bF K0) mg (vj bR.heap H):=⟨hKb,TC hns,⟨mb,TC hb,hbb⟩,let ⟨mc,h1,h2⟩:=V8; ⟨mc,TC h1,h2⟩⟩
  have e0:Jn P w (bF K0) mg (vj bR.heap H) callerA [] bR H:=⟨rfl,hM,λb o e=>IY e,Nat.le_of_eq (CT _ _),trivial,λb hb=>absurd (show b∈([]:List Addr) from hb) (by simp),cS,.of_eq hg⟩
  refine ae9 ((F _ hKb (TC hns)).run callerA [] bR H ⟨[.ref a],[]⟩ [.ref a] [.ref a] _ _ hr e0 (RT bR (.ref a)) (.cons rfl .nil) (Ez H hS hT)) λr s' h=>?_
  cases r with
  | error e=>exact (V9 H e s' h).elim
  | ok fl=>
    cases fl with
    | next=>exact False.elim h
    | brk=>exact False.elim h
    | cont=>exact False.elim h
    | ret u=>
      obtain ⟨v,H',os,bare,un,Wb,r',q⟩:=h
      have q':v=.bl true:=q
      subst q'
      obtain rfl:u=Value.bool true:=r'
      refine ⟨rfl,OldK.of_keep λb o e=>?_,os,bare⟩
      cases q:H b with
      | none=>exact un.keep b o e q (by intro z; exact absurd (show b∈([]:List Addr) from z) (by simp)) (by simp)
      | some u=>
        rcases hO b with z | ⟨ob,xs,z⟩
        .rw [q] at z; cases z
        .have z2:=un.tK b ob _ z
         obtain ⟨e1,_⟩:=cS b _ z
         obtain ⟨e2,_⟩:=Wb b _ z2
         rw [e] at e1; cases e1
         exact e2
 have TF:∀ b,Hc K0 b=none \/ ∃ ob xs od its n sl,Hc K0 b=some (.tJ ob (.tup xs)) /\ cA.lookup b=some xs /\ K0.lookup b=some ob /\ ob=⟨.type "tuple",od,.seq its n,sl⟩ /\ xs.length<=sizeLine /\ bj xs its.toList:=by
  intro b
  unfold Hc
  cases q:cA.lookup b with
  | none=>exact .inl rfl
  | some xs=>
    obtain ⟨od,its,n,sl,e,h1,h2⟩:=C.tup b xs q
    refine .inr ⟨_,xs,od,its,n,sl,?_,rfl,e,rfl,h1,h2⟩
    show (K0.lookup b).map _=_
    rw [e]; rfl
 have hcO:∀ (H:Hp) b ob u,Hc K0 b=some (.tJ ob u)->c9 P w H bR.heap b (.tJ ob u):=λH b ob u e=>by
  rcases TF b with z | ⟨Wc,xs,od,its,n,sl,z,_,z2,rfl,z3,z4⟩
  .rw [z] at e; cases e
  .rw [z] at e; cases e
   have Ak:=KX b _ z2
   exact ⟨Ak,z3,its.toList,z4,_,Ak,rfl,n,by simp⟩
 have hcT:∀ p xs,(p,xs)∈cA->∃ ob,Hc K0 p=some (.tJ ob (.tup xs)):=λp xs m=>by
  obtain ⟨od,its,n,sl,e,_⟩:=C.tup p xs (C.one p xs m)
  refine ⟨⟨.type "tuple",od,.seq its n,sl⟩,?_⟩
  unfold Hc
  rw [C.one p xs m]
  show (K0.lookup p).map _=_
  rw [e]; rfl
 have hcD:∀ b o es ep,Hc K0 b≠none->bR.heap.get? b=some o->o.data≠.dict es ep:=λb o es ep z e d=>by
  rcases TF b with q | ⟨Wc,xs,od,its,n,sl,q,_,z2,rfl,_⟩
  .exact z q
  .have Ak:=KX b _ z2
   rw [Ak] at e; cases e; cases d
 have hcK:∀ b,Hc K0 b≠none->(bF K0).lookup b=none:=λb z=>by
  rcases TF b with q | ⟨Wc,xs,od,its,n,sl,q,q2,_⟩
  .exact absurd q z
  .rw [jV,q2]; rfl
 have TH:∀ b,Hc K0 b=none \/ ∃ o u,Hc K0 b=some (.tJ o u):=λb=>by
  rcases TF b with q | ⟨Wc,xs,od,its,n,sl,q,_⟩
  .exact .inl q
  .exact .inr ⟨_,_,q⟩
 cases hk:K0.lookup a with
 | some o=>
   have e:=KX a o hk
   rw [ha] at e
   cases e
   have TJ:cA.lookup a=none:=by
    cases q:cA.lookup a with
    | none=>rfl
    | some xs=>
      obtain ⟨od,its,n,sl,e,_⟩:=C.tup a xs q
      rw [hk] at e
      exact absurd (aeu Obj.cls (adp e)) (by intro z; exact absurd (ae3 z) (by decide))
   refine core (Hc K0) TH (.inr ⟨vs,_,by rw [jV,TJ]; exact hk,by rw [Wa]; exact hl,rv⟩) (λb u z=>?_) (λp xs m=>.inr (hcT p xs m)) hcD hcK
   rcases TH b with q | ⟨ob,u',q⟩
   .rw [q] at z; cases z
   .rw [q] at z; cases z
    exact hcO _ b ob u' q
 | none=>
   have TJ:cA.lookup a=none:=by
    cases q:cA.lookup a with
    | none=>rfl
    | some xs=>
      obtain ⟨od,its,n,sl,e,_⟩:=C.tup a xs q
      rw [hk] at e; cases e
   have hna:Hc K0 a=none:=by unfold Hc; rw [TJ]
   refine core (λb=>if b=a then some (.tJ { cls:=.type "list",data:=.seq vs.toArray } (.lst (ns.map V.int))) else Hc K0 b) (λb=>?_) (.inl (.inr ⟨{ cls:=.type "list",data:=.seq vs.toArray },acU rfl⟩)) (λb u z=>?_) (λp xs m=>?_) (λb o es ep z e d=>?_) λb z=>?_
   .by_cases hb:b=a
    .exact .inr ⟨_,_,acU hb⟩
    .rcases TH b with q | ⟨ob,u,q⟩
     .exact .inl ((acW hb).trans q)
     .exact .inr ⟨ob,u,(acW hb).trans q⟩
   .by_cases hb:b=a
    .have z':=(acU hb).symm.trans z
     cases z'
     subst hb
     exact ⟨ha,by rw [acH]; exact hl,vs,_,rv,ha⟩
    .have z':=(acW hb).symm.trans z
     rcases TH b with q | ⟨ob,u',q⟩
     .rw [q] at z'; cases z'
     .rw [q] at z'; cases z'
      exact hcO _ b ob u' q
   .obtain ⟨ob,q⟩:=hcT p xs m
    refine .inr ⟨ob,?_⟩
    have hb:p≠a:=λe=>by rw [e,hna] at q; cases q
    exact (acW hb).trans q
   .by_cases hb:b=a
    .subst hb
     rw [ha] at e; cases e; cases d
    .exact hcD b o es ep (λq=>z ((acW hb).trans q)) e d
   .by_cases hb:b=a
    .subst hb
     rw [jV,TJ]; exact hk
    .exact hcK b λq=>z ((acW hb).trans q)
theorem Gw {l:PySem.W.OpenLaw} {n k:Nat} {q:Program} {loose:List Str} {XP:(Str->Option Value)->Heap->Prop} {YP:World->Heap->Prop} {d:DefRec} {K:Params->PySem.W.Frag} {CX:World->E9} {sp:World->Sp} {x:Str}
  (hn:l.most=some n) (hn2:n<=sizeLine) (Rc:d.params.defaults=[]) (hr:gT k callerA) (hY:∀ (w:World) (h:Heap),YP w h->(K w.params).In h)
  (F:∀ (w:World) (mg:Str->Option Value) (fa:Addr) (h:Heap),(K w.params).In h->h.Ns mainGlobals mg->mg d.name=some (.ref fa)->oE (K w.params) /\
   ∃ fd:FuncData,(∀ (s:Shared) (u:Value),BindsTo s fd ⟨[u],[]⟩ [(x,u)]) /\ ∀ base:Heap,(bF (K w.params)).In base->base.Ns mainGlobals mg->rn l.prog w (bF (K w.params)) mg base (CX w) k fa fd [x] (sp w))
  (Ez:∀ (w:World) (H:Hp) (a:Addr) (ns:List Int),ns.length<=n->zu (bF (K w.params)) H a (ns.map V.int)->(∀ p xs,(p,xs)∈cA->dh H p xs)->sp w [.ref a] H (λv _=>v=.bl true) λ_ _ _=>False)
  (V9:∀ (w:World) (H:Hp) (s:Shared) (e:Value) (s':Shared),CX w [] H s (λ_ _ _=>False) e s'->False):
  PySem.W.WalkO q loose XP YP l.row.toRowW d [] (λf vs=>PySem.call f vs):=by
 refine Att.xJ hn Rc λw gZ bR mg mb fa o pm cd doc a vs ns G Y ho hd vk Rf NL hints hlen hg=>?_
 have KX:=hY w _ Y
 obtain ⟨C,fd,hb,hF⟩:=F w mg fa _ KX G.T.g Rf
 exact DH C KX G.T.g G.T.b G.T.builtins G.T.nolimit hg NL hints (ado hlen hn2) hr hF hb (λH hS hT=>Ez w H a ns hlen hS hT) λH e s'=>V9 w H bR e s'
section
variable {X:Cx}
end
set_option tactic.hygienic true in
theorem B7 (gi:DS->Option (List D)) (ix:List Nat) (ge:DS->Option D):cD gi ix ge=bU gi 1 ix (au 0) (λ_=>some true) ge:=by
 funext δ
 unfold cD bU
 cases gi δ with
 | none=>rfl
 | some ds=>
   rw [acJ,acJ]
   split
   .induction ds with
    | nil=>rfl
    | cons d ds ih=>
      rename_i h
      rw [FI,m9,ih (by rw [ac3] at h; omega)]
      show _=Option.bind (Option.map some (ge (some d :: eB ix δ))) _
      cases ge (some d :: eB ix δ) <;> rfl
   .rfl
section
variable {X:Cx} {O:List Nat} {gi:DS->Option (List D)} {ix:List Nat} {ge:DS->Option D}
theorem PE.xr {e:Expr} (h:PE X e (tN X.K O (bU gi 1 ix (au 0) (λ_=>some true) ge))):PE X e (tN X.K O (cD gi ix ge)):=by rw [B7]; exact h
theorem PS.xr {st:Stmt} {i:Nat} (h:PS X st (n9 (tN X.K O (bU gi 1 ix (au 0) (λ_=>some true) ge)) (iM i))):PS X st (n9 (tN X.K O (cD gi ix ge)) (iM i)):=by rw [B7]; exact h
end
end L2
namespace L2
open PySem PySem.Spec PyProof.Rows PySem.Calls
set_option maxRecDepth 100000
section
variable {prog:Program} {w:World} {A:Around} {E:Value->Shared->Prop} {s:Shared}
end
section
variable {X:Cx} {O:List Nat} {a:Expr} {ge:DS->Option D} {p1 p2 q1 q2:Pos} {ta:TA}
end
end L2
namespace L2
open PySem PySem.Spec PyProof.Rows
def Itx (x:Str):It:=⟨λi _=>i < x.cps.size,λi H v H'=>H'=H /\ ∃ c,x.cps[i]?=some c /\ v=.str ⟨#[c]⟩,λi _=>x.cps.size<=i⟩
theorem DI {P:Program} {w:World} {K:PySem.W.Frag} {tg:Expr} (x:Str) (t:Tok) (it:Addr):Turn P w K tg (Itx x) [it] it (λi h=>h.IsStrIter it "str_ascii_iterator" x t i) where
 mem:=by simp
 obj:=λi h st b hb=>by
  have e:b=it:=by simpa using hb
  subst e
  obtain ⟨o,e,c,d⟩:=st
  exact ⟨o,e,λv z=>by rw [d] at z; cases z⟩
 keep:=λi h h' st k=>by
  obtain ⟨o,e,r⟩:=st
  exact ⟨o,k it (by simp) o e,r⟩
 item:=by
  intro X hP hw hK hc i pins s σ H E I hf st hg
  subst hP hw hK
  obtain ⟨c,hx⟩:∃ c,x.cps[i]?=some c:=⟨x.cps[i]'hg,adQ hg⟩
  obtain ⟨f0,f1,f2,f3,f4,f5⟩:=hf it (by simp)
  refine wpAny_pyNext_ascii_item st hx λh' CY sb=>?_
  have I1:Inv X pins σ H { s with heap:=h',toks:=s.toks + 1 }:=I.turned (t':=s.toks + 1) (λb o hb e=>(sb.2 b hb).trans e) f0 f1 f3 f4 f5
  obtain ⟨o,e,c',d⟩:=id CY
  exact ⟨_,rfl,BA (s:={ s with heap:=h',toks:=s.toks + 1 }) e c' d (by decide) ⟨.str ⟨#[c]⟩,H,I1,⟨_,rfl⟩,⟨rfl,c,hx,rfl⟩,CY,λb hb=>(hf b hb).1⟩⟩
 done:=by
  intro X hP hw hK hc i pins s σ H E I hf st hg
  subst hP hw hK
  obtain ⟨f0,f1,f2,f3,f4,f5⟩:=hf it (by simp)
  exact wpAny_pyNext_ascii_end (I.ok.hd hc) st (afS hg) λh' eb=>⟨rfl,I.turned (t':=s.toks) (λb o hb e=>eb b o hb e) f0 f1 f3 f4 f5⟩
 self:=λ_ _ _ _ _ st h=>wpAny_pyIter_striter_ascii st h
def Wd (tl:TE):TI:=λσ H R=>tl σ H λv H1=>∃ x,v=.str x /\ x.cps.all (· < 128)=true /\ R (Itx x) H1
def ng (x:Str):List D:=x.cps.toList.map λc=>.str ⟨#[c]⟩
def Gx (g:DS->Option D):DS->Option (List D):=λδ=>(g δ).bind λ| .str x=>if x.cps.all (· < 128)=true then some (ng x) else none | _=>none
section
variable {X:Cx} {O:List Nat} {tg e o y:Expr} {ge go:DS->Option D} {apos fH:Pos}
theorem J5 {l:Expr} {tl:TE} (hl:PE X l tl):PI X tg l (Wd tl):=by
 intro pins s σ H R I h
 refine dz (hl pins s σ H _ I h) λv s1 ⟨x,H1,I1,r1,z,e,ha,q⟩=>?_
 subst e
 obtain ⟨t,rfl⟩:=r1
 refine wpAny_pyIter_ascii ha ?_
 refine ⟨s1.heap.objs.size,[s1.heap.objs.size],_,_,H1,rfl,I1.kept (t':=s1.toks) λb o e=>acM _ e,DI z t _,⟨_,ac8 _ rfl,rfl,rfl⟩,λb hb=>?_,q⟩
 have e:b=s1.heap.objs.size:=by simpa using hb
 subst e
 exact I1.qy (ac1 _) (I1.cS.fresh (ac1 _))
theorem HD.text {K:PySem.W.Frag} {H:Hp} {v:V} {x:Str} (h:HD K H v (.str x)):v=.str x:=by cases h; rfl
theorem Gy (h:PE X e (tE X.K O ge)):PI X tg e (tI X.K O (Gx ge)):=(J5 h).mono λσ H Q hh=>hh.e λU A0 δ ds R ed q=>by
 obtain ⟨x,e1,e2⟩:=bind1 ed
 cases x with
 | str x=>
   replace e2:(if x.cps.all (· < 128)=true then some (ng x) else none)=some ds:=e2
   by_cases ha:x.cps.all (· < 128)=true
   .rw [acU ha] at e2
    cases e2
    refine ⟨U,A0,δ,_,R,e1,λv H' s h=>⟨x,h.text,ha,q _ H' s ?_⟩⟩
    intro A' i H2 s2 _
    refine ⟨λd hd=>?_,λhi=>?_⟩
    .rw [ng,adb,Array.getElem?_toList] at hd
     cases hc:x.cps[i]? with
     | none=>rw [hc] at hd; cases hd
     | some c=>
       rw [hc] at hd
       cases hd
       refine ⟨(Array.getElem?_eq_some_iff.mp hc).1,λv H3 hy=>?_⟩
       obtain ⟨rfl,c',Ja,rfl⟩:=hy
       rw [hc] at Ja; cases Ja
       exact ⟨aL.refl _,.str _⟩
    .show x.cps.size<=i
     rw [hi,ng,acH,aeX]
     exact ac1 _
   .rw [acW ha] at e2; cases e2
 | _=>cases e2
theorem iE.text {K:PySem.W.Frag} {A:List Addr} {H:Hp} {v:V} {x:Str} (h:iE K A H v (.str x)):v=.str x:=by
 rcases h with h | ⟨l,o,rfl,e,q⟩
 .exact h.text
 .cases q
end
section
variable {X:Cx} {O:List Nat} {o e:Expr} {ga go ge:DS->Option D} {lo hi:Option Expr} {gl gh:DS->Option (Option Int)} {apos fH pos p2:Pos}
theorem part_of {v:Value} {i:Option Int} (h:IsPart v i):∃ l:Option (Int×Tok),v=partValue l /\ l.map (·.1)=i:=by
 cases h with
 | none=>exact ⟨none,rfl,rfl⟩
 | int i t=>exact ⟨some (i,t),rfl,rfl⟩
def We:V->Option Int->Option Int->Hp->VK->Prop:=λx lo hi H Q=>∃ a,x=.str a /\ a.length<=sizeLine /\ Q (.str (Txt.slice a lo hi)) H
theorem OQ:Vf X We:=by
 intro pins s σ H x v vl vu lo hi sl Q I rx hs pl pu h
 obtain ⟨a,rfl,hz,q⟩:=h
 obtain ⟨t,rfl⟩:=rx
 obtain ⟨l,rfl,rfl⟩:=part_of pl
 obtain ⟨u,rfl,rfl⟩:=part_of pu
 obtain ⟨ob,h1,h2,h3⟩:=hs
 exact ⟨"str",_,PySem.F.slot_str_getitem.lookup,typeIs_str _ _ _,wpAny_getItem_str_slice (l:=l) (u:=u) (st:=none) ⟨ob,h1,h2,h3⟩ rfl (post_val_or_str ⟨ado (Txt.slice_le a _ _) hz,λt' k=>⟨.str _,H,I.tok k,⟨t',rfl⟩,q⟩⟩)⟩
def J6 (a:DS->Option D) (lo hi:DS->Option (Option Int)):DS->Option D:=λδ=>(a δ).bind λx=>(lo δ).bind λl=>(hi δ).bind λh=>match x with
 | .str z=>if z.length<=100000 then some (.str (Txt.slice z l h)) else none
 | _=>none
set_option tactic.hygienic true in
theorem OR (ha:PE X e (ib X.K O ga)) (hl:PO X lo (L5 X.K O gl)) (hh:PO X hi (L5 X.K O gh)):PE X (.Subscript e (.Slice lo hi none p2) pos) (tE X.K O (J6 ga gl gh)):=(xG OQ ha hl hh).mono λσ H Q hh=>hh.e λU A0 δ d R ed q=>by
 obtain ⟨x,e1,e2⟩:=bind1 ed
 obtain ⟨l,e3,e4⟩:=bind1 e2
 obtain ⟨h,e5,e6⟩:=bind1 e4
 cases x with
 | str z=>
   simp only at e6
   split at e6
   .rename_i hz
    cases e6
    refine ⟨U,A0,δ,_,R,e1,λv H1 s1 h1=>⟨U,A0,δ,l,R.same s1,e3,λH2 s2=>⟨U,A0,δ,h,R.same (s1.trans s2),e5,λH3 s3=>?_⟩⟩⟩
    exact ⟨z,h1.str,aer (rC hz),q _ H3 ((s1.trans s2).trans s3) (.str _)⟩
   .cases e6
 | _=>cases e6
def OS:V->List V->Hp->VK->Prop:=λx vs H Q=>∃ a b,x=.str a /\ vs=[.str b] /\ Q (.int (Txt.count a b)) H
theorem Gz:Q6 X "str.count" OS:=by
 intro pins s σ H x vs v us Q I rx rv h
 obtain ⟨a,b,rfl,rfl,q⟩:=h
 obtain ⟨t,rfl⟩:=rx
 obtain ⟨u,rfl,t',rfl⟩:=vals1 rv
 exact SC.count ⟨.int _,H,I.tok _,⟨_,rfl⟩,q⟩
def Al (go ge:DS->Option D):DS->Option D:=λδ=>(go δ).bind λs=>(ge δ).bind λx=>match s,x with
 | .str a,.str b=>some (.int (Txt.count a b))
 | _,_=>none
theorem GA (ho:PE X o (ib X.K O go)) (he:PE X e (ib X.K O ge)) (oi:attributeBase o "count" X.env (eval o X.env)=eval o X.env:=by rfl)
  (NG:((backTo fH (starEach [e] X.env)).all (λx=> !x.1) && (backToKw fH (keywordEach [] X.env)).all (λx=>x.1.isSome) && decide ([e].length + ([]:List Keyword).length + (if ([]:List Keyword).isEmpty then 0 else 1) < 30))=true:=by rfl)
  (oj:(apos.endLine == fH.line)=true:=by rfl) (hs:starEach [e] X.env=[(false,eval e X.env)]:=by rfl) (JV:starEach ([]:List Expr) X.env=[]:=by rfl):
  PE X (.Call (.Attribute o "count" apos) [e] [] fH) (tE X.K O (Al go ge)):=
 (iq PySem.F.plainAttrs_str PySem.F.slot_str_count PySem.F.type_str_count Gz ho (bG he cz (by rw [hs,JV])) oi NG oj (by rw [hs,JV]) (by rw [JV]; rfl)).mono λσ H Q hh=>hh.e λU A0 δ d R ed q=>by
  obtain ⟨s,e1,ed⟩:=bind1 ed
  obtain ⟨x,e2,ed⟩:=bind1 ed
  cases s with
  | str a=>
    cases x with
    | str b=>
      cases ed
      refine ⟨U,A0,δ,_,R,e1,λv H1 s1 h1=>?_⟩
      rw [h1.text]
      refine ⟨rfl,U,A0,δ,_,R.same s1,e2,λw H2 s2 h2=>?_⟩
      rw [h2.text]
      exact ⟨a,b,rfl,rfl,q _ H2 (s1.trans s2) (.int _)⟩
    | _=>cases ed
  | _=>cases ed
end
def aR:List Int->Int
 | []=>0
 | n :: ns=>n + aR ns
theorem jW:∀ a b:List Int,aR (a ++ b)=aR a + aR b
 | [],b=>by rw [af9,aR,ahc]
 | x :: a,b=>by rw [ae4,aR,jW a b,aR,Int.add_assoc]
theorem B8 (ns:List Int):∀ k,k<=ns.length->preSum (λi=>ns.getD i 0) k=aR (ns.take k)
 | 0,_=>rfl
 | k + 1,h=>by
   have hk:k < ns.length:=h
   rw [preSum,B8 ns k (aer hk),adB,acL hk,jW,acS,acL hk]
   show _=_ + (ns[k] + 0)
   rw [afT]; rfl
theorem DJ {X:Cx} (hc:X.calm=true):eR X (.builtin "sum") (λxs H Q=>∃ (p:Addr) (ns:List Int),xs=[.ref p] /\ gX X.K H p (ns.map V.int) /\ Q (.int (aR ns)) H):=by
 intro pins s σ H xs us Q I r h
 obtain ⟨p,ns,rfl,hq,q⟩:=h
 obtain ⟨u,rfl,rx⟩:=vals1 r
 cases rx
 obtain ⟨its,rv,pl,_⟩:=I.list hq
 have hl:=rv.length
 rw [acH] at hl
 have iG:p≠s.heap.objs.size:=by
  obtain ⟨o,n,e1,_⟩:=pl
  exact adj (acV e1)
 refine call_sum_walkAnyS (afh pl.isList ?_)
 refine ⟨s.heap.objs.size,[s.heap.objs.size,p],[s.heap.objs.size],_,_,_,_,λi=>ns.getD i 0,rfl,(Walks.list (A:=X.A.in1) (I.ok.hd hc) _ p iG its.toArray).toS,⟨⟨_,ac8 _ rfl,rfl,rfl⟩,pl.isList.push _⟩,λb hb=>?_,λi v hP=>?_,λs' t' mv=>?_⟩
 .rw [aef]
  rcases acK.mp hb with z | z
  .rw [z]; exact adX _
  .rw [adm.mp z]
   obtain ⟨o,n,e1,_⟩:=pl
   exact aeg (acV e1)
 .have Gc:its[i]?=some v:=by simpa using hP
  have hi:=(acN.mp Gc).1
  obtain ⟨w',hw,xC⟩:=rv.get (i:=i) (x:=V.int (ns.getD i 0)) (by rw [adb,acS,acL (by omega)]; rfl)
  rw [Gc] at hw; cases hw
  exact xC
 .have e:preSum (λi=>ns.getD i 0) its.toArray.size=aR ns:=by
   rw [ac4,<- hl,B8 ns _ (ac1 _),adE]
  rw [e]
  obtain ⟨hx,gx,dx,tx,ox⟩:=s'
  have eg:gx=s.gens:=mv.gens
  have ed:dx=s.drawn:=mv.drawn
  have eo:ox=s.os:=mv.os
  subst eg ed eo
  refine ⟨.int (aR ns),H,I.kept (h':=hx) (t':=tx) λb o e=>mv.heap b o (λz=>?_) (acM _ e),⟨t',rfl⟩,q⟩
  rw [adm] at z
  exact absurd (acV e) (by rw [z]; exact adK _)
theorem OT:bootBuiltins "sum"=some (.builtin "sum"):=by decide +kernel
def GB:List D->Option D
 | [.list l]=>(k8 l).map λns=>.int (aR ns)
 | _=>none
set_option tactic.hygienic true in
theorem J7 {K:PySem.W.Frag}:rO K (λxs H Q=>∃ (p:Addr) (ns:List Int),xs=[.ref p] /\ gX K H p (ns.map V.int) /\ Q (.int (aR ns)) H) GB:=by
 intro A H vs ds d Q al h e q
 unfold GB at e
 split at e
 .rename_i l
  cases hl:k8 l with
  | none=>rw [hl] at e; cases e
  | some ns=>
    rw [hl] at e; cases e
    have:=ja hl
    subst this
    cases h with
    | cons h1 h2=>
      cases h2
      obtain ⟨p,ys,rfl,hp,hy⟩:=h1.list
      have:=cx.toInts hy
      subst this
      exact ⟨p,ns,rfl,hp.sq,q _ H (aL.refl H) (.int _)⟩
 .cases e
def qP (i j:Nat):DS->Option Res:=λδ=>(ae j δ).bind λx=>match x with
 | .list ds=>(ds[ds.length - 1]?).bind λd=>some (.nx ((δ.set j (some (.list ds.dropLast))).set i (some d)))
 | _=>none
section
variable {X:Cx} {O:List Nat} {fr:Bool} {st:Stmt}
theorem DL {i j:Nat} (h:PS X st (n9 (Jx X.K "list" NJ (n6 j)) (iM i))) (hj:j∈O:=by decide) (hi:i∉O:=by decide):PS X st (tS X.K O fr (qP i j)):=h.mono λE σ H hh=>hh.e λH0 U A0 δ r R F ed P=>by
 obtain ⟨x,e1,e2⟩:=bind1 ed
 rcases R.Qf j x hj (join_some e1) with ⟨l,ys,ds,hl,rfl,hU,h1,h2⟩ | ⟨kds,rfl⟩
 rotate_left
 ·(exfalso; simp_all; done)
 simp only at e2
 obtain ⟨d,e3,e4⟩:=bind1 e2
 cases e4
 have hlen:=h2.len
 have vM:=(acN.mp e3).1
 obtain ⟨y,hy,Qm⟩:=h2.get e3
 rw [<- hlen] at hy
 refine ⟨.ref l,hl,.inl ⟨rfl,ys,gX.of h1⟩,l,ys,y,rfl,rfl,h1,hy,?_⟩
 refine P U _ _ ((R.put hj hl hU h2.uC ⟨_,join_some e1⟩).set hi ?_) (F.put hU _)
 rw [vI (adv _ hU)]
 exact Qm
end
abbrev Gq:=List Key×Addr×List V×List D
def DM (qs:List Gq):List (List Key×V):=qs.map λq=>(q.1,V.ref q.2.1)
structure B9 (K:PySem.W.Frag) (U A0:List Addr) (H:Hp) (a:Addr) (qs:List Gq):Prop where
 at':H a=some (.dT (DM qs))
 Qp:a∈U
 nd:(qs.map (·.2.1)).Nodup
 kn:(qs.map (·.1)).Nodup
 ls:∀ q∈qs,q.2.1∈U /\ H q.2.1=some (.lst q.2.2.1) /\ cx K (wo H (U ++ A0)) q.2.2.1 q.2.2.2
def lK (qs:List Gq):List (D×D):=qs.map λq=>(.tuple (q.1.map iS),.list q.2.2.2)
theorem B9.same {K:PySem.W.Frag} {U A0:List Addr} {H H':Hp} {a:Addr} {qs:List Gq} (g:B9 K U A0 H a qs) (s:aL H H'):B9 K U A0 H' a qs:=
 ⟨s _ _ g.at',g.Qp,g.nd,g.kn,λq hq=>⟨(g.ls q hq).1,s _ _ (g.ls q hq).2.1,(g.ls q hq).2.2.same (b9 s)⟩⟩
structure TGr (K:PySem.W.Frag) (i:Nat) (f:DS->List (D×D)->Option (DS×List (D×D))) (E:Ends) (σ:St) (H H0:Hp) (U A0:List Addr) (δ:DS) (qs:List Gq) (a:Addr) (r:DS×List (D×D)):Prop where
 R:Rel K [] U A0 σ δ H
 F:Fx H0 A0 U H
 hi:σ[i]?=some (some (.ref a))
 g:B9 K U A0 H a qs
 ef:f δ (lK qs)=some r
 P:∀ U' cT H' Ml,Rel K [] U' A0 cT r.1 H'->Fx H0 A0 U' H'->cT[i]?=some (some (.ref a))->B9 K U' A0 H' a Ml->lK Ml=r.2->E.nx cT H'
def OU (K:PySem.W.Frag) (i:Nat) (f:DS->List (D×D)->Option (DS×List (D×D))):TS:=λE σ H=>∃ H0 U A0 δ qs a r,TGr K i f E σ H H0 U A0 δ qs a r
theorem GC {K:PySem.W.Frag} {i:Nat} {f:DS->List (D×D)->Option (DS×List (D×D))} {E:Ends} {σ:St} {H:Hp} {C:Prop} (h:OU K i f E σ H) (k:∀ H0 U A0 δ qs a r,TGr K i f E σ H H0 U A0 δ qs a r->C):C:=by
 obtain ⟨_,_,_,_,_,_,_,t⟩:=h
 exact k _ _ _ _ _ _ _ t
theorem uT {α β:Type} {f:α->β} {l:List α} (h:(l.map f).Nodup) {p q:α} (hp:p∈l) (hq:q∈l) (e:f p=f q):p=q:=by
 induction l with
 | nil=>simp at hp
 | cons x l ih=>
   rw [acQ,afc] at h
   rcases acK.mp hp with y | y <;> rcases acK.mp hq with z | z
   .rw [y,z]
   .exact absurd (by rw [<- y,e]; exact ac5.mpr ⟨q,z,rfl⟩) h.1
   .exact absurd (by rw [<- z,<- e]; exact ac5.mpr ⟨p,y,rfl⟩) h.1
   .exact ih h.2 y z
theorem Ca {k:List Key}:∀ {qs:List Gq},(cj (lK qs) k=none->∀ q∈qs,q.1≠k) /\ ∀ d,cj (lK qs) k=some d->∃ q∈qs,q.1=k /\ d=.list q.2.2.2 /\ mU (DM qs) k=some (.ref q.2.1):=by
 intro qs
 induction qs with
 | nil=>exact ⟨λ_ q hq=>(by simp at hq),λd e=>(by cases e)⟩
 | cons q qs ih=>
   have hj:keyOf (.tuple (q.1.map iS))=some q.1:=fS q.1
   by_cases e:q.1=k
   .have h1:cj (lK (q :: qs)) k=some (.list q.2.2.2):=dH (p:=(PyData.tuple (q.1.map iS),PyData.list q.2.2.2)) (by rw [<- e]; exact hj)
    rw [h1]
    refine ⟨λz=>(by cases z),λd z=>?_⟩
    cases z
    exact ⟨q,acR,e,rfl,lr (p:=(q.1,V.ref q.2.1)) e⟩
   .have h1:cj (lK (q :: qs)) k=cj (lK qs) k:=dJ (p:=(PyData.tuple (q.1.map iS),PyData.list q.2.2.2)) (by rw [hj]; exact λz=>e (adp z))
    rw [h1]
    refine ⟨λz p hp=>?_,λd z=>?_⟩
    .rcases acK.mp hp with y | y
     .rw [y]; exact e
     .exact ih.1 z p y
    .obtain ⟨p,p1,p2,p3,p4⟩:=ih.2 d z
     exact ⟨p,acO _ p1,p2,p3,(lu (p:=(q.1,V.ref q.2.1)) e).trans p4⟩
def Cb (gk:DS->Option D):DS->List (D×D)->Option (DS×List (D×D)):=λδ kds=>(gk δ).bind λy=>(keyOf y).bind λk=>if kds.length < 100000 /\ cj kds k=none then some (δ,kds ++ [(.tuple (k.map iS),.list [])]) else none
def uU (gk ge:DS->Option D):DS->List (D×D)->Option (DS×List (D×D)):=λδ kds=>(gk δ).bind λy=>(ge δ).bind λd=>(keyOf y).bind λk=>(cj kds k).bind λx=>match x with
 | .list ds=>if ds.length < 100000 then some (δ,kds.map λp=>if keyOf p.1=some k then (p.1,.list (ds ++ [d])) else p) else none
 | _=>none
theorem B9.add {K:PySem.W.Frag} {U A0:List Addr} {σ:St} {δ:DS} {H H0 H2:Hp} {a r:Addr} {qs:List Gq} {k:List Key} (R:Rel K [] U A0 σ δ H) (F:Fx H0 A0 U H) (g:B9 K U A0 H a qs) (J8:aL H H2) (hr:H r=none) (Qn:H2 r=some (.lst [])) (hk:∀ q∈qs,q.1≠k) {H4:Hp} (e4:H4=upd H2 a (.dT (putK (DM qs) k (.ref r)))):
  Rel K [] (r :: U) A0 σ δ H4 /\ Fx H0 A0 (r :: U) H4 /\ B9 K (r :: U) A0 H4 a (qs ++ [(k,r,[],[])]):=by
 have g2:=g.same J8
 have hra:r≠a:=λz=>by rw [z,g.at'] at hr; cases hr
 have RU:putK (DM qs) k (.ref r)=DM (qs ++ [(k,r,[],[])]):=by
  unfold putK DM
  rw [acW,ade]; rfl
  intro z
  obtain ⟨x,hx,z⟩:=ag4.mp z
  obtain ⟨q,hq,rfl⟩:=ac5.mp hx
  exact hk q hq (of_decide_eq_true z)
 rw [RU] at e4
 have ne4:∀ c,c≠a->H4 c=H2 c:=λc hc=>by rw [e4,bp hc]
 have RV:H4 a=some (.dT (DM (qs ++ [(k,r,[],[])]))):=by rw [e4,b8]
 have F4:Fx H0 A0 (r :: U) H4:=by rw [e4]; exact (F.more J8 hr).put (acO _ g.Qp) _
 have tp:∀ p xs,dh H2 p xs->dh H4 p xs:=λp xs h=>by rw [e4]; exact h.dT g2.at'
 clear e4 RU
 have sm:aL (wo H (U ++ A0)) (wo H4 ((r :: U) ++ A0)):=λc o hc=>by
  obtain ⟨c1,c2⟩:=kb hc
  have cr:c≠r:=λz=>by rw [z,hr] at c2; cases c2
  have c3:c∉(r :: U) ++ A0:=λz=>(acK.mp z).elim cr c1
  rw [cn c3,ne4 c λz=>c1 (by rw [z]; exact adv _ g.Qp)]
  exact J8 _ _ c2
 refine ⟨⟨R.len,λj d hj e=>(R.fz j d hj e).imp λv h=>⟨h.1,h.2.same sm⟩,λj d hj=>(by simp at hj),λj k d e l hj=>(by simp at hj),λc hc=>?_,λp xs m=>tp p xs ((R.al.same J8).2 p xs m)⟩,F4,RV,acO _ g.Qp,?_,?_,λq hq=>?_⟩
 .by_cases ca:c=a
  .rw [ca]; exact ⟨_,RV,trivial⟩
  .rw [ne4 c ca]
   rcases acK.mp (show c∈r :: (U ++ A0) from hc) with z | z
   .rw [z]; exact ⟨_,Qn,trivial⟩
   .exact (R.al.same J8).1 c z
 .rw [ade]
  refine aeS.mpr ⟨g.nd,by simp,λx hx y hy=>?_⟩
  obtain ⟨q,hq,rfl⟩:=ac5.mp hx
  rw [show y=r by simpa using hy]
  exact λz=>by have:=(g.ls q hq).2.1; rw [z,hr] at this; cases this
 .rw [ade]
  refine aeS.mpr ⟨g.kn,by simp,λx hx y hy=>?_⟩
  obtain ⟨q,hq,rfl⟩:=ac5.mp hx
  rw [show y=k by simpa using hy]
  exact hk q hq
 .rcases adh.mp hq with z | z
  .obtain ⟨l1,l2,l3⟩:=g.ls q z
   refine ⟨acO _ l1,?_,l3.same sm⟩
   rw [ne4 _ λz=>by rw [z,g.at'] at l2; cases l2]
   exact J8 _ _ l2
  .rw [show q=(k,r,[],[]) by simpa using z]
   exact ⟨acR,(ne4 r hra).trans Qn,.nil⟩
set_option tactic.hygienic true in
theorem B9.up {K:PySem.W.Frag} {U A0:List Addr} {σ:St} {δ:DS} {H H0 H4:Hp} {a:Addr} {qs:List Gq} {q:Gq} {v:V} {d:D} (R:Rel K [] U A0 σ δ H) (F:Fx H0 A0 U H) (g:B9 K U A0 H a qs) (hq:q∈qs) (hv:HD K (wo H (U ++ A0)) v d) (e4:H4=upd H q.2.1 (.lst (q.2.2.1 ++ [v]))):
  Rel K [] U A0 σ δ H4 /\ Fx H0 A0 U H4 /\ ∃ Ml,B9 K U A0 H4 a Ml /\ lK Ml=(lK qs).map λp=>if keyOf p.1=some q.1 then (p.1,.list (q.2.2.2 ++ [d])) else p:=by
 obtain ⟨m1,m2,m3⟩:=g.ls q hq
 have ne4:∀ c,c≠q.2.1->H4 c=H c:=λc hc=>by rw [e4,bp hc]
 have RV:H4 q.2.1=some (.lst (q.2.2.1 ++ [v])):=by rw [e4,b8]
 have hw:wo H4 (U ++ A0)=wo H (U ++ A0):=by rw [e4]; exact vI (adv _ m1)
 have F4:Fx H0 A0 U H4:=by rw [e4]; exact F.put m1 _
 have tp:∀ p xs,dh H p xs->dh H4 p xs:=λp xs h=>by rw [e4]; exact h.ne (h.apart m2 trivial)
 clear e4
 have RW:∀ p∈qs,(p.1=q.1↔p.2.1=q.2.1):=λp hp=>⟨λz=>by rw [uT g.kn hp hq z],λz=>by rw [uT g.nd hp hq z]⟩
 have R4:Rel K [] U A0 σ δ H4:=⟨R.len,λj d hj e=>by rw [hw]; exact R.fz j d hj e,λj d hj=>(by simp at hj),λj k d e l hj=>(by simp at hj),λc hc=>by
   by_cases ca:c=q.2.1
   .rw [ca]; exact ⟨_,RV,trivial⟩
   .rw [ne4 c ca]; exact R.al.1 c hc,λp xs m=>tp p xs (R.al.2 p xs m)⟩
 obtain ⟨up,Wf⟩:∃ up:Gq->Gq,up=λp=>if p.2.1=q.2.1 then (p.1,p.2.1,q.2.2.1 ++ [v],q.2.2.2 ++ [d]) else p:=⟨_,rfl⟩
 have u1:∀ p,(up p).1=p.1 /\ (up p).2.1=p.2.1:=λp=>by rw [Wf]; dsimp only; split <;> exact ⟨rfl,rfl⟩
 refine ⟨R4,F4,qs.map up,⟨?_,g.Qp,?_,?_,λp hp=>?_⟩,?_⟩
 .have na:a≠q.2.1:=λz=>by rw [<- z,g.at'] at m2; cases m2
  rw [ne4 a na,g.at',DM,DM,ady]
  exact aeu (λl=>some (HO.dT l)) (adY λp _=>by show _=((up p).1,V.ref (up p).2.1); rw [(u1 p).1,(u1 p).2])
 .rw [ady,show (λq:Gq=>q.2.1) ∘ up=λq=>q.2.1 from funext λp=>(u1 p).2]; exact g.nd
 .rw [ady,show (λq:Gq=>q.1) ∘ up=λq=>q.1 from funext λp=>(u1 p).1]; exact g.kn
 .obtain ⟨p0,hp0,rfl⟩:=ac5.mp hp
  obtain ⟨n1,n2,n3⟩:=g.ls p0 hp0
  rw [hw,Wf]
  dsimp only
  split
  .rename_i z
   exact ⟨n1,by show H4 p0.2.1=_; rw [z]; exact RV,m3.app (.cons hv .nil)⟩
  .rename_i z
   exact ⟨n1,by rw [ne4 _ z]; exact n2,n3⟩
 .unfold lK
  rw [ady,ady]
  refine adY λp hp=>?_
  have hj:keyOf (.tuple (p.1.map iS))=some p.1:=fS p.1
  show (PyData.tuple ((up p).1.map iS),PyData.list (up p).2.2.2)=if keyOf (.tuple (p.1.map iS))=some q.1 then (PyData.tuple (p.1.map iS),PyData.list (q.2.2.2 ++ [d])) else (PyData.tuple (p.1.map iS),PyData.list p.2.2.2)
  rw [hj,(u1 p).1,Wf]
  dsimp only
  by_cases z:p.1=q.1
  .rw [acU ((RW p hp).mp z),acU (by rw [z])]
  .rw [acW λy=>z ((RW p hp).mpr y),acW λy=>z (adp y)]
section
variable {X:Cx} {i:Nat} {st:Stmt} {gk ge:DS->Option D}
set_option tactic.hygienic true in
theorem J9 (h:PS X st (Fi (n6 i) (ib X.K [] gk) (tN X.K [] (dM af)))):PS X st (OU X.K i (Cb gk)):=h.mono λE σ H z=>GC z λH0 U A0 δ qs a r t=>by
 have R:=t.R
 have F:=t.F
 have g:=t.g
 obtain ⟨y,e1,e2⟩:=bind1 t.ef
 obtain ⟨k,e3,e4⟩:=bind1 e2
 split at e4
 .rename_i hz
  cases e4
  refine ⟨U,A0,δ,[],R,rfl,λr ys H1 s1 hr h1 h2=>⟨.ref a,t.hi,U,A0,δ,y,R.same s1,e1,λv2 H2 s2 h3=>?_⟩⟩
  cases h2
  obtain ⟨b,rfl,hb⟩:=h3.key e3
  have J8:=s1.trans s2
  have hlen:(DM qs).length < sizeLine:=by
   have:=hz.1
   rw [lK,acH] at this
   rw [DM,acH]
   exact rC (by omega)
  refine ⟨a,_,rfl,Dd.t (g.same J8).at' hb hlen,?_⟩
  obtain ⟨R4,F4,g4⟩:=g.add R F J8 hr (s2 _ _ h1) ((Ca (qs:=qs)).1 hz.2) rfl
  exact t.P _ σ _ _ R4 F4 t.hi g4 (by unfold lK; rw [List.map_append]; rfl)
 .cases e4
set_option tactic.hygienic true in
theorem Ka (h:PS X st (uo (Tj X.K "list" vD (LO (n6 i) (ib X.K [] gk)) (BB (tE X.K [] ge) Jm)))):PS X st (OU X.K i (uU gk ge)):=h.mono λE σ H z=>GC z λH0 U A0 δ qs a r t=>by
 have R:=t.R
 have F:=t.F
 have g:=t.g
 obtain ⟨y,e1,e2⟩:=bind1 t.ef
 obtain ⟨d,e3,e4⟩:=bind1 e2
 obtain ⟨k,e5,e6⟩:=bind1 e4
 obtain ⟨x,e7,e8⟩:=bind1 e6
 obtain ⟨q,hq,rfl,rfl,FU⟩:=(Ca (qs:=qs)).2 x e7
 have e8:(if q.2.2.2.length < 100000 then some (δ,(lK qs).map λp=>if keyOf p.1=some q.1 then (p.1,.list (q.2.2.2 ++ [d])) else p) else none)=some r:=e8
 split at e8
 .rename_i hz
  cases e8
  refine ⟨.ref a,t.hi,U,A0,δ,y,R,e1,λv2 H2 s2 h3=>?_⟩
  obtain ⟨b,rfl,hb⟩:=h3.key e5
  have g2:=g.same s2
  refine ⟨a,.ref q.2.1,rfl,by rw [<- FU]; exact tU.t g2.at' hb,.inl ⟨rfl,q.2.2.1,gX.of (g2.ls q hq).2.1⟩,U,A0,δ,d,R.same s2,e3,λv H' s hv=>?_⟩
  have g3:=g2.same s
  have hlen:=(g3.ls q hq).2.2.len
  refine ⟨q.2.1,q.2.2.1,v,rfl,rfl,(g3.ls q hq).2.1,rC (by omega),?_⟩
  obtain ⟨R4,F4,Ml,g4,k4⟩:=g3.up (R.same (s2.trans s)) (F.grow (s2.trans s)) hq hv rfl
  exact t.P _ σ _ _ R4 F4 t.hi g4 k4
 .cases e8
end
def Am (gt:D->DS->Option DS) (f:DS->List (D×D)->Option (DS×List (D×D))):List D->DS->List (D×D)->Option (DS×List (D×D))
 | [],δ,kds=>some (δ,kds)
 | d :: ds,δ,kds=>(gt d δ).bind λfh=>(f fh kds).bind λr=>Am gt f ds r.1 r.2
def DN (gi:DS->Option (List D)) (gt:D->DS->Option DS) (f:DS->List (D×D)->Option (DS×List (D×D))):DS->List (D×D)->Option (DS×List (D×D)):=λδ kds=>(gi δ).bind λds=>Am gt f ds δ kds
def OV (K:PySem.W.Frag) (i:Nat) (g:TG) (gt:D->DS->Option DS):Prop:=∀ (U A0:List Addr) (σ:St) (δ δ':DS) (H:Hp) (v:V) (d:D) (Q:St->Hp->Prop),Rel K [] U A0 σ δ H->HD K (wo H (U ++ A0)) v d->gt d δ=some δ'->
 (∀ cT,Rel K [] U A0 cT δ' H->cT[i]?=σ[i]?->Q cT H)->g v σ H Q
theorem DO {K:PySem.W.Frag} {i j:Nat} (h:j≠i):OV K i (iM j) (au j):=λU A0 σ δ δ' H v d Q R hd e q=>by
 cases e
 exact q _ (R.set (by simp) hd) (adg h)
theorem GD {j k:Nat} {d:D} {δ δ':DS} (e:cW 2 (aO (au j) (aO (au k) cY)) d δ=some δ'):∃ x y,d=.tuple [x,y] /\ δ'=(δ.set j (some x)).set k (some y):=by
 cases d with
 | tuple ds=>
   cases ds with
   | nil=>cases e
   | cons x ds=>
     cases ds with
     | nil=>cases e
     | cons y ds=>
       cases ds with
       | nil=>cases e; exact ⟨x,y,rfl,rfl⟩
       | cons _ _=>cases e
 | _=>cases e
theorem Wg {K:PySem.W.Frag} {H:Hp} {xs:List V} {x y:D} (h:cx K H xs [x,y]):∃ u v,xs=[u,v] /\ HD K H u x /\ HD K H v y:=by
 cases h with
 | cons a h=>cases h with
   | cons b h=>cases h; exact ⟨_,_,rfl,a,b⟩
theorem DP {K:PySem.W.Frag} {i j k:Nat} (h:j≠i) (h2:k≠i):OV K i (QK K 2 (EW (iM j) (EW (iM k) QJ))) (cW 2 (aO (au j) (aO (au k) cY))):=λU A0 σ δ δ' H v d Q R hd e q=>by
 obtain ⟨x,y,rfl,rfl⟩:=GD e
 obtain ⟨a,xs,rfl,h1,h3⟩:=(iE.of hd).tuple
 obtain ⟨u,w,rfl,hx,hy⟩:=Wg h3
 exact ⟨a,_,rfl,h1,rfl,_,_,rfl,_,_,rfl,rfl,q _ ((R.set (by simp) hx).set (by simp) hy) ((adg h2).trans (adg h))⟩
structure GI (K:PySem.W.Frag) (i:Nat) (gt:D->DS->Option DS) (f:DS->List (D×D)->Option (DS×List (D×D))) (ds:List D) (H0 H1:Hp) (U A0:List Addr) (a:Addr) (r:DS×List (D×D)) (j:Nat) (σ:St) (H:Hp) (U2:List Addr) (δ:DS) (qs:List Gq):Prop where
 le:j<=ds.length
 R:Rel K [] U2 A0 σ δ H
 F:Fx H0 A0 U2 H
 G:Fx (wo H1 U) A0 U2 H
 hi:σ[i]?=some (some (.ref a))
 g:B9 K U2 A0 H a qs
 ef:Am gt f (ds.drop j) δ (lK qs)=some r
def RX (K:PySem.W.Frag) (i:Nat) (gt:D->DS->Option DS) (f:DS->List (D×D)->Option (DS×List (D×D))) (ds:List D) (H0 H1:Hp) (U A0:List Addr) (a:Addr) (r:DS×List (D×D)) (j m:Nat) (σ:St) (H:Hp):Prop:=
 m=ds.length - j /\ ∃ U2 δ qs,GI K i gt f ds H0 H1 U A0 a r j σ H U2 δ qs
section
variable {X:Cx} {i:Nat} {st:Stmt} {tg iter:Expr} {pos:Pos} {gi:DS->Option (List D)} {gt:D->DS->Option DS} {g:TG} {f:DS->List (D×D)->Option (DS×List (D×D))}
theorem Cc (hp:PassesOwn (model X.prog X.w) X.A X.env X.xe) (hc:X.calm=true) (hi:PI X tg iter (tI X.K [] gi)) (hg:PG X tg g) (ht:OV X.K i g gt) (hb:PS X st (OU X.K i f))
  (hs:∀ x,foldedSetIterable iter X.env x=pure x:=by intro _; rfl):PS X (.For tg iter [st] [] pos) (OU X.K i (DN gi gt f)):=(E2 hp hc hi hg (vv hb) hs).mono λE σ H z=>GC z λH0 U A0 δ qs a r t=>by
 obtain ⟨ds,e1,e2⟩:=bind1 t.ef
 refine ⟨U,A0,δ,ds,t.R,e1,λJ H1 s hw=>⟨RX X.K i gt f ds H0 H1 U A0 a r,⟨ds.length,by simp,U,δ,qs,Nat.zero_le _,t.R.same s,t.F.grow s,(t.F.grow s).here,t.hi,t.g.same s,by simpa using e2⟩,?_⟩⟩
 have P:=t.P
 clear t e1 e2 z
 rintro j m σ H ⟨rfl,U2,δ,qs,w⟩
 obtain ⟨Of,rR⟩:=hw (U2 ++ A0) j H w.G.keeps w.R.al
 have ef:=w.ef
 by_cases iG:j < ds.length
 .obtain ⟨go,hy⟩:=Of _ (acL iG)
  rw [ael iG,Am] at ef
  obtain ⟨fh,e3,e4⟩:=bind1 ef
  obtain ⟨q,e5,e6⟩:=bind1 e4
  refine .inr ⟨go,RX X.K i gt f ds H0 H1 U A0 a r (j + 1) (ds.length - (j + 1)),λ_ _ h=>⟨_,Nat.sub_lt_sub_left iG (adX j),h⟩,λx H2 y=>?_⟩
  obtain ⟨s2,hx⟩:=hy x H2 y
  refine ht U2 A0 σ δ fh H2 x _ _ (w.R.same s2) hx e3 λcT R' eσ=>?_
  have F3:=w.F.grow s2
  exact ⟨wo H2 U2,U2,A0,fh,qs,a,q,R',F3.here,eσ.trans w.hi,w.g.same s2,e5,λU' cT H' Ml R' F' h1 h2 h3=>⟨rfl,U',q.1,Ml,iG,R',F3.trans F',(w.G.grow s2).trans F',h1,h2,by rw [h3]; exact e6⟩⟩
 .have hj:j=ds.length:=agb w.le (afl iG)
  subst hj
  rw [afm,Am] at ef
  cases ef
  exact .inl ⟨rR rfl,P U2 σ H qs w.R w.F w.hi w.g rfl⟩
end
def Wh:D->Bool
 | .dict []=>true
 | _=>false
def qQ (i:Nat) (f1 f2:DS->List (D×D)->Option (DS×List (D×D))) (gl:DS->Option (List D)):DS->Option Res:=λδ=>(ae i δ).bind λx=>if Wh x=true then (f1 (δ.set i none) []).bind λr=>(f2 r.1 r.2).bind λq=>(gl (q.1.set i (some (.dict q.2)))).bind λl=>some (.rt (.list l)) else none
theorem Rel.drop {K:PySem.W.Frag} {U A0:List Addr} {σ:St} {δ:DS} {H:Hp} {i:Nat} (R:Rel K [i] U A0 σ δ H):Rel K [] U A0 σ (δ.set i none) H where
 len:=by rw [adJ]; exact R.len
 fz:=λj d _ e=>by
  by_cases h:i=j
  .subst h
   have hl:i < δ.length:=by have:=(acN.mp e).1; rwa [adJ] at this
   rw [adx hl] at e; cases e
  .rw [adg h] at e
   exact R.fz j d (by simpa using Ne.symm h) e
 ow:=λj d hj=>by simp at hj
 inj:=λj k d e l hj=>by simp at hj
 al:=R.al
theorem DQ {K:PySem.W.Frag} {H:Hp} {qs:List Gq} (h:∀ q∈qs,H q.2.1=some (.lst q.2.2.1) /\ cx K H q.2.2.1 q.2.2.2):cx K H ((DM qs).map (·.2)) ((lK qs).map (·.2)):=by
 induction qs with
 | nil=>exact .nil
 | cons q qs ih=>
   obtain ⟨h1,h2⟩:=h q acR
   exact .cons (.lst (.of h1) h2) (ih λp hp=>h p (acO _ hp))
theorem Rel.Wi {K:PySem.W.Frag} {U A0:List Addr} {σ:St} {δ:DS} {H H0:Hp} {i:Nat} {a:Addr} {qs:List Gq} (R:Rel K [] U A0 σ δ H) (F:Fx H0 A0 U H) (RY:σ[i]?=some (some (.ref a))) (g:B9 K U A0 H a qs):Rel K [] [] A0 σ (δ.set i (some (.dict (lK qs)))) H:=by
 have sm:aL (wo H (U ++ A0)) (wo H ([] ++ A0)):=kc λb hb=>acX _ hb
 have out:∀ b∈U,∀ o,H b=some o->wo H ([] ++ A0) b=some o:=λb hb o e=>by rw [cn (show b∉[] ++ A0 from F.out hb)]; exact e
 exact {
  len:=by rw [adJ]; exact R.len
  fz:=λj d _ e=>by
   by_cases h:i=j
   .subst h
    have hl:i < δ.length:=by have:=(acN.mp e).1; rwa [adJ] at this
    rw [adx hl] at e
    cases e
    refine ⟨_,RY,.rF (out a g.Qp _ g.at') ?_ (DQ λq hq=>⟨out _ (g.ls q hq).1 _ (g.ls q hq).2.1,(g.ls q hq).2.2.same sm⟩)⟩
    unfold lK DM
    rw [ady,ady]; rfl
   .rw [adg h] at e
    obtain ⟨v,e1,e2⟩:=R.fz j d (by simp) e
    exact ⟨v,e1,e2.same sm⟩
  ow:=λj d hj=>by simp at hj
  inj:=λj k d e l hj=>by simp at hj
  al:=⟨λb hb=>R.al.1 b (acX _ hb),R.al.2⟩ }
theorem Rel.empty {K:PySem.W.Frag} {U A0:List Addr} {σ:St} {δ:DS} {H:Hp} {i:Nat} {x:D} (R:Rel K [i] U A0 σ δ H) (e:δ[i]?=some (some x)) (hx:Wh x=true):∃ a,σ[i]?=some (some (.ref a)) /\ B9 K U A0 H a []:=by
 obtain ⟨a,o,RY,hU,ho,how⟩:=R.ow i x (by simp) e
 cases how with
 | lst _=>cases hx
 | @rF aV kds kk _=>
   cases kds with
   | cons _ _=>cases hx
   | nil=>
     cases aV with
     | nil=>exact ⟨a,RY,ho,hU,.nil,.nil,λq hq=>by simp at hq⟩
     | cons _ _=>cases kk
section
variable {X:Cx} {i:Nat} {IQ jq:Stmt} {e:Expr} {pos:Pos} {f1 f2:DS->List (D×D)->Option (DS×List (D×D))} {gl:DS->Option (List D)}
set_option tactic.hygienic true in
theorem DR (h1:PS X IQ (OU X.K i f1)) (h2:PS X jq (OU X.K i f2)) (h3:PE X e (tN X.K [] gl)):mR X [IQ,jq,.Return (some e) pos] (tS X.K [i] true (qQ i f1 f2 gl)):=(rf h1 (rf h2 (vv (vw h3)))).mono<|by
 rintro E σ H ⟨H0,U,A0,δ,r,R,F,ed,P⟩
 obtain ⟨x,e1,e2⟩:=bind1 ed
 split at e2
 .rename_i hx
  obtain ⟨r1,e3,e4⟩:=bind1 e2
  obtain ⟨r2,e5,e6⟩:=bind1 e4
  obtain ⟨l,e7,e8⟩:=bind1 e6
  cases e8
  obtain ⟨a,RY,g⟩:=R.empty (join_some e1) hx
  refine ⟨H0,U,A0,δ.set i none,[],a,r1,R.drop,F,RY,g,e3,λU1 LF H1 qs1 R1 F1 s1 g1 k1=>?_⟩
  refine ⟨H0,U1,A0,r1.1,qs1,a,r2,R1,F1,s1,g1,by rw [k1]; exact e5,λU2 σ2 H2 qs2 R2 F2 s2 g2 k2=>?_⟩
  refine ⟨[],A0,_,l,R2.Wi F2 s2 g2,by rw [k2]; exact e7,λr ys H3 s hr h4 h5=>P (.ref r) H3 ?_⟩
  unfold qA
  rw [acU rfl]
  exact ⟨r,_,rfl,F2.same.trans s,F2.same.free hr,h4,.lst h5⟩
 .cases e2
end
def DT:List Int->Option Int
 | []=>none
 | x :: l=>some (l.foldl (λm y=>if y < m then y else m) x)
theorem uV (f:Nat->Int):∀ k,f (argBest (λi j=>decide (f i < f j)) k)=((List.range k).map λi=>f (i + 1)).foldl (λm y=>if y < m then y else m) (f 0)
 | 0=>rfl
 | k + 1=>by
   rw [List.range_succ,ade,agL,<- uV f k,argBest]
   show f (if decide (f (k + 1) < f (argBest (λi j=>decide (f i < f j)) k))=true then k + 1 else argBest (λi j=>decide (f i < f j)) k)=if f (k + 1) < f (argBest (λi j=>decide (f i < f j)) k) then f (k + 1) else f (argBest (λi j=>decide (f i < f j)) k)
   by_cases h:f (k + 1) < f (argBest (λi j=>decide (f i < f j)) k)
   .rw [acU h,ac2 h,acU rfl]
   .rw [acW h,acZ h,acW acP]
theorem GF (x:Int) (l:List Int):(x :: l).getD (argBest (λi j=>decide ((x :: l).getD i 0 < (x :: l).getD j 0)) l.length) 0=l.foldl (λm y=>if y < m then y else m) x:=by
 rw [uV (λi=>(x :: l).getD i 0) l.length]
 congr 1
 refine ag2 (by simp) λi h1 h2=>?_
 rw [List.getElem_map,List.getElem_range,acS,adf,acL h2]; rfl
theorem DU {X:Cx} (hc:X.calm=true):eR X (.builtin "min") (λxs H Q=>∃ (p:Addr) (ns:List Int) (m:Int),xs=[.ref p] /\ gX X.K H p (ns.map V.int) /\ DT ns=some m /\ Q (.int m) H):=by
 intro pins s σ H xs us Q I r h
 obtain ⟨p,ns,m,rfl,hq,hm,q⟩:=h
 obtain ⟨u,rfl,rx⟩:=vals1 r
 cases rx
 obtain ⟨its,rv,pl,_⟩:=I.list hq
 have hl:=rv.length
 rw [acH] at hl
 have iG:p≠s.heap.objs.size:=by
  obtain ⟨o,n,e1,_⟩:=pl
  exact adj (acV e1)
 cases ns with
 | nil=>cases hm
 | cons x l=>
 have at_:∀ (i:Nat) (v:Value),its[i]?=some v->∃ t,v=.int ((x :: l).getD i 0) t:=λi v Gc=>by
  have hi:=(acN.mp Gc).1
  obtain ⟨w',hw,xC⟩:=rv.get (i:=i) (x:=V.int ((x :: l).getD i 0)) (by rw [adb,acS,acL (by omega)]; rfl)
  rw [Gc] at hw; cases hw
  exact xC
 refine call_min_walkS (afh pl.isList ?_)
 refine ⟨s.heap.objs.size,[s.heap.objs.size,p],[s.heap.objs.size],_,_,_,_,_,rfl,(Walks.list (A:=X.A.in1) (I.ok.hd hc) _ p iG its.toArray).toS,⟨⟨_,Heap.get?_push_size _ rfl,rfl,rfl⟩,pl.isList.push _⟩,λb hb=>?_,?_,CmpOf.ints_lt (λi=>(x :: l).getD i 0) (λi v hP=>at_ i v (by simpa using hP)),λv s' hP mv=>?_⟩
 .rw [aef]
  rcases acK.mp hb with z | z
  .rw [z]; exact adX _
  .rw [adm.mp z]
   obtain ⟨o,n,e1,_⟩:=pl
   exact aeg (acV e1)
 .rw [ac4,<- hl]; exact Nat.succ_pos _
 .have e:its.toArray.size - 1=l.length:=by rw [ac4,<- hl]; rfl
  rw [e] at hP
  have hP2:=hP
  rw [List.getElem?_toArray] at hP2
  obtain ⟨t,rfl⟩:=at_ _ v hP2
  have e2:=GF x l
  rw [e2]
  cases hm
  obtain ⟨hx,gx,dx,tx,ox⟩:=s'
  have eg:gx=s.gens:=mv.gens
  have ed:dx=s.drawn:=mv.drawn
  have eo:ox=s.os:=mv.os
  subst eg ed eo
  refine ⟨.int _,H,I.kept (h':=hx) (t':=tx) λb o e=>mv.heap b o (λz=>?_) (acM _ e),⟨t,rfl⟩,q⟩
  rw [adm] at z
  exact absurd (acV e) (by rw [z]; exact adK _)
def GH:List D->Option D
 | [.list l]=>(k8 l).bind λns=>(DT ns).map λm=>.int m
 | _=>none
set_option tactic.hygienic true in
theorem GJ {K:PySem.W.Frag}:rO K (λxs H Q=>∃ (p:Addr) (ns:List Int) (m:Int),xs=[.ref p] /\ gX K H p (ns.map V.int) /\ DT ns=some m /\ Q (.int m) H) GH:=by
 intro A H vs ds d Q al h e q
 unfold GH at e
 split at e
 .rename_i l
  obtain ⟨ns,hl,e⟩:=bind1 e
  cases hm:DT ns with
  | none=>rw [hm] at e; cases e
  | some m=>
    rw [hm] at e; cases e
    have:=ja hl
    subst this
    cases h with
    | cons h1 h2=>
      cases h2
      obtain ⟨p,ys,rfl,hp,hy⟩:=h1.list
      have:=cx.toInts hy
      subst this
      exact ⟨p,ns,m,rfl,hp.sq,hm,q _ H (aL.refl H) (.int _)⟩
 .cases e
section
variable {K:PySem.W.Frag} {O O':List Nat} {U A0:List Addr} {σ:St} {δ:DS} {H H1:Hp}
theorem Rel.RZ {own c:DS} (hO:∀ i∈O',own.length<=i) (R:Rel K O' U A0 σ (own ++ c) H):Rel K O' U A0 σ (List.replicate own.length none ++ c) H:=by
 have key:∀ (i:Nat) (e:D),(List.replicate own.length none ++ c)[i]?=some (some e)->(own ++ c)[i]?=some (some e):=λi e q=>by
  by_cases h:i < own.length
  .rw [List.getElem?_append_left (by simpa using h),List.getElem?_replicate,if_pos h] at q
   cases q
  .rw [List.getElem?_append_right (by simpa using h)] at q
   rw [aeI (by omega)]
   simpa using q
 exact ⟨by rw [R.len]; simp,λi e hi q=>R.fz i e hi (key i e q),λi e hi q=>R.ow i e hi (key i e q),λi j d e l hi hj hn q1 q2=>R.inj i j d e l hi hj hn (key i d q1) (key j e q2),R.al⟩
theorem Rel.R5 (R:Rel K O U A0 σ δ H) {ix:List Nat} (k:Nat) (h1:∀ t,t < ix.length->(ix.getD t 0∈O↔k + t∈O')) (h2:∀ i∈O',k<=i) (h3:ix.Nodup):Rel K O' U A0 (List.replicate k none ++ L2.oo ix σ) (List.replicate k none ++ eB ix δ) H:=by
 have key:∀ (i:Nat) (e:D),(List.replicate k none ++ eB ix δ)[i]?=some (some e)->∃ t j,i=k + t /\ ix[t]?=some j /\ δ[j]?=some (some e) /\ (List.replicate k none ++ L2.oo ix σ)[i]?=some (σ[j]?).join /\ (j∈O↔i∈O'):=λi e q=>by
  by_cases h:i < k
  .rw [List.getElem?_append_left (by simpa using h),List.getElem?_replicate,if_pos h] at q
   cases q
  .rw [List.getElem?_append_right (by simpa using h)] at q ⊢
   simp only [aem] at q ⊢
   unfold eB at q
   unfold L2.oo
   rw [adb] at q ⊢
   cases ei:ix[i - k]? with
   | none=>rw [ei] at q; cases q
   | some j=>
     rw [ei] at q
     simp only [adT,aex] at q
     have ht:=(acN.mp ei).1
     have hd:ix.getD (i - k) 0=j:=by rw [acS,ei]; rfl
     have:=h1 (i - k) ht
     rw [hd,show k + (i - k)=i by omega] at this
     exact ⟨i - k,j,by omega,ei,join_some q,rfl,this⟩
 refine ⟨by simp [L2.oo,eB],λi e hi q=>?_,λi e hi q=>?_,λi j d e l hi hj hn q1 q2 p1 p2=>?_,R.al⟩
 .obtain ⟨t,j,rfl,e1,e2,e3,e4⟩:=key i e q
  obtain ⟨u,hu,hd⟩:=R.fz j e (λz=>hi (e4.mp z)) e2
  exact ⟨u,by rw [e3,hu]; rfl,hd⟩
 .obtain ⟨t,j,rfl,e1,e2,e3,e4⟩:=key i e q
  obtain ⟨l,o,hl,r⟩:=R.ow j e (e4.mpr hi) e2
  exact ⟨l,o,by rw [e3,hl]; rfl,r⟩
 .obtain ⟨t,a,rfl,e1,e2,e3,e4⟩:=key i d q1
  obtain ⟨t',b,rfl,f1,f2,f3,f4⟩:=key j e q2
  have BZ:a≠b:=λz=>hn (by
   subst z
   have:=(List.getElem?_inj (acN.mp e1).1 h3).mp (e1.trans f1.symm)
   omega)
  rw [e3] at p1
  rw [f3] at p2
  exact R.inj a b d e l (e4.mpr hi) (f4.mpr hj) BZ e2 f2 (join_some (adp p1)) (join_some (adp p2))
theorem DV {J:It} {ix:List Nat} {k:Nat} {gt:D->DS->Option DS} {gc:DS->Option Bool} {ge:DS->Option D} {ds xs:List D} {Q:VK} (own:Mk k gt) (R:Rel K O U A0 σ δ H) (s:aL H H1) (h1:∀ t,t < ix.length->(ix.getD t 0∈O↔k + t∈O')) (h2:∀ i∈O',k<=i) (h3:ix.Nodup) (hw:WalksS K (U ++ A0) H1 J ds)
  (hl:ds.length<=100000) (e:m9 (λd=>(gt d (List.replicate k none ++ eB ix δ)).bind λfh=>(gc fh).bind λb=>if b=true then (ge fh).map some else some none) ds=some xs)
  (q:∀ r ys H',aL H H'->H r=none->H' r=some (.lst ys)->cx K (wo H' (r :: (U ++ A0))) ys xs->Q (.ref r) H'):qO J k ix (tG K O' gt) (tT K O' gc) (tE K O' ge) σ H1 Q:=by
 have Tp:(100000:Nat) < sizeLine:=by decide
 generalize hc:List.replicate k none ++ eB ix δ=c0 at e
 refine ⟨λi m ys τ H2=>m=ds.length - i /\ i<=ds.length /\ aL H1 H2 /\ Rel K O' U A0 τ c0 H2 /\ ys.length<=i /\ ∃ zs rest,cx K (wo H2 (U ++ A0)) ys zs /\
  m9 (λd=>(gt d c0).bind λfh=>(gc fh).bind λb=>if b=true then (ge fh).map some else some none) (ds.drop i)=some rest /\ zs ++ rest=xs,
  ⟨ds.length,by simp,Nat.zero_le _,aL.refl _,hc ▸ (R.same s).R5 k h1 h2 h3,Nat.le_refl _,[],xs,.nil,by simpa using e,rfl⟩,?_⟩
 rintro i m ys τ H2 ⟨rfl,hle,s2,R2,Ox,zs,rest,hz,he,hx⟩
 refine ⟨by omega,?_⟩
 obtain ⟨Of,rR⟩:=hw i H2 s2
 by_cases iG:i < ds.length
 .have hd:=acL iG
  have BU:=ael iG
  generalize ds[i]=d at hd BU
  obtain ⟨go,Qm⟩:=Of d hd
  rw [BU,m9] at he
  obtain ⟨o,e1,e2⟩:=bind1 he
  obtain ⟨rs,e3,e4⟩:=bind1 e2
  obtain ⟨fh,f1,f2⟩:=bind1 e1
  obtain ⟨b,f3,f4⟩:=bind1 f2
  have f1':=f1
  rw [<- hc] at f1'
  obtain ⟨jC,ol,oe⟩:=own d _ fh f1'
  refine .inr ⟨go,by omega,λv H3 y=>?_⟩
  obtain ⟨s3,hv⟩:=Qm v H3 y
  refine ⟨U,A0,_,d,fh,R2.same s3,hv,f1,λAc R3=>⟨U,A0,fh,b,R3,f3,λH4 s4=>?_⟩⟩
  have wk:∀ {H':Hp},aL H3 H'->Rel K O' U A0 Ac c0 H':=λ{H'} s'=>by
   rw [<- hc,<- ol]
   rw [oe] at R3
   exact (R3.same s').RZ λi hi=>by rw [ol]; exact h2 i hi
  cases b with
  | true=>
    rw [acU rfl] at f4
    show (if true=true then _ else _)
    rw [acU rfl]
    cases eg:ge fh with
    | none=>rw [eg] at f4; cases f4
    | some x=>
      rw [eg] at f4; cases f4
      cases e4
      refine ⟨U,A0,fh,x,R3.same s4,eg,λu H5 s5 hu=>⟨ds.length - (i + 1),by omega,rfl,iG,((s2.trans s3).trans s4).trans s5,wk (s4.trans s5),by simp; omega,zs ++ [x],rs,?_,e3,by rw [<- hx]; simp⟩⟩
      exact (hz.same (b9 ((s3.trans s4).trans s5))).app (.cons hu .nil)
  | false=>
    rw [acW acP] at f4
    show (if false=true then _ else _)
    rw [acW acP]
    cases f4
    cases e4
    exact ⟨ds.length - (i + 1),by omega,rfl,iG,(s2.trans s3).trans s4,wk s4,by omega,zs,rs,hz.same (b9 (s3.trans s4)),e3,hx⟩
 .have hi:i=ds.length:=by omega
  subst hi
  rw [afm,m9] at he
  cases he
  rw [adV] at hx
  subst hx
  exact .inl ⟨rR rfl,λp hp=>rJ (s.trans s2) q p ys hp hz⟩
end
section
variable {X:Cx} {O:List Nat} {scope:Scope} {elt iter tg:Expr} {ifs:List Expr} {pos:Pos} {gi:DS->Option (List D)} {ge:DS->Option D} {gt:D->DS->Option DS} {gc:DS->Option Bool} {k:Nat}
set_option tactic.hygienic true in
theorem GK (O':List Nat) (sc:Scope) (N:List Str) (ix:List Nat) (N' xs:List Str) (own:Mk k gt) (hi:PI X tg iter (L9 X.K O gi))
  (hg:∀ cl C s2 H2 fp pins,PG (cm X scope N' cl C s2 H2 fp pins) tg (tG X.K O' gt)) (hf:∀ cl C s2 H2 fp pins,PF (cm X scope N' cl C s2 H2 fp pins) ifs (tT X.K O' gc)) (r9:∀ cl C s2 H2 fp pins,PE (cm X scope N' cl C s2 H2 fp pins) elt (tE X.K O' ge))
  (h1:∀ t,t < ix.length->(ix.getD t 0∈O↔k + t∈O'):=by decide) (h2:∀ i∈O',k<=i:=by decide) (h3:ix.Nodup:=by decide) (hk:lJ sc scope N xs ix N'=true:=by decide +kernel) (hl:xs.length=k:=by rfl)
  (e1:X.env.scope=sc:=by rfl) (e2:X.N=N:=by rfl) (hc:X.calm=true:=by rfl) (hs:∀ x,foldedSetIterable iter X.env x=pure x:=by intro _; rfl):PE X (.ListComp elt [⟨tg,iter,ifs,0⟩] scope pos) (tN X.K O (bU gi k ix gt gc ge)):=by
 subst hl
 refine (uO (m8 hk e1 e2) hc hi hg hf r9 hs).mono λ_ _ _ h=>?_
 obtain ⟨U,A0,δ,xs,R,ed,q⟩:=h
 obtain ⟨ds,e1,e2⟩:=bind1 ed
 split at e2
 .rename_i hl
  exact ⟨U,A0,δ,ds,R,e1,λJ H1 s hw=>DV own R s h1 h2 h3 hw hl e2 q⟩
 .cases e2
end
end L2
namespace Q1
structure n4 (n d t b:Int):Prop where
 pos:1<=d
 GL:Int.gcd n d=1
 eq:n * b=t * d
theorem vX {a b:Int}:Int.gcd a b=1↔Nat.Coprime a.natAbs b.natAbs:=Iff.rfl
theorem gF {a b:Int} (h:Int.gcd a b=1):Int.gcd b a=1:=by rw [Int.gcd_comm]; exact h
theorem qR {a b c:Int} (h1:Int.gcd a c=1) (h2:Int.gcd b c=1):Int.gcd (a * b) c=1:=by
 rw [vX] at *
 rw [agx]
 exact Nat.Coprime.mul_left h1 h2
theorem oF {a b c:Int} (h1:Int.gcd a b=1) (h2:Int.gcd a c=1):Int.gcd a (b * c)=1:=gF (qR (gF h1) (gF h2))
theorem qS {a b c:Int} (h:Int.gcd b c=1) (d:a ∣ b):Int.gcd a c=1:=by
 rw [vX] at *
 exact Nat.Coprime.coprime_dvd_left (Int.natAbs_dvd_natAbs.mpr d) h
theorem oG {a b c:Int} (h:Int.gcd c b=1) (d:a ∣ b):Int.gcd c a=1:=gF (qS (gF h) d)
theorem ku {a b c:Int} (h:Int.gcd a b=1) (d:a ∣ b * c):a ∣ c:=by
 rw [vX] at h
 rw [<- Int.natAbs_dvd_natAbs] at *
 rw [agx] at d
 exact Nat.Coprime.dvd_of_dvd_mul_left h d
theorem n4.qT {n d t b:Int} (h:n4 n d t b):n ∣ t:=ku h.GL ⟨b,by rw [h.eq]; exact aeU _ _⟩
theorem n4.vY {n d t b:Int} (h:n4 n d t b):d ∣ b:=ku (gF h.GL) ⟨t,by rw [h.eq]; exact aeU _ _⟩
theorem cu {a b:Int} (h:a ∣ b) (hb:b≠0):a.natAbs<=b.natAbs:=agT (by omega) (Int.natAbs_dvd_natAbs.mpr h)
theorem n4.An {n d t b:Int} (h:n4 n d t b) (hb:b≠0):n.natAbs<=t.natAbs:=by
 by_cases ht:t=0
 .have e:=h.eq
  rw [ht,Int.zero_mul] at e
  rcases Int.mul_eq_zero.mp e with z | z
  .rw [z,ht]; exact ac1 _
  .exact absurd z hb
 .exact cu h.qT ht
theorem n4.bot_le {n d t b:Int} (h:n4 n d t b) (hb:b≠0):d.natAbs<=b.natAbs:=cu h.vY hb
theorem n4.uniq {n d n' d' t b:Int} (h:n4 n d t b) (h':n4 n' d' t b) (hb:b≠0):n=n' /\ d=d':=by
 have e:n * d'=n' * d:=by
  have e1:=h.eq
  have e2:=h'.eq
  have:b * (n * d')=b * (n' * d):=by grind
  exact Int.eq_of_mul_eq_mul_left hb this
 have hd:d=d':=by
  have a1:d ∣ d':=ku (gF h.GL) ⟨n',by rw [e]; exact aeU _ _⟩
  have a2:d' ∣ d:=ku (gF h'.GL) ⟨n,by rw [<- e]; exact aeU _ _⟩
  have p:=h.pos
  have p':=h'.pos
  have b1:=cu a1 (by omega)
  have b2:=cu a2 (by omega)
  omega
 subst hd
 have p:=h.pos
 exact ⟨Int.eq_of_mul_eq_mul_right (by omega) e,rfl⟩
theorem uW {t b:Int} (hb:b≠0):∃ t' b':Int,0 < (Int.gcd t b:Int) /\ t=t' * (Int.gcd t b:Int) /\ b=b' * (Int.gcd t b:Int) /\ Int.gcd t' b'=1:=by
 have hp:0 < Int.gcd t b:=afd _ hb
 refine ⟨t / (Int.gcd t b:Int),b / (Int.gcd t b:Int),by omega,(Int.ediv_mul_cancel (Int.gcd_dvd_left _ _)).symm,(Int.ediv_mul_cancel (Int.gcd_dvd_right _ _)).symm,Int.gcd_ediv_gcd_ediv_gcd hp⟩
def dv (t b:Int):Int:=if b < 0 then -(Int.gcd t b:Int) else (Int.gcd t b:Int)
theorem R6 {t b:Int} (hb:b≠0):dv t b≠0:=by
 have hp:0 < Int.gcd t b:=afd _ hb
 unfold dv; split <;> omega
theorem Kb {t b:Int} (hb:b≠0):n4 (t.fdiv (dv t b)) (b.fdiv (dv t b)) t b:=by
 obtain ⟨t',b',hp,et,eb,c⟩:=uW (t:=t) hb
 unfold dv
 generalize (Int.gcd t b:Int)=g at *
 subst et eb
 by_cases hs:b' * g < 0
 .rw [acU hs]
  have e1:(t' * g).fdiv (-g)= -t':=by
   have:t' * g=(-t') * (-g):=by grind
   rw [this]; exact afq _ (by omega)
  have e2:(b' * g).fdiv (-g)= -b':=by
   have:b' * g=(-b') * (-g):=by grind
   rw [this]; exact afq _ (by omega)
  rw [e1,e2]
  have B5:b' < 0:=by
   rcases afU b' 0 with z | z | z
   .exact z
   .subst z; simp at hb
   .have:=ae7 z hp; omega
  refine ⟨by omega,?_,by grind⟩
  rw [Int.neg_gcd,Int.gcd_neg]; exact c
 .rw [acW hs]
  rw [afq _ (by omega),afq _ (by omega)]
  have B5:0 < b':=by
   rcases afU b' 0 with z | z | z
   .exact absurd (afn z hp) hs
   .subst z; simp at hb
   .exact z
  exact ⟨by omega,c,by grind⟩
theorem GN {n1 d1 n2 d2 l0 l1 r0 r1:Int} (h1:Int.gcd n1 d1=1) (h2:Int.gcd n2 d2=1) (hl:n4 l0 l1 n1 d2) (hr:n4 r0 r1 n2 d1):n4 (l0 * r0) (l1 * r1) (n1 * n2) (d1 * d2):=by
 have p1:=hl.pos
 have p2:=hr.pos
 have e1:=hl.eq
 have e2:=hr.eq
 refine ⟨?_,qR (oF hl.GL ?_) (oF ?_ hr.GL),?_⟩
 .have:=ae7 (show 0 < l1 by omega) (show 0 < r1 by omega); omega
 .exact qS (oG h1 hr.vY) hl.qT
 .exact qS (oG h2 hl.vY) hr.qT
 .grind
theorem qr {a b c p:Int} (h:Int.gcd (a * b) p=1):Int.gcd (a * b + c * p) p=1:=by
 rw [Int.gcd_add_mul_right_left]
 exact h
theorem Kc {n1 d1 n2 d2 g p1 p2 r0 r1:Int} (h1:Int.gcd n1 d1=1) (h2:Int.gcd n2 d2=1) (Oy:1<=d1) (hd2:1<=d2) (hg:0 < g) (e1:d1=p1 * g) (e2:d2=p2 * g) (hc:Int.gcd p1 p2=1) (hr:n4 r0 r1 (n1 * p2 + n2 * p1) g):
  n4 r0 (p1 * p2 * r1) (n1 * d2 + n2 * d1) (d1 * d2):=by
 have p:=hr.pos
 have q1:0 < p1:=by
  rcases afU p1 0 with z | z | z
  .have:=afn z hg; omega
  .subst z; simp at e1; omega
  .exact z
 have q2:0 < p2:=by
  rcases afU p2 0 with z | z | z
  .have:=afn z hg; omega
  .subst z; simp at e2; omega
  .exact z
 have c1:Int.gcd n1 p1=1:=oG h1 ⟨g,e1⟩
 have c2:Int.gcd n2 p2=1:=oG h2 ⟨g,e2⟩
 have t1:Int.gcd (n1 * p2 + n2 * p1) p1=1:=qr (qR c1 (gF hc))
 have t2:Int.gcd (n1 * p2 + n2 * p1) p2=1:=by rw [Int.add_comm]; exact qr (qR c2 hc)
 refine ⟨?_,?_,?_⟩
 .have a:=ae7 q1 q2
  have b:=ae7 a (show 0 < r1 by omega)
  omega
 .exact oF (qS (oF t1 t2) hr.qT) hr.GL
 .have e:=hr.eq
  subst e1 e2
  grind
theorem GO {a b:Int}:Int.gcd b (a % b)=Int.gcd a b:=by
 have e:a=a % b + (a / b) * b:=by have:=Int.emod_add_ediv_mul a b; omega
 have h:Int.gcd (a % b + (a / b) * b) b=Int.gcd (a % b) b:=Int.gcd_add_mul_right_left ..
 rw [<- e] at h
 rw [h,Int.gcd_comm]
end Q1
namespace Q1
def br (t b:Int):Int×Int:=(t.fdiv (dv t b),b.fdiv (dv t b))
theorem c5 {t b:Int} (hb:b≠0):n4 (br t b).1 (br t b).2 t b:=Kb hb
theorem n4.qm {n d t b:Int} (h:n4 n d t b) (hb:b≠0):(n,d)=br t b:=by
 obtain ⟨a,c⟩:=h.uniq (c5 hb) hb
 exact Prod.ext a c
abbrev Qz:Int×Int:=(0,1)
theorem GP {t b:Int} (hb:b≠0):br t b=Qz↔t=0:=by
 constructor
 .intro h
  have e:=(c5 (t:=t) hb).eq
  rw [h] at e
  simpa using e.symm
 .rintro rfl
  exact ((⟨by decide,by decide,by simp⟩:n4 0 1 0 b).qm hb).symm
def trim (l:List (Int×Int)):List (Int×Int):=(l.reverse.dropWhile (λq=>decide (q=Qz))).reverse
theorem GQ (l:List (Int×Int)):trim (l ++ [Qz])=trim l:=by
 unfold trim
 rw [ae0]
 simp
theorem OW (l:List (Int×Int)) {q:Int×Int} (h:q≠Qz):trim (l ++ [q])=l ++ [q]:=by
 unfold trim
 rw [ae0]
 simp [h]
theorem snoc_cases (l:List (Int×Int)):l=[] \/ ∃ m q,l=m ++ [q]:=by
 rcases List.eq_nil_or_concat l with h | ⟨m,q,h⟩
 .exact .inl h
 .exact .inr ⟨m,q,by rw [h]; simp⟩
def oH (a b:Int×Int):Int×Int:=br (a.1 * b.2 + b.1 * a.2) (a.2 * b.2)
def jD (a b:Int×Int):Int×Int:=br (a.1 * b.1) (a.2 * b.2)
def TK (l:List (Int×Int)) (k:Nat):Int×Int:=l.getD k Qz
def TL (q:Int×Int):Prop:=1<=q.2 /\ Int.gcd q.1 q.2=1
theorem OX {t b:Int} (hb:b≠0):TL (br t b):=⟨(c5 hb).pos,(c5 hb).GL⟩
theorem GS {q:Int×Int} (h:TL q):br q.1 q.2=q:=((⟨h.1,h.2,rfl⟩:n4 q.1 q.2 q.1 q.2).qm (by have:=h.1; omega)).symm
theorem gG {t b t' b':Int} (hb:b≠0) (B5:b'≠0) (h:t * b'=t' * b):br t b=br t' b':=by
 have q:=c5 (t:=t) hb
 refine (n4.qm (n:=(br t b).1) (d:=(br t b).2) ⟨q.pos,q.GL,?_⟩ B5)
 have e:=q.eq
 refine Int.eq_of_mul_eq_mul_left hb ?_
 grind
theorem Kd (a:Int×Int) (h:TL a):jD a (-1,1)=(-a.1,a.2):=by
 unfold jD
 refine ((⟨h.1,by rw [Int.neg_gcd]; exact h.2,by simp⟩:n4 (-a.1) a.2 (a.1 * -1) (a.2 * 1)).qm ?_).symm
 have:=h.1
 simp; omega
end Q1
namespace Q1
end Q1
namespace Q1
def tab (n:Nat) (T:Nat->Int):List Int:=(List.range n).map T
theorem Ke {n p:Nat} {T:Nat->Int} {v:Int}:(tab n T).set p v=tab n λk=>if p=k then v else T k:=by
 unfold tab
 apply List.ext_getElem?
 intro i
 by_cases hi:i < n
 .by_cases e:p=i
  .subst e
   rw [List.getElem?_set_self (by simpa using hi),List.getElem?_map,List.getElem?_range hi]; simp
  .rw [adg e,adb,adb,afo hi]; simp [e]
 .rw [List.getElem?_eq_none (by simpa using hi),List.getElem?_eq_none (by simpa using hi)]
theorem Kf {n p:Nat} {T:Nat->Int} (h:p < n):(tab n T)[p]?=some (T p):=by
 unfold tab; rw [List.getElem?_map,List.getElem?_range h]; rfl
theorem Cd {n:Nat} {T:Nat->Int}:(tab n T).length=n:=by unfold tab; simp
theorem mq {n:Nat} {T S:Nat->Int} (h:∀ k,k < n->T k=S k):tab n T=tab n S:=adY λk hk=>h k (afK.mp hk)
def g9:List (Int×Int)->Nat->Nat
 | [],B=>B
 | q :: l,B=>g9 l (Nat.lcm B q.2.natAbs)
theorem yj:∀ (l:List (Int×Int)) (B:Nat),B ∣ g9 l B /\ ∀ q∈l,q.2 ∣ (g9 l B:Int)
 | [],B=>⟨Nat.dvd_refl B,λq hq=>by simp at hq⟩
 | a :: l,B=>by
   obtain ⟨h1,h2⟩:=yj l (Nat.lcm B a.2.natAbs)
   refine ⟨Nat.dvd_trans (Nat.dvd_lcm_left _ _) h1,λq hq=>?_⟩
   rcases acK.mp hq with z | z
   .subst z
    have:q.2.natAbs ∣ g9 l (Nat.lcm B q.2.natAbs):=Nat.dvd_trans (Nat.dvd_lcm_right _ _) h1
    rw [<- Int.natAbs_dvd]
    exact Int.natCast_dvd_natCast.mpr this
   .exact h2 q z
theorem oJ:∀ (l:List (Int×Int)) (B:Nat),0 < B->(∀ q∈l,q.2≠0)->0 < g9 l B
 | [],_,h,_=>h
 | a :: l,B,h,hq=>oJ l _ (Nat.lcm_pos h (by have:=hq a acR; omega)) λq z=>hq q (acO _ z)
theorem Ce {M:Nat} (hM:1<=M):∀ (l:List (Int×Int)) (B:Nat),(∀ q∈l,q.2.natAbs<=M)->g9 l B<=B * M ^ l.length
 | [],B,_=>by simp [g9]
 | a :: l,B,h=>by
   have ih:=Ce hM l (Nat.lcm B a.2.natAbs) λq z=>h q (acO _ z)
   rw [g9,ac3,Nat.pow_succ]
   refine ado ih ?_
   have h1:Nat.lcm B a.2.natAbs<=B * M:=ado (Nat.div_le_self _ _) (agh _ (h a acR))
   calc Nat.lcm B a.2.natAbs * M ^ l.length<=(B * M) * M ^ l.length:=ad9 _ h1
    _=B * (M ^ l.length * M):=by rw [Nat.mul_assoc,Nat.mul_comm M]
theorem GU (l m:List (Int×Int)) (B:Nat):g9 (l ++ m) B=g9 m (g9 l B):=by
 induction l generalizing B with
 | nil=>rfl
 | cons a l ih=>rw [ae4,g9,ih,g9]
end Q1
namespace Q1
theorem yk (l:List (Int×Int)):∀ n,trim (l ++ List.replicate n Qz)=trim l
 | 0=>by simp
 | n + 1=>by
   rw [List.replicate_succ',<- List.append_assoc,GQ,yk l n]
def OY (ts:List Int) (B:Int):List (Int×Int):=trim (ts.map λt=>br t B)
end Q1
namespace ED
def ch:Nat->Nat->Nat
 | _,0=>1
 | 0,_ + 1=>0
 | n + 1,k + 1=>ch n k + ch n (k + 1)
theorem oK (n:Nat):ch n 0=1:=by cases n <;> rfl
theorem sk:∀ n k,n < k->ch n k=0
 | _,0,h=>absurd h (Nat.not_lt_zero _)
 | 0,_ + 1,_=>rfl
 | n + 1,k + 1,h=>by
   show ch n k + ch n (k + 1)=0
   rw [sk n k (by omega),sk n (k + 1) (by omega)]
theorem oM:∀ n k,k<=n->(k + 1) * ch n (k + 1)=(n - k) * ch n k
 | 0,k,h=>by
   have:k=0:=by omega
   subst this; rfl
 | n + 1,0,_=>by
   show (0 + 1) * (ch n 0 + ch n 1)=(n + 1 - 0) * ch (n + 1) 0
   have ih:=oM n 0 (aek _)
   rw [oK] at ih
   rw [oK,oK]
   have ih':(0 + 1) * ch n 1=(n - 0) * 1:=ih
   simp only [aeh,Nat.one_mul,Nat.sub_zero,Nat.mul_one] at ih' ⊢
   omega
 | n + 1,k + 1,h=>by
   show (k + 1 + 1) * (ch n (k + 1) + ch n (k + 1 + 1))=(n + 1 - (k + 1)) * (ch n k + ch n (k + 1))
   have i1:=oM n k (by omega)
   have e:n + 1 - (k + 1)=n - k:=by omega
   rw [e,Nat.mul_add,Nat.mul_add,<- i1]
   by_cases hk:k + 1<=n
   .have i2:=oM n (k + 1) hk
    rw [i2,<- Nat.add_mul,<- Nat.add_mul]
    congr 1
    omega
   .have Ma:k=n:=by omega
    subst Ma
    rw [sk k (k + 1) (by omega),sk k (k + 1 + 1) (by omega)]
    simp
def sg (k:Nat):Int:=1 - 2 * ((k:Int) % 2)
theorem Kg (k:Nat):sg (k + 1)= - sg k:=by unfold sg; omega
def tp (n k:Nat):Int:=(ch n k:Int) * sg k
theorem kx (n:Nat):tp n 0=1:=by unfold tp; rw [oK]; rfl
theorem Cf (n k:Nat) (h:k<=n): -(tp n k) * ((n:Int) - (k:Int)) / ((k:Int) + 1)=tp n (k + 1):=by
 have e: -(tp n k) * ((n:Int) - (k:Int))=tp n (k + 1) * ((k:Int) + 1):=by
  unfold tp
  rw [Kg]
  have i:=oM n k h
  have i':((k:Int) + 1) * (ch n (k + 1):Int)=((n:Int) - (k:Int)) * (ch n k:Int):=by
   have:(((k + 1) * ch n (k + 1):Nat):Int)=(((n - k) * ch n k:Nat):Int):=by rw [i]
   rw [Int.natCast_mul,Int.natCast_mul,Int.natCast_sub h] at this
   simpa using this
  have a1: -((ch n k:Int) * sg k) * ((n:Int) - (k:Int))= -(((n:Int) - (k:Int)) * (ch n k:Int) * sg k):=by
   rw [Int.neg_mul,Int.mul_right_comm,aeU (ch n k:Int)]
  have a2:(ch n (k + 1):Int) * -sg k * ((k:Int) + 1)= -(((k:Int) + 1) * (ch n (k + 1):Int) * sg k):=by
   rw [Int.mul_neg,Int.neg_mul,Int.mul_right_comm,aeU (ch n (k + 1):Int)]
  rw [a1,a2,i']
 rw [e]
 exact agi _ (by omega)
def row (n:Nat):List Int:=(List.range (n + 1)).map λj=>(ch n j:Int)
end ED
namespace Q1
theorem oN {a b c d:Int} (hb:b≠0) (hd:d≠0):jD (br a b) (br c d)=br (a * c) (b * d):=by
 have e1:=(c5 (t:=a) hb).eq
 have e2:=(c5 (t:=c) hd).eq
 have p1:=(c5 (t:=a) hb).pos
 have p2:=(c5 (t:=c) hd).pos
 unfold jD
 generalize br a b=x at *
 generalize br c d=y at *
 refine gG (adl (by omega) (by omega)) (adl hb hd) ?_
 have:x.1 * y.1 * (b * d)=(x.1 * b) * (y.1 * d):=by grind
 rw [this,e1,e2]; grind
theorem oO {a b c d:Int} (hb:b≠0) (hd:d≠0):oH (br a b) (br c d)=br (a * d + c * b) (b * d):=by
 have e1:=(c5 (t:=a) hb).eq
 have e2:=(c5 (t:=c) hd).eq
 have p1:=(c5 (t:=a) hb).pos
 have p2:=(c5 (t:=c) hd).pos
 unfold oH
 generalize br a b=x at *
 generalize br c d=y at *
 refine gG (adl (by omega) (by omega)) (adl hb hd) ?_
 have:(x.1 * y.2 + y.1 * x.2) * (b * d)=(x.1 * b) * (y.2 * d) + (y.1 * d) * (x.2 * b):=by grind
 rw [this,e1,e2]; grind
end Q1
namespace aA
open PySem L2 Q1
abbrev bt (x:Int):Nat:=Builtin.Int.intBits x
theorem bY {m:Nat} {x:Int} (h:x.natAbs < 2 ^ m):bt x<=m:=intBits_le_iff.mpr h
theorem R7 {m:Nat} {x:Int} (h:bt x<=m):x.natAbs < 2 ^ m:=intBits_le_iff.mp h
theorem dn {m n:Nat} {x y:Int} (h1:bt x<=m) (h2:bt y<=n):bt (x * y)<=m + n:=intBits_mul_le h1 h2
theorem GV {m:Nat} {x y:Int} (h1:bt x<=m) (h2:bt y<=m):bt (x + y)<=m + 1:=by
 have:=intBits_add_le h1 h2
 rw [Nat.max_self] at this
 exact this
theorem GW {m:Nat} {x:Int} (h:bt x<=m):bt (-x)<=m:=intBits_neg_le h
theorem iO {m:Nat} {x y:Int} (h:x.natAbs<=y.natAbs) (hy:bt y<=m):bt x<=m:=intBits_le_of_natAbs h hy
theorem aJ {m n:Nat} {x:Int} (h:bt x<=m) (h2:m<=n):bt x<=n:=ado h h2
theorem OZ {m:Nat} {x:Int} (h:bt x<=m) (k:Nat):bt (x ^ k)<=m * k + 1:=by
 have:=intBits_pow_le h k
 omega
theorem iP {m n:Nat} {x y:Int} (h1:bt x<=m) (h2:bt y<=n) (h:m + n<=134217728:=by omega):IntMulOk x y:=IntMulOk.of_le h1 h2 h
theorem vZ (i:Int):(if i < 0 then -i else i)=(i.natAbs:Nat):=by split <;> omega
theorem eE {a b:Int} (h:IntMulOk a b):cb (.int a) (.int b)=some (.int (a * b)):=rL h
theorem jb {a b:Int} (h:0 < b):gU (.int a) (.int b)=some (.int (a % b)):=by
 rw [<- Int.fmod_eq_emod_of_nonneg _ (Int.le_of_lt h)]
 exact rL (C:=λ_ j=>j≠0) (by omega)
theorem oP {a b:Int} (h:0 < b) (hb:bt b<=9000):ly (.int a) (.int b)=some (.int (a / b)):=by
 rw [<- Int.fdiv_eq_ediv_of_nonneg _ (Int.le_of_lt h)]
 exact rL (C:=BH) ⟨by omega,uA hb⟩
theorem v5 {a b:Int} (h:b≠0) (hb:bt b<=9000):ly (.int a) (.int b)=some (.int (a.fdiv b)):=rL (C:=BH) ⟨h,uA hb⟩
theorem Cg {a:Int} {k:Nat} (h:a.natAbs < 2 ^ 64) (hk:k<=1000000):lz (.int a) (.int k)=some (.int (a ^ k)):=by
 have:=rL (C:=Nm) (g:=λi j=>.int (i ^ j.toNat)) (a:=a) (b:=k) ⟨by omega,by omega,h⟩
 simpa using this
theorem O0 {α:Type} {x:α} {xs:List α}:o7 (x :: xs) 0=some x:=iR (j:=0) rfl
theorem R8 {α:Type} {x y:α} {xs:List α}:o7 (x :: y :: xs) 1=some y:=iR (j:=1) rfl
theorem Ci {α:Type} {xs:List α} {x:α} (h:xs[xs.length - 1]?=some x):o7 xs (-1)=some x:=Ft h
def hJ {β:Type} (x:Option β) (P:β->Prop):Prop:=∃ d,x=some d /\ P d
theorem aT {β:Type} {x:Option β} {d:β} (h:hJ x λy=>y=d):x=some d:=by
 obtain ⟨y,e,rfl⟩:=h; exact e
theorem hJ.mk {β:Type} {x:Option β} {P:β->Prop} {d:β} (e:x=some d) (h:P d):hJ x P:=⟨d,e,h⟩
theorem mr {a b:DS->Option Res} {δ δ':DS} (h:a δ=some (.nx δ')):av a b δ=b δ':=by
 unfold av; rw [h]; rfl
theorem Kh {a b:DS->Option Res} {δ:DS} {d:D} (h:a δ=some (.rt d)):av a b δ=some (.rt d):=by
 unfold av; rw [h]; rfl
theorem so {c:DS->Option Bool} {b:DS->Option Res} (W:Nat->DS->Prop) (Z:DS->Prop) (m:Nat) {δ:DS} (h:W m δ)
  (hs:∀ m δ,W m δ->(c δ=some false /\ Z δ) \/ (c δ=some true /\ ∃ δ' m',b δ=some (.nx δ') /\ m' < m /\ W m' δ')):∃ δ',eS c b δ=some (.nx δ') /\ Z δ':=by
 obtain ⟨q,h1,δ',rfl,h2⟩:=Dm W (λ_ q=>∃ δ',q=.nx δ' /\ Z δ') m δ h (λm δ hW=>by
  rcases hs m δ hW with ⟨a,z⟩ | ⟨a,δ',m',e,l,w⟩
  .exact .inl ⟨a,δ,rfl,z⟩
  .exact .inr ⟨a,.inl ⟨δ',m',.inl e,l,w,λq hq=>hq⟩⟩)
 exact ⟨δ',h1,h2⟩
theorem ym {t:D->DS->Option DS} {b:DS->Option Res} (W:Nat->DS->Prop):∀ (ds:List D) (k:Nat) {δ:DS},W k δ->(∀ i d δ,ds[i]?=some d->W (k + i) δ->∃ fh δ',t d δ=some fh /\ b fh=some (.nx δ') /\ W (k + i + 1) δ')->
  ∃ δ',oA t b ds δ=some (.nx δ') /\ W (k + ds.length) δ'
 | [],k,δ,h,_=>⟨δ,rfl,h⟩
 | d :: ds,k,δ,h,hs=>by
   obtain ⟨fh,δ',e1,e2,h'⟩:=hs 0 d δ rfl h
   obtain ⟨TM,e3,h2⟩:=ym W ds (k + 1) h' (λi d δ e w=>by
    have:=hs (i + 1) d δ (by simpa using e) (by rw [show k + (i + 1)=k + 1 + i by omega]; exact w)
    rw [show k + (i + 1) + 1=k + 1 + i + 1 by omega] at this
    exact this)
   refine ⟨TM,?_,by rw [ac3,show k + (ds.length + 1)=k + 1 + ds.length by omega]; exact h2⟩
   rw [oA,e1,acJ,e2,acJ]
   exact e3
theorem qU {α:Type} {t:D->DS->Option DS} {b:DS->Option Res} (enc:α->D) (W:Nat->DS->Prop) (xs:List α) {δ:DS} (h:W 0 δ)
  (hs:∀ i x δ,xs[i]?=some x->W i δ->∃ fh δ',t (enc x) δ=some fh /\ b fh=some (.nx δ') /\ W (i + 1) δ'):∃ δ',oA t b (xs.map enc) δ=some (.nx δ') /\ W xs.length δ':=by
 obtain ⟨δ',e,w⟩:=ym (t:=t) (b:=b) W (xs.map enc) 0 h (λi d δ e w=>by
  rw [adb] at e
  cases ex:xs[i]? with
  | none=>rw [ex] at e; cases e
  | some x=>
    rw [ex] at e; cases e
    rw [aeh] at w ⊢
    exact hs i x δ ex w)
 rw [aeh,acH] at w
 exact ⟨δ',e,w⟩
theorem yn {t:D->DS->Option DS} {b:DS->Option Res} {lo:Int} {n:Nat} (W:Nat->DS->Prop) {δ:DS} (h:W 0 δ)
  (hs:∀ i δ,i < n->W i δ->∃ fh δ',t (.int (lo + i)) δ=some fh /\ b fh=some (.nx δ') /\ W (i + 1) δ'):∃ δ',oA t b (g7 lo n) δ=some (.nx δ') /\ W n δ':=by
 obtain ⟨δ',e,w⟩:=qU (t:=t) (b:=b) (λk:Nat=>PyData.int (lo + k)) W (List.range n) h (λi x δ e w=>by
  have hi:=(acN.mp e).1
  rw [afg] at hi
  rw [afo hi] at e
  cases e
  exact hs i δ hi w)
 rw [afg] at w
 exact ⟨δ',e,w⟩
theorem jX {c:DS->Option Bool} {b rest:DS->Option Res} {β:Type} {f:Res->Option β} {R:β->Prop} {δ:DS} (W:Nat->DS->Prop) (Z:DS->Prop) (m:Nat) (h:W m δ)
  (hs:∀ m δ,W m δ->(c δ=some false /\ Z δ) \/ (c δ=some true /\ ∃ δ' m',b δ=some (.nx δ') /\ m' < m /\ W m' δ')) (k:∀ δ',Z δ'->hJ ((rest δ').bind f) R):hJ ((av (eS c b) rest δ).bind f) R:=by
 obtain ⟨δ',h1,h2⟩:=so W Z m h hs
 rw [mr h1]
 exact k δ' h2
theorem fO {α:Type} {t:D->DS->Option DS} {gi:DS->Option (List D)} {b rest:DS->Option Res} {β:Type} {f:Res->Option β} {R:β->Prop} {δ:DS} (enc:α->D) (xs:List α) (W:Nat->DS->Prop) (hi:gi δ=some (xs.map enc)) (h:W 0 δ)
  (hs:∀ i x δ,xs[i]?=some x->W i δ->∃ fh δ',t (enc x) δ=some fh /\ b fh=some (.nx δ') /\ W (i + 1) δ') (k:∀ δ',W xs.length δ'->hJ ((rest δ').bind f) R):hJ ((av (eT gi t b) rest δ).bind f) R:=by
 obtain ⟨δ',h1,h2⟩:=qU (t:=t) (b:=b) enc W xs h hs
 rw [mr (δ':=δ') (by unfold eT; rw [hi]; exact h1)]
 exact k δ' h2
theorem jY {t:D->DS->Option DS} {gi:DS->Option (List D)} {b rest:DS->Option Res} {β:Type} {f:Res->Option β} {R:β->Prop} {δ:DS} (lo:Int) (n:Nat) (W:Nat->DS->Prop) (hi:gi δ=some (g7 lo n)) (h:W 0 δ)
  (hs:∀ i δ,i < n->W i δ->∃ fh δ',t (.int (lo + i)) δ=some fh /\ b fh=some (.nx δ') /\ W (i + 1) δ') (k:∀ δ',W n δ'->hJ ((rest δ').bind f) R):hJ ((av (eT gi t b) rest δ).bind f) R:=by
 obtain ⟨δ',h1,h2⟩:=yn (t:=t) (b:=b) W h hs
 rw [mr (δ':=δ') (by unfold eT; rw [hi]; exact h1)]
 exact k δ' h2
theorem aE {a rest:DS->Option Res} {β:Type} {f:Res->Option β} {R:β->Prop} {δ:DS} (δ':DS) (h:a δ=some (.nx δ')) (k:hJ ((rest δ').bind f) R):hJ ((av a rest δ).bind f) R:=by
 rw [mr h]; exact k
theorem lL {c:DS->Option Bool} {a rest:DS->Option Res} {β:Type} {f:Res->Option β} {R:β->Prop} {δ:DS} (h:c δ=some false) (k:hJ ((rest δ).bind f) R):hJ ((av (j8 c a cN) rest δ).bind f) R:=by
 rw [mr (δ':=δ) (by unfold j8; rw [h]; rfl)]; exact k
theorem qV {c:DS->Option Bool} {a b rest:DS->Option Res} {β:Type} {f:Res->Option β} {R:β->Prop} {δ:DS} (x:Bool) (h:c δ=some x) (k1:x=true->hJ ((av a rest δ).bind f) R) (k2:x=false->hJ ((av b rest δ).bind f) R):hJ ((av (j8 c a b) rest δ).bind f) R:=by
 have e:j8 c a b δ=if x=true then a δ else b δ:=by unfold j8; rw [h]; rfl
 cases x with
 | true=>rw [if_pos rfl] at e; have:=k1 rfl; unfold av at this ⊢; rw [e]; exact this
 | false=>rw [if_neg Bool.false_ne_true] at e; have:=k2 rfl; unfold av at this ⊢; rw [e]; exact this
theorem qW {g:DS->Option D} {rest:DS->Option Res} {β:Type} {f:Res->Option β} {R:β->Prop} {δ:DS} (d:D) (h:g δ=some d) (k:hJ (f (.rt d)) R):hJ ((av (bT g) rest δ).bind f) R:=by
 rw [Kh (d:=d) (by unfold bT; rw [h]; rfl)]; exact k
theorem ret {g:DS->Option D} {β:Type} {f:Res->Option β} {R:β->Prop} {δ:DS} (d:D) (h:g δ=some d) (k:hJ (f (.rt d)) R):hJ ((bT g δ).bind f) R:=by
 unfold bT; rw [h]; exact k
theorem bO {a b:DS->Option Res} {δ:DS} {r:Option Res} (δ':DS) (h:a δ=some (.nx δ')) (k:b δ'=r):av a b δ=r:=(mr h).trans k
theorem GX {c:DS->Option Bool} {a:DS->Option Res} {δ:DS} (h:c δ=some false):j8 c a cN δ=some (.nx δ):=by unfold j8; rw [h]; rfl
theorem GY {rest:DS->Option Res} {δ:DS}:av cN rest δ=rest δ:=rfl
theorem seq_assoc {a b c:DS->Option Res} {δ:DS}:av (av a b) c δ=av a (av b c) δ:=by
 unfold av
 cases a δ with
 | none=>rfl
 | some r=>cases r <;> rfl
theorem Cj {α β:Type} {f:D->Option D} (enc:α->D) (ky:β->D) (h:α->β):∀ (l:List α),(∀ a∈l,f (enc a)=some (ky (h a)))->FI f (l.map enc)=some ((l.map h).map ky)
 | [],_=>rfl
 | a :: l,hf=>by
   rw [acQ,FI,hf a acR,acJ,Cj enc ky h l λb hb=>hf b (acO _ hb)]
   rfl
theorem dY {α β:Type} (enc:α->D) (ky:β->D) (h:α->β) {gi:DS->Option (List D)} {ix:List Nat} {ge:DS->Option D} {δ:DS} (l:List α) (hi:gi δ=some (l.map enc)) (hn:l.length<=100000)
  (hf:∀ a∈l,ge (some (enc a) :: eB ix δ)=some (ky (h a))):cD gi ix ge δ=some ((l.map h).map ky):=by
 unfold cD
 rw [hi,acJ,acU (by rw [acH]; exact hn)]
 exact Cj enc ky h l hf
theorem Mm (a b:eA):md (dF a) (dF b)=some (.bool (decide (a=b))):=by
 show (if (SeqAt.shaped (dF a) && SeqAt.shaped (dF b))=true then some (PyData.bool (PyData.eqv (dF a) (dF b))) else none)=_
 rw [LU,LU,Fq]; rfl
theorem GZ (a b:List eA):md (dP a) (dP b)=some (.bool (decide (a=b))):=by
 show (if (SeqAt.shaped (dP a) && SeqAt.shaped (dP b))=true then some (PyData.bool (PyData.eqv (dP a) (dP b))) else none)=_
 rw [LV,LV,NX]; rfl
theorem Ki (i:Int):Oa "int" [.int i]=some (.bool true):=rfl
theorem Kj (i:Int):Oa "bool" [.int i]=some (.bool false):=rfl
theorem v7 (a b:Int):md (.int a) (.int b)=some (.bool (decide (a=b))):=rfl
theorem nh (a b:Int):EA (.int a) (.int b)=some (.bool (!decide (a=b))):=rfl
theorem G0 {a b:D} {c:Bool} (h:md a b=some (.bool c)):EA a b=some (.bool (!c)):=by unfold EA; rw [h]; rfl
theorem Ck {ga:DS->Option (List D)} {gb:DS->Option D} {δ:DS} {ds:List D} {n:Nat} (h1:ga δ=some ds) (h2:gb δ=some (.int (n:Nat))) (h3:n<=100000) (h4:ds.length * n<=100000):xR ga gb δ=some (List.replicate n ds).flatten:=by
 unfold xR
 rw [h1,h2,acJ,acJ]
 show (if ((n:Nat):Int) < 2 ^ 62 /\ -(2 ^ 62) < ((n:Nat):Int) /\ ds.length * ((n:Nat):Int).toNat<=100000 then some (List.replicate ((n:Nat):Int).toNat ds).flatten else none)=_
 rw [adA,acU ⟨by omega,by omega,h4⟩]
theorem hV {g:DS->Option (List D)} {δ:DS} {n:Nat} (h:g δ=some [.int (n:Nat)]) (hn:n<=100000):fN g δ=some (g7 0 n):=by
 unfold fN
 rw [h,acJ]
 show (if -(2 ^ 62)<=((n:Nat):Int) /\ ((n:Nat):Int) < 2 ^ 62 then some (g7 0 ((n:Nat):Int).toNat) else none)=_
 rw [adA,acU ⟨by omega,by omega⟩]
theorem DW {g:DS->Option (List D)} {δ:DS} {a b:Int} (h:g δ=some [.int a,.int b]) (h1: -100000<=a) (h2:a<=100000) (h3: -100000<=b) (h4:b<=100000):qN g δ=some (g7 a (b - a).toNat):=by
 unfold qN
 rw [h,acJ]
 show (if -(2 ^ 62)<=a /\ a < 2 ^ 62 /\ -(2 ^ 62)<=b /\ b < 2 ^ 62 then some (g7 a (b - a).toNat) else none)=_
 rw [acU ⟨by omega,by omega,by omega,by omega⟩]
theorem call_of {G:List D->Option D} {n:Nat} {g:DS->Option (List D)} {δ:DS} {ds:List D} {r:Option D} (h:g δ=some ds) (hn:ds.length=n) (hG:G ds=r):az G n g δ=r:=by
 unfold az; rw [h,Option.bind_some,if_pos hn]; exact hG
theorem be {G:List D->Option (List D)} {n:Nat} {g:DS->Option (List D)} {δ:DS} {ds:List D} {r:Option (List D)} (h:g δ=some ds) (hn:ds.length=n) (hG:G ds=r):aW G n g δ=r:=by
 unfold aW; rw [h,Option.bind_some,if_pos hn]; exact hG
theorem aN {g:DS->Option (List D)} {δ:DS} {l:List D} (h:g δ=some l):aP g δ=some (.list l):=by unfold aP; rw [h]; rfl
theorem cons_of {a:DS->Option D} {r:DS->Option (List D)} {δ:DS} {x:D} {xs:List D} (h:a δ=some x) (h2:r δ=some xs):aa a r δ=some (x :: xs):=by unfold aa; rw [h,h2]; rfl
theorem aK {i:Nat} {g:DS->Option D} {δ:DS} {d:D} (h:g δ=some d):aQ i g δ=some (.nx (δ.set i (some d))):=by unfold aQ; rw [h]; rfl
theorem v8 {i:Nat} {g:DS->Option (List D)} {δ:DS} {d:List D} (h:g δ=some d):gg i g δ=some (.nx (δ.set i (some (.list d)))):=by unfold gg; rw [h]; rfl
theorem fE (l:List D):bL [.list l]=some (.int l.length):=rfl
theorem O1 (l:List D):bL [.tuple l]=some (.int l.length):=rfl
theorem O2 (l:List eA):bL [dP l]=some (.int (l.length:Nat)):=by unfold dP; rw [fE,List.length_map]
theorem Cm (l:List D) (i:Int):bC (.list l) (.int i)=o7 l i:=rfl
theorem gH (q:eA):bC (dF q) (.int 0)=some (.int q.1):=rfl
theorem eL (q:eA):bC (dF q) (.int 1)=some (.int q.2):=rfl
theorem yo {a b:DS->Option Bool} {δ:DS} {r:Option Bool} (h1:a δ=some false) (h2:b δ=r):FC a b δ=r:=by unfold FC; rw [h1]; exact h2
theorem Ao {a b:DS->Option Bool} {δ:DS} {r:Option Bool} (h1:a δ=some true) (h2:b δ=r):jA a b δ=r:=by unfold jA; rw [h1]; exact h2
theorem kz {a:DS->Option Bool} {δ:DS} {x:Bool} (h:a δ=some x):qB a δ=some (!x):=by unfold qB; rw [h]; rfl
theorem cL {g:DS->Option D} {δ:DS} {b:Bool} (h:g δ=some (.bool b)):gB g δ=some b:=by unfold gB; rw [h]; rfl
theorem kA {g:DS->Option D} {δ:DS} {b:Bool} (h:g δ=some (.bool b)):mV g δ=some b:=by unfold mV; rw [h]; rfl
theorem ak {f:D->D->Option D} {a b:DS->Option D} {δ:DS} {x y:D} {r:Option D} (h1:a δ=some x) (h2:b δ=some y) (h3:f x y=r):g2 f a b δ=r:=by unfold g2; rw [h1,h2]; exact h3
abbrev G1:DS->Option Res:=(av (aQ 2 (g2 g6 (g1 BV (ae 0)) (gC (.int (240)))))
  (av (aQ 3 (aS (aa (g2 Oj (ae 0) (ae 2)) (aa (gC (.int (1))) (aa (gC (.int (0))) af)))))
  (av (aQ 4 (aS (aa (g2 Oj (ae 1) (ae 2)) (aa (gC (.int (0))) (aa (gC (.int (1))) af)))))
  (av (eS (gB (g2 EA (g2 Oj (g2 bC (ae 4) (gC (.int (0)))) (gC (.int (120)))) (gC (.int (0))))) (av (aQ 5 (g2 ly (g2 bC (ae 3) (gC (.int (0)))) (g2 bC (ae 4) (gC (.int (0))))))
  (av (aQ 6 (aS (aa (g2 g6 (g2 bC (ae 3) (gC (.int (0)))) (g2 cb (ae 5) (g2 bC (ae 4) (gC (.int (0)))))) (aa (g2 g6 (g2 bC (ae 3) (gC (.int (1)))) (g2 cb (ae 5) (g2 bC (ae 4) (gC (.int (1)))))) (aa (g2 g6 (g2 bC (ae 3) (gC (.int (2)))) (g2 cb (ae 5) (g2 bC (ae 4) (gC (.int (2)))))) af)))))
  (av (aQ 3 (ae 4))
  (aQ 4 (ae 6))))))
  (bT (aS (aa (cM pA (aa (g2 bM (g2 cb (g2 bC (ae 3) (gC (.int (1)))) (ae 0)) (g2 cb (g2 bC (ae 3) (gC (.int (2)))) (ae 1))) af)) (aa (cM pA (aa (g2 bM (g2 cb (g2 bC (ae 4) (gC (.int (1)))) (ae 0)) (g2 cb (g2 bC (ae 4) (gC (.int (2)))) (ae 1))) af)) af))))))))
def G4:List D->Option D:=gE 7 G1
abbrev fT:DS->Option Res:=(av (aQ 0 (cM pA (aa (ae 0) af)))
  (av (aQ 1 (cM pA (aa (ae 1) af)))
  (av (eS (gB (g2 EA (ae 1) (gC (.int (0))))) (av (aQ 2 (g2 gU (ae 0) (ae 1)))
  (av (aQ 0 (ae 1))
  (av (aQ 1 (ae 2))
  (j8 (gB (g2 uE (g1 BV (ae 1)) (gC (.int (4000))))) (av (aQ 3 (az G4 2 (aa (ae 0) (aa (ae 1) af))))
  (av (aQ 0 (g2 bC (ae 3) (gC (.int (0)))))
  (aQ 1 (g2 bC (ae 3) (gC (.int (1))))))) cN)))))
  (bT (ae 0)))))
def cv:List D->Option D:=gE 4 fT
theorem ni (a0 a1:D):cv [a0,a1]=(fT [some a0,some a1,none,none]).bind gW:=rfl
abbrev Ap:DS->Option Res:=(av (j8 (gB (g2 md (ae 1) (gC (.int (0))))) (λ_=>none) cN)
  (av (aQ 2 (az cv 2 (aa (ae 0) (aa (ae 1) af))))
  (av (j8 (gB (g2 ql (ae 1) (gC (.int (0))))) (aQ 2 (g1 kh (ae 2))) cN)
  (bT (aS (aa (g2 ly (ae 0) (ae 2)) (aa (g2 ly (ae 1) (ae 2)) af)))))))
def kC:List D->Option D:=gE 3 Ap
theorem O3 (a0 a1:D):kC [a0,a1]=(Ap [some a0,some a1,none]).bind gW:=rfl
abbrev Aq:DS->Option Res:=(av (aQ 2 (az cv 2 (aa (g2 bC (ae 0) (gC (.int (1)))) (aa (g2 bC (ae 1) (gC (.int (1)))) af))))
  (av (aQ 3 (g2 ly (g2 bC (ae 0) (gC (.int (1)))) (ae 2)))
  (av (aQ 4 (g2 ly (g2 bC (ae 1) (gC (.int (1)))) (ae 2)))
  (av (aQ 5 (az kC 2 (aa (g2 bM (g2 cb (g2 bC (ae 0) (gC (.int (0)))) (ae 4)) (g2 cb (g2 bC (ae 1) (gC (.int (0)))) (ae 3))) (aa (ae 2) af))))
  (bT (aS (aa (g2 bC (ae 5) (gC (.int (0)))) (aa (g2 cb (g2 cb (ae 3) (ae 4)) (g2 bC (ae 5) (gC (.int (1))))) af))))))))
def sr:List D->Option D:=gE 6 Aq
theorem O4 (a0 a1:D):sr [a0,a1]=(Aq [some a0,some a1,none,none,none,none]).bind gW:=rfl
abbrev v9:DS->Option Res:=(bT (az sr 2 (aa (ae 0) (aa (aS (aa (g1 kh (g2 bC (ae 1) (gC (.int (0))))) (aa (g2 bC (ae 1) (gC (.int (1)))) af))) af))))
def qX:List D->Option D:=gE 2 v9
theorem Kk (a0 a1:D):qX [a0,a1]=(v9 [some a0,some a1]).bind gW:=rfl
abbrev wa:DS->Option Res:=(av (aQ 2 (az kC 2 (aa (g2 bC (ae 0) (gC (.int (0)))) (aa (g2 bC (ae 1) (gC (.int (1)))) af))))
  (av (aQ 3 (az kC 2 (aa (g2 bC (ae 1) (gC (.int (0)))) (aa (g2 bC (ae 0) (gC (.int (1)))) af))))
  (bT (aS (aa (g2 cb (g2 bC (ae 2) (gC (.int (0)))) (g2 bC (ae 3) (gC (.int (0))))) (aa (g2 cb (g2 bC (ae 2) (gC (.int (1)))) (g2 bC (ae 3) (gC (.int (1))))) af))))))
def qY:List D->Option D:=gE 4 wa
theorem Kl (a0 a1:D):qY [a0,a1]=(wa [some a0,some a1,none,none]).bind gW:=rfl
abbrev Ar:DS->Option Res:=(bT (az qY 2 (aa (ae 0) (aa (az kC 2 (aa (g2 bC (ae 1) (gC (.int (1)))) (aa (g2 bC (ae 1) (gC (.int (0)))) af))) af))))
def nj:List D->Option D:=gE 2 Ar
theorem O5 (a0 a1:D):nj [a0,a1]=(Ar [some a0,some a1]).bind gW:=rfl
abbrev wb:DS->Option Res:=(av (aQ 2 (gC (.int (1))))
  (av (aQ 3 (gC (.int (1))))
  (av (eT (fN (aa (ae 1) af)) (au 4)
   (av (aQ 2 (g2 cb (ae 2) (g2 bC (ae 0) (gC (.int (0))))))
  (aQ 3 (g2 cb (ae 3) (g2 bC (ae 0) (gC (.int (1))))))))
  (bT (aS (aa (ae 2) (aa (ae 3) af)))))))
def kD:List D->Option D:=gE 5 wb
theorem Km (a0 a1:D):kD [a0,a1]=(wb [some a0,some a1,none,none,none]).bind gW:=rfl
abbrev pJ:DS->Option Res:=(av (aQ 2 (g2 bM (g2 bC (ae 1) (gC (.int (0)))) (g2 bC (ae 1) (gC (.int (1))))))
  (bT (uF (kj dLe ql (gC (.int (0))) (ae 2) (cM bL (aa (ae 0) af))) (g2 JS (g2 bC (ae 1) (gC (.int (0)))) (g2 bC (ae 0) (ae 2))))))
def gj:List D->Option D:=gE 3 pJ
theorem DX (a0 a1:D):gj [a0,a1]=(pJ [some a0,some a1,none]).bind gW:=rfl
abbrev su:DS->Option Res:=(bT (aP (OC (aP (zQ ou (aP (rP jB (aa (ae 0) af))) (aP (cD (aI (ae 0)) [] (g2 bM (ae 0) (gC (.int (1)))))))))))
def jZ:List D->Option (List D):=eM 1 su
theorem G5 (a0:D):jZ [a0]=(su [some a0]).bind eU:=rfl
abbrev pK:DS->Option Res:=(av (gg 1 (dM (aa (aS (aa (gC (.int (0))) (aa (gC (.int (0))) af))) af)))
  (av (eT (Gp (ae 0)) (cW 2 (aO (au 2) (aO (au 3) cY)))
   (zW 1 (cD (aI (aP (aW jZ 1 (aa (ae 3) af)))) [2] (aS (aa (ae 0) (aa (g2 g6 (ae 1) (ae 0)) af))))))
  (bT (ae 1))))
def iZ:List D->Option (List D):=eM 4 pK
theorem DY (a0:D):iZ [a0]=(pK [some a0,none,none,none]).bind eU:=rfl
abbrev As:DS->Option Res:=(bT (aP (bU (aI (aP (aW iZ 1 (aa (ae 0) af)))) 1 [0] (au 0) (qB (mV (az gj 2 (aa (ae 1) (aa (ae 0) af))))) (ae 0))))
def jc:List D->Option (List D):=eM 1 As
theorem O6 (a0:D):jc [a0]=(As [some a0]).bind eU:=rfl
abbrev nk:DS->Option Res:=(av (gg 1 (dM af))
  (av (eT (Gg (ae 0)) (cW 2 (aO (au 2) (aO (au 3) cY)))
   (zW 1 (cD (aI (ae 3)) [2] (aS (aa (ae 0) (aa (g2 g6 (ae 1) (ae 0)) af))))))
  (bT (ae 1))))
def jd:List D->Option (List D):=eM 4 nk
theorem Au (a0:D):jd [a0]=(nk [some a0,none,none,none]).bind eU:=rfl
abbrev wc:DS->Option Res:=(av (j8 (gB (g2 md (ae 1) (gC (.str "b")))) (bT (aS (aa (g2 bM (g2 bC (ae 0) (gC (.int (0)))) (gC (.int (1)))) (aa (g2 bC (ae 0) (gC (.int (1)))) af)))) cN)
  (bT (aS (aa (g2 bC (ae 0) (gC (.int (0)))) (aa (g2 bM (g2 bC (ae 0) (gC (.int (1)))) (gC (.int (1)))) af)))))
def dD:List D->Option D:=gE 2 wc
theorem Co (a0 a1:D):dD [a0,a1]=(wc [some a0,some a1]).bind gW:=rfl
abbrev nq:DS->Option Res:=(av (gg 2 (xR (dM (aa (gC (.tuple [(.int (0)),(.int (1))])) af)) (ae 0)))
  (av (aQ 3 (gC (.int (1))))
  (av (eT (fN (aa (g2 bM (ae 1) (gC (.int (1)))) af)) (au 4)
   (av (lg 2 (aS (aa (ae 3) (aa (gC (.int (1))) af))))
  (aQ 3 (g2 ly (g2 cb (g1 kh (ae 3)) (g2 g6 (ae 1) (ae 4))) (g2 bM (ae 4) (gC (.int (1))))))))
  (bT (ae 2)))))
def je:List D->Option (List D):=eM 5 nq
theorem Av (a0 a1:D):je [a0,a1]=(nq [some a0,some a1,none,none,none]).bind eU:=rfl
abbrev pL:DS->Option Res:=(av (gg 1 (rP jB (aa (ae 0) af)))
  (av (eS (jA (gB (g2 uE (cM bL (aa (ae 1) af)) (gC (.int (0))))) (gB (g2 md (g2 bC (ae 1) (g1 kh (gC (.int (1))))) (gC (.tuple [(.int (0)),(.int (1))]))))) (Od 1))
  (bT (ae 1))))
def mw:List D->Option (List D):=eM 2 pL
theorem DZ (a0:D):mw [a0]=(pL [some a0,none]).bind eU:=rfl
abbrev iH:DS->Option Res:=(av (aQ 1 (gC (.int (1))))
  (av (eT (aI (ae 0)) (au 2)
   (aQ 1 (g2 cb (g2 ly (ae 1) (az cv 2 (aa (ae 1) (aa (g2 bC (ae 2) (gC (.int (1)))) af)))) (g2 bC (ae 2) (gC (.int (1)))))))
  (bT (ae 1))))
def fP:List D->Option D:=gE 3 iH
theorem qF (a0:D):fP [a0]=(iH [some a0,none,none]).bind gW:=rfl
abbrev lM:DS->Option Res:=(bT (aP (cD (aI (ae 0)) [1] (g2 cb (g2 bC (ae 0) (gC (.int (0)))) (g2 ly (ae 1) (g2 bC (ae 0) (gC (.int (1)))))))))
def jt:List D->Option (List D):=eM 2 lM
theorem yp (a0 a1:D):jt [a0,a1]=(lM [some a0,some a1]).bind eU:=rfl
abbrev lN:DS->Option Res:=(av (B2 2 (Gj (ae 1) (gC (.int (1)))))
  (av (eT (aI (aP (aW jd 1 (aa (ae 0) af)))) (au 3)
   (av (aQ 4 (pH (ae 2) (ae 3) (gC (.int (0)))))
  (eT (aI (aS (aa (az dD 2 (aa (ae 3) (aa (gC (.str "b")) af))) (aa (az dD 2 (aa (ae 3) (aa (gC (.str "g")) af))) af)))) (au 5)
   (yh 2 (ae 5) (g2 bM (pH (ae 2) (ae 5) (gC (.int (0)))) (ae 4))))))
  (bT (ae 2))))
def dN:List D->Option D:=gE 6 lN
theorem yq (a0 a1:D):dN [a0,a1]=(lN [some a0,some a1,none,none,none,none]).bind gW:=rfl
abbrev jE (GR:List D->Option (List D)):DS->Option Res:=(av (j8 (qB (mV (az gj 2 (aa (ae 0) (aa (ae 2) af))))) (bT (aP (dM (aa (ae 1) af)))) cN)
  (av (gg 3 (aW GR 3 (aa (ae 0) (aa (g2 bM (ae 1) (gC (.str "b"))) (aa (az dD 2 (aa (ae 2) (aa (gC (.str "b")) af))) af)))))
  (av (zW 3 (aW GR 3 (aa (ae 0) (aa (g2 bM (ae 1) (gC (.str "g"))) (aa (az dD 2 (aa (ae 2) (aa (gC (.str "g")) af))) af)))))
  (bT (ae 3)))))
def bS:Nat->List D->Option (List D)
 | 0=>eM 4 (λ_=>none)
 | n + 1=>eM 4 (jE (bS n))
def jF:List D->Option (List D):=bS 26
theorem mO (n:Nat) (a0 a1 a2:D):bS (n + 1) [a0,a1,a2]=(jE (bS n) [some a0,some a1,some a2,none]).bind eU:=rfl
abbrev pM:DS->Option Res:=(av (aQ 1 (az dN 2 (aa (ae 0) (aa (aS (aa (gC (.int (0))) (aa (gC (.int (0))) af))) af))))
  (av (j8 (gB (g2 uE (cM GB (aa (aP (cD (aI (aP (aW jc 1 (aa (ae 0) af)))) [1] (jU (ae 1) (ae 0)))) af)) (gC (.int (4000))))) (λ_=>none) cN)
  (bT (aP (aW jF 3 (aa (ae 0) (aa (gC (.str "")) (aa (aS (aa (gC (.int (0))) (aa (gC (.int (0))) af))) af))))))))
def mx:List D->Option (List D):=eM 2 pM
theorem D0 (a0:D):mx [a0]=(pM [some a0,none]).bind eU:=rfl
abbrev sv:DS->Option Res:=(av (aQ 2 (aS (aa (gC (.int (0))) (aa (gC (.int (0))) af))))
  (av (eT (Gx (ae 1)) (au 3)
   (av (j8 (FC (gB (g2 mX (ae 3) (aS (aa (gC (.str "b")) (aa (gC (.str "g")) af))))) (qB (mV (az gj 2 (aa (ae 0) (aa (ae 2) af)))))) (λ_=>none) cN)
  (aQ 2 (az dD 2 (aa (ae 2) (aa (ae 3) af))))))
  (av (j8 (mV (az gj 2 (aa (ae 0) (aa (ae 2) af)))) (λ_=>none) cN)
  (bT (ae 2)))))
def jf:List D->Option D:=gE 4 sv
theorem G6 (a0 a1:D):jf [a0,a1]=(sv [some a0,some a1,none,none]).bind gW:=rfl
abbrev sx:DS->Option Res:=(av (aQ 1 (az dN 2 (aa (ae 0) (aa (aS (aa (gC (.int (0))) (aa (gC (.int (0))) af))) af))))
  (av (aQ 2 (az dN 2 (aa (ae 0) (aa (aS (aa (gC (.int (1))) (aa (gC (.int (0))) af))) af))))
  (bT (aP (cD (aI (aP (aW jc 1 (aa (ae 0) af)))) [1,2] (az kC 2 (aa (pH (ae 2) (ae 0) (gC (.int (0)))) (aa (jU (ae 1) (ae 0)) af))))))))
def oQ:List D->Option (List D):=eM 3 sx
theorem G7 (a0:D):oQ [a0]=(sx [some a0,none,none]).bind eU:=rfl
abbrev sy:DS->Option Res:=(av (aQ 2 (aP (aW mx 1 (aa (ae 0) af))))
  (av (j8 (gB (g2 EA (cM bL (aa (ae 1) af)) (cM bL (aa (ae 2) af)))) (λ_=>none) cN)
  (av (aQ 3 (aP (aW jc 1 (aa (ae 0) af))))
  (av (B2 4 Gi)
  (qQ 4 (DN (aI (ae 3)) (au 5)
   (Cb (ae 5)))
  (DN (kr (ae 2) (ae 1)) (cW 2 (aO (au 6) (aO (au 7) cY)))
   (uU (az jf 2 (aa (ae 0) (aa (ae 6) af))) (ae 7)))
  (cD (aI (ae 3)) [4] (jU (ae 1) (ae 0))))))))
def j0:List D->Option (List D):=eM 8 sy
theorem G8 (a0 a1:D):j0 [a0,a1]=(sy [some a0,some a1,none,none,none,none,none,none]).bind eU:=rfl
abbrev kE:DS->Option Res:=(av (aQ 1 (gC (.tuple [(.int (0)),(.int (1))])))
  (av (eT (aI (ae 0)) (au 2)
   (aQ 1 (az sr 2 (aa (ae 1) (aa (ae 2) af)))))
  (bT (ae 1))))
def dZ:List D->Option D:=gE 3 kE
theorem we (a0:D):dZ [a0]=(kE [some a0,none,none]).bind gW:=rfl
abbrev nu:DS->Option Res:=(bT (aP (cD (aI (aP (aW j0 2 (aa (ae 0) (aa (ae 1) af))))) [] (az nj 2 (aa (az dZ 1 (aa (ae 0) af)) (aa (aS (aa (cM bL (aa (ae 0) af)) (aa (gC (.int (1))) af))) af))))))
def kG:List D->Option (List D):=eM 2 nu
theorem Aw (a0 a1:D):kG [a0,a1]=(nu [some a0,some a1]).bind eU:=rfl
abbrev pN:DS->Option Res:=(av (aQ 1 (az dZ 1 (aa (aP (cD (aI (ae 0)) [] (az kD 2 (aa (ae 0) (aa (gC (.int (2))) af))))) af)))
  (bT (az qX 2 (aa (ae 1) (aa (az nj 2 (aa (az kD 2 (aa (az dZ 1 (aa (ae 0) af)) (aa (gC (.int (2))) af))) (aa (aS (aa (cM bL (aa (ae 0) af)) (aa (gC (.int (1))) af))) af))) af)))))
def my:List D->Option D:=gE 2 pN
theorem D1 (a0:D):my [a0]=(pN [some a0,none]).bind gW:=rfl
abbrev jG:DS->Option Res:=(bT (aP (cD (aI (aP (aW j0 2 (aa (ae 0) (aa (ae 1) af))))) [] (az my 1 (aa (ae 0) af)))))
def ig:List D->Option (List D):=eM 2 jG
theorem tY (a0 a1:D):ig [a0,a1]=(jG [some a0,some a1]).bind eU:=rfl
abbrev fQ:DS->Option Res:=(j8 (gB (g2 EA (cM bL (aa (ae 1) af)) (cM bL (aa (aP (aW jc 1 (aa (ae 0) af))) af)))) (λ_=>none) cN)
def fR:List D->Option D:=gE 2 fQ
theorem qG (a0 a1:D):fR [a0,a1]=(fQ [some a0,some a1]).bind gW:=rfl
abbrev pP:DS->Option Res:=(av (BR (az fR 2 (aa (ae 0) (aa (ae 1) af))))
  (av (aQ 2 (az dN 2 (aa (ae 0) (aa (aS (aa (gC (.int (0))) (aa (gC (.int (0))) af))) af))))
  (av (aQ 3 (az fP 1 (aa (ae 1) af)))
  (av (gg 4 (xR (dM (aa (gC (.int (0))) af)) (g2 bM (cM bL (aa (ae 0) af)) (gC (.int (1))))))
  (av (eT (kr (aP (aW jc 1 (aa (ae 0) af))) (aP (aW jt 2 (aa (ae 1) (aa (ae 3) af))))) (cW 2 (aO (au 5) (aO (au 6) cY)))
   (eT (dX (aP (aW je 2 (aa (g2 bC (ae 5) (gC (.int (0)))) (aa (g2 bC (ae 5) (gC (.int (1)))) af))))) (cW 2 (aO (au 7) (aO (au 8) cY)))
   (rT 4 (λi j=>i + j) (ae 7) (g2 cb (g2 cb (ae 6) (jU (ae 2) (ae 5))) (g2 bC (ae 8) (gC (.int (0))))))))
  (bT (aP (aW mw 1 (aa (aP (cD (aI (ae 4)) [3] (az kC 2 (aa (ae 0) (aa (ae 1) af))))) af)))))))))
def j3:List D->Option (List D):=eM 9 pP
theorem D2 (a0 a1:D):j3 [a0,a1]=(pP [some a0,some a1,none,none,none,none,none,none,none]).bind eU:=rfl
abbrev lO:DS->Option Res:=(av (gg 1 (dM af))
  (av (eT (aI (ae 0)) (au 2)
   (j8 (jA (gB (g2 uE (cM bL (aa (ae 1) af)) (gC (.int (0))))) (gB (g2 md (g2 bC (g2 bC (ae 1) (g1 kh (gC (.int (1))))) (gC (.int (1)))) (g2 g6 (ae 2) (gC (.int (1))))))) (ki 1 (g1 kh (gC (.int (1)))) (aS (aa (g2 bC (g2 bC (ae 1) (g1 kh (gC (.int (1))))) (gC (.int (0)))) (aa (ae 2) af)))) (lg 1 (aS (aa (ae 2) (aa (ae 2) af))))))
  (bT (ae 1))))
def ir:List D->Option (List D):=eM 3 lO
theorem yr (a0:D):ir [a0]=(lO [some a0,none,none]).bind eU:=rfl
abbrev gI:DS->Option Res:=(bT (cM OI (aa (aP (cD (aI (ae 0)) [] (g2 md (cM bL (aa (aP (aW ir 1 (aa (ae 0) af))) af)) (gC (.int (1)))))) af)))
def eO:List D->Option D:=gE 1 gI
theorem oR (a0:D):eO [a0]=(gI [some a0]).bind gW:=rfl
abbrev nv:DS->Option Res:=(av (j8 (gB (g2 ql (ae 1) (cM bL (aa (ae 0) af)))) (bT (g2 bC (ae 0) (ae 1))) cN)
  (bT (gC (.int (0)))))
def bV:List D->Option D:=gE 2 nv
theorem Ax (a0 a1:D):bV [a0,a1]=(nv [some a0,some a1]).bind gW:=rfl
abbrev kH:DS->Option Res:=(av (gg 3 (dM af))
  (av (eT (fN (aa (ae 2) af)) (au 4)
   (av (lg 3 (g2 gU (ae 0) (ae 1)))
  (aQ 0 (g2 ly (ae 0) (ae 1)))))
  (bT (ae 3))))
def fj:List D->Option (List D):=eM 5 kH
theorem wg (a0 a1 a2:D):fj [a0,a1,a2]=(kH [some a0,some a1,some a2,none,none]).bind eU:=rfl
abbrev lP:DS->Option Res:=(av (gg 3 (dM af))
  (av (eT (fN (aa (ae 2) af)) (au 4)
   (av (aQ 5 (g2 gU (g2 bM (g2 bM (g2 cb (g2 gU (ae 0) (gC (.int (1000003)))) (gC (.int (48271)))) (g2 cb (g2 cb (ae 4) (ae 4)) (gC (.int (69621))))) (g2 cb (ae 4) (gC (.int (16807))))) (gC (.int (2147483647)))))
  (lg 3 (g2 gU (g2 ly (g2 gU (g2 bM (g2 cb (ae 5) (gC (.int (39373)))) (ae 0)) (gC (.int (2147483629)))) (gC (.int (13)))) (ae 1)))))
  (bT (ae 3))))
def gm:List D->Option (List D):=eM 6 lP
theorem yt (a0 a1 a2:D):gm [a0,a1,a2]=(lP [some a0,some a1,some a2,none,none,none]).bind eU:=rfl
abbrev ny:DS->Option Res:=(av (aQ 2 (g2 ly (ae 0) (gC (.int (4)))))
  (av (aQ 3 (g2 bM (gC (.int (100))) (g2 cb (gC (.int (200))) (cM Dj (aa (g2 uE (ae 1) (gC (.int (12)))) af)))))
  (av (aQ 4 (aP (aW gm 3 (aa (ae 2) (aa (gC (.int (3))) (aa (ae 3) af))))))
  (av (j8 (gB (g2 Vq (cM pA (aa (ae 0) af)) (g2 lz (gC (.int (10))) (gC (.int (18)))))) (aQ 4 (aP (aW fj 3 (aa (ae 2) (aa (gC (.int (3))) (aa (ae 3) af)))))) cN)
  (av (gg 5 (dM (aa (aS (aa (gC (.int (0))) af)) af)))
  (av (aQ 6 (aP (dM (aa (gC (.int (0))) (aa (gC (.int (1))) af)))))
  (av (aQ 7 (gC (.int (0))))
  (av (eS (jA (gB (g2 ql (cM bL (aa (ae 5) af)) (ae 1))) (gB (g2 uE (cM bL (aa (ae 6) af)) (gC (.int (0)))))) (av (aQ 8 (aP (bU (dX (ae 6)) 2 [4,3,7] (cW 2 (aO (au 0) (aO (au 1) cY))) (gB (g2 uE (g2 bC (ae 2) (g2 gU (g2 bM (ae 4) (ae 0)) (ae 3))) (gC (.int (0))))) (ae 1))))
  (av (aQ 7 (g2 bM (ae 7) (cM bL (aa (ae 6) af))))
  (av (j8 (gB (g2 uE (g2 gU (ae 0) (gC (.int (4)))) (gC (.int (1))))) (aQ 8 (aP (JP (ae 6) (lF (g2 bC (ae 4) (g2 gU (ae 7) (ae 3)))) (lF (cM xS (aa (gC (.int (0))) (aa (g2 g6 (cM bL (aa (ae 6) af)) (g2 bC (ae 4) (g2 gU (g2 bM (ae 7) (gC (.int (1)))) (ae 3)))) af))))))) cN)
  (av (aQ 6 (aP (OC (aP (zQ ou (ae 8) (aP (cD (aI (ae 8)) [] (g2 bM (ae 0) (gC (.int (1)))))))))))
  (j8 (gB (g2 uE (cM bL (aa (ae 8) af)) (gC (.int (0))))) (lg 5 (cM oz (aa (ae 8) af))) cN))))))
  (bT (cM oz (aa (ae 5) af)))))))))))
def jg:List D->Option D:=gE 9 ny
theorem Ay (a0 a1:D):jg [a0,a1]=(ny [some a0,some a1,none,none,none,none,none,none,none]).bind gW:=rfl
abbrev nz:DS->Option Res:=(av (gg 1 (dM af))
  (av (eT (qN (aa (gC (.int (1))) (aa (g2 bM (cM bL (aa (ae 0) af)) (gC (.int (1)))) af))) (au 2)
   (av (aQ 3 (aS af))
  (av (j8 (gB (g2 ql (ae 2) (cM bL (aa (ae 0) af)))) (aQ 3 (g2 bC (ae 0) (ae 2))) cN)
  (av (aQ 4 (aP (OC (aP (zQ ou (aP (rP jB (aa (g2 bC (ae 0) (g2 g6 (ae 2) (gC (.int (1))))) af))) (aP (cD (aI (g2 bC (ae 0) (g2 g6 (ae 2) (gC (.int (1)))))) [] (g2 bM (ae 0) (gC (.int (1)))))))))))
  (zW 1 (bU (aI (ae 4)) 1 [2,3] (au 0) (gB (g2 mX (ae 0) (ae 2))) (aS (aa (ae 0) (aa (g2 g6 (ae 1) (ae 0)) af)))))))))
  (bT (ae 1))))
def jh:List D->Option (List D):=eM 5 nz
theorem Az (a0:D):jh [a0]=(nz [some a0,none,none,none,none]).bind eU:=rfl
abbrev nA:DS->Option Res:=(av (gg 1 (dM af))
  (av (gg 2 (dM (aa (gC (.str "")) af)))
  (av (eS (gB (g2 uE (cM bL (aa (ae 2) af)) (gC (.int (0))))) (av (qP 3 2)
  (av (aQ 4 (Al (ae 3) (gC (.str "b"))))
  (j8 (jA (gB (g2 ql (cM bL (aa (ae 3) af)) (cM bL (aa (ae 0) af)))) (gB (g2 JS (ae 4) (g2 bC (ae 0) (cM bL (aa (ae 3) af)))))) (av (lg 2 (g2 bM (ae 3) (gC (.str "g"))))
  (lg 2 (g2 bM (ae 3) (gC (.str "b"))))) (lg 1 (aS (aa (ae 3) (aa (aS (aa (ae 4) (aa (g2 g6 (cM bL (aa (ae 3) af)) (ae 4)) af))) af))))))))
  (bT (ae 1)))))
def kI:List D->Option (List D):=eM 5 nA
theorem AA (a0:D):kI [a0]=(nA [some a0,none,none,none,none]).bind eU:=rfl
abbrev lQ:DS->Option Res:=(av (aQ 2 (aP (dM (aa (gC (.int (1))) af))))
  (av (eT (fN (aa (ae 1) af)) (au 3)
   (aQ 2 (aP (bU (kr (aP (zQ ou (ae 2) (aP (dM (aa (gC (.int (0))) af))))) (aP (zQ ou (aP (dM (aa (gC (.int (0))) af))) (ae 2)))) 2 [] (cW 2 (aO (au 0) (aO (au 1) cY))) (λ_=>some true) (g2 g6 (ae 0) (ae 1))))))
  (bT (aP (zQ ou (aP (cD (fN (aa (ae 0) af)) [] (gC (.int (0))))) (ae 2))))))
def iu:List D->Option (List D):=eM 4 lQ
theorem yu (a0 a1:D):iu [a0,a1]=(lQ [some a0,some a1,none,none]).bind eU:=rfl
abbrev lR:DS->Option Res:=(bT (uF (zR "int" (ae 0)) (g1 N7 (zR "bool" (ae 0)))))
def iw:List D->Option D:=gE 1 lR
theorem yw (a0:D):iw [a0]=(lR [some a0]).bind gW:=rfl
abbrev jH:DS->Option Res:=(av (eS (gB (g2 EA (ae 1) (gC (.int (0))))) (Oh 0 1 (aa (ae 1) (aa (g2 gU (ae 0) (ae 1)) af))))
  (bT (cM pA (aa (ae 0) af))))
def ij:List D->Option D:=gE 2 jH
theorem tZ (a0 a1:D):ij [a0,a1]=(jH [some a0,some a1]).bind gW:=rfl
abbrev nD:DS->Option Res:=(av (aQ 2 (az ij 2 (aa (ae 0) (aa (ae 1) af))))
  (bT (aS (aa (g2 ly (ae 0) (ae 2)) (aa (g2 ly (ae 1) (ae 2)) af)))))
def eV:List D->Option D:=gE 3 nD
theorem AB (a0 a1:D):eV [a0,a1]=(nD [some a0,some a1,none]).bind gW:=rfl
abbrev nF:DS->Option Res:=(bT (az eV 2 (aa (g2 bM (g2 cb (g2 bC (ae 0) (gC (.int (0)))) (g2 bC (ae 1) (gC (.int (1))))) (g2 cb (g2 bC (ae 1) (gC (.int (0)))) (g2 bC (ae 0) (gC (.int (1)))))) (aa (g2 cb (g2 bC (ae 0) (gC (.int (1)))) (g2 bC (ae 1) (gC (.int (1))))) af))))
def bJ:List D->Option D:=gE 2 nF
theorem AD (a0 a1:D):bJ [a0,a1]=(nF [some a0,some a1]).bind gW:=rfl
abbrev lS:DS->Option Res:=(bT (az eV 2 (aa (g2 cb (g2 bC (ae 0) (gC (.int (0)))) (g2 bC (ae 1) (gC (.int (0))))) (aa (g2 cb (g2 bC (ae 0) (gC (.int (1)))) (g2 bC (ae 1) (gC (.int (1))))) af))))
def bK:List D->Option D:=gE 2 lS
theorem yx (a0 a1:D):bK [a0,a1]=(lS [some a0,some a1]).bind gW:=rfl
abbrev kJ:DS->Option Res:=(av (aQ 2 (az bV 2 (aa (ae 0) (aa (gC (.int (2))) af))))
  (av (aQ 3 (g2 bM (gC (.int (1))) (g2 gU (az bV 2 (aa (ae 0) (aa (gC (.int (3))) af))) (g2 lz (gC (.int (10))) (gC (.int (12)))))))
  (av (aQ 4 (aP (aW fj 3 (aa (ae 2) (aa (gC (.int (1000))) (aa (ae 1) af))))))
  (av (j8 (gB (kj ql ql (g1 kh (g2 lz (gC (.int (10))) (gC (.int (18))))) (ae 2) (g2 lz (gC (.int (10))) (gC (.int (18)))))) (aQ 4 (aP (aW gm 3 (aa (ae 2) (aa (g2 lz (gC (.int (10))) (gC (.int (6)))) (aa (ae 1) af)))))) cN)
  (bT (aS (aa (aP (cD (aI (ae 4)) [] (g2 g6 (ae 0) (gC (.int (400)))))) (aa (ae 3) af))))))))
def iU:List D->Option D:=gE 5 kJ
theorem wj (a0 a1:D):iU [a0,a1]=(kJ [some a0,some a1,none,none,none]).bind gW:=rfl
abbrev nG:DS->Option Res:=(av (aQ 1 (aS (aa (gC (.int (0))) (aa (gC (.int (1))) af))))
  (av (eT (aI (ae 0)) (au 2)
   (aQ 1 (az bJ 2 (aa (ae 1) (aa (ae 2) af)))))
  (bT (az bK 2 (aa (ae 1) (aa (aS (aa (gC (.int (1))) (aa (cM bL (aa (ae 0) af)) af))) af))))))
def kK:List D->Option D:=gE 3 nG
theorem AE (a0:D):kK [a0]=(nG [some a0,none,none]).bind gW:=rfl
abbrev jI:DS->Option Res:=(av (aQ 3 (cM GH (aa (aP (bU (aI (ae 1)) 2 [] (cW 2 (aO (au 0) (aO (au 1) cY))) (λ_=>some true) (cM bL (aa (ae 0) af)))) af)))
  (av (aQ 4 (g2 gU (g2 ly (az bV 2 (aa (ae 0) (aa (gC (.int (1))) af))) (gC (.int (1000)))) (gC (.int (3)))))
  (av (j8 (gB (g2 md (ae 4) (gC (.int (0))))) (av (aQ 5 (g2 gU (az bV 2 (aa (ae 0) (aa (gC (.int (2))) af))) (ae 3)))
  (bT (aP (bU (aI (ae 1)) 2 [5] (cW 2 (aO (au 0) (aO (au 1) cY))) (λ_=>some true) (aS (aa (cM Dj (aa (g2 md (g2 bC (ae 0) (ae 2)) (gC (.str "b"))) af)) (aa (gC (.int (1))) af))))))) cN)
  (av (JQ (az iU 2 (aa (ae 0) (aa (cM bL (aa (ae 1) af)) af))) (cW 2 (aO (au 6) (aO (au 7) cY))))
  (av (aQ 8 (aP (cD (aI (ae 6)) [7] (az eV 2 (aa (ae 0) (aa (ae 1) af))))))
  (av (B2 9 Gi)
  (av (eT (aI (ae 2)) (au 10)
   (av (aQ 11 (aP (bU (kr (ae 8) (ae 1)) 2 [10] (cW 2 (aO (au 0) (aO (au 1) cY))) (gB (g2 md (g2 bC (ae 1) (gC (.int (1)))) (ae 2))) (ae 0))))
  (av (aQ 12 (aP (bU (aI (ae 1)) 2 [10] (cW 2 (aO (au 0) (aO (au 1) cY))) (jA (gB (g2 md (ae 1) (ae 2))) (gB (g2 md (J6 (ae 0) vL (lF (gC (.int (1))))) (gC (.str "b"))))) (ae 0))))
  (av (aQ 13 (az eV 2 (aa (cM bL (aa (ae 12) af)) (aa (cM bL (aa (ae 11) af)) af))))
  (av (aQ 14 (az kK 1 (aa (ae 11) af)))
  (yh 9 (ae 10) (az bJ 2 (aa (ae 13) (aa (aS (aa (g2 g6 (gC (.int (0))) (g2 bC (ae 14) (gC (.int (0))))) (aa (g2 bC (ae 14) (gC (.int (1)))) af))) af)))))))))
  (bT (aP (bU (kr (ae 8) (ae 1)) 2 [9] (cW 2 (aO (au 0) (aO (au 1) cY))) (λ_=>some true) (az bJ 2 (aa (ae 0) (aa (jU (ae 2) (g2 bC (ae 1) (gC (.int (1))))) af)))))))))))))
def fJ:List D->Option (List D):=eM 15 jI
theorem t4 (a0 a1 a2:D):fJ [a0,a1,a2]=(jI [some a0,some a1,some a2,none,none,none,none,none,none,none,none,none,none,none,none]).bind eU:=rfl
abbrev kL:DS->Option Res:=(av (gg 2 (dM af))
  (av (eT (kr (ae 0) (ae 1)) (cW 2 (aO (au 3) (aO (au 4) cY)))
   (av (aQ 5 (aP (aW iu 2 (aa (g2 bC (ae 4) (gC (.int (0)))) (aa (g2 bC (ae 4) (gC (.int (1)))) af)))))
  (av (eS (gB (g2 ql (cM bL (aa (ae 2) af)) (cM bL (aa (ae 5) af)))) (lg 2 (aS (aa (gC (.int (0))) (aa (gC (.int (1))) af)))))
  (eT (fN (aa (cM bL (aa (ae 5) af)) af)) (au 6)
   (ki 2 (ae 6) (az bJ 2 (aa (g2 bC (ae 2) (ae 6)) (aa (az bK 2 (aa (ae 3) (aa (aS (aa (g2 bC (ae 5) (ae 6)) (aa (gC (.int (1))) af))) af))) af))))))))
  (bT (ae 2))))
def fk:List D->Option (List D):=eM 7 kL
theorem wm (a0 a1:D):fk [a0,a1]=(kL [some a0,some a1,none,none,none,none,none]).bind eU:=rfl
abbrev G9:DS->Option Res:=(av (aQ 1 (az jg 2 (aa (az bV 2 (aa (ae 0) (aa (gC (.int (0))) af))) (aa (g2 bM (gC (.int (1))) (g2 gU (az bV 2 (aa (ae 0) (aa (gC (.int (1))) af))) (gC (.int (7))))) af))))
  (av (aQ 2 (aP (aW kI 1 (aa (ae 1) af))))
  (av (aQ 3 (aP (aW jh 1 (aa (ae 1) af))))
  (av (aQ 4 (aP (aW fJ 3 (aa (ae 0) (aa (ae 2) (aa (ae 3) af))))))
  (av (aQ 5 (aP (aW kG 2 (aa (ae 1) (aa (aP (rP jB (aa (ae 4) af))) af)))))
  (av (aQ 6 (aP (aW ig 2 (aa (ae 1) (aa (aP (rP jB (aa (ae 4) af))) af)))))
  (av (j8 (FC (gB (g2 EA (aP (aW j3 2 (aa (ae 1) (aa (ae 5) af)))) (aP (dM (aa (aS (aa (gC (.int (0))) (aa (gC (.int (1))) af))) (aa (aS (aa (gC (.int (1))) (aa (gC (.int (1))) af))) af)))))) (gB (g2 EA (cM bL (aa (ae 6) af)) (cM bL (aa (ae 3) af))))) (bT (gC (.bool false))) cN)
  (av (j8 (jA (mV (az eO 1 (aa (ae 1) af))) (gB (g2 EA (ae 5) (aP (aW oQ 1 (aa (ae 1) af)))))) (bT (gC (.bool false))) cN)
  (av (gg 7 (dM af))
  (av (gg 8 (dM af))
  (av (eT (dX (ae 3)) (cW 2 (aO (au 9) (aO (au 10) cY)))
   (av (aQ 11 (aP (bU (kr (ae 4) (ae 2)) 2 [10] (cW 2 (aO (au 0) (aO (au 1) cY))) (gB (g2 md (g2 bC (ae 1) (gC (.int (1)))) (ae 2))) (ae 0))))
  (av (j8 (FC (qB (mV (zR "tuple" (g2 bC (ae 6) (ae 9))))) (FC (qB (mV (az iw 1 (aa (g2 bC (g2 bC (ae 6) (ae 9)) (gC (.int (0)))) af)))) (FC (gB (g2 ql (g2 bC (g2 bC (ae 6) (ae 9)) (gC (.int (0)))) (gC (.int (0))))) (gB (g2 ql (g2 bC (g2 bC (ae 6) (ae 9)) (gC (.int (1)))) (gC (.int (1)))))))) (bT (gC (.bool false))) cN)
  (av (aQ 12 (aS (aa (gC (.int (0))) (aa (gC (.int (1))) af))))
  (av (eT (aI (ae 11)) (au 13)
   (aQ 12 (az bJ 2 (aa (ae 12) (aa (az bK 2 (aa (ae 13) (aa (ae 13) af))) af)))))
  (av (lg 7 (ae 12))
  (av (aQ 14 (az bK 2 (aa (az bK 2 (aa (g2 bC (ae 5) (ae 9)) (aa (g2 bC (ae 5) (ae 9)) af))) (aa (aS (aa (cM bL (aa (ae 11) af)) (aa (gC (.int (1))) af))) af))))
  (lg 8 (az bJ 2 (aa (ae 14) (aa (g2 bC (ae 6) (ae 9)) af)))))))))))
  (bT (g2 md (aP (lH fk 2 (aa (ae 7) (aa (ae 3) af)))) (aP (lH fk 2 (aa (ae 8) (aa (ae 3) af)))))))))))))))))
def uX:List D->Option D:=gE 15 G9
theorem R9 (a0:D):uX [a0]=(G9 [some a0,none,none,none,none,none,none,none,none,none,none,none,none,none,none]).bind gW:=rfl
end aA
open L2
namespace aA
open PySem L2 Q1
theorem nH (ns:List Int) (k:Nat):bV [.list (ns.map .int),.int k]=some (.int (ns.getD k 0)):=by
 rw [Ax]
 simp only [av,j8,gB,g2,ae,adf,ac9,adq,cM,aa,af,acJ,fE,uD,bT,Cm,cN,adt,gC]
 rw [acH,acS]
 by_cases h:k < ns.length
 .rw [acU (by omega),iR (v:=.int ns[k]) (by rw [adb,acL h]; rfl),acL h]
  rfl
 .rw [acW (by omega),ad4 (by omega)]
  rfl
theorem yy (i:Int):iw [.int i]=some (.bool true):=by
 rw [yw]
 simp only [bT,uF,gB,zR,ae,ac9,adq,acJ,Ki,g1,Kj,N7,Bool.not_false,afN,gW]
theorem t5 (a b:Int) (hb:0<=b):ij [.int a,.int b]=some (.int (Int.gcd a b:Nat)):=by
 rw [tZ]
 refine aT ?_
 refine jX (λm δ=>∃ x:Int,δ=[some (.int x),some (.int (m:Nat))] /\ Int.gcd x (m:Int)=Int.gcd a b) (λδ=>∃ x:Int,δ=[some (.int x),some (.int 0)] /\ x.natAbs=Int.gcd a b) b.toNat ?_ ?_ ?_
 .exact ⟨a,by rw [afs hb],by rw [afs hb]⟩
 .rintro m δ ⟨x,rfl,hg⟩
  by_cases hm:m=0
  .subst hm
   exact .inl ⟨by simp only [gB,g2,ae,List.getElem?_cons_succ,List.getElem?_cons_zero,Option.join_some,gC,Option.bind_some,nh]; rfl,x,rfl,by simpa using hg⟩
  .have h1:0<=x % (m:Int):=aeM _ (by omega)
   have h2:x % (m:Int) < m:=aeq _ (by omega)
   refine .inr ⟨by simp only [gB,g2,ae,adf,ac9,adq,gC,acJ,nh]; simp; omega,[some (.int m),some (.int (x % (m:Int)))],(x % (m:Int)).toNat,by simp only [Oh,aa,ae,adf,ac9,adq,g2,acJ,af,adS,ad1]; rw [jb (by omega)]; rfl,by omega,m,by rw [afs h1],?_⟩
   rw [afs h1,GO,hg]
 .rintro δ' ⟨x,rfl,h2⟩
  exact ret _ (by simp only [cM,aa,ae,ac9,adq,af,acJ,pA]; rw [vZ,h2]) (.mk rfl rfl)
def dR (r:List Int):D:=.tuple (r.map .int)
def b0 (p:List (List Int)):D:=.tuple (p.map dR)
def lT (l:List Int):Prop:=l.Pairwise (· < ·)
def led (r:List Int):List Int:=ss (r ++ r.map (· + 1))
def Nx (r s:List Int):Prop:=s≠[] /\ lT s /\ ∀ x∈s,x∈led r
def Ha:List Int->List (List Int)->Prop
 | _,[]=>True
 | r,s :: q=>Nx r s /\ Ha s q
def lst:List Int->List (List Int)->List Int
 | r,[]=>r
 | _,s :: q=>lst s q
theorem yz {s:List Int}:∀ {q:List (List Int)} {r:List Int},Ha r q->Nx (lst r q) s->Ha r (q ++ [s])
 | [],_,_,h=>⟨h,trivial⟩
 | _ :: _,_,h1,h2=>⟨h1.1,yz h1.2 h2⟩
theorem lst_snoc {s:List Int}:∀ {q:List (List Int)} {r:List Int},lst r (q ++ [s])=s
 | [],_=>rfl
 | _ :: q,_=>lst_snoc (q:=q)
structure Pl (p:List (List Int)):Prop where
 ex:∃ q,p=[0] :: q /\ Ha [0] q
theorem gJ {x:Int} {r:List Int}:x∈led r↔x∈r \/ x - 1∈r:=by
 unfold led
 rw [Aa,adh,ac5]
 constructor
 .rintro (h | ⟨y,h,e⟩)
  .exact .inl h
  .exact .inr (by have:x - 1=y:=(by omega); rw [this]; exact h)
 .rintro (h | h)
  .exact .inl h
  .exact .inr ⟨x - 1,h,by omega⟩
theorem yA:∀ {l:List Int} {a b:Int},lT l->(∀ x∈l,a<=x /\ x<=b)->(l.length:Int)<=max 0 (b - a + 1)
 | [],a,b,_,_=>by simp; omega
 | x :: l,a,b,h,hb=>by
   obtain ⟨h1,h2⟩:=adD.mp h
   have hx:=hb x acR
   have:=yA (l:=l) (a:=x + 1) (b:=b) h2 λy hy=>⟨by have:=h1 y hy; omega,(hb y (acO _ hy)).2⟩
   rw [ac3]
   push_cast
   omega
theorem iI {i:Nat} {g:DS->Option D} {δ:DS} {ds:List D} {d:D} (h1:ae i δ=some (.list ds)) (h2:g δ=some d) (h3:ds.length < 100000):lg i g δ=some (.nx (δ.set i (some (.list (ds ++ [d]))))):=by
 unfold lg
 rw [h1,h2]
 show (if ds.length < 100000 then _ else _)=_
 rw [acU h3]
theorem Sa {g:DS->Option D} {δ:DS} {d:D} {ns:List Int} (h:g δ=some d) (h2:OB d=some (ns.map .int)) (h3:ns.length < 64):OC g δ=some ((ss ns).map .int):=by
 unfold OC
 rw [h,acJ,h2,acJ,mm,acJ,acU h3]
theorem wq {a b:DS->Option D} {δ:DS} {x y:List D} (h1:a δ=some (.list x)) (h2:b δ=some (.list y)) (h3:x.length + y.length<=100000):zQ ou a b δ=some (x ++ y):=by
 unfold zQ
 rw [h1,h2]
 show (if x.length + y.length<=100000 then _ else _)=_
 rw [acU h3]
theorem ji {c:DS->Option Bool} {a b:DS->Option Res} {δ:DS} {r:Option Res} (x:Bool) (h:c δ=some x) (h1:x=true->a δ=r) (h2:x=false->b δ=r):j8 c a b δ=r:=by
 unfold j8
 rw [h]
 cases x with
 | true=>exact h1 rfl
 | false=>exact h2 rfl
theorem Hb {α:Type} (enc:α->D) (l:List α) (lo hi:Option Int):∃ m:List α,cutD (l.map enc) lo hi=m.map enc /\ m.Sublist l:=by
 refine ⟨(l.drop (HT.tP l.length 0 lo)).take (HT.tP l.length l.length hi - HT.tP l.length 0 lo),?_,(agH _ _).trans (List.drop_sublist _ _)⟩
 unfold cutD
 rw [acH,List.map_take,List.map_drop]
theorem eF {f:List D->Option D} {g:DS->Option (List D)} {δ:DS} {ds:List D} {r:Option D} (h:g δ=some ds) (h2:f ds=r):cM f g δ=r:=by unfold cM; rw [h]; exact h2
theorem part_of {g:DS->Option D} {δ:DS} {i:Int} (h:g δ=some (.int i)):lF g δ=some (some i):=by unfold lF; rw [h]; rfl
theorem AF {a b:DS->Option D} {δ:DS} {r:List Int} (h1:a δ=some (.list (r.map .int))) (h2:b δ=some (.list (r.map .int)) \/ b δ=some (dR r)) (hl:r.length < 32):OC (aP (zQ ou a (aP (cD (aI b) [] (g2 bM (ae 0) (gC (.int 1))))))) δ=some ((led r).map .int):=by
 have hi:aI b δ=some (r.map .int):=by
  unfold aI
  rcases h2 with h2 | h2
  .rw [h2]; rfl
  .rw [h2]; rfl
 have hc:cD (aI b) [] (g2 bM (ae 0) (gC (.int 1))) δ=some ((r.map (· + 1)).map .int):=dY PyData.int PyData.int (λx=>x + 1) r hi (by omega) (λx _=>rfl)
 have Wj:=wq h1 (aN hc) (by simp; omega)
 refine Sa (aN Wj) ?_ (by simp; omega)
 rw [ade]
 rfl
theorem qt (c b:Int) (n:Nat) (hb:0 < b) (hn:n<=1000):hJ (gm [.int c,.int b,.int (n:Nat)]) λds=>∃ l:List Int,ds=l.map .int /\ l.length=n /\ ∀ x∈l,0<=x /\ x < b:=by
 rw [yt]
 refine aE [some (.int c),some (.int b),some (.int (n:Nat)),some (.list []),none,none] rfl ?_
 refine jY 0 n (λi δ=>∃ (l:List Int) (x y:Option D),δ=[some (.int c),some (.int b),some (.int (n:Nat)),some (.list (l.map .int)),x,y] /\ l.length=i /\ ∀ x∈l,0<=x /\ x < b) (hV rfl (by omega)) ⟨[],none,none,rfl,rfl,by simp⟩ ?_ ?_
 .rintro i δ hi ⟨l,x,y,rfl,hl,hx⟩
  have m1:cb (.int (c % 1000003)) (.int 48271)=some (.int (c % 1000003 * 48271)):=eE (mul_right (by decide) (by decide))
  have m2:cb (.int (0 + (i:Int))) (.int (0 + (i:Int)))=some (.int ((0 + (i:Int)) * (0 + (i:Int)))):=eE (mul_right (by omega) (by omega))
  have m3:cb (.int ((0 + (i:Int)) * (0 + (i:Int)))) (.int 69621)=some (.int ((0 + (i:Int)) * (0 + (i:Int)) * 69621)):=eE (mul_right (by decide) (by decide))
  have m4:cb (.int (0 + (i:Int))) (.int 16807)=some (.int ((0 + (i:Int)) * 16807)):=eE (mul_right (by decide) (by decide))
  refine ⟨_,[some (.int c),some (.int b),some (.int (n:Nat)),some (.list ((l ++ [_]).map .int)),some (.int (0 + (i:Int))),some (.int ((c % 1000003 * 48271 + (0 + (i:Int)) * (0 + (i:Int)) * 69621 + (0 + (i:Int)) * 16807) % 2147483647))],rfl,
   bO [some (.int c),some (.int b),some (.int (n:Nat)),some (.list (l.map .int)),some (.int (0 + (i:Int))),some (.int ((c % 1000003 * 48271 + (0 + (i:Int)) * (0 + (i:Int)) * 69621 + (0 + (i:Int)) * 16807) % 2147483647))]
    (aK (ak (ak (ak (ak (ak rfl rfl (jb (by decide))) rfl m1) (ak (ak rfl rfl m2) rfl m3) rfl) (ak rfl rfl m4) rfl) rfl (jb (by decide))))
    ((iI (d:=.int (((c % 1000003 * 48271 + (0 + (i:Int)) * (0 + (i:Int)) * 69621 + (0 + (i:Int)) * 16807) % 2147483647 * 39373 + c) % 2147483629 / 13 % b)) rfl
      (ak (ak (ak (ak (ak rfl rfl (eE (mul_right (by decide) (by decide)))) rfl rfl) rfl (jb (by decide))) rfl (oP (by decide) (aJ (bY (m:=4) (by decide)) (by decide)))) rfl (jb hb)) (by simp; omega)).trans (by rw [ade]; rfl)),l ++ [_],_,_,rfl,by simp [hl],?_⟩
  intro z hz
  rcases adh.mp hz with q | q
  .exact hx z q
  .rw [adm.mp q]
   exact ⟨aeM _ (by omega),aeq _ hb⟩
 .rintro δ' ⟨l,x,y,rfl,hl,hx⟩
  exact ret (.list (l.map .int)) rfl (.mk rfl ⟨l,rfl,hl,hx⟩)
theorem oS (c b:Int) (n:Nat) (hb:0 < b) (Wk:bt b<=9000) (hn:n<=1000):hJ (fj [.int c,.int b,.int (n:Nat)]) λds=>∃ l:List Int,ds=l.map .int /\ l.length=n /\ ∀ x∈l,0<=x /\ x < b:=by
 rw [wg]
 refine aE [some (.int c),some (.int b),some (.int (n:Nat)),some (.list []),none] rfl ?_
 refine jY 0 n (λi δ=>∃ (c:Int) (l:List Int) (x:Option D),δ=[some (.int c),some (.int b),some (.int (n:Nat)),some (.list (l.map .int)),x] /\ l.length=i /\ ∀ x∈l,0<=x /\ x < b) (hV rfl (by omega)) ⟨c,[],none,rfl,rfl,by simp⟩ ?_ ?_
 .rintro i δ hi ⟨c,l,x,rfl,hl,hx⟩
  refine ⟨_,[some (.int (c / b)),some (.int b),some (.int (n:Nat)),some (.list ((l ++ [c % b]).map .int)),some (.int (0 + (i:Int)))],rfl,
   bO [some (.int c),some (.int b),some (.int (n:Nat)),some (.list ((l ++ [c % b]).map .int)),some (.int (0 + (i:Int)))] ((iI (d:=.int (c % b)) rfl (ak rfl rfl (jb hb)) (by simp; omega)).trans (by rw [ade]; rfl)) (aK (ak rfl rfl (oP hb Wk))),c / b,l ++ [c % b],_,rfl,by simp [hl],?_⟩
  intro z hz
  rcases adh.mp hz with q | q
  .exact hx z q
  .rw [adm.mp q]
   exact ⟨aeM _ (by omega),aeq _ hb⟩
 .rintro δ' ⟨c,l,x,rfl,hl,hx⟩
  exact ret (.list (l.map .int)) rfl (.mk rfl ⟨l,rfl,hl,hx⟩)
theorem Cp {f:D->Option (Option D)} (hf:∀ (k:Nat) (x:Int),∃ b:Bool,f (.tuple [.int (k:Nat),.int x])=some (if b=true then some (.int x) else none)):∀ (l:List Int) (n:Nat),∃ m:List Int,m9 f (((l.map PyData.int).zipIdx n).map λp=>.tuple [.int (p.2:Nat),p.1])=some (m.map .int) /\ m.Sublist l
 | [],n=>⟨[],rfl,.slnil⟩
 | x :: l,n=>by
   obtain ⟨m,e,hs⟩:=Cp hf l (n + 1)
   obtain ⟨b,hb⟩:=hf n x
   rw [acQ,List.zipIdx_cons,acQ,m9,hb,acJ,e,acJ]
   cases b with
   | true=>exact ⟨x :: m,rfl,hs.cons₂ x⟩
   | false=>exact ⟨m,rfl,hs.cons x⟩
theorem AG {l:List Int} {i:Int} (h0:0<=i) (h1:i < l.length):∃ x,x∈l /\ bC (.list (l.map .int)) (.int i)=some (.int x):=by
 obtain ⟨k,rfl⟩:∃ k:Nat,i=(k:Int):=⟨i.toNat,by omega⟩
 have hk:k < l.length:=by omega
 exact ⟨l[k],aeG hk,iR (by rw [adb,acL hk]; rfl)⟩
theorem Wl:led [0]=[0,1]:=Mf (by simp) (by intro z; simp)
theorem AH (c:Int) (m:Nat) (hm1:1<=m) (hm:m<=24):hJ (jg [.int c,.int (m:Nat)]) λd=>∃ p,d=b0 p /\ Pl p /\ p.length<=m /\ ∀ r∈p,r.length<=25:=by
 rw [Ay]
 have TN:lz (.int 10) (.int 18)=some (.int (10 ^ 18)):=Cg (k:=18) (by decide) (by decide)
 obtain ⟨many,Sb,O7,Sd⟩:∃ many:Nat,100<=many /\ many<=300 /\ g2 bM (gC (.int (100))) (g2 cb (gC (.int (200))) (cM Dj (aa (g2 uE (ae 1) (gC (.int (12)))) af))) [some (.int c),some (.int (m:Nat)),some (.int (c / 4)),none,none,none,none,none,none]=some (.int (many:Nat)):=by
  by_cases h:(12:Int) < (m:Int)
  .refine ⟨300,by decide,by decide,ak rfl (ak rfl (show _=some (.int 1) from ?_) (eE (mul_right (by decide) (by decide)))) rfl⟩
   show some (PyData.int (if decide ((12:Int) < (m:Int))=true then 1 else 0))=_
   rw [ac2 h]; rfl
  .refine ⟨100,by decide,by decide,ak rfl (ak rfl (show _=some (.int 0) from ?_) (eE (mul_right (by decide) (by decide)))) rfl⟩
   show some (PyData.int (if decide ((12:Int) < (m:Int))=true then 1 else 0))=_
   rw [acZ h]; rfl
 have He:(0:Int) < (many:Int):=Int.ofNat_lt.mpr (ada (by decide) Sb)
 have Hf:many<=1000:=ado O7 (by decide)
 refine aE [some (.int c),some (.int (m:Nat)),some (.int (c / 4)),none,none,none,none,none,none] (aK (ak rfl rfl (oP (by decide) (aJ (bY (m:=4) (by decide)) (by decide))))) ?_
 refine aE [some (.int c),some (.int (m:Nat)),some (.int (c / 4)),some (.int (many:Nat)),none,none,none,none,none] (aK Sd) ?_
 obtain ⟨_,e1,l1,rfl,RG,hx1⟩:=qt (c / 4) 3 many (by decide) Hf
 refine aE [some (.int c),some (.int (m:Nat)),some (.int (c / 4)),some (.int (many:Nat)),some (.list (l1.map .int)),none,none,none,none] (aK (aN (be (cons_of rfl (cons_of rfl (cons_of rfl rfl))) rfl e1))) ?_
 have dig:∃ dg:List Int,dg.length=many /\ j8 (gB (g2 Vq (cM pA (aa (ae 0) af)) (g2 lz (gC (.int (10))) (gC (.int (18)))))) (aQ 4 (aP (aW fj 3 (aa (ae 2) (aa (gC (.int (3))) (aa (ae 3) af)))))) cN [some (.int c),some (.int (m:Nat)),some (.int (c / 4)),some (.int (many:Nat)),some (.list (l1.map .int)),none,none,none,none]
   =some (.nx [some (.int c),some (.int (m:Nat)),some (.int (c / 4)),some (.int (many:Nat)),some (.list (dg.map .int)),none,none,none,none]):=by
  obtain ⟨_,e2,l2,rfl,Jy,hx2⟩:=oS (c / 4) 3 many (by decide) (aJ (bY (m:=4) (by decide)) (by decide)) Hf
  have hc:gB (g2 Vq (cM pA (aa (ae 0) af)) (g2 lz (gC (.int (10))) (gC (.int (18))))) [some (.int c),some (.int (m:Nat)),some (.int (c / 4)),some (.int (many:Nat)),some (.list (l1.map .int)),none,none,none,none]=some (decide ((10 ^ 18:Int)<=(if c < 0 then -c else c))):=cL (ak rfl TN rfl)
  by_cases h:((10 ^ 18:Int)<=(if c < 0 then -c else c))
  .exact ⟨l2,Jy,ji true (by rw [hc,ac2 h]) (λ_=>aK (aN (be (cons_of rfl (cons_of rfl (cons_of rfl rfl))) rfl e2))) (λz=>nomatch z)⟩
  .exact ⟨l1,RG,ji false (by rw [hc,acZ h]) (λz=>nomatch z) (λ_=>rfl)⟩
 obtain ⟨dg,Wm,edg⟩:=dig
 refine aE _ edg ?_
 refine aE [some (.int c),some (.int (m:Nat)),some (.int (c / 4)),some (.int (many:Nat)),some (.list (dg.map .int)),some (.list [dR [0]]),none,none,none] rfl ?_
 refine aE [some (.int c),some (.int (m:Nat)),some (.int (c / 4)),some (.int (many:Nat)),some (.list (dg.map .int)),some (.list [dR [0]]),some (.list (([0,1]:List Int).map .int)),none,none] rfl ?_
 refine aE [some (.int c),some (.int (m:Nat)),some (.int (c / 4)),some (.int (many:Nat)),some (.list (dg.map .int)),some (.list [dR [0]]),some (.list (([0,1]:List Int).map .int)),some (.int 0),none] rfl ?_
 refine jX (λk δ=>∃ (q:List (List Int)) (cR:List Int) (pos:Nat) (z:Option D),δ=[some (.int c),some (.int (m:Nat)),some (.int (c / 4)),some (.int (many:Nat)),some (.list (dg.map .int)),some (.list (([0] :: q).map dR)),some (.list (cR.map .int)),some (.int (pos:Nat)),z] /\
   Ha [0] q /\ q.length + 1<=m /\ (cR=[] \/ cR=led (lst [0] q)) /\ lT cR /\ (∀ x∈cR,0<=x /\ x<=(q.length:Int) + 1) /\ (∀ r∈q,r.length<=25) /\ k=2 * (m - q.length) + (if cR=[] then 0 else 1))
  (λδ=>∃ (q:List (List Int)) (x y z:Option D),δ=[some (.int c),some (.int (m:Nat)),some (.int (c / 4)),some (.int (many:Nat)),some (.list (dg.map .int)),some (.list (([0] :: q).map dR)),x,y,z] /\ Ha [0] q /\ q.length + 1<=m /\ ∀ r∈q,r.length<=25)
  (2 * m + 1) ⟨[],[0,1],0,none,rfl,trivial,by simpa using hm1,.inr Wl.symm,by unfold lT; simp,by intro x hx; simp at hx; rcases hx with h | h <;> subst h <;> decide,by simp,by simp⟩ ?_ ?_
 .rintro k δ ⟨q,cR,pos,z,rfl,hq,TQ,Se,hr,hb,eG,rfl⟩
  have hlen:cR.length<=q.length + 2:=by
   have:=yA hr hb
   omega
  have cond:jA (gB (g2 ql (cM bL (aa (ae 5) af)) (ae 1))) (gB (g2 uE (cM bL (aa (ae 6) af)) (gC (.int (0))))) [some (.int c),some (.int (m:Nat)),some (.int (c / 4)),some (.int (many:Nat)),some (.list (dg.map .int)),some (.list (([0] :: q).map dR)),some (.list (cR.map .int)),some (.int (pos:Nat)),z]
    =some (decide ((((([0] :: q).map dR).length:Nat):Int) < (m:Int)) && decide ((0:Int) < (((cR.map PyData.int).length:Nat):Int))):=by
   by_cases h:((((([0] :: q).map dR).length:Nat):Int) < (m:Int))
   .rw [ac2 h,aff]
    exact Ao (cL (b:=true) (show _=_ from aeu (λb=>some (PyData.bool b)) (ac2 h))) (cL rfl)
   .rw [acZ h,agp]
    have h1:gB (g2 ql (cM bL (aa (ae 5) af)) (ae 1)) [some (.int c),some (.int (m:Nat)),some (.int (c / 4)),some (.int (many:Nat)),some (.list (dg.map .int)),some (.list (([0] :: q).map dR)),some (.list (cR.map .int)),some (.int (pos:Nat)),z]=some false:=
     cL (b:=false) (show _=_ from aeu (λb=>some (PyData.bool b)) (acZ h))
    unfold jA
    rw [h1]; rfl
  rw [cond]
  cases vk:(decide ((((([0] :: q).map dR).length:Nat):Int) < (m:Int)) && decide ((0:Int) < (((cR.map PyData.int).length:Nat):Int))) with
  | false=>exact .inl ⟨rfl,q,_,_,_,rfl,hq,TQ,eG⟩
  | true=>
    rw [adC,adt,adt] at vk
    have afr:q.length + 1 < m:=by
     have:=vk.1
     simp at this
     omega
    have lb:cR≠[]:=by
     intro e
     subst e
     simp at vk
    have rW:cR=led (lst [0] q):=Se.resolve_left lb
    refine .inr ⟨rfl,?_⟩
    have comp:∃ r1:List Int,bU (dX (ae 6)) 2 [4,3,7] (cW 2 (aO (au 0) (aO (au 1) cY))) (gB (g2 uE (g2 bC (ae 2) (g2 gU (g2 bM (ae 4) (ae 0)) (ae 3))) (gC (.int (0))))) (ae 1)
      [some (.int c),some (.int (m:Nat)),some (.int (c / 4)),some (.int (many:Nat)),some (.list (dg.map .int)),some (.list (([0] :: q).map dR)),some (.list (cR.map .int)),some (.int (pos:Nat)),z]=some (r1.map .int) /\ r1.Sublist cR:=by
     obtain ⟨f,ef⟩:∃ f:D->Option (Option D),f=λd=>(cW 2 (aO (au 0) (aO (au 1) cY)) d (List.replicate 2 none ++ eB [4,3,7] [some (.int c),some (.int (m:Nat)),some (.int (c / 4)),some (.int (many:Nat)),some (.list (dg.map .int)),some (.list (([0] :: q).map dR)),some (.list (cR.map .int)),some (.int (pos:Nat)),z])).bind λfh=>
       (gB (g2 uE (g2 bC (ae 2) (g2 gU (g2 bM (ae 4) (ae 0)) (ae 3))) (gC (.int (0)))) fh).bind λb=>if b=true then (ae 1 fh).map some else some none:=⟨_,rfl⟩
     have hf:∀ (k:Nat) (x:Int),∃ b:Bool,f (.tuple [.int (k:Nat),.int x])=some (if b=true then some (.int x) else none):=by
      intro k x
      obtain ⟨y,_,ey⟩:=AG (l:=dg) (i:=((pos:Nat) + (k:Nat):Int) % (many:Nat)) (aeM _ (agl He)) (by rw [Wm]; exact aeq _ He)
      refine ⟨decide (0 < y),?_⟩
      rw [ef]
      show (Option.bind (some [some (PyData.int (k:Nat)),some (.int x),some (.list (dg.map .int)),some (.int (many:Nat)),some (.int (pos:Nat))]) _)=_
      rw [acJ]
      have hb:gB (g2 uE (g2 bC (ae 2) (g2 gU (g2 bM (ae 4) (ae 0)) (ae 3))) (gC (.int (0)))) [some (PyData.int (k:Nat)),some (.int x),some (.list (dg.map .int)),some (.int (many:Nat)),some (.int (pos:Nat))]=some (decide (0 < y)):=
       cL (ak (ak rfl (ak (ak rfl rfl rfl) rfl (jb He)) ey) rfl rfl)
      rw [hb,acJ]
      cases decide (0 < y) <;> rfl
     obtain ⟨m1,em1,FW⟩:=Cp hf cR 0
     refine ⟨m1,?_,FW⟩
     unfold bU
     rw [show dX (ae 6) [some (.int c),some (.int (m:Nat)),some (.int (c / 4)),some (.int (many:Nat)),some (.list (dg.map .int)),some (.list (([0] :: q).map dR)),some (.list (cR.map .int)),some (.int (pos:Nat)),z]=some (i9 (cR.map .int)) from rfl,acJ,acU (by rw [pB,acH]; omega)]
     rw [ef] at em1
     exact em1
    obtain ⟨r1,er1,FW⟩:=comp
    have slice:∃ r:List Int,r.Sublist cR /\ j8 (gB (g2 uE (g2 gU (ae 0) (gC (.int (4)))) (gC (.int (1))))) (aQ 8 (aP (JP (ae 6) (lF (g2 bC (ae 4) (g2 gU (ae 7) (ae 3)))) (lF (cM xS (aa (gC (.int (0))) (aa (g2 g6 (cM bL (aa (ae 6) af)) (g2 bC (ae 4) (g2 gU (g2 bM (ae 7) (gC (.int (1)))) (ae 3)))) af))))))) cN
      [some (.int c),some (.int (m:Nat)),some (.int (c / 4)),some (.int (many:Nat)),some (.list (dg.map .int)),some (.list (([0] :: q).map dR)),some (.list (cR.map .int)),some (.int ((pos:Nat) + (cR.map PyData.int).length)),some (.list (r1.map .int))]
      =some (.nx [some (.int c),some (.int (m:Nat)),some (.int (c / 4)),some (.int (many:Nat)),some (.list (dg.map .int)),some (.list (([0] :: q).map dR)),some (.list (cR.map .int)),some (.int ((pos:Nat) + (cR.map PyData.int).length)),some (.list (r.map .int))]):=by
     obtain ⟨y1,_,ey1⟩:=AG (l:=dg) (i:=((pos:Nat) + (cR.map PyData.int).length:Int) % (many:Nat)) (aeM _ (agl He)) (by rw [Wm]; exact aeq _ He)
     obtain ⟨y2,_,ey2⟩:=AG (l:=dg) (i:=((pos:Nat) + (cR.map PyData.int).length + 1:Int) % (many:Nat)) (aeM _ (agl He)) (by rw [Wm]; exact aeq _ He)
     have hc:gB (g2 uE (g2 gU (ae 0) (gC (.int (4)))) (gC (.int (1)))) [some (.int c),some (.int (m:Nat)),some (.int (c / 4)),some (.int (many:Nat)),some (.list (dg.map .int)),some (.list (([0] :: q).map dR)),some (.list (cR.map .int)),some (.int ((pos:Nat) + (cR.map PyData.int).length)),some (.list (r1.map .int))]=some (decide (1 < c % 4)):=
      cL (ak (ak rfl rfl (jb (by decide))) rfl rfl)
     by_cases h:1 < c % 4
     .obtain ⟨r2,er2,oa⟩:=Hb PyData.int cR (some y1) (some (if ((cR.map PyData.int).length:Int) - y2 > 0 then ((cR.map PyData.int).length:Int) - y2 else 0))
      refine ⟨r2,oa,ji true (by rw [hc,ac2 h]) (λ_=>aK (aN ?_)) (λz=>nomatch z)⟩
      have f1:lF (g2 bC (ae 4) (g2 gU (ae 7) (ae 3))) [some (.int c),some (.int (m:Nat)),some (.int (c / 4)),some (.int (many:Nat)),some (.list (dg.map .int)),some (.list (([0] :: q).map dR)),some (.list (cR.map .int)),some (.int ((pos:Nat) + (cR.map PyData.int).length)),some (.list (r1.map .int))]=some (some y1):=by
       exact part_of (ak rfl (ak rfl rfl (jb He)) ey1)
      have f2:lF (cM xS (aa (gC (.int (0))) (aa (g2 g6 (cM bL (aa (ae 6) af)) (g2 bC (ae 4) (g2 gU (g2 bM (ae 7) (gC (.int (1)))) (ae 3)))) af))) [some (.int c),some (.int (m:Nat)),some (.int (c / 4)),some (.int (many:Nat)),some (.list (dg.map .int)),some (.list (([0] :: q).map dR)),some (.list (cR.map .int)),some (.int ((pos:Nat) + (cR.map PyData.int).length)),some (.list (r1.map .int))]
        =some (some (if ((cR.map PyData.int).length:Int) - y2 > 0 then ((cR.map PyData.int).length:Int) - y2 else 0)):=by
       have g:g2 g6 (cM bL (aa (ae 6) af)) (g2 bC (ae 4) (g2 gU (g2 bM (ae 7) (gC (.int (1)))) (ae 3))) [some (.int c),some (.int (m:Nat)),some (.int (c / 4)),some (.int (many:Nat)),some (.list (dg.map .int)),some (.list (([0] :: q).map dR)),some (.list (cR.map .int)),some (.int ((pos:Nat) + (cR.map PyData.int).length)),some (.list (r1.map .int))]=some (.int (((cR.map PyData.int).length:Int) - y2)):=
        ak rfl (ak rfl (ak (ak rfl rfl rfl) rfl (jb He)) ey2) rfl
       exact part_of (eF (cons_of rfl (cons_of g rfl)) rfl)
      unfold JP
      rw [f1,f2]
      show some (cutD (cR.map .int) _ _)=_
      rw [er2]
     .exact ⟨r1,FW,ji false (by rw [hc,acZ h]) (λz=>nomatch z) (λ_=>rfl)⟩
    obtain ⟨r,hs,esl⟩:=slice
    have hrr:lT r:=hr.sublist hs
    have Wn:r.length<=25:=by have:=hs.length_le; omega
    have hrb:∀ x∈r,0<=x /\ x<=(q.length:Int) + 1:=λx hx=>hb x (hs.subset hx)
    have e6:=AF (a:=ae 8) (b:=ae 8) (δ:=[some (.int c),some (.int (m:Nat)),some (.int (c / 4)),some (.int (many:Nat)),some (.list (dg.map .int)),some (.list (([0] :: q).map dR)),some (.list (cR.map .int)),some (.int ((pos:Nat) + (cR.map PyData.int).length)),some (.list (r.map .int))]) (r:=r) rfl (.inl rfl) (by omega)
    by_cases TR:r=[]
    .subst TR
     refine ⟨[some (.int c),some (.int (m:Nat)),some (.int (c / 4)),some (.int (many:Nat)),some (.list (dg.map .int)),some (.list (([0] :: q).map dR)),some (.list (([]:List Int).map .int)),some (.int (((pos + cR.length:Nat):Nat):Int)),some (.list (([]:List Int).map .int))],2 * (m - q.length),?_,by rw [acW lb]; omega,q,[],pos + cR.length,_,rfl,hq,TQ,.inl rfl,.nil,by simp,eG,by simp⟩
     refine bO _ (aK (aN er1)) (bO _ (aK (ak rfl rfl rfl)) (bO _ esl (bO _ (aK (aN e6)) ?_)))
     refine (ji false rfl (λz=>nomatch z) λ_=>rfl).trans ?_
     rw [acH]
     push_cast
     rfl
    .have hnx:Nx (lst [0] q) r:=⟨TR,hrr,λx hx=>rW ▸ hs.subset hx⟩
     refine ⟨[some (.int c),some (.int (m:Nat)),some (.int (c / 4)),some (.int (many:Nat)),some (.list (dg.map .int)),some (.list (([0] :: (q ++ [r])).map dR)),some (.list ((led r).map .int)),some (.int (((pos + cR.length:Nat):Nat):Int)),some (.list (r.map .int))],2 * (m - (q ++ [r]).length) + (if led r=[] then 0 else 1),?_,?_,q ++ [r],led r,pos + cR.length,_,rfl,yz hq hnx,by simp; omega,.inr (by rw [lst_snoc]),fi,?_,?_,rfl⟩
     .refine bO _ (aK (aN er1)) (bO _ (aK (ak rfl rfl rfl)) (bO _ esl (bO _ (aK (aN e6)) ?_)))
      have vM:(0:Int) < ((r.map PyData.int).length:Int):=by
       have:=agg.mpr TR
       simp; omega
      refine (ji true (cL (b:=true) (show _=_ from aeu (λb=>some (PyData.bool b)) (ac2 vM))) (λ_=>iI (ds:=([0] :: q).map dR) (d:=dR r) rfl rfl (by simp; omega)) λz=>nomatch z).trans ?_
      rw [acH,<- List.cons_append,ade]
      push_cast
      rfl
     .have hl:led r≠[]:=λe=>by
       obtain ⟨x,hx⟩:=List.exists_mem_of_ne_nil r TR
       have:=gJ.mpr (.inl hx)
       rw [e] at this; simp at this
      rw [acW hl,acW lb]
      simp
      omega
     .intro x hx
      rcases gJ.mp hx with h | h
      .have:=hrb x h; simp; omega
      .have:=hrb _ h; simp; omega
     .intro s qC
      rcases adh.mp qC with h | h
      .exact eG s h
      .rw [adm.mp h]; exact Wn
 .rintro δ' ⟨q,x,y,z,rfl,hq,TQ,eG⟩
  refine ret (b0 ([0] :: q)) rfl (.mk rfl ⟨[0] :: q,rfl,⟨q,rfl,hq⟩,by simpa using TQ,λr hr=>?_⟩)
  rcases acK.mp hr with h | h
  .rw [h]; decide
  .exact eG r h
theorem Kn {i:Int} {T:List Int}:JS (.int i) (.list (T.map .int))=some (.bool (decide (i∈T))):=by
 have hf:(lG (.int i) && (T.map PyData.int).all lG)=true:=by simp [lG]
 show (if (lG (.int i) && (T.map PyData.int).all lG)=true then some (PyData.bool ((T.map PyData.int).any λz=>FK z (.int i))) else none)=_
 rw [acU hf,List.any_map]
 congr 2
 rw [aga,ag4,adt]
 constructor
 .rintro ⟨x,hx,e⟩
  rw [Function.comp,BY,adt] at e
  rw [<- e]; exact hx
 .intro h
  exact ⟨i,h,by rw [Function.comp,BY]; simp⟩
theorem AI {i:Int} {T:List Int}:JS (.int i) (dR T)=some (.bool (decide (i∈T))):=Kn
theorem dd {a:Int} (b:Int) (h:0 < b) (h2:b.natAbs < 2 ^ 70):ly (.int a) (.int b)=some (.int (a / b)):=oP h (aJ (bY h2) (by decide))
theorem O8 {a b:DS->Option D} {δ:DS} {x y:Bool} (h1:a δ=some (.bool x)) (h2:x=true->b δ=some (.bool y)):uF a b δ=some (.bool (x && y)):=by
 unfold uF
 rw [cL h1,acJ]
 cases x with
 | true=>rw [acU rfl,h2 rfl]; rfl
 | false=>rfl
theorem Cq {p:List (List Int)} {i:Int} (h0:0<=i) (h1:i < (p.length:Int)):bC (b0 p) (.int i)=some (dR (p.getD i.toNat [])):=by
 obtain ⟨k,rfl⟩:∃ k:Nat,i=(k:Int):=⟨i.toNat,by omega⟩
 have hk:k < p.length:=by omega
 refine iR ?_
 rw [adb,adA,acS,acL hk]
 rfl
abbrev WF:=Int->Int->Int
def dC (c:Int×Int):D:=.tuple [.int c.1,.int c.2]
def fw (F:WF) (c:Int×Int):WF:=λx y=>F x y + (if x=c.1 + 1 /\ y=c.2 then F c.1 c.2 else 0) + (if x=c.1 /\ y=c.2 + 1 then F c.1 c.2 else 0)
def kM (c:Int×Int):WF:=λx y=>if x=c.1 /\ y=c.2 then 1 else 0
def jJ (n:Nat) (r:List Int):List (Int×Int):=r.map λb=>(b,(n:Int) - b)
def bf:Nat->List (List Int)->List (Int×Int)
 | _,[]=>[]
 | n,r :: p=>jJ n r ++ bf (n + 1) p
theorem mB (r:List Int):∀ (p:List (List Int)) (n:Nat),bf n (p ++ [r])=bf n p ++ jJ (n + p.length) r
 | [],n=>by simp [bf]
 | s :: p,n=>by
   rw [ae4,bf,bf,mB r p (n + 1),aew,ac3,show n + 1 + p.length=n + (p.length + 1) by omega]
theorem sA:∀ (p:List (List Int)) (n:Nat),(∀ r∈p,r.length<=25)->(bf n p).length<=25 * p.length
 | [],_,_=>by simp [bf]
 | r :: p,n,h=>by
   have h1:=sA p (n + 1) λs hs=>h s (acO _ hs)
   have h2:=h r acR
   rw [bf,ac7,ac3,jJ,acH]
   omega
def lv (A:Int->Int) (r:List Int) (b:Int):Int:=(if b - 1∈r then A (b - 1) else 0) + (if b∈r then A b else 0)
theorem Hg (A:Int->Int) (b:Int):lv A [] b=0:=by simp [lv]
theorem Hh {A:Int->Int} {r s:List Int} (h:∀ x,x∈r↔x∈s) (b:Int):lv A r b=lv A s b:=by simp only [lv,h]
def WW:(Int->Int)->List (List Int)->Nat->Int->Int
 | A,_,0,b=>A b
 | _,[],_ + 1,_=>0
 | A,r :: p,k + 1,b=>WW (lv A r) p k b
theorem WW_0 (A:Int->Int) (p:List (List Int)):WW A p 0=A:=by funext b; cases p <;> rfl
theorem oT:∀ (p:List (List Int)) (A:Int->Int) (k:Nat) (b:Int),WW A p (k + 1) b=lv (WW A p k) (p.getD k []) b
 | [],A,k,b=>by
   rw [show ([]:List (List Int)).getD k []=[] from rfl,Hg]; rfl
 | r :: p,A,0,b=>by
   show WW (lv A r) p 0 b=lv (WW A (r :: p) 0) r b
   rw [WW_0,WW_0]
 | r :: p,A,k + 1,b=>by
   show WW (lv A r) p (k + 1) b=lv (WW (lv A r) p k) (p.getD k []) b
   exact oT p (lv A r) k b
structure Sf (n:Nat) (F:WF) (A B:Int->Int):Prop where
 TK:∀ x y:Int,x + y=(n:Int)->F x y=A x
 at1:∀ x y:Int,x + y=(n:Int) + 1->F x y=B x
 up:∀ x y:Int,(n:Int) + 1 < x + y->F x y=0
theorem Hi {n:Nat} {F:WF} {A:Int->Int} {bs:List Int} {b:Int} (h:Sf n F A (lv A bs)) (hb:b∉bs):Sf n (fw F (b,(n:Int) - b)) A (lv A (b :: bs)) /\ ∀ x y:Int,x + y < (n:Int)->fw F (b,(n:Int) - b) x y=F x y:=by
 have e:∀ x y,fw F (b,(n:Int) - b) x y=F x y + (if x=b + 1 /\ y=(n:Int) - b then A b else 0) + (if x=b /\ y=(n:Int) - b + 1 then A b else 0):=by
  intro x y
  unfold fw
  rw [h.TK b ((n:Int) - b) (by omega)]
 refine ⟨⟨?_,?_,?_⟩,?_⟩
 .intro x y EC
  rw [e,acW (by omega),acW (by omega),h.TK x y EC]; omega
 .intro x y EC
  rw [e,h.at1 x y EC]
  have e1:(x=b + 1 /\ y=(n:Int) - b)↔x - 1=b:=by constructor <;> intro z <;> omega
  have e2:(x=b /\ y=(n:Int) - b + 1)↔x=b:=by constructor <;> intro z <;> omega
  simp only [e1,e2,lv,acK]
  by_cases c1:x - 1=b
  .have c2:¬ x=b:=by omega
   have c3:x - 1∉bs:=by rw [c1]; exact hb
   simp only [c1,c2,true_or,false_or,afN,agX,acW hb]
   omega
  .by_cases c2:x=b
   .subst c2
    simp only [c1,true_or,false_or,afN,agX,acW hb]
    omega
   .simp only [c1,c2,false_or,agX]
    omega
 .intro x y EC
  rw [e,acW (by omega),acW (by omega),h.up x y EC]; rfl
 .intro x y EC
  rw [e,acW (by omega),acW (by omega)]; omega
theorem Cr {n:Nat} {A:Int->Int}:∀ (r bs:List Int) (F:WF),Sf n F A (lv A bs)->(∀ x∈r,x∉bs)->r.Nodup->Sf n ((jJ n r).foldl fw F) A (lv A (r ++ bs)) /\ ∀ x y:Int,x + y < (n:Int)->(jJ n r).foldl fw F x y=F x y
 | [],bs,F,h,_,_=>⟨h,λ_ _ _=>rfl⟩
 | b :: r,bs,F,h,hd,nd=>by
   obtain ⟨h1,h2⟩:=Hi h (hd b acR)
   obtain ⟨n1,n2⟩:=afc.mp nd
   obtain ⟨h3,h4⟩:=Cr r (b :: bs) _ h1 (λx hx z=>by
    rcases acK.mp z with q | q
    .subst q; exact n1 hx
    .exact hd x (acO _ hx) q) n2
   refine ⟨?_,λx y EC=>(h4 x y EC).trans (h2 x y EC)⟩
   have:lv A (r ++ b :: bs)=lv A ((b :: r) ++ bs):=by
    funext x
    exact Hh (λz=>by simp only [adh,acK,ae4]; constructor <;> rintro (q | q | q) <;> simp [q]) x
   rw [<- this]
   exact h3
theorem sC:∀ (p:List (List Int)) (n:Nat) (A:Int->Int) (F:WF),(∀ r∈p,r.Nodup)->(∀ x y:Int,x + y=(n:Int)->F x y=A x)->(∀ x y:Int,(n:Int) < x + y->F x y=0)->
  ∀ x y:Int,(x + y < (n:Int)->(bf n p).foldl fw F x y=F x y) /\ ∀ k:Nat,x + y=(n:Int) + (k:Int)->(bf n p).foldl fw F x y=WW A p k x
 | [],n,A,F,_,h0,h1,x,y=>by
   refine ⟨λ_=>rfl,λk hk=>?_⟩
   show F x y=_
   cases k with
   | zero=>rw [WW_0]; exact h0 x y (by omega)
   | succ k=>exact h1 x y (by omega)
 | r :: p,n,A,F,hn,h0,h1,x,y=>by
   have L0:Sf n F A (lv A []):=⟨h0,λx y q=>by rw [Hg]; exact h1 x y (by omega),λx y q=>h1 x y (by omega)⟩
   obtain ⟨L1,K1⟩:=Cr r [] F L0 (λx _ z=>by simp at z) (hn r acR)
   rw [adV] at L1
   have ih:=sC p (n + 1) (lv A r) ((jJ n r).foldl fw F) (λs hs=>hn s (acO _ hs)) (λx y q=>L1.at1 x y (by push_cast at q; omega)) (λx y q=>L1.up x y (by push_cast at q; omega)) x y
   rw [bf,agL]
   refine ⟨λq=>(ih.1 (by push_cast; omega)).trans (K1 x y q),λk hk=>?_⟩
   cases k with
   | zero=>
     rw [WW_0,ih.1 (by push_cast; omega)]
     exact L1.TK x y (by omega)
   | succ k=>exact ih.2 k (by push_cast; push_cast at hk; omega)
theorem gK {l:List Int} (h:lT l):l.Nodup:=h.imp λz e=>by omega
theorem Cs:∀ {q:List (List Int)} {r:List Int} {n:Nat},(∀ x∈r,0<=x /\ x<=(n:Int))->Ha r q->(∀ s∈q,s.Nodup) /\ ∀ k,∀ x∈q.getD k [],0<=x /\ x<=((n + 1 + k:Nat):Int)
 | [],_,_,_,_=>⟨by simp,λk x hx=>by simp at hx⟩
 | s :: q,r,n,hr,hc=>by
   have hs:∀ x∈s,0<=x /\ x<=((n + 1:Nat):Int):=λx hx=>by
    rcases gJ.mp (hc.1.2.2 x hx) with h | h
    .have:=hr x h; omega
    .have:=hr _ h; omega
   obtain ⟨i1,i2⟩:=Cs (n:=n + 1) hs hc.2
   refine ⟨λt ht=>?_,λk x hx=>?_⟩
   .rcases acK.mp ht with z | z
    .rw [z]; exact gK hc.1.2.1
    .exact i1 t z
   .cases k with
    | zero=>exact hs x (by simpa using hx)
    | succ k=>
      have:=i2 k x (by simpa using hx)
      omega
theorem oU {p:List (List Int)} (h:Pl p):(∀ s∈p,s.Nodup) /\ ∀ k,∀ x∈p.getD k [],0<=x /\ x<=(k:Int):=by
 obtain ⟨q,rfl,hc⟩:=h.ex
 obtain ⟨i1,i2⟩:=Cs (q:=q) (r:=[0]) (n:=0) (by simp) hc
 refine ⟨λs hs=>?_,λk x hx=>?_⟩
 .rcases acK.mp hs with z | z
  .rw [z]; simp
  .exact i1 s z
 .cases k with
  | zero=>simp at hx; subst hx; simp
  | succ k=>
    have:=i2 k x (by simpa using hx)
    omega
def Dt (kds:List (D×D)) (F:WF):Prop:=∀ b g:Int,(cj kds [.inl b,.inl g]).getD (.int 0)=.int (F b g)
theorem oV {gd gk ge:DS->Option D} {δ:DS} {kds:List (D×D)} {c:Int×Int} {z:D} (h1:gd δ=some (.dict kds)) (h2:gk δ=some (dC c)) (h3:ge δ=some z):pH gd gk ge δ=some ((cj kds [.inl c.1,.inl c.2]).getD z):=by
 unfold pH; rw [h1,h2,h3]; rfl
theorem oW {gd gk:DS->Option D} {δ:DS} {kds:List (D×D)} {c:Int×Int} (h1:gd δ=some (.dict kds)) (h2:gk δ=some (dC c)):jU gd gk δ=cj kds [.inl c.1,.inl c.2]:=by
 unfold jU; rw [h1,h2]; rfl
theorem wt {i:Nat} {gk ge:DS->Option D} {δ:DS} {kds:List (D×D)} {c:Int×Int} {d:D} (h1:ae i δ=some (.dict kds)) (h2:gk δ=some (dC c)) (h3:ge δ=some d) (h4:kds.length < 100000):yh i gk ge δ=some (.nx (δ.set i (some (.dict (jT kds [.inl c.1,.inl c.2] d))))):=by
 unfold yh; rw [h1,h2,h3]
 show (if kds.length < 100000 then _ else _)=_
 rw [acU h4]
theorem sD {b g x y:Int}:(([.inl b,.inl g]:List Key)=[.inl x,.inl y])↔b=x /\ g=y:=by simp
theorem Wo {t:D->DS->Option DS} {b:DS->Option Res} {d1 d2:D} {δ:DS} (fh TM δ3 δ4:DS) (h1:t d1 δ=some fh) (h2:b fh=some (.nx TM)) (h3:t d2 TM=some δ3) (h4:b δ3=some (.nx δ4)):oA t b [d1,d2] δ=some (.nx δ4):=by
 simp only [oA,h1,h2,h3,h4,acJ]
theorem Dt.put {kds:List (D×D)} {F:WF} (h:Dt kds F) (x y v:Int):Dt (jT kds [.inl x,.inl y] (.int v)) (λb g=>if b=x /\ g=y then v else F b g):=by
 intro b g
 show _=PyData.int (if b=x /\ g=y then v else F b g)
 rw [uS]
 by_cases e:b=x /\ g=y
 .rw [acU (sD.mpr e),acU e]; rfl
 .rw [acW (λz=>e (sD.mp z)),acW e]; exact h b g
theorem Hj (q:eA):md (dF q) (.tuple [.int 0,.int 1])=some (.bool (decide (q=Qz))):=Mm q Qz
theorem D3 (l:List eA):mw [dP l]=some ((trim l).map dF):=by
 rw [DZ]
 refine aT ?_
 refine aE [some (dP l),some (.list (l.map dF))] (by unfold dP; simp only [gg,rP,aa,ae,List.getElem?_cons_zero,Option.join_some,af,Option.bind_some,jB,List.set_cons_succ,List.set_cons_zero]) ?_
 refine jX (λk δ=>∃ m:List eA,δ=[some (dP l),some (.list (m.map dF))] /\ trim m=trim l /\ m.length=k) (λδ=>δ=[some (dP l),some (.list ((trim l).map dF))]) l.length ?_ ?_ ?_
 .exact ⟨l,rfl,rfl,rfl⟩
 .rintro k δ ⟨m,rfl,ht,rfl⟩
  rcases snoc_cases m with rfl | ⟨l',q,rfl⟩
  .exact .inl ⟨by simp only [jA,gB,g2,cM,aa,ae,afM,adf,ac9,adq,af,acJ,fE,aej,gC,uD,g1,kh,Cm,adt]; first | done | rfl,by rw [<- ht]; rfl⟩
  .have hl:o7 ((l' ++ [q]).map dF) (-1)=some (dF q):=Ci (by simp)
   have vM:(0:Int) < (((l' ++ [q]).map dF).length:Nat):=by rw [acH,ac7,adI]; omega
   by_cases hq:q=Qz
   .refine .inr ⟨?_,[some (dP l),some (.list (l'.map dF))],l'.length,?_,by simp,l',rfl,by rw [<- ht,hq,GQ],rfl⟩
    .simp only [jA,gB,g2,cM,aa,ae,adf,ac9,adq,af,acJ,fE,gC,uD,g1,kh,Cm,adt]
     rw [acU vM,hl,acJ,Hj,hq]
     rfl
    .simp only [Od,ae,adf,ac9,adq,ad1,adS,acJ]
     rw [acW (by simp)]
     simp
   .refine .inl ⟨?_,by rw [<- ht,OW l' hq]⟩
    simp only [jA,gB,g2,cM,aa,ae,adf,ac9,adq,af,acJ,fE,gC,uD,g1,kh,Cm,adt]
    rw [acU vM,hl,acJ,Hj,acZ hq]
    rfl
 .rintro δ' rfl
  exact ret (.list ((trim l).map dF)) (by simp only [ae,adf,ac9,adq]) (.mk rfl rfl)
theorem wu {i:Nat} {g:DS->Option (List D)} {δ:DS} {ds zs:List D} (h1:ae i δ=some (.list ds)) (h2:g δ=some zs) (h3:ds.length + zs.length<=100000):zW i g δ=some (.nx (δ.set i (some (.list (ds ++ zs))))):=by
 unfold zW
 rw [h1,h2]
 show (if ds.length + zs.length<=100000 then _ else _)=_
 rw [acU h3]
theorem Ko (p:List (List Int)):i9 (p.map dR)=p.zipIdx.map λx=>.tuple [.int (x.2:Nat),dR x.1]:=by
 unfold i9
 rw [agd,ady]
 rfl
theorem AJ {p:List (List Int)} (hl:p.length<=24) (eG:∀ r∈p,r.length<=25):jd [b0 p]=some ((bf 0 p).map dC):=by
 rw [Au]
 refine aT ?_
 refine aE [some (b0 p),some (.list []),none,none] rfl ?_
 refine fO (λx:List Int×Nat=>PyData.tuple [.int (x.2:Nat),dR x.1]) p.zipIdx (λi δ=>∃ a b,δ=[some (b0 p),some (.list ((bf 0 (p.take i)).map dC)),a,b]) ?_ ⟨none,none,rfl⟩ ?_ ?_
 .show some (i9 (p.map dR))=_
  rw [Ko]
 .rintro i ⟨r,n⟩ δ hi ⟨a,b,rfl⟩
  rw [aev] at hi
  cases er:p[i]? with
  | none=>rw [er] at hi; cases hi
  | some r'=>
    rw [er] at hi
    simp only [adT,aeh,aex,afx] at hi
    obtain ⟨rfl,rfl⟩:=hi
    have IS:=(acN.mp er).1
    have hr:=eG r' (adk er)
    have ht:p.take (i + 1)=p.take i ++ [r']:=by
     rw [adB,er]; rfl
    have IT:(p.take i).length=i:=by rw [adF]; omega
    have hc0:=sA (p.take i) 0 λs hs=>eG s (ad2 hs)
    refine ⟨_,[some (b0 p),some (.list ((bf 0 (p.take (i + 1))).map dC)),some (.int (i:Nat)),some (dR r')],rfl,?_,_,_,rfl⟩
    have hc:cD (aI (ae 3)) [2] (aS (aa (ae 0) (aa (g2 g6 (ae 1) (ae 0)) af))) [some (b0 p),some (.list ((bf 0 (p.take i)).map dC)),some (.int (i:Nat)),some (dR r')]=some ((r'.map λb=>(b,(i:Int) - b)).map dC):=
     dY PyData.int dC (λb=>(b,(i:Int) - b)) r' rfl (by omega) λx _=>rfl
    refine (wu rfl hc (by simp only [acH]; omega)).trans ?_
    rw [ht,mB,IT,aeh,ade]
    rfl
 .rintro δ' ⟨a,b,rfl⟩
  refine ret (.list ((bf 0 p).map dC)) ?_ (.mk rfl rfl)
  rw [afA,adE]
  rfl
theorem wx {a b:Str} (ha:PyData.strOk a=true) (hb:PyData.strOk b=true) {c:Bool} (hc:(a == b)=c):md (.str a) (.str b)=some (.bool c):=by
 unfold md
 simp [SeqAt.shaped,PyData.canLay0,PyData.depth,PyData.eqv,ha,hb,hc]
theorem pQ (c:Int×Int):dD [dC c,.str "b"]=some (dC (c.1 + 1,c.2)):=by
 rw [Co]
 exact aT (qV true (cL (b:=true) (ak rfl rfl (wx (by decide +kernel) (by decide +kernel) (by decide +kernel)))) (λ_=>qW (dC (c.1 + 1,c.2)) rfl (.mk rfl rfl)) λz=>nomatch z)
theorem pR (c:Int×Int):dD [dC c,.str "g"]=some (dC (c.1,c.2 + 1)):=by
 rw [Co]
 exact aT (lL (cL (b:=false) (ak rfl rfl (wx (by decide +kernel) (by decide +kernel) (by decide +kernel)))) (ret (dC (c.1,c.2 + 1)) rfl (.mk rfl rfl)))
theorem ju {p:List (List Int)} (hl:p.length<=24) (eG:∀ r∈p,r.length<=25) (c:Int×Int):∃ kds,dN [b0 p,dC c]=some (.dict kds) /\ Dt kds ((bf 0 p).foldl fw (kM c)):=by
 have rW:=sA p 0 eG
 have main:hJ (dN [b0 p,dC c]) λd=>∃ kds,d=.dict kds /\ Dt kds ((bf 0 p).foldl fw (kM c)):=by
  rw [yq]
  refine aE [some (b0 p),some (dC c),some (.dict [(dC c,.int 1)]),none,none,none] rfl ?_
  refine fO dC (bf 0 p) (λi δ=>∃ kds a b e,δ=[some (b0 p),some (dC c),some (.dict kds),a,b,e] /\ Dt kds (((bf 0 p).take i).foldl fw (kM c)) /\ kds.length<=1 + 2 * i) ?_ ⟨_,_,_,_,rfl,?_,by simp⟩ ?_ ?_
  .have ec:aP (aW jd 1 (aa (ae 0) af)) [some (b0 p),some (dC c),some (.dict [(dC c,.int 1)]),none,none,none]=some (.list ((bf 0 p).map dC)):=aN (be (cons_of rfl rfl) rfl (AJ hl eG))
   unfold aI
   rw [ec]
   rfl
  .intro b g
   have:jT [] [.inl c.1,.inl c.2] (.int 1)=[(dC c,.int 1)]:=rfl
   rw [<- this]
   exact (Dt.put (kds:=[]) (F:=λ_ _=>0) (λb g=>rfl) c.1 c.2 1) b g
  .rintro i k δ hi ⟨kds,a,b,e,rfl,hd,hlen⟩
   have IS:=(acN.mp hi).1
   obtain ⟨F,hF⟩:∃ F,F=((bf 0 p).take i).foldl fw (kM c):=⟨_,rfl⟩
   rw [<- hF] at hd
   have Hk:((bf 0 p).take (i + 1)).foldl fw (kM c)=fw F k:=by
    rw [adB,hi,agL,<- hF]; rfl
   obtain ⟨k1,EB⟩:∃ k1,k1=jT kds [.inl (k.1 + 1),.inl k.2] (.int (F (k.1 + 1) k.2 + F k.1 k.2)):=⟨_,rfl⟩
   have Oy:=hd.put (k.1 + 1) k.2 (F (k.1 + 1) k.2 + F k.1 k.2)
   rw [<- EB] at Oy
   have hd2:=Oy.put k.1 (k.2 + 1) (F k.1 (k.2 + 1) + F k.1 k.2)
   have l1:k1.length<=kds.length + 1:=by rw [EB]; exact pG _ _ _
   have l2:=pG k1 [.inl k.1,.inl (k.2 + 1)] (.int (F k.1 (k.2 + 1) + F k.1 k.2))
   refine ⟨_,[some (b0 p),some (dC c),some (.dict (jT k1 [.inl k.1,.inl (k.2 + 1)] (.int (F k.1 (k.2 + 1) + F k.1 k.2)))),some (dC k),some (.int (F k.1 k.2)),some (dC (k.1,k.2 + 1))],rfl,?_,_,_,_,_,rfl,?_,by omega⟩
   .refine bO [some (b0 p),some (dC c),some (.dict kds),some (dC k),some (.int (F k.1 k.2)),e] (aK ((oV rfl rfl rfl).trans (aeu some (hd k.1 k.2)))) ?_
    unfold eT
    have hit:aI (aS (aa (az dD 2 (aa (ae 3) (aa (gC (.str "b")) af))) (aa (az dD 2 (aa (ae 3) (aa (gC (.str "g")) af))) af))) [some (b0 p),some (dC c),some (.dict kds),some (dC k),some (.int (F k.1 k.2)),e]=some [dC (k.1 + 1,k.2),dC (k.1,k.2 + 1)]:=by
     have e1:az dD 2 (aa (ae 3) (aa (gC (.str "b")) af)) [some (b0 p),some (dC c),some (.dict kds),some (dC k),some (.int (F k.1 k.2)),e]=some (dC (k.1 + 1,k.2)):=call_of (cons_of rfl (cons_of rfl rfl)) rfl (pQ k)
     have e2:az dD 2 (aa (ae 3) (aa (gC (.str "g")) af)) [some (b0 p),some (dC c),some (.dict kds),some (dC k),some (.int (F k.1 k.2)),e]=some (dC (k.1,k.2 + 1)):=call_of (cons_of rfl (cons_of rfl rfl)) rfl (pR k)
     unfold aI aS
     rw [cons_of e1 (cons_of e2 rfl)]
     rfl
    rw [hit,acJ]
    refine Wo [some (b0 p),some (dC c),some (.dict kds),some (dC k),some (.int (F k.1 k.2)),some (dC (k.1 + 1,k.2))] [some (b0 p),some (dC c),some (.dict k1),some (dC k),some (.int (F k.1 k.2)),some (dC (k.1 + 1,k.2))] [some (b0 p),some (dC c),some (.dict k1),some (dC k),some (.int (F k.1 k.2)),some (dC (k.1,k.2 + 1))] _ rfl ?_ rfl ?_
    .refine (wt (c:=(k.1 + 1,k.2)) rfl rfl (ak ((oV (c:=(k.1 + 1,k.2)) rfl rfl rfl).trans (aeu some (hd (k.1 + 1) k.2))) rfl rfl) (by omega)).trans ?_
     rw [EB]; rfl
    .have h5:(cj k1 [.inl k.1,.inl (k.2 + 1)]).getD (.int 0)=.int (F k.1 (k.2 + 1)):=by
      have:=Oy k.1 (k.2 + 1)
      rw [this]
      show PyData.int (if k.1=k.1 + 1 /\ k.2 + 1=k.2 then _ else _)=_
      rw [acW (by omega)]
     exact wt (c:=(k.1,k.2 + 1)) rfl rfl (ak ((oV (c:=(k.1,k.2 + 1)) rfl rfl rfl).trans (aeu some h5)) rfl rfl) (by omega)
   .rw [Hk]
    intro x y
    rw [hd2 x y]
    congr 1
    show (if x=k.1 /\ y=k.2 + 1 then _ else if x=k.1 + 1 /\ y=k.2 then _ else F x y)=F x y + _ + _
    by_cases c1:x=k.1 /\ y=k.2 + 1
    .rw [acU c1,acU c1,acW (by omega),c1.1,c1.2]; omega
    .rw [acW c1,acW c1]
     by_cases c2:x=k.1 + 1 /\ y=k.2
     .rw [acU c2,acU c2,c2.1,c2.2]; omega
     .rw [acW c2,acW c2]; omega
  .rintro δ' ⟨kds,a,b,e,rfl,hd,_⟩
   rw [adE] at hd
   exact ret (.dict kds) rfl (.mk rfl ⟨kds,rfl,hd⟩)
 obtain ⟨_,e,kds,rfl,hd⟩:=main
 exact ⟨kds,e,hd⟩
def A0:Int->Int:=λb=>if b=0 then 1 else 0
theorem Hl {p:List (List Int)} (h:Pl p) {x y:Int} {k:Nat} (e:x + y=(k:Int)):(bf 0 p).foldl fw (kM (0,0)) x y=WW A0 p k x:=by
 refine (sC p 0 A0 (kM (0,0)) (oU h).1 ?_ ?_ x y).2 k (by push_cast; omega)
 .intro x y q
  unfold kM A0
  by_cases c:x=0
  .rw [acU ⟨c,by push_cast at q; show y=0; omega⟩,acU c]
  .rw [acW (λz=>c z.1),acW c]
 .intro x y q
  unfold kM
  rw [acW]
  rintro ⟨z1,z2⟩
  have z1':x=0:=z1
  have z2':y=0:=z2
  push_cast at q
  omega
theorem wy {α β:Type} (enc:α->D) (ky:β->D) (h:α->β) (P:α->Bool) {f:D->Option (Option D)}:∀ l:List α,(∀ a∈l,f (enc a)=some (if P a=true then some (ky (h a)) else none))->m9 f (l.map enc)=some (((l.filter P).map h).map ky)
 | [],_=>rfl
 | a :: l,q=>by
   have ih:=wy enc ky h P l λb hb=>q b (acO _ hb)
   rw [acQ,m9,q a acR,acJ,ih,acJ,adH]
   cases P a <;> rfl
theorem yB {α β:Type} (enc:α->D) (ky:β->D) (h:α->β) (P:α->Bool) {gi:DS->Option (List D)} {ix:List Nat} {gc:DS->Option Bool} {ge:DS->Option D} {δ:DS} (l:List α) (hi:gi δ=some (l.map enc)) (hl:l.length<=100000)
  (hc:∀ a∈l,gc (some (enc a) :: eB ix δ)=some (P a)) (he:∀ a∈l,P a=true->ge (some (enc a) :: eB ix δ)=some (ky (h a))):bU gi 1 ix (au 0) gc ge δ=some (((l.filter P).map h).map ky):=by
 unfold bU
 rw [hi,acJ,acU (by rw [acH]; exact hl)]
 refine wy enc ky h P l λa ha=>?_
 show (Option.bind (some (some (enc a) :: eB ix δ)) _)=_
 rw [acJ,hc a ha,acJ]
 cases q:P a with
 | true=>rw [acU rfl,acU rfl,he a ha q]; rfl
 | false=>rfl
theorem Ct {f f':D->D->Option D} {a b c:DS->Option D} {δ:DS} {x y w:D} {u v:Bool} (h1:a δ=some x) (h2:b δ=some y) (h3:f x y=some (.bool u)) (h4:c δ=some w) (h5:f' y w=some (.bool v)):kj f f' a b c δ=some (.bool (u && v)):=by
 unfold kj
 rw [h1,h2]
 simp only [acJ,h3]
 cases u with
 | true=>simp only [h4,acJ,h5,aff]
 | false=>rfl
theorem Hm {r:List Int} (h:r.length < 32):jZ [dR r]=some ((led r).map .int):=by
 rw [G5]
 exact aT (ret (.list ((led r).map .int)) (aN (AF (a:=aP (rP jB (aa (ae 0) af))) (b:=ae 0) (r:=r) rfl (.inr rfl) h)) (.mk rfl rfl))
def ik (p:List (List Int)) (c:Int×Int):Bool:=(decide (0<=c.1 + c.2) && decide (c.1 + c.2 < (p.length:Int))) && decide (c.1∈p.getD (c.1 + c.2).toNat [])
theorem i3 (p:List (List Int)) (c:Int×Int):gj [b0 p,dC c]=some (.bool (ik p c)):=by
 rw [DX]
 refine aT ?_
 refine aE [some (b0 p),some (dC c),some (.int (c.1 + c.2))] rfl ?_
 refine ret (.bool (ik p c)) ?_ (.mk rfl rfl)
 refine O8 (x:=decide (0<=c.1 + c.2) && decide (c.1 + c.2 < (p.length:Int))) ?_ λh=>?_
 .have e2:ql (.int (c.1 + c.2)) (.int (((p.map dR).length:Nat):Int))=some (.bool (decide (c.1 + c.2 < (p.length:Int)))):=by
   rw [acH]; rfl
  exact Ct rfl rfl rfl rfl e2
 .rw [adC,adt,adt] at h
  exact ak rfl (ak rfl rfl (Cq h.1 h.2)) AI
theorem j4:∀ (p:List (List Int)) (n:Nat),(∀ r∈p,r.length<=50)->(bf n p).length<=50 * p.length
 | [],_,_=>by simp [bf]
 | r :: p,n,h=>by
   have h1:=j4 p (n + 1) λs hs=>h s (acO _ hs)
   have h2:=h r acR
   rw [bf,ac7,ac3,jJ,acH]
   omega
theorem Hn (p:List (List Int)):qq (p.map dR)=(p.zipIdx 1).map λx=>.tuple [.int (x.2:Nat),dR x.1]:=by
 unfold qq
 rw [agd,ady]
 rfl
theorem Cu (x:Int):∀ l:List Int,(ins x l).length<=l.length + 1
 | []=>by simp [ins]
 | y :: l=>by
   have:=Cu x l
   rw [ins]
   split
   .simp
   .split
    .simp
    .simp only [ac3]; omega
theorem Ho:∀ l:List Int,(ss l).length<=l.length
 | []=>by simp [ss]
 | x :: l=>by
   have h1:=Ho l
   have h2:=Cu x (ss l)
   rw [ss,ac3]; omega
theorem kN {r:List Int}:(led r).length<=2 * r.length:=by
 have h:((led r):List Int).length<=(r ++ r.map (· + 1)).length:=Ho _
 rw [ac7,acH] at h
 omega
theorem D4 {p:List (List Int)} (hl:p.length<=24) (eG:∀ r∈p,r.length<=25):iZ [b0 p]=some (((0,0) :: bf 1 (p.map led)).map dC):=by
 rw [DY]
 refine aT ?_
 refine aE [some (b0 p),some (.list [dC (0,0)]),none,none] rfl ?_
 refine fO (λx:List Int×Nat=>PyData.tuple [.int (x.2:Nat),dR x.1]) (p.zipIdx 1) (λi δ=>∃ a b,δ=[some (b0 p),some (.list (((0,0) :: bf 1 ((p.take i).map led)).map dC)),a,b]) ?_ ⟨none,none,rfl⟩ ?_ ?_
 .show some (qq (p.map dR))=_
  rw [Hn]
 .rintro i ⟨r,n⟩ δ hi ⟨a,b,rfl⟩
  rw [aev] at hi
  cases er:p[i]? with
  | none=>rw [er] at hi; cases hi
  | some r'=>
    rw [er] at hi
    simp only [adT,aex,afx] at hi
    obtain ⟨rfl,rfl⟩:=hi
    have IS:=(acN.mp er).1
    have hr:=eG r' (adk er)
    have ht:p.take (i + 1)=p.take i ++ [r']:=by
     rw [adB,er]; rfl
    have IT:(p.take i).length=i:=by rw [adF]; omega
    have hll:(led r').length<=50:=by have:=kN (r:=r'); omega
    have rW:(bf 1 ((p.take i).map led)).length<=1200:=by
     have:=j4 ((p.take i).map led) 1 (λs hs=>by
      obtain ⟨t,ht,rfl⟩:=ac5.mp hs
      have:=kN (r:=t)
      have:=eG t (ad2 ht)
      omega)
     rw [acH,IT] at this
     omega
    refine ⟨_,[some (b0 p),some (.list (((0,0) :: bf 1 ((p.take (i + 1)).map led)).map dC)),some (.int ((1 + i:Nat):Int)),some (dR r')],rfl,?_,_,_,rfl⟩
    have hc:cD (aI (aP (aW jZ 1 (aa (ae 3) af)))) [2] (aS (aa (ae 0) (aa (g2 g6 (ae 1) (ae 0)) af))) [some (b0 p),some (.list (((0,0) :: bf 1 ((p.take i).map led)).map dC)),some (.int ((1 + i:Nat):Int)),some (dR r')]=some (((led r').map λb=>(b,((1 + i:Nat):Int) - b)).map dC):=by
     refine dY PyData.int dC (λb=>(b,((1 + i:Nat):Int) - b)) (led r') ?_ (by omega) λx _=>rfl
     have ec:aP (aW jZ 1 (aa (ae 3) af)) [some (b0 p),some (.list (((0,0) :: bf 1 ((p.take i).map led)).map dC)),some (.int ((1 + i:Nat):Int)),some (dR r')]=some (.list ((led r').map .int)):=aN (be (cons_of rfl rfl) rfl (Hm (by omega)))
     unfold aI
     rw [ec]
     rfl
    refine (wu rfl hc (by simp only [acH,ac3]; omega)).trans ?_
    have key:bf 1 ((p.take (i + 1)).map led)=bf 1 ((p.take i).map led) ++ jJ (1 + i) (led r'):=by
     rw [ht,ade,show List.map led [r']=[led r'] from rfl,mB,acH,IT]
    simp only [key,acQ,ade,ae4]
    rfl
 .rintro δ' ⟨a,b,rfl⟩
  refine ret (.list (((0,0) :: bf 1 (p.map led)).map dC)) ?_ (.mk rfl rfl)
  rw [afA,adE]
  rfl
def aj (p:List (List Int)):List (Int×Int):=((0,0) :: bf 1 (p.map led)).filter λc=> !ik p c
theorem sE {p:List (List Int)} (hl:p.length<=24) (eG:∀ r∈p,r.length<=25):jc [b0 p]=some ((aj p).map dC):=by
 rw [O6]
 have rW:(bf 1 (p.map led)).length<=1200:=by
  have:=j4 (p.map led) 1 (λs hs=>by
   obtain ⟨t,ht,rfl⟩:=ac5.mp hs
   have:=kN (r:=t)
   have:=eG t ht
   omega)
  rw [acH] at this
  omega
 have hc:bU (aI (aP (aW iZ 1 (aa (ae 0) af)))) 1 [0] (au 0) (qB (mV (az gj 2 (aa (ae 1) (aa (ae 0) af))))) (ae 0) [some (b0 p)]=some (((((0,0) :: bf 1 (p.map led)).filter λc=> !ik p c).map id).map dC):=by
  refine yB dC dC id (λc=> !ik p c) ((0,0) :: bf 1 (p.map led)) ?_ (by simp only [ac3]; omega) (λc _=>?_) λc _ _=>rfl
  .have ec:aP (aW iZ 1 (aa (ae 0) af)) [some (b0 p)]=some (.list (((0,0) :: bf 1 (p.map led)).map dC)):=aN (be (cons_of rfl rfl) rfl (D4 hl eG))
   unfold aI
   rw [ec]
   rfl
  .exact kz (kA (call_of (cons_of rfl (cons_of rfl rfl)) rfl (i3 p c)))
 rw [List.map_id] at hc
 exact aT (ret (.list ((aj p).map dC)) (aN hc) (.mk rfl rfl))
def sF (p:List (List Int)) (c:Int×Int):Bool:=(decide (0<=c.1 + c.2) && decide (c.1 + c.2 < (p.length:Int))) && decide (c.1∈p.getD (c.1 + c.2).toNat [])
theorem Kp (p:List (List Int)) (n:Nat) (b:Int):sF p (b,(n:Int) - b)=decide (b∈p.getD n []):=by
 unfold sF
 simp only
 rw [show b + ((n:Int) - b)=(n:Int) by omega,adA,ac2 (show (0:Int)<=(n:Int) by omega),aff]
 rcases Nat.lt_or_ge n p.length with q | q
 .rw [ac2 (show (n:Int) < (p.length:Int) by omega),aff]
 .rw [acZ (show ¬ (n:Int) < (p.length:Int) by omega),agp,acS,ad4 q]
  simp
theorem pT {L:Nat} (h:L<=24): -100000<=((L:Nat):Int) + 1 /\ ((L:Nat):Int) + 1<=100000 /\ ((((L:Nat):Int) + 1) - 1).toNat=L:=⟨by omega,by omega,by omega⟩
theorem Kq {N:Int} {i L:Nat} (h:N=1 + (i:Int)) (hi:i < L):0<=N /\ N.toNat=i + 1 /\ 0<=N - 1 /\ N - 1 < (L:Int) /\ (N - 1).toNat=i /\ (¬ N < (L:Int)->L<=i + 1):=⟨by omega,by omega,by omega,by omega,by omega,λ_=>by omega⟩
theorem Kr {a b i L:Nat} (h1:a<=50 * i) (h2:b<=a) (hi:i < L) (hL:L<=24):b<=1200:=by omega
theorem wz {l r f:Nat} (h:l<=2 * r) (hr:r<=25):l<=50 /\ r < 32 /\ (f<=l->∀ a,a<=1200->a + f<=100000):=⟨by omega,by omega,λ_ _ _=>by omega⟩
theorem AK {p:List (List Int)} (hl:p.length<=24) (eG:∀ r∈p,r.length<=25):jh [b0 p]=some (((bf 1 (p.map led)).filter λc=> !sF p c).map dC):=by
 rw [Az]
 refine aT ?_
 refine aE [some (b0 p),some (.list []),none,none,none] rfl ?_
 refine jY 1 p.length (λi δ=>∃ a b c,δ=[some (b0 p),some (.list (((bf 1 ((p.take i).map led)).filter λc=> !sF p c).map dC)),a,b,c]) ?_ ⟨none,none,none,rfl⟩ ?_ ?_
 .have e:aa (gC (.int (1))) (aa (g2 bM (cM bL (aa (ae 0) af)) (gC (.int (1)))) af) [some (b0 p),some (.list []),none,none,none]=some [.int 1,.int (((p.length:Nat):Int) + 1)]:=by
   show some [PyData.int 1,PyData.int ((((p.map dR).length:Nat):Int) + 1)]=_
   rw [acH]
  refine (DW e (by decide) (by decide) (pT hl).1 (pT hl).2.1).trans ?_
  rw [(pT hl).2.2]
 .rintro i δ hi ⟨a,b,c,rfl⟩
  obtain ⟨r,er⟩:∃ r,p[i]?=some r:=⟨_,acL hi⟩
  have hr:=eG r (adk er)
  have ht:p.take (i + 1)=p.take i ++ [r]:=by rw [adB,er]; rfl
  have IT:(p.take i).length=i:=by rw [adF]; exact Nat.min_eq_left (aer hi)
  obtain ⟨acc,yd⟩:∃ acc,acc=((bf 1 ((p.take i).map led)).filter λc=> !sF p c).map dC:=⟨_,rfl⟩
  rw [<- yd]
  have Sg:acc.length<=1200:=by
   have h1:=j4 ((p.take i).map led) 1 (λs hs=>by
    obtain ⟨t,ht,rfl⟩:=ac5.mp hs
    exact (wz (f:=0) (kN (r:=t)) (eG t (ad2 ht))).1)
   rw [acH,IT] at h1
   have h2:=aep (λc=> !sF p c) (bf 1 ((p.take i).map led))
   rw [yd,acH]
   exact Kr h1 h2 hi hl
  obtain ⟨hll,h32,_⟩:=wz (f:=0) (kN (r:=r)) hr
  obtain ⟨N,hN⟩:∃ N:Int,N=1 + (i:Int):=⟨_,rfl⟩
  obtain ⟨m1,m2,m3,m4,m5,m6⟩:=Kq hN hi
  rw [<- hN]
  obtain ⟨on,Wp⟩:∃ on,on=p.getD (i + 1) []:=⟨_,rfl⟩
  have st:j8 (gB (g2 ql (ae 2) (cM bL (aa (ae 0) af)))) (aQ 3 (g2 bC (ae 0) (ae 2))) cN [some (b0 p),some (.list acc),some (.int N),some (.tuple []),c]=some (.nx [some (b0 p),some (.list acc),some (.int N),some (dR on),c]):=by
   have hc:gB (g2 ql (ae 2) (cM bL (aa (ae 0) af))) [some (b0 p),some (.list acc),some (.int N),some (.tuple []),c]=some (decide (N < (p.length:Int))):=by
    refine cL ?_
    show some (PyData.bool (decide (N < (((p.map dR).length:Nat):Int))))=_
    rw [acH]
   by_cases q:N < (p.length:Int)
   .refine ji true (hc.trans (aeu some (ac2 q))) (λ_=>?_) λz=>nomatch z
    refine (aK (ak rfl rfl (Cq m1 q))).trans ?_
    rw [m2,<- Wp]
    rfl
   .refine ji false (hc.trans (aeu some (acZ q))) (λz=>nomatch z) λ_=>?_
    have:on=[]:=by rw [Wp,acS,ad4 (m6 q)]; rfl
    rw [this]; rfl
  have ix:g2 bC (ae 0) (g2 g6 (ae 2) (gC (.int (1)))) [some (b0 p),some (.list acc),some (.int N),some (dR on),c]=some (dR r):=by
   refine (ak rfl rfl (Cq (p:=p) (i:=N - 1) m3 m4)).trans ?_
   rw [m5,acS,er]
   rfl
  have ss4:=AF (a:=aP (rP jB (aa (g2 bC (ae 0) (g2 g6 (ae 2) (gC (.int (1))))) af))) (b:=g2 bC (ae 0) (g2 g6 (ae 2) (gC (.int (1))))) (δ:=[some (b0 p),some (.list acc),some (.int N),some (dR on),c]) (r:=r) (by
   unfold aP rP
   rw [cons_of ix rfl]
   rfl) (.inr ix) h32
  refine ⟨_,[some (b0 p),some (.list (((bf 1 ((p.take (i + 1)).map led)).filter λc=> !sF p c).map dC)),some (.int N),some (dR on),some (.list ((led r).map .int))],rfl,?_,_,_,_,rfl⟩
  refine bO [some (b0 p),some (.list acc),some (.int N),some (.tuple []),c] rfl ?_
  refine bO _ st ?_
  refine bO [some (b0 p),some (.list acc),some (.int N),some (dR on),some (.list ((led r).map .int))] (aK (aN ss4)) ?_
  have hcp:bU (aI (ae 4)) 1 [2,3] (au 0) (gB (g2 mX (ae 0) (ae 2))) (aS (aa (ae 0) (aa (g2 g6 (ae 1) (ae 0)) af))) [some (b0 p),some (.list acc),some (.int N),some (dR on),some (.list ((led r).map .int))]=some ((((led r).filter λb=> !decide (b∈on)).map λb=>(b,N - b)).map dC):=by
   refine yB PyData.int dC (λb=>(b,N - b)) (λb=> !decide (b∈on)) (led r) rfl (ado hll (by decide)) (λb _=>?_) λb _ _=>rfl
   refine cL (ak rfl rfl ?_)
   unfold mX
   rw [AI]
   rfl
  refine (wu rfl hcp (by simp only [acH]; exact (wz (kN (r:=r)) hr).2.2 (aep (λb=> !decide (b∈on)) (led r)) _ Sg)).trans ?_
  have key:((bf 1 ((p.take (i + 1)).map led)).filter λc=> !sF p c).map dC=acc ++ (((led r).filter λb=> !decide (b∈on)).map λb=>(b,N - b)).map dC:=by
   rw [ht,ade,show List.map led [r]=[led r] from rfl,mB,acH,IT,afb,ade,<- yd]
   congr 2
   unfold jJ
   rw [List.filter_map]
   have ef:((λc:Int×Int=> !sF p c) ∘ λb:Int=>(b,((1 + i:Nat):Int) - b))=λb=> !decide (b∈on):=by
    funext b
    show (!sF p (b,((1 + i:Nat):Int) - b))=_
    rw [Kp,Wp,Nat.add_comm 1 i]
   rw [ef]
   congr 1
   funext b
   rw [hN]
   push_cast
   rfl
  rw [key]
  rfl
 .rintro δ' ⟨a,b,c,rfl⟩
  refine ret (.list (((bf 1 (p.map led)).filter λc=> !sF p c).map dC)) ?_ (.mk rfl rfl)
  rw [adE]
  rfl
theorem Ks {g:DS->Option D} {δ:DS} {d:D} (h:g δ=some d):BR g δ=some (.nx δ):=by unfold BR; rw [h]; rfl
theorem kO {a b:DS->Option D} {δ:DS} {x y:D} (h1:a δ=some x) (h2:b δ=some y):aS (aa a (aa b af)) δ=some (.tuple [x,y]):=by
 unfold aS; rw [cons_of h1 (cons_of h2 rfl)]; rfl
structure Sz (m:Nat) (q:eA):Prop where
 low:TL q
 top:bt q.1<=m
 bot:bt q.2<=m
theorem Sz.ne {m:Nat} {q:eA} (h:Sz m q):q.2≠0:=by have:=h.low.1; omega
theorem Sz.up {m n:Nat} {q:eA} (h:Sz m q) (hn:m<=n):Sz n q:=⟨h.low,aJ h.top hn,aJ h.bot hn⟩
theorem oX {m:Nat} {t b:Int} (hb:b≠0) (h1:bt t<=m) (h2:bt b<=m):Sz m (br t b):=⟨OX hb,iO ((c5 hb).An hb) h1,iO ((c5 hb).bot_le hb) h2⟩
theorem AL (a b:Int) (hb:bt b<=4000):cv [.int a,.int b]=some (.int (Int.gcd a b:Nat)):=by
 rw [ni]
 refine aT ?_
 refine aE [some (.int (a.natAbs:Nat)),some (.int b),none,none] (by simp only [aQ,cM,aa,ae,ac9,adq,af,acJ,pA,adS]; rw [vZ]) ?_
 refine aE [some (.int (a.natAbs:Nat)),some (.int (b.natAbs:Nat)),none,none] (by simp only [aQ,cM,aa,ae,adf,ac9,adq,af,acJ,pA,ad1,adS]; rw [vZ]) ?_
 refine jX (λm δ=>∃ (x:Nat) (r p:Option D),δ=[some (.int (x:Nat)),some (.int (m:Nat)),r,p] /\ bt (m:Int)<=4000 /\ Nat.gcd x m=Int.gcd a b) (λδ=>∃ (x:Nat) (r p:Option D),δ=[some (.int (x:Nat)),some (.int 0),r,p] /\ x=Int.gcd a b) b.natAbs ?_ ?_ ?_
 .exact ⟨_,none,none,rfl,iO (by simp) hb,rfl⟩
 .rintro m δ ⟨x,r,p,rfl,hbm,hg⟩
  by_cases hm:m=0
  .subst hm
   exact .inl ⟨by simp only [gB,g2,ae,List.getElem?_cons_succ,List.getElem?_cons_zero,Option.join_some,gC,Option.bind_some,nh]; rfl,x,r,p,rfl,by simpa using hg⟩
  .have iG:x % m < m:=Nat.mod_lt _ (by omega)
   have e:((x:Int) % (m:Int))=((x % m:Nat):Int):=by omega
   have B5:bt ((x % m:Nat):Int)<=4000:=iO (by simp; omega) hbm
   refine .inr ⟨by simp only [gB,g2,ae,adf,ac9,adq,gC,acJ,nh]; simp; omega,[some (.int m),some (.int ((x % m:Nat):Int)),some (.int ((x % m:Nat):Int)),p],x % m,?_,iG,m,_,_,rfl,B5,?_⟩
   .simp only [av,aQ,g2,ae,ac9,adq,adf,acJ,ad1,adS,j8,gB,g1,gC,az,aa,af,cN]
    rw [jb (by omega),e]
    simp only [acJ,adf,ac9,adq,adS,ad1,BV,uD,ac3,aej,Nat.reduceAdd,afN,adt]
    have afD:Builtin.Int.intBits ((x % m:Nat):Int)<=4000:=B5
    rw [acW (by omega)]
   .rw [<- hg,Nat.gcd_comm x m,Nat.gcd_rec m x,Nat.gcd_comm]
 .rintro δ' ⟨x,r,p,rfl,h2⟩
  exact ret _ (by simp only [ae,ac9,adq]; rw [h2]) (.mk rfl rfl)
theorem mC (t b:Int) (Ow:b≠0) (hb:bt b<=4000):kC [.int t,.int b]=some (dF (br t b)):=by
 rw [O3]
 refine aT ?_
 have hg:=AL t b hb
 have hd0:dv t b≠0:=R6 Ow
 have IU:bt (dv t b)<=9000:=by
  refine aJ (iO ?_ hb) (by decide)
  have:(Int.gcd t b) ∣ b.natAbs:=agM _ _
  have:=agT (by omega) this
  unfold dv; split <;> omega
 refine lL (by simp only [gB,g2,ae,adf,ac9,adq,gC,acJ,v7]; rw [acZ Ow]) ?_
 refine aE [some (.int t),some (.int b),some (.int (Int.gcd t b:Nat))] (by simp only [aQ,az,aa,ae,ac9,adq,adf,af,acJ,ac3,aej,Nat.reduceAdd,afN,ad1,adS]; rw [hg]; rfl) ?_
 refine aE [some (.int t),some (.int b),some (.int (dv t b))] ?_ ?_
 .simp only [j8,gB,g2,ae,adf,ac9,adq,gC,acJ,uD,aQ,g1,kh,ad1,adS,cN,adt]
  unfold dv
  split <;> rfl
 .refine ret (dF (br t b)) ?_ (.mk rfl rfl)
  simp only [aS,aa,g2,ae,ac9,adq,adf,acJ,af]
  rw [v5 hd0 IU,v5 hd0 IU]
  rfl
theorem Hq (a b:eA) (ha:Sz 4000 a) (hb:Sz 4000 b):qY [dF a,dF b]=some (dF (jD a b)):=by
 rw [Kl]
 refine aT ?_
 have f1:=mC a.1 b.2 hb.ne hb.bot
 have f2:=mC b.1 a.2 ha.ne ha.bot
 have o1:=c5 (t:=a.1) hb.ne
 have o2:=c5 (t:=b.1) ha.ne
 have hq:=(GN ha.low.2 hb.low.2 o1 o2).qm (adl ha.ne hb.ne)
 have c1:=iO (o1.An hb.ne) ha.top
 have c2:=iO (o1.bot_le hb.ne) hb.bot
 have c3:=iO (o2.An ha.ne) hb.top
 have c4:=iO (o2.bot_le ha.ne) ha.bot
 refine aE [some (dF a),some (dF b),some (dF (br a.1 b.2)),none] (by simp only [aQ,az,aa,g2,ae,ac9,adq,gC,acJ,gH,adf,eL,af,ac3,aej,Nat.reduceAdd,afN,ad1,adS]; rw [f1]; rfl) ?_
 refine aE [some (dF a),some (dF b),some (dF (br a.1 b.2)),some (dF (br b.1 a.2))] (by simp only [aQ,az,aa,g2,ae,adf,ac9,adq,gC,acJ,gH,eL,af,ac3,aej,Nat.reduceAdd,afN,ad1,adS]; rw [f2]; rfl) ?_
 refine ret (dF (jD a b)) ?_ (.mk rfl rfl)
 unfold jD
 rw [<- hq]
 simp only [aS,aa,g2,ae,adf,ac9,adq,gC,acJ,gH,eL,af]
 rw [eE (iP c1 c3),eE (iP c2 c4)]
 rfl
theorem yC (q:eA) (k:Nat) (h1:bt q.1<=1000) (h2:bt q.2<=1000) (hk:k<=1000):kD [dF q,.int (k:Nat)]=some (dF (q.1 ^ k,q.2 ^ k)):=by
 rw [Km]
 refine aT ?_
 refine aE [some (dF q),some (.int (k:Nat)),some (.int 1),none,none] rfl (aE [some (dF q),some (.int (k:Nat)),some (.int 1),some (.int 1),none] rfl ?_)
 refine jY 0 k (λi δ=>∃ z:Option D,δ=[some (dF q),some (.int (k:Nat)),some (.int (q.1 ^ i)),some (.int (q.2 ^ i)),z]) (hV rfl (by omega)) ⟨none,by rw [Int.pow_zero,Int.pow_zero]⟩ ?_ ?_
 .rintro i δ hi ⟨z,rfl⟩
  have hm:∀ {u:Int},bt u<=1000->IntMulOk (u ^ i) u:=λh=>iP (OZ h i) h (by have:1000 * i<=1000 * 1000:=agh _ (by omega); omega)
  refine ⟨_,[some (dF q),some (.int (k:Nat)),some (.int (q.1 ^ (i + 1))),some (.int (q.2 ^ (i + 1))),some (.int (0 + (i:Int)))],rfl,?_,_,rfl⟩
  exact bO [some (dF q),some (.int (k:Nat)),some (.int (q.1 ^ (i + 1))),some (.int (q.2 ^ i)),some (.int (0 + (i:Int)))] (aK (ak rfl (ak rfl rfl (gH q)) ((eE (hm h1)).trans (by rw [agm])))) (aK (ak rfl (ak rfl rfl (eL q)) ((eE (hm h2)).trans (by rw [agm]))))
 .rintro δ' ⟨z,rfl⟩
  exact ret (dF (q.1 ^ k,q.2 ^ k)) rfl (.mk rfl rfl)
def tp (n k:Nat):Int:=(-1) ^ k * (ED.ch n k:Int)
theorem kx (n:Nat):tp n 0=1:=by unfold tp; rw [ED.oK]; rfl
theorem Cf {n k:Nat} (h:k<=n): -tp n k * ((n:Int) - k)=((k:Int) + 1) * tp n (k + 1):=by
 have:=ED.oM n k h
 have e:((k:Int) + 1) * (ED.ch n (k + 1):Int)=((n:Int) - k) * (ED.ch n k:Int):=by
  have q:((n - k:Nat):Int)=(n:Int) - k:=by omega
  rw [<- q]
  exact_mod_cast this
 unfold tp
 rw [agm]
 grind
theorem Kt {n k:Nat} (h:k<=n): -tp n k * ((n:Int) - k) / ((k:Int) + 1)=tp n (k + 1):=by
 rw [Cf h,Int.mul_ediv_cancel_left _ (by omega)]
theorem AM (n k:Nat):tp (n + 1) (k + 1)=tp n (k + 1) - tp n k:=by
 unfold tp
 rw [show ED.ch (n + 1) (k + 1)=ED.ch n k + ED.ch n (k + 1) from rfl,agm]
 push_cast
 grind
theorem O9 (n:Nat):tp n (n + 1)=0:=by unfold tp; rw [ED.sk n (n + 1) (by omega)]; simp
def hX (n:Nat):List Int:=(List.range (n + 1)).map (tp n)
theorem eW (n:Nat):(hX n).length=n + 1:=by simp [hX]
theorem wA:∀ (n k:Nat),(tp n k).natAbs<=2 ^ n
 | n,0=>by rw [kx]; exact agz
 | 0,k + 1=>by unfold tp; rw [ED.sk 0 (k + 1) (by omega)]; simp
 | n + 1,k + 1=>by
   have h1:=wA n (k + 1)
   have h2:=wA n k
   rw [AM,Nat.pow_succ]
   omega
def oY (b g:Nat):List Int:=List.replicate b 0 ++ hX g
theorem sG (b g:Nat):(oY b g).length=b + g + 1:=by unfold oY; rw [List.length_append,List.length_replicate,eW]; omega
theorem Cv {b g:Nat} {t:Int} (h:t∈oY b g):bt t<=g + 1:=by
 unfold oY hX at h
 rcases adh.mp h with z | z
 .rw [(List.mem_replicate.mp z).2]; exact bY (show (0:Int).natAbs < 2 ^ (g + 1) from Nat.two_pow_pos _)
 .obtain ⟨k,_,rfl⟩:=ac5.mp z
  exact bY (ad0 (wA g k) (Nat.pow_lt_pow_right (by decide) (by omega)))
theorem yD (b g:Nat):(List.replicate b ((0,1):eA) ++ (List.range (g + 1)).map λk=>(tp g k,1))=(oY b g).map λt=>((t,1):eA):=by
 unfold oY hX
 rw [ade,agA,ady]
 rfl
theorem AN (b g:Nat) (hb:b<=100) (hg:g<=100):je [.int (b:Nat),.int (g:Nat)]=some ((List.replicate b ((0,1):eA) ++ (List.range (g + 1)).map λk=>(tp g k,1)).map dF):=by
 rw [Av]
 refine aT ?_
 refine aE [some (.int (b:Nat)),some (.int (g:Nat)),some (.list ((List.replicate b ((0,1):eA)).map dF)),none,none] (v8 ?_) ?_
 .refine (Ck (ds:=[dF (0,1)]) (n:=b) rfl rfl (by omega) (by simp; omega)).trans ?_
  rw [agA]
  congr 1
  simp
 refine aE [some (.int (b:Nat)),some (.int (g:Nat)),some (.list ((List.replicate b ((0,1):eA)).map dF)),some (.int 1),none] rfl ?_
 refine jY 0 (g + 1) (λi δ=>∃ x,δ=[some (.int (b:Nat)),some (.int (g:Nat)),some (.list ((List.replicate b ((0,1):eA) ++ (List.range i).map λk=>(tp g k,1)).map dF)),some (.int (tp g i)),x]) (hV ?_ (by omega)) ⟨none,?_⟩ ?_ ?_
 .show some [PyData.int (((g:Nat):Int) + 1)]=_
  push_cast
  rfl
 .rw [kx]; simp
 .rintro i δ hi ⟨x,rfl⟩
  refine ⟨_,[some (.int (b:Nat)),some (.int (g:Nat)),some (.list ((List.replicate b ((0,1):eA) ++ (List.range (i + 1)).map λk=>(tp g k,1)).map dF)),some (.int (tp g (i + 1))),some (.int (0 + (i:Int)))],rfl,?_,_,rfl⟩
  refine bO [some (.int (b:Nat)),some (.int (g:Nat)),some (.list ((List.replicate b ((0,1):eA) ++ (List.range (i + 1)).map λk=>(tp g k,1)).map dF)),some (.int (tp g i)),some (.int (0 + (i:Int)))] ((iI (d:=dF (tp g i,1)) rfl rfl (by simp; omega)).trans ?_) ?_
  .have key:(List.replicate b ((0,1):eA) ++ (List.range (i + 1)).map λk=>(tp g k,1)).map dF=(List.replicate b ((0,1):eA) ++ (List.range i).map λk=>(tp g k,1)).map dF ++ [dF (tp g i,1)]:=by
    rw [List.range_succ,ade (l₁:=List.range i),<- List.append_assoc,ade (l₂:=List.map _ [i])]
    rfl
   rw [key]
   rfl
  .refine (aK (ak (ak rfl rfl (eE (mul_right (i:= -tp g i) (j:=(g:Int) - (0 + (i:Int))) (by omega) (by omega)))) rfl (oP (by omega) ?_))).trans ?_
   .exact aJ (bY (m:=20) (by omega)) (by decide)
   .rw [show (0 + (i:Int))=(i:Int) by omega,Kt (by omega)]
    rfl
 .rintro δ' ⟨x,rfl⟩
  exact ret (.list ((List.replicate b ((0,1):eA) ++ (List.range (g + 1)).map λk=>(tp g k,1)).map dF)) rfl (.mk rfl rfl)
theorem D5 (n:Nat):((hX n ++ [0]).zip ([0] ++ hX n)).map (λc:Int×Int=>c.1 - c.2)=hX (n + 1):=by
 apply ag2
 .simp [eW]
 .intro j h1 h2
  rw [acH,aeN] at h1
  simp only [ac7,eW,ac3,aej] at h1
  rw [List.getElem_map,List.getElem_zip]
  have e1:(hX n ++ [0])[j]'(by simp [eW]; omega)=tp n j:=by
   by_cases q:j < n + 1
   .rw [List.getElem_append_left (by rw [eW]; exact q)]; simp [hX]
   .have:j=n + 1:=by omega
    subst this
    rw [List.getElem_append_right (by rw [eW]; omega),O9]
    simp [eW]
  have e2:(hX (n + 1))[j]=tp (n + 1) j:=by simp [hX]
  simp only [e1,e2]
  cases j with
  | zero=>simp [kx]
  | succ j=>
    rw [AM]
    congr 1
    simp [hX]
theorem Pa (xs ys:List Int):oD (xs.map .int) (ys.map .int)=(xs.zip ys).map dC:=by
 unfold oD
 rw [List.zip,List.zipWith_map,List.map_zipWith]
 rfl
theorem yE (b g:Nat) (hb:b<=100) (hg:g<=100):iu [.int (b:Nat),.int (g:Nat)]=some ((List.replicate b 0 ++ hX g).map .int):=by
 rw [yu]
 refine aT ?_
 refine aE [some (.int (b:Nat)),some (.int (g:Nat)),some (.list ([1].map .int)),none] rfl ?_
 refine jY 0 g (λi δ=>∃ x,δ=[some (.int (b:Nat)),some (.int (g:Nat)),some (.list ((hX i).map .int)),x]) (hV rfl (by omega)) ⟨none,rfl⟩ ?_ ?_
 .rintro i δ hi ⟨x,rfl⟩
  refine ⟨_,[some (.int (b:Nat)),some (.int (g:Nat)),some (.list ((hX (i + 1)).map .int)),some (.int (0 + (i:Int)))],rfl,aK (aN ?_),_,rfl⟩
  have hz:kr (aP (zQ ou (ae 2) (aP (dM (aa (gC (.int (0))) af))))) (aP (zQ ou (aP (dM (aa (gC (.int (0))) af))) (ae 2))) [some (.int (b:Nat)),some (.int (g:Nat)),some (.list ((hX i).map .int)),some (.int (0 + (i:Int)))]=some (((hX i ++ [0]).zip ([0] ++ hX i)).map dC):=by
   have c1:aP (zQ ou (ae 2) (aP (dM (aa (gC (.int (0))) af)))) [some (.int (b:Nat)),some (.int (g:Nat)),some (.list ((hX i).map .int)),some (.int (0 + (i:Int)))]=some (.list ((hX i ++ [0]).map .int)):=by
    rw [ade]
    exact aN (wq rfl rfl (by simp [eW]; omega))
   have c2:aP (zQ ou (aP (dM (aa (gC (.int (0))) af))) (ae 2)) [some (.int (b:Nat)),some (.int (g:Nat)),some (.list ((hX i).map .int)),some (.int (0 + (i:Int)))]=some (.list (([0] ++ hX i).map .int)):=by
    rw [ade]
    exact aN (wq rfl rfl (by simp [eW]; omega))
   unfold kr
   rw [c1,c2]
   show some (oD _ _)=_
   rw [Pa]
  show bU _ _ _ _ _ _ [some (.int (b:Nat)),some (.int (g:Nat)),some (.list ((hX i).map .int)),some (.int (0 + (i:Int)))]=_
  unfold bU
  rw [hz,acJ,acU (by simp [eW]; omega)]
  refine (wy dC PyData.int (λc=>c.1 - c.2) (λ_=>true) _ λc _=>rfl).trans ?_
  rw [ae1.mpr (λ_ _=>rfl),D5]
 .rintro δ' ⟨x,rfl⟩
  have hc:cD (fN (aa (ae 0) af)) [] (gC (.int (0))) [some (.int (b:Nat)),some (.int (g:Nat)),some (.list ((hX g).map .int)),x]=some ((List.replicate b (0:Int)).map .int):=by
   refine (dY (λk:Nat=>PyData.int (0 + k)) PyData.int (λ_=>0) (List.range b) (hV rfl (by omega)) (by simp; omega) λk _=>rfl).trans ?_
   rw [List.map_const',afg]
  refine ret (.list ((List.replicate b 0 ++ hX g).map .int)) (aN ((wq (aN hc) rfl (by simp [eW]; omega)).trans ?_)) (.mk rfl rfl)
  rw [ade]
theorem Pb {gi:DS->Option (List D)} {t:D->DS->Option DS} {b:DS->Option Res} {δ:DS} {ds:List D} {r:Option Res} (h1:gi δ=some ds) (h2:oA t b ds δ=r):eT gi t b δ=r:=by unfold eT; rw [h1]; exact h2
theorem Sh {A:Int->Int} {r:List Int} (h:∀ x,0<=A x) (b:Int):0<=lv A r b:=by
 have h1:=h (b - 1)
 have h2:=h b
 unfold lv
 split <;> split <;> omega
theorem yF {p:List (List Int)} {A:Int->Int} (h:∀ x,0<=A x):∀ (k:Nat) (b:Int),0<=WW A p k b
 | 0,b=>by rw [WW_0]; exact h b
 | k + 1,b=>by rw [oT]; exact Sh (yF h k) b
theorem Cw (x:Int):0<=A0 x:=by unfold A0; split <;> omega
theorem Hr {A:Int->Int} {r:List Int} (h:∀ x,0<=A x) (hr:∀ x∈r,0 < A x) {b:Int} (hb:b∈led r):0 < lv A r b:=by
 have h1:=h (b - 1)
 have h2:=h b
 unfold lv
 rcases gJ.mp hb with z | z
 .have:=hr b z
  rw [acU z]; split <;> omega
 .have:=hr _ z
  rw [acU z]; split <;> omega
theorem Cy:∀ {q:List (List Int)} {r:List Int},Ha r q->∀ k x,x∈(r :: q).getD (k + 1) []->x∈led ((r :: q).getD k [])
 | [],_,_,k,x,hx=>by simp at hx
 | s :: q,r,hc,0,x,hx=>hc.1.2.2 x (by simpa using hx)
 | s :: q,r,hc,k + 1,x,hx=>by
   have:=Cy hc.2 k x (by simpa using hx)
   simpa using this
theorem Pc {p:List (List Int)} (h:Pl p) (k:Nat) (x:Int) (hx:x∈p.getD (k + 1) []):x∈led (p.getD k []):=by
 obtain ⟨q,rfl,hc⟩:=h.ex
 exact Cy hc k x hx
theorem Hs {p:List (List Int)} (h:Pl p):∀ (k:Nat) (x:Int),x∈p.getD k []->0 < WW A0 p k x
 | 0,x,hx=>by
   obtain ⟨q,rfl,hc⟩:=h.ex
   rw [WW_0]
   have:x=0:=by simpa using hx
   subst this; decide
 | k + 1,x,hx=>by
   rw [oT]
   exact Hr (yF Cw k) (Hs h k) (Pc h k x hx)
theorem Ht {p:List (List Int)} (h:Pl p) (k:Nat) (x:Int) (hx:x∈led (p.getD k [])):0 < WW A0 p (k + 1) x:=by
 rw [oT]
 exact Hr (yF Cw k) (Hs h k) hx
theorem Dt.get {kds:List (D×D)} {F:WF} (h:Dt kds F) {b g:Int} (hp:F b g≠0):cj kds [.inl b,.inl g]=some (.int (F b g)):=by
 have:=h b g
 cases e:cj kds [.inl b,.inl g] with
 | none=>rw [e] at this; exact absurd (by injection this with z; exact z.symm) hp
 | some d=>rw [e] at this; rw [show d=.int (F b g) from this]
def cG (p:List (List Int)):WF:=(bf 0 p).foldl fw (kM (0,0))
theorem sH {p:List (List Int)} (h:Pl p) {x y:Int} {k:Nat} (e:x + y=(k:Int)):cG p x y=WW A0 p k x:=Hl h e
theorem j5 {c:Int×Int}:∀ {q:List (List Int)} {n:Nat},c∈bf n q->∃ k,k < q.length /\ c.1∈q.getD k [] /\ c.1 + c.2=((n + k:Nat):Int)
 | [],n,h=>by simp [bf] at h
 | r :: q,n,h=>by
   rw [bf,adh] at h
   rcases h with h | h
   .obtain ⟨b,hb,rfl⟩:=ac5.mp h
    exact ⟨0,by simp,by simpa using hb,by show b + ((n:Int) - b)=_; omega⟩
   .obtain ⟨k,h1,h2,h3⟩:=j5 h
    exact ⟨k + 1,by simpa using h1,by simpa using h2,by rw [h3]; omega⟩
theorem Hu {p:List (List Int)}:∀ (k:Nat) (b:Int),WW A0 p k b<=2 ^ k
 | 0,b=>by rw [WW_0]; unfold A0; split <;> decide
 | k + 1,b=>by
   have h1:=Hu (p:=p) k (b - 1)
   have h2:=Hu (p:=p) k b
   have h3:=yF (p:=p) Cw k (b - 1)
   have h4:=yF (p:=p) Cw k b
   rw [oT,agm]
   unfold lv
   split <;> split <;> omega
structure Cz (p:List (List Int)) (c:Int×Int) (b g:Nat):Prop where
 eq:c=((b:Int),(g:Int))
 dr:b + g<=p.length
 d1:1<=b + g
 led:(b:Int)∈led (p.getD (b + g - 1) [])
 ww:cG p c.1 c.2=WW A0 p (b + g) b
 pos:0 < cG p c.1 c.2
 le:cG p c.1 c.2<=2 ^ (b + g)
theorem Ku {x y:Int} {k:Nat} (h:(0<=x /\ x<=(k:Int)) \/ (0<=x - 1 /\ x - 1<=(k:Int))) (e:x + y=((1 + k:Nat):Int)):∃ b g:Nat,x=(b:Int) /\ y=(g:Int) /\ b + g=k + 1 /\ x + y=((b + g:Nat):Int):=⟨x.toNat,y.toNat,by omega,by omega,by omega,by omega⟩
theorem Pd {p:List (List Int)} (hp:Pl p) {c:Int×Int} (h:c∈bf 1 (p.map led)):∃ b g:Nat,Cz p c b g:=by
 obtain ⟨k,h1,h2,h3⟩:=j5 h
 rw [acH] at h1
 have e:(p.map led).getD k []=led (p.getD k []):=by
  rw [acS,acS,adb,acL h1]; rfl
 rw [e] at h2
 have hr:=(oU hp).2 k
 obtain ⟨b,g,B5,hg',hn,hs⟩:=Ku ((gJ.mp h2).imp (hr _) (hr _)) h3
 have hw:cG p c.1 c.2=WW A0 p (b + g) b:=by rw [sH hp (k:=b + g) hs,B5]
 refine ⟨b,g,Prod.ext B5 hg',hn ▸ h1,hn ▸ Nat.succ_le_succ (aek k),?_,hw,?_,?_⟩
 .rw [hn,Nat.add_sub_cancel,<- B5]; exact h2
 .rw [hw,hn,<- B5]; exact Ht hp k _ h2
 .rw [hw]; exact Hu _ _
theorem pU (p:List (List Int)) (n:Nat) (b:Int):ik p (b,(n:Int) - b)=decide (b∈p.getD n []):=by
 unfold ik
 simp only
 rw [show b + ((n:Int) - b)=(n:Int) by omega,adA,ac2 (show (0:Int)<=(n:Int) by omega),aff]
 rcases Nat.lt_or_ge n p.length with q | q
 .rw [ac2 (show (n:Int) < (p.length:Int) by omega),aff]
 .rw [acZ (show ¬ (n:Int) < (p.length:Int) by omega),agp,acS,ad4 q]
  simp
theorem jv {p:List (List Int)} (hp:Pl p):aj p=(bf 1 (p.map led)).filter λc=> !ik p c:=by
 obtain ⟨q,rfl,_⟩:=hp.ex
 unfold aj
 rw [afG]
 have:ik ([0] :: q) (0,0)=true:=by unfold ik; simp
 rw [this]; decide
theorem lU {p:List (List Int)} (hp:Pl p) {c:Int×Int} (h:c∈aj p):∃ b g:Nat,Cz p c b g:=by
 rw [jv hp] at h
 exact Pd hp (adU.mp h).1
theorem jk {p:List (List Int)} (hl:p.length<=24) (eG:∀ r∈p,r.length<=25):(aj p).length<=1201:=by
 unfold aj
 refine ado (aep _ _) ?_
 have:=j4 (p.map led) 1 (λs hs=>by
  obtain ⟨t,ht,rfl⟩:=ac5.mp hs
  have:=kN (r:=t)
  have:=eG t ht
  omega)
 rw [acH] at this
 rw [ac3]; omega
theorem yG {p:List (List Int)} (hp:Pl p) (hl:p.length<=24) (eG:∀ r∈p,r.length<=25):jh [b0 p]=some ((aj p).map dC):=by
 rw [AK hl eG,jv hp]; rfl
theorem sI {G:List D->Option (List D)} {n:Nat} {g:DS->Option (List D)} {δ:DS} {ds r:List D} (h:g δ=some ds) (hn:ds.length=n) (hG:G ds=some r) (hd:vJ r=true):lH G n g δ=some r:=by
 unfold lH; rw [h,Option.bind_some,if_pos hn,hG,Option.bind_some,if_pos hd]
theorem oZ {g:DS->Option D} {δ:DS} {l:List D} (h:g δ=some (.list l)):aI g δ=some l:=by unfold aI; rw [h]; rfl
theorem Hv {p:List (List Int)} (hl:p.length<=24) {c:Int×Int} {b g:Nat} (he:Cz p c b g):bt (cG p c.1 c.2)<=25:=by
 have h1:=he.pos
 have h2:=he.le
 have h3:=he.dr
 have:(2:Int) ^ (b + g)<=2 ^ 24:=by exact_mod_cast aea (by decide) (by omega)
 exact bY (by omega)
theorem Mn {n k:Nat} (h:k < n):xp n (k:Int)=some k:=by
 unfold xp
 rw [acU (by omega),acU (by omega)]
 simp
theorem Kv {i:Nat} {f:Int->Int->Int} {gx ge:DS->Option D} {δ:DS} {n k:Nat} {T:Nat->Int} {y:Int} (h1:ae i δ=some (.list ((tab n T).map .int))) (h2:gx δ=some (.int (k:Nat))) (h3:ge δ=some (.int y)) (hk:k < n):rT i f gx ge δ=some (.nx (δ.set i (some (.list ((tab n λj=>if k=j then f (T k) y else T j).map .int))))):=by
 unfold rT
 rw [h1,h2,h3]
 show (if (0:Int)<=(k:Nat) then (xp ((tab n T).map PyData.int).length (k:Nat)).bind _ else none)=_
 rw [acU (by omega),acH,Cd,Mn hk,acJ,adb,Kf hk,<- Ke,List.map_set]
 rfl
theorem CA {g:DS->Option D} {δ:DS} {l r:List D} (h:g δ=some (.list l)) (hr:i9 l=r):dX g δ=some r:=by unfold dX; rw [h,<- hr]; rfl
theorem sJ {ga gb:DS->Option D} {δ:DS} {xs ys:List D} (h1:ga δ=some (.list xs)) (h2:gb δ=some (.list ys)):kr ga gb δ=some (oD xs ys):=by unfold kr; rw [h1,h2]; rfl
theorem mD {α β:Type} (e1:α->D) (e2:β->D):∀ (xs:List α) (ys:List β),oD (xs.map e1) (ys.map e2)=(xs.zip ys).map λx=>.tuple [e1 x.1,e2 x.2]
 | [],ys=>by simp [oD]
 | xs,[]=>by simp [oD]
 | x :: xs,y :: ys=>by
   have:=mD e1 e2 xs ys
   unfold oD at this ⊢
   rw [acQ,acQ,List.zipWith_cons_cons,this]; rfl
theorem Hw {α:Type} (enc:α->D) (xs:List α):i9 (xs.map enc)=xs.zipIdx.map λx=>.tuple [.int (x.2:Nat),enc x.1]:=by
 unfold i9
 rw [agd,ady]
 rfl
end aA
namespace aA
def sm {α:Type} (f:α->Int) (l:List α):Int:=(l.map f).sum
theorem pW {α:Type} (f:α->Int):sm f []=0:=rfl
theorem cq {α:Type} (f:α->Int) (a:α) (l:List α):sm f (a :: l)=f a + sm f l:=by unfold sm; rw [List.map_cons,List.sum_cons]
theorem wB {α:Type} (f:α->Int) (l m:List α):sm f (l ++ m)=sm f l + sm f m:=by unfold sm; rw [List.map_append,List.sum_append]
theorem AO {α β:Type} (f:β->Int) (g:α->β) (l:List α):sm f (l.map g)=sm (λa=>f (g a)) l:=by unfold sm; rw [List.map_map]; rfl
theorem gL {α:Type} {f g:α->Int} {l:List α} (h:∀ a∈l,f a=g a):sm f l=sm g l:=by unfold sm; rw [List.map_congr_left h]
theorem sL {α:Type} (f g:α->Int):∀ l:List α,sm (λa=>f a + g a) l=sm f l + sm g l
 | []=>rfl
 | a :: l=>by rw [cq,cq,cq,sL f g l]; omega
theorem Hx {α:Type} (c:Int) (f:α->Int):∀ l:List α,sm (λa=>c * f a) l=c * sm f l
 | []=>by simp [sm]
 | a :: l=>by rw [cq,cq,Hx c f l,Int.mul_add]
theorem qZ {α:Type} {f:α->Int} {l:List α} (h:∀ a∈l,f a=0):sm f l=0:=by
 induction l with
 | nil=>rfl
 | cons a l ih=>rw [cq,h a acR,ih λb hb=>h b (acO _ hb)]; rfl
theorem Kw {α:Type} {f:α->Int} {l m:List α} (h:l.Perm m):sm f l=sm f m:=by
 induction h with
 | nil=>rfl
 | cons a _ ih=>rw [cq,cq,ih]
 | swap a b l=>rw [cq,cq,cq,cq]; omega
 | trans _ _ i j=>rw [i,j]
theorem mE {α:Type} (f:α->Int) (P:α->Bool):∀ l:List α,sm f (l.filter P)=sm (λa=>if P a=true then f a else 0) l
 | []=>rfl
 | a :: l=>by
   rw [adH,cq,<- mE f P l]
   cases P a with
   | true=>rw [acU rfl,acU rfl,cq]
   | false=>rw [acW (by decide),acW (by decide)]; omega
theorem wC {f:Int->Int} {l s:List Int} (hl:l.Nodup) (hs:s.Nodup) (h:∀ x∈s,x∈l):sm (λa=>if a∈s then f a else 0) l=sm f s:=by
 have pm:List.Perm (l.filter λx=>decide (x∈s)) s:=(afk (hl.sublist aft) hs).mpr λz=>by
  rw [adU,adt]
  exact ⟨λq=>q.2,λq=>⟨h z q,q⟩⟩
 rw [<- Kw pm,mE]
 exact gL λa _=>by simp
theorem Si {A:Int->Int} {r:List Int} (hr:lT r) (f:Int->Int):sm (λb=>lv A r b * f b) (led r)=sm (λb=>A b * (f (b + 1) + f b)) r:=by
 have nl:(led r).Nodup:=gK fi
 have nr:=gK hr
 have e1:sm (λb=>if b∈r then A b * f b else 0) (led r)=sm (λb=>A b * f b) r:=wC nl nr λx hx=>gJ.mpr (.inl hx)
 have e2:sm (λb=>if b∈r.map (· + 1) then A (b - 1) * f b else 0) (led r)=sm (λb=>A b * f (b + 1)) r:=by
  rw [wC (f:=λb=>A (b - 1) * f b) nl (agJ.mpr (nr.imp λh e=>h (by omega))) (λx hx=>by
   obtain ⟨y,hy,rfl⟩:=ac5.mp hx
   exact gJ.mpr (.inr (by rw [show y + 1 - 1=y by omega]; exact hy))),AO]
  exact gL λa _=>by rw [show a + 1 - 1=a by omega]
 have e3:sm (λb=>A b * (f (b + 1) + f b)) r=sm (λb=>A b * f (b + 1)) r + sm (λb=>A b * f b) r:=by
  rw [<- sL]
  exact gL λa _=>by rw [Int.mul_add]
 rw [e3,<- e1,<- e2,<- sL]
 refine gL λb _=>?_
 have m:b∈r.map (· + 1)↔b - 1∈r:=by
  rw [ac5]
  exact ⟨λ⟨y,hy,e⟩=>by rw [show b - 1=y by omega]; exact hy,λh=>⟨b - 1,h,by omega⟩⟩
 unfold lv
 simp only [m]
 split <;> split <;> simp [Int.add_mul]
def Hy (φ:Int->Int->Int) (c:Int×Int):Int:=φ (c.1 + 1) c.2 + φ c.1 (c.2 + 1) - φ c.1 c.2
theorem sM {p:List (List Int)} (φ:Int->Int->Int):∀ (q:List (List Int)) (r:List Int) (n:Nat) (A:Int->Int) (W:Int->Int->Int),(∀ j,p.getD (n + j) []=(r :: q).getD j [])->Ha r q->lT r->
  (∀ (x y:Int) (j:Nat),x + y=(n:Int) + (j:Int)->W x y=WW A (r :: q) j x)->
  sm (λc=>W c.1 c.2 * φ c.1 c.2) ((bf (n + 1) ((r :: q).map led)).filter λc=> !ik p c)=sm (λb=>A b * φ b ((n:Int) - b)) r + sm (λc=>W c.1 c.2 * Hy φ c) (bf n (r :: q))
 | q,r,n,A,W,hg,hc,hr,hW=>by
   have nl:(led r).Nodup:=gK fi
   have e1:=hg 1
   have F7:sm (λc=>W c.1 c.2 * φ c.1 c.2) ((jJ (n + 1) (led r)).filter λc=> !ik p c)=sm (λb=>lv A r b * φ b ((n:Int) + 1 - b)) ((led r).filter λb=> !decide (b∈p.getD (n + 1) [])):=by
    unfold jJ
    rw [List.filter_map,AO]
    have ef:((λc:Int×Int=> !ik p c) ∘ λb:Int=>(b,((n + 1:Nat):Int) - b))=λb=> !decide (b∈p.getD (n + 1) []):=by
     funext b
     show (!ik p (b,((n + 1:Nat):Int) - b))=_
     rw [pU]
    rw [ef]
    refine gL λb _=>?_
    show W b (((n + 1:Nat):Int) - b) * φ b (((n + 1:Nat):Int) - b)=_
    rw [hW b (((n + 1:Nat):Int) - b) 1 (by push_cast; omega),show ((n + 1:Nat):Int) - b=(n:Int) + 1 - b by push_cast; rfl]
    show WW (lv A r) q 0 b * _=_
    rw [WW_0]
   have hlv:=Si hr (A:=A) (λb=>φ b ((n:Int) + 1 - b))
   have Hz:∀ s:List Int,s.Nodup->(∀ x∈s,x∈led r)->sm (λb=>lv A r b * φ b ((n:Int) + 1 - b)) ((led r).filter λb=> !decide (b∈s)) + sm (λb=>lv A r b * φ b ((n:Int) + 1 - b)) s=sm (λb=>lv A r b * φ b ((n:Int) + 1 - b)) (led r):=by
    intro s hs xW
    rw [mE,<- wC (f:=λb=>lv A r b * φ b ((n:Int) + 1 - b)) nl hs xW,<- sL]
    refine gL λb _=>?_
    by_cases q:b∈s
    .simp [q]
    .simp [q]
   have afF:sm (λc=>W c.1 c.2 * Hy φ c) (jJ n r) + sm (λb=>A b * φ b ((n:Int) - b)) r=sm (λb=>A b * (φ (b + 1) ((n:Int) + 1 - (b + 1)) + φ b ((n:Int) + 1 - b))) r:=by
    unfold jJ
    rw [AO,<- sL]
    refine gL λb _=>?_
    show W b ((n:Int) - b) * Hy φ (b,(n:Int) - b) + _=_
    rw [hW b ((n:Int) - b) 0 (by push_cast; omega),WW_0]
    unfold Hy
    show A b * (φ (b + 1) ((n:Int) - b) + φ b ((n:Int) - b + 1) - φ b ((n:Int) - b)) + _=_
    rw [show (n:Int) + 1 - (b + 1)=(n:Int) - b by omega,show (n:Int) + 1 - b=(n:Int) - b + 1 by omega,<- Int.mul_add]
    congr 1
    omega
   rw [acQ,bf,afb,wB,F7,e1,bf,wB]
   cases q with
   | nil=>
     have:=Hz [] (by simp) (by simp)
     simp only [afM,bf,List.filter_nil,pW]
     rw [pW] at this
     rw [show ([r]:List (List Int)).getD 1 []=[] from rfl]
     omega
   | cons s q=>
     have hs:=hc.1
     have h2:=Hz s (gK hs.2.1) hs.2.2
     have ih:=sM (p:=p) φ q s (n + 1) (lv A r) W (λj=>by rw [show n + 1 + j=n + (j + 1) by omega,hg (j + 1)]; rfl) hc.2 hs.2.1 (λx y j h=>by
      rw [hW x y (j + 1) (by push_cast at h ⊢; omega)]; rfl)
     rw [show (r :: s :: q).getD 1 []=s from rfl,ih]
     rw [show sm (λb=>lv A r b * φ b (((n + 1:Nat):Int) - b)) s=sm (λb=>lv A r b * φ b ((n:Int) + 1 - b)) s from by push_cast; rfl]
     omega
theorem Kx {p:List (List Int)} (hp:Pl p) (φ:Int->Int->Int):sm (λc=>cG p c.1 c.2 * φ c.1 c.2) (aj p)=φ 0 0 + sm (λc=>cG p c.1 c.2 * Hy φ c) (bf 0 p):=by
 rw [jv hp]
 have hw:∀ (x y:Int) (j:Nat),x + y=((0:Nat):Int) + (j:Int)->cG p x y=WW A0 p j x:=λx y j h=>sH hp (by omega)
 obtain ⟨q,rfl,hc⟩:=hp.ex
 have:=sM (p:=[0] :: q) φ q [0] 0 A0 (cG ([0] :: q)) (λj=>by rw [Nat.zero_add]) hc (by unfold lT; simp) hw
 rw [this]
 congr 1
 simp [sm,A0]
theorem HA {p:List (List Int)} (hp:Pl p) {φ:Int->Int->Int} (h:∀ c∈bf 0 p,Hy φ c=0):sm (λc=>cG p c.1 c.2 * φ c.1 c.2) (aj p)=φ 0 0:=by
 rw [Kx hp,qZ λc hc=>by rw [h c hc,agn]]; omega
end aA
namespace aA
def co (b g k:Nat):Int:=if k < b then 0 else tp g (k - b)
theorem wD {n k:Nat} (h:n < k):tp n k=0:=by unfold tp; rw [ED.sk n k h]; simp
theorem Pe (b g k:Nat):co (b + 1) g k + co b (g + 1) k=co b g k:=by
 unfold co
 by_cases h:k < b
 .rw [acU (by omega),acU h,acU h]; rfl
 .by_cases h2:k=b
  .subst h2
   rw [acU (by omega),acW h,acW h,Nat.sub_self,kx,kx]; rfl
  .obtain ⟨j,rfl⟩:∃ j,k=b + 1 + j:=⟨k - b - 1,by omega⟩
   rw [acW (by omega),acW h,acW h,show b + 1 + j - (b + 1)=j by omega,show b + 1 + j - b=j + 1 by omega,AM]
   omega
theorem HB (b g k:Nat):(oY b g).getD k 0=co b g k:=by
 unfold oY co hX
 rw [acS]
 by_cases h:k < b
 .rw [List.getElem?_append_left (by rw [aem]; exact h),List.getElem?_replicate,acU h,acU h]; rfl
 .rw [aeI (by rw [aem]; omega),aem,acW h,adb]
  by_cases h2:k - b < g + 1
  .rw [afo h2]; rfl
  .rw [ad4 (by rw [afg]; omega),wD (by omega)]; rfl
def EE (k:Nat) (x y:Int):Int:=co x.toNat y.toNat k
theorem Ky (k:Nat) {c:Int×Int} (h1:0<=c.1) (h2:0<=c.2):Hy (EE k) c=0:=by
 obtain ⟨b,hb⟩:∃ b:Nat,c.1=(b:Int):=⟨c.1.toNat,by omega⟩
 obtain ⟨g,hg⟩:∃ g:Nat,c.2=(g:Int):=⟨c.2.toNat,by omega⟩
 unfold Hy EE
 rw [hb,hg,show ((b:Int) + 1).toNat=b + 1 by omega,show ((g:Int) + 1).toNat=g + 1 by omega,adA,adA]
 have:=Pe b g k
 omega
theorem HC {p:List (List Int)} (hp:Pl p) {c:Int×Int} (h:c∈bf 0 p):0<=c.1 /\ 0<=c.2:=by
 obtain ⟨k,h1,h2,h3⟩:=j5 h
 have:=(oU hp).2 k _ h2
 omega
end aA
namespace aA
open PySem L2 Q1
theorem HE {l:List eA} {N:Nat} (h:∀ q∈l,bt q.2<=N):bt ((g9 l 1:Nat):Int)<=N * l.length + 1:=by
 have h1:=Ce (M:=2 ^ N) agz l 1 λq hq=>aer (R7 (h q hq))
 rw [Nat.one_mul,<- Nat.pow_mul] at h1
 exact bY (by rw [afB]; exact ad0 h1 (Nat.pow_lt_pow_right (by decide) (by omega)))
theorem Sj (l:List eA) {N:Nat} (hp:∀ q∈l,1<=q.2) (h:∀ q∈l,bt q.2<=N) (hN:N * l.length < 3999):fP [dP l]=some (.int (g9 l 1:Nat)):=by
 rw [qF]
 refine aT ?_
 refine aE [some (dP l),some (.int 1),none] rfl ?_
 refine fO dF l (λi δ=>∃ (x:Option D),δ=[some (dP l),some (.int (g9 (l.take i) 1:Nat)),x]) rfl ⟨none,rfl⟩ ?_ ?_
 .rintro i q δ hq ⟨x,rfl⟩
  have h2:=hp q (adk hq)
  have h3:=h q (adk hq)
  have hi:i < l.length:=(acN.mp hq).1
  have hNi:N * i<=N * l.length:=agh _ (by omega)
  have Wq:N<=N * l.length:=Nat.le_mul_of_pos_right _ (by omega)
  have hB:0 < g9 (l.take i) 1:=oJ _ 1 (by decide) λq hq=>by have:=hp q (ad2 hq); omega
  have e1:g9 (l.take (i + 1)) 1=Nat.lcm (g9 (l.take i) 1) q.2.natAbs:=by
   rw [List.take_succ,hq]
   show g9 (l.take i ++ [q]) 1=_
   rw [GU]; rfl
  have hb:bt ((g9 (l.take i) 1:Nat):Int)<=9000:=by
   have:=HE (l:=l.take i) λq hq=>h q (ad2 hq)
   rw [adF,Nat.min_eq_left (by omega)] at this
   exact aJ this (by omega)
  generalize g9 (l.take i) 1=B at *
  obtain ⟨c,hc⟩:∃ c:Nat,q.2=c:=⟨q.2.toNat,by omega⟩
  rw [hc] at h3
  have hg:0 < Nat.gcd B c:=Nat.gcd_pos_of_pos_left _ hB
  have hgd:bt ((Nat.gcd B c:Nat):Int)<=9000:=by
   refine aJ (iO ?_ h3) (by omega)
   have:=agT (by omega) (agM B c)
   omega
  have hbx:bt ((B / Nat.gcd B c:Nat):Int)<=9000:=iO (by rw [afB,afB]; exact Nat.div_le_self _ _) hb
  have ed:B / Nat.gcd B c * c=Nat.lcm B c:=by
   unfold Nat.lcm
   obtain ⟨k,hk⟩:=Nat.gcd_dvd_left B c
   conv=>lhs; lhs; lhs; rw [hk]
   conv=>rhs; lhs; rw [hk]
   rw [Nat.mul_div_cancel_left _ hg,Nat.mul_assoc,Nat.mul_div_cancel_left _ hg]
  have i1:bC (dF q) (.int 1)=some (.int (c:Nat)):=by rw [eL,hc]
  refine ⟨_,[some (dP l),some (.int (g9 (l.take (i + 1)) 1:Nat)),some (dF q)],rfl,?_,some (dF q),rfl⟩
  rw [e1,hc,afB,<- ed]
  refine aK (ak (ak rfl (call_of (cons_of rfl (cons_of (ak rfl rfl i1) rfl)) rfl (AL _ _ (aJ h3 (by omega)))) (oP (a:=(B:Int)) (b:=((Nat.gcd B c:Nat):Int)) (by omega) hgd)) (ak rfl rfl i1) ?_)
  rw [<- Int.natCast_ediv,eE (iP hbx (aJ h3 (show N<=9000 by omega))),<- Int.natCast_mul]
 .rintro δ' ⟨x,rfl⟩
  rw [adE]
  exact ret _ rfl (.mk rfl rfl)
def sN (l:List eA) (B:Int):List Int:=l.map λq=>q.1 * (B / q.2)
theorem Kz (l:List eA) (B:Nat) (hp:∀ q∈l,1<=q.2) (h:∀ q∈l,bt q.2<=9000) (h1:∀ q∈l,bt q.1<=100000) (hB:bt (B:Int)<=9001) (hn:l.length<=100000):jt [dP l,.int (B:Nat)]=some ((sN l B).map .int) /\ ∀ t∈sN l B,bt t<=109001:=by
 have hd:∀ q∈l,bt ((B:Int) / q.2)<=9001:=λq hq=>by
  rw [<- Int.fdiv_eq_ediv_of_nonneg _ (show 0<=q.2 by have:=hp q hq; omega)]
  exact intBits_fdiv_le hB
 constructor
 .rw [yp]
  refine aT (ret (.list ((sN l B).map .int)) (aN ?_) (.mk rfl rfl))
  refine dY dF PyData.int (λq=>q.1 * ((B:Int) / q.2)) l rfl hn λq hq=>?_
  exact ak (ak rfl rfl (gH q)) (ak rfl (ak rfl rfl (eL q)) (oP (by have:=hp q hq; omega) (h q hq))) (eE (iP (h1 q hq) (hd q hq)))
 .intro t ht
  obtain ⟨q,hq,rfl⟩:=ac5.mp ht
  exact dn (h1 q hq) (hd q hq)
theorem qH {p:List (List Int)} (hl:p.length<=24) (eG:∀ r∈p,r.length<=25) (l:List eA) (hn:l.length=(aj p).length):fR [b0 p,dP l]=some .none:=by
 rw [qG]
 have:fQ [some (b0 p),some (dP l)]=some (.nx [some (b0 p),some (dP l)]):=
  GX (cL (ak (eF (cons_of rfl rfl) (O2 l)) (eF (cons_of (aN (be (cons_of rfl rfl) rfl (sE hl eG))) rfl) (fE _)) ((nh _ _).trans (by rw [acH,hn,ac2 rfl]; rfl))))
 rw [this]; rfl
theorem HF {L b g:Nat} (hl:L<=24) (hbg:b + g<=L):b<=100 /\ g<=100 /\ g + 1<=100 /\ ∀ j,j < b + g + 1->j < L + 1:=⟨by omega,by omega,by omega,λ_ _=>by omega⟩
def k9 (p:List (List Int)) (zs:List ((Int×Int)×Int)) (k:Nat):Int:=sm (λz=>z.2 * cG p z.1.1 z.1.2 * EE k z.1.1 z.1.2) zs
theorem D6 {p:List (List Int)} (hp:Pl p) (hl:p.length<=24) (eG:∀ r∈p,r.length<=25) (l:List eA) {N:Nat} (hn:l.length=(aj p).length) (hq:∀ q∈l,1<=q.2) (hN:∀ q∈l,bt q.2<=N) (hNl:N * l.length < 3999) (h1:∀ q∈l,bt q.1<=100000):
  j3 [b0 p,dP l]=some ((OY (tab (p.length + 1) (k9 p ((aj p).zip (sN l (g9 l 1))))) (g9 l 1)).map dF):=by
 rw [D2]
 refine aT ?_
 obtain ⟨B,hB⟩:∃ B,B=g9 l 1:=⟨_,rfl⟩
 have Pf:0 < B:=by rw [hB]; exact oJ _ 1 (by decide) λq h=>by have:=hq q h; omega
 have hBb:bt (B:Int)<=4000:=by rw [hB]; exact aJ (HE hN) (by omega)
 have Sk:=jk hl eG
 have vc:=Sj l hq hN hNl
 have hN9:∀ q∈l,bt q.2<=9000:=λq h=>by
  refine aJ (hN q h) ?_
  have:0 < l.length:=List.length_pos_of_mem h
  have:N<=N * l.length:=Nat.le_mul_of_pos_right _ this
  omega
 rw [<- hB] at vc ⊢
 obtain ⟨vt,bts⟩:=Kz l B hq hN9 h1 (aJ hBb (by decide)) (by omega)
 obtain ⟨kds,ew,hd⟩:=ju hl eG (0,0)
 have EN:Dt kds (cG p):=hd
 refine aE [some (b0 p),some (dP l),none,none,none,none,none,none,none] ?_ ?_
 .exact Ks (call_of (cons_of rfl (cons_of rfl rfl)) rfl (qH hl eG l hn))
 refine aE [some (b0 p),some (dP l),some (.dict kds),none,none,none,none,none,none] (aK (call_of (cons_of rfl (cons_of rfl rfl)) rfl ew)) ?_
 refine aE [some (b0 p),some (dP l),some (.dict kds),some (.int (B:Nat)),none,none,none,none,none] (aK (call_of (cons_of rfl rfl) rfl vc)) ?_
 refine aE [some (b0 p),some (dP l),some (.dict kds),some (.int (B:Nat)),some (.list ((tab (p.length + 1) (k9 p [])).map .int)),none,none,none,none] (v8 ?_) ?_
 .refine (Ck (ds:=[.int 0]) (n:=p.length + 1) rfl (ak (eF (cons_of rfl rfl) (O1 _)) rfl (by rw [acH]; rfl)) (by omega) (by simp; omega)).trans ?_
  congr 1
  have:tab (p.length + 1) (k9 p [])=List.replicate (p.length + 1) 0:=by
   unfold tab
   rw [List.eq_replicate_iff]
   refine ⟨by simp,λb hb=>?_⟩
   obtain ⟨k,_,rfl⟩:=ac5.mp hb
   rfl
  rw [this,agA]
  simp
 obtain ⟨zs,Wr⟩:∃ zs,zs=(aj p).zip (sN l B):=⟨_,rfl⟩
 rw [<- Wr]
 refine fO (λz:(Int×Int)×Int=>PyData.tuple [dC z.1,.int z.2]) zs (λi δ=>∃ a b c d,δ=[some (b0 p),some (dP l),some (.dict kds),some (.int (B:Nat)),some (.list ((tab (p.length + 1) (k9 p (zs.take i))).map .int)),a,b,c,d]) ?_ ⟨_,_,_,_,rfl⟩ ?_ ?_
 .rw [Wr,<- mD]
  exact sJ (aN (be (cons_of rfl rfl) rfl (sE hl eG))) (aN (be (cons_of rfl (cons_of rfl rfl)) rfl vt))
 .rintro i ⟨c,t⟩ δ hi ⟨a',b',c',d',rfl⟩
  have hm:=adk hi
  rw [Wr] at hm
  have hc:=(ad5 hm).1
  have ht:=bts t (ad5 hm).2
  obtain ⟨b,g,he⟩:=lU hp hc
  have hbg:=he.dr
  have hw:=Hv hl he
  have Ak:=EN.get (b:=c.1) (g:=c.2) (agl he.pos)
  have TU:c.1=(b:Int):=by rw [he.eq]
  have hcg:c.2=(g:Int):=by rw [he.eq]
  obtain ⟨w,hwe⟩:∃ w,w=cG p c.1 c.2:=⟨_,rfl⟩
  rw [<- hwe] at hw Ak
  obtain ⟨m1,m2,m3,m4⟩:=HF hl hbg
  have vo:=AN b g m1 m2
  rw [yD,ady] at vo
  obtain ⟨S,hS⟩:∃ S,S=k9 p (zs.take i):=⟨_,rfl⟩
  rw [<- hS]
  have Hk:∀ k,k9 p (zs.take (i + 1)) k=S k + t * w * co b g k:=by
   intro k
   unfold k9 at hS ⊢
   rw [adB,hi,wB,hS]
   have e1:sm (λz:(Int×Int)×Int=>z.2 * cG p z.1.1 z.1.2 * EE k z.1.1 z.1.2) (some (c,t)).toList=t * w * co b g k:=by
    show sm _ [(c,t)]=_
    rw [cq,pW,afT,hwe]
    show t * cG p c.1 c.2 * EE k c.1 c.2=_
    have e2:EE k c.1 c.2=co b g k:=by rw [TU,hcg]; rfl
    rw [e2]
   rw [e1]
  obtain ⟨δ',e2,x',y',rfl⟩:=qU (t:=cW 2 (aO (au 7) (aO (au 8) cY))) (b:=rT 4 (λi j=>i + j) (ae 7) (g2 cb (g2 cb (ae 6) (jU (ae 2) (ae 5))) (g2 bC (ae 8) (gC (.int (0)))))) (λx:Int×Nat=>PyData.tuple [.int (x.2:Nat),dF (x.1,1)])
   (λj δ=>∃ x y,δ=[some (b0 p),some (dP l),some (.dict kds),some (.int (B:Nat)),some (.list ((tab (p.length + 1) λk=>S k + if k < j then t * w * co b g k else 0).map .int)),some (dC c),some (.int t),x,y]) (oY b g).zipIdx (δ:=[some (b0 p),some (dP l),some (.dict kds),some (.int (B:Nat)),some (.list ((tab (p.length + 1) S).map .int)),some (dC c),some (.int t),c',d']) ⟨c',d',by
    have e0:(tab (p.length + 1) λk=>S k + if k < 0 then t * w * co b g k else 0)=tab (p.length + 1) S:=mq λk _=>by simp
    rw [e0]⟩ (by
    rintro j ⟨u,n⟩ δ hj ⟨x,y,rfl⟩
    rw [aev] at hj
    cases eu:(oY b g)[j]? with
    | none=>rw [eu] at hj; cases hj
    | some u'=>
    rw [eu] at hj
    simp only [adT,aeh,aex,afx] at hj
    obtain ⟨rfl,rfl⟩:=hj
    have hjl:=(acN.mp eu).1
    rw [sG] at hjl
    have hu:u'=co b g j:=by rw [<- HB,acS,eu]; rfl
    have bu:bt u'<=100:=aJ (Cv (adk eu)) m3
    refine ⟨_,[some (b0 p),some (dP l),some (.dict kds),some (.int (B:Nat)),some (.list ((tab (p.length + 1) λk=>S k + if k < j + 1 then t * w * co b g k else 0).map .int)),some (dC c),some (.int t),some (.int (j:Nat)),some (dF (u',1))],rfl,?_,_,_,rfl⟩
    refine (Kv (y:=t * w * u') (k:=j) rfl rfl (ak (ak rfl ((oW (c:=c) rfl rfl).trans Ak) (eE (iP ht hw))) (ak rfl rfl (gH _)) (eE (iP (dn ht hw) bu))) (m4 j hjl)).trans ?_
    have:(tab (p.length + 1) λk=>if j=k then (S j + if j < j then t * w * co b g j else 0) + t * w * u' else S k + if k < j then t * w * co b g k else 0)=tab (p.length + 1) λk=>S k + if k < j + 1 then t * w * co b g k else 0:=mq λk _=>by
     by_cases h:j=k
     .subst h; rw [acU rfl,acW (adK _),acU (adX _),hu,afT]
     .rw [acW h]
      by_cases h2:k < j
      .rw [acU h2,acU (aeg h2)]
      .rw [acW h2,acW λz=>h2 (Nat.lt_of_le_of_ne (Nat.le_of_lt_succ z) (aeW h))]
    rw [<- this]
    rfl)
  refine ⟨_,[some (b0 p),some (dP l),some (.dict kds),some (.int (B:Nat)),some (.list ((tab (p.length + 1) (k9 p (zs.take (i + 1)))).map .int)),some (dC c),some (.int t),x',y'],rfl,?_,_,_,_,_,rfl⟩
  have RE:∀ {δ:DS},ae 5 δ=some (dC c)->dX (aP (aW je 2 (aa (g2 bC (ae 5) (gC (.int (0)))) (aa (g2 bC (ae 5) (gC (.int (1)))) af)))) δ=some ((oY b g).zipIdx.map λx=>PyData.tuple [.int (x.2:Nat),dF (x.1,1)]):=λ{δ} h5=>by
   refine CA (l:=(oY b g).map (dF ∘ λt=>((t,1):eA))) (aN (be (cons_of (ak h5 rfl (show bC (dC c) (.int 0)=some (.int (b:Nat)) by show some (PyData.int c.1)=_; rw [TU])) (cons_of (ak h5 rfl (show bC (dC c) (.int 1)=some (.int (g:Nat)) by show some (PyData.int c.2)=_; rw [hcg])) rfl)) rfl vo)) ?_
   rw [Hw]
   rfl
  refine Pb (RE rfl) (e2.trans ?_)
  have e9:(tab (p.length + 1) λk=>S k + if k < (oY b g).zipIdx.length then t * w * co b g k else 0)=tab (p.length + 1) (k9 p (zs.take (i + 1))):=mq λk _=>by
   rw [Hk k,afA,sG]
   by_cases h:k < b + g + 1
   .rw [acU h]
   .rw [acW h]
    have:co b g k=0:=by unfold co; rw [if_neg (by omega),wD (by omega)]
    rw [this]; simp
  rw [e9]
 .rintro δ' ⟨a',b',c',d',rfl⟩
  rw [adE]
  refine ret _ (aN (be (cons_of (aN (dY PyData.int dF (λt=>br t B) (tab (p.length + 1) (k9 p zs)) rfl (by rw [Cd]; omega) λt _=>?_)) rfl) rfl (D3 _))) (.mk rfl rfl)
  exact call_of (cons_of rfl (cons_of rfl rfl)) rfl (mC t B (by omega) hBb)
end aA
namespace aA
def A1:Int->Int:=λb=>if b=1 then 1 else 0
def i4 (p:List (List Int)):WF:=(bf 0 p).foldl fw (kM (1,0))
theorem Sl {q:List (List Int)}:i4 ([0] :: q)=(bf 1 q).foldl fw (kM (1,0)):=by
 unfold i4
 show (bf 1 q).foldl fw (fw (kM (1,0)) (0,((0:Nat):Int) - 0))=_
 congr 1
 funext x y
 unfold fw
 have:kM (1,0) 0 (((0:Nat):Int) - 0)=0:=by unfold kM; rw [if_neg (by rintro ⟨z,_⟩; exact absurd z (by decide))]
 simp only [this]
 simp
theorem KA {q:List (List Int)} (hn:∀ s∈q,s.Nodup) (x y:Int):(x + y < ((1:Nat):Int)->i4 ([0] :: q) x y=kM (1,0) x y) /\ ∀ k:Nat,x + y=((1:Nat):Int) + (k:Int)->i4 ([0] :: q) x y=WW A1 q k x:=by
 rw [Sl]
 refine sC q 1 A1 (kM (1,0)) hn ?_ ?_ x y
 .intro x y q
  unfold kM A1
  by_cases c:x=1
  .rw [acU ⟨c,by push_cast at q; show y=0; omega⟩,acU c]
  .rw [acW (λz=>c z.1),acW c]
 .intro x y q
  unfold kM
  rw [acW]
  rintro ⟨z1,z2⟩
  have z1':x=1:=z1
  have z2':y=0:=z2
  push_cast at q
  omega
theorem uY {p:List (List Int)} (hp:Pl p) {φ:Int->Int->Int} (h:∀ c∈bf 0 p,Hy φ c=0):sm (λc=>i4 p c.1 c.2 * φ c.1 c.2) (aj p)=φ 1 0:=by
 rw [jv hp]
 have hn:=(oU hp).1
 obtain ⟨q,rfl,hc⟩:=hp.ex
 have fr:=KA (q:=q) (λs hs=>hn s (acO _ hs))
 rw [acQ,bf,afb,wB]
 have l0:led [0]=[0,1]:=by decide
 have f01:i4 ([0] :: q) 0 1=0:=by
  have:=(fr 0 1).2 0 (by decide)
  rw [this,WW_0]; rfl
 have Ws:i4 ([0] :: q) 1 0=1:=by
  have:=(fr 1 0).2 0 (by decide)
  rw [this,WW_0]; rfl
 have g1:∀ b:Int,ik ([0] :: q) (b,((1:Nat):Int) - b)=decide (b∈([0] :: q).getD 1 []):=λb=>by
  rw [pU]
 have F7:sm (λc=>i4 ([0] :: q) c.1 c.2 * φ c.1 c.2) ((jJ 1 (led [0])).filter λc=> !ik ([0] :: q) c)=if (1:Int)∈([0] :: q).getD 1 [] then 0 else φ 1 0:=by
  rw [l0]
  unfold jJ
  rw [mE]
  show sm (λa:Int×Int=>if (!ik ([0] :: q) a)=true then i4 ([0] :: q) a.1 a.2 * φ a.1 a.2 else 0) [((0:Int),((1:Nat):Int) - 0),((1:Int),((1:Nat):Int) - 1)]=_
  rw [cq,cq,pW,g1,g1]
  show (if _ then i4 ([0] :: q) 0 1 * φ 0 1 else 0) + ((if _ then i4 ([0] :: q) 1 0 * φ 1 0 else 0) + 0)=_
  rw [f01,Ws,Int.zero_mul,Int.one_mul]
  by_cases m:(1:Int)∈([0] :: q).getD 1 []
  .rw [ac2 m,acU m]; simp
  .rw [acZ m,acW m]; simp
 rw [F7]
 cases q with
 | nil=>simp [bf,pW]
 | cons s q=>
   have hs:=hc.1
   have:=sM (p:=[0] :: s :: q) φ q s 1 A1 (i4 ([0] :: s :: q)) (λj=>by rw [show 1 + j=j + 1 by omega]; rfl) hc.2 hs.2.1 (λx y j e=>(fr x y).2 j e)
   rw [this,qZ (l:=bf 1 (s :: q)) λc Ja=>by rw [h c (by rw [bf]; exact acX _ Ja),agn]]
   rw [show ([0] :: s :: q).getD 1 []=s from rfl]
   have e1:sm (λb=>A1 b * φ b (((1:Nat):Int) - b)) s=if (1:Int)∈s then φ 1 0 else 0:=by
    have hsn:=gK hs.2.1
    have:sm (λb=>A1 b * φ b (((1:Nat):Int) - b)) s=sm (λb=>if b∈[(1:Int)] then φ b (((1:Nat):Int) - b) else 0) s:=gL λb _=>by
     unfold A1
     by_cases hb:b=1
     .rw [acU hb,acU (by simp [hb]),Int.one_mul]
     .rw [acW hb,acW (by simp [hb]),Int.zero_mul]
    rw [this]
    by_cases m:(1:Int)∈s
    .rw [if_pos m,wC hsn (by simp) (by simpa using m)]
     simp [sm]
    .rw [acW m]
     exact qZ λb hb=>by
      rw [acW]
      intro z
      have:b=1:=by simpa using z
      exact m (this ▸ hb)
   rw [e1]
   split <;> omega
theorem HG {p:List (List Int)} (hp:Pl p) (k:Nat):sm (λc=>i4 p c.1 c.2 * EE k c.1 c.2) (aj p)=if k=1 then 1 else 0:=by
 rw [uY hp λc hc=>Ky k (HC hp hc).1 (HC hp hc).2]
 unfold EE co
 show (if k < 1 then 0 else tp 0 (k - 1))=_
 rcases k with _ | _ | k
 .rfl
 .rw [acW (by omega),acU rfl,kx]
 .rw [acW (by omega),acW (by omega),wD (by omega)]
end aA
namespace aA
open PySem L2 Q1
def shr (p:List (List Int)) (c:Int×Int):eA:=br (i4 p c.1 c.2) (cG p c.1 c.2)
theorem HH {p:List (List Int)} {c:Int×Int} {b g:Nat} (he:Cz p c b g):n4 (shr p c).1 (shr p c).2 (i4 p c.1 c.2) (cG p c.1 c.2):=c5 (by have:=he.pos; omega)
theorem HI {p:List (List Int)} (hp:Pl p) (hl:p.length<=24) (eG:∀ r∈p,r.length<=25):oQ [b0 p]=some (((aj p).map (shr p)).map dF):=by
 rw [G7]
 refine aT ?_
 obtain ⟨k0,e0,d0⟩:=ju hl eG (0,0)
 obtain ⟨k1,e1,d1⟩:=ju hl eG (1,0)
 have Sk:=jk hl eG
 refine aE [some (b0 p),some (.dict k0),none] (aK (call_of (cons_of rfl (cons_of rfl rfl)) rfl e0)) ?_
 refine aE [some (b0 p),some (.dict k0),some (.dict k1)] (aK (call_of (cons_of rfl (cons_of rfl rfl)) rfl e1)) ?_
 refine ret (.list (((aj p).map (shr p)).map dF)) (aN ?_) (.mk rfl rfl)
 refine dY dC dF (shr p) (aj p) (oZ (aN (be (cons_of rfl rfl) rfl (sE hl eG)))) (by omega) λc hc=>?_
 obtain ⟨b,g,he⟩:=lU hp hc
 have hw:=he.pos
 have d0':Dt k0 (cG p):=d0
 have d1':Dt k1 (i4 p):=d1
 exact call_of (cons_of ((oV (c:=c) rfl rfl rfl).trans (aeu some (d1' c.1 c.2))) (cons_of ((oW (c:=c) rfl rfl).trans (d0'.get (b:=c.1) (g:=c.2) (by omega))) rfl)) rfl (mC _ _ (by omega) (aJ (Hv hl he) (by decide)))
def nx (c:Int×Int) (x:Bool):Int×Int:=if x=true then (c.1 + 1,c.2) else (c.1,c.2 + 1)
def uZ (p:List (List Int)):Nat->Int×Int->List (List Bool)
 | 0,_=>[[]]
 | n + 1,c=>if ik p c=true then (uZ p n (nx c true)).map (true :: ·) ++ (uZ p n (nx c false)).map (false :: ·) else [[]]
def T (p:List (List Int)) (c:Int×Int):List (List Bool):=uZ p (p.length - (c.1 + c.2).toNat + 1) c
theorem mP {p:List (List Int)} {c:Int×Int} (h:ik p c=true):0<=c.1 + c.2 /\ c.1 + c.2 < (p.length:Int):=by
 unfold ik at h
 rw [adC,adC,adt,adt] at h
 exact h.1
theorem gM (c:Int×Int) (x:Bool):(nx c x).1 + (nx c x).2=c.1 + c.2 + 1:=by
 cases x
 .show c.1 + (c.2 + 1)=_; omega
 .show c.1 + 1 + c.2=_; omega
theorem toN {L:Nat} {x:Int} (h:0<=x /\ x < (L:Int)):L - x.toNat=L - (x + 1).toNat + 1:=by
 obtain ⟨k,rfl⟩:=Int.eq_ofNat_of_zero_le h.1
 have hk:k < L:=Int.ofNat_lt.mp h.2
 show L - k=L - (k + 1) + 1
 omega
theorem lV {p:List (List Int)} {c:Int×Int} (h:ik p c=false):T p c=[[]]:=by
 unfold T uZ
 rw [h]; rfl
theorem nI {p:List (List Int)} {c:Int×Int} (h:ik p c=true):T p c=(T p (nx c true)).map (true :: ·) ++ (T p (nx c false)).map (false :: ·):=by
 have hl:=mP h
 have e:∀ x,p.length - (c.1 + c.2).toNat=p.length - ((nx c x).1 + (nx c x).2).toNat + 1:=λx=>by rw [gM]; exact toN hl
 conv=>lhs; unfold T uZ
 rw [acU h,e true]
 rw [show uZ p (p.length - ((nx c true).1 + (nx c true).2).toNat + 1) (nx c false)=T p (nx c false) by unfold T; rw [gM,gM]]
 rfl
theorem u3 {p:List (List Int)} {P:Int×Int->Prop} (h0:∀ c,ik p c=false->P c) (h1:∀ c,ik p c=true->P (nx c true)->P (nx c false)->P c) (c:Int×Int):P c:=by
 suffices h:∀ (n:Nat) c,p.length<=(c.1 + c.2).toNat + n->P c by exact h p.length c (by omega)
 intro n
 induction n with
 | zero=>
   intro c hc
   refine h0 c ?_
   cases hg:ik p c with
   | false=>rfl
   | true=>have:=mP hg; omega
 | succ n ih=>
   intro c hc
   cases hg:ik p c with
   | false=>exact h0 c hg
   | true=>
     have:=mP hg
     exact h1 c hg (ih _ (by rw [gM]; omega)) (ih _ (by rw [gM]; omega))
theorem Sm {p:List (List Int)} (c:Int×Int):T p c≠[]:=by
 refine u3 (P:=λc=>T p c≠[]) (λc h=>by rw [lV h]; simp) (λc h i _=>?_) c
 rw [nI h]
 intro z
 rw [List.append_eq_nil_iff,List.map_eq_nil_iff] at z
 exact i z.1
theorem yH {p:List (List Int)} (c:Int×Int):(T p c).length<=2 ^ (p.length - (c.1 + c.2).toNat):=by
 refine u3 (P:=λc=>(T p c).length<=2 ^ (p.length - (c.1 + c.2).toNat)) (λc h=>by rw [lV h]; exact agz) (λc h i j=>?_) c
 have hl:=mP h
 rw [nI h,ac7,acH,acH]
 rw [gM] at i j
 rw [toN hl,Nat.pow_succ,Nat.mul_two]
 exact Nat.add_le_add i j
def go (c:Int×Int):List Bool->Int×Int
 | []=>c
 | x :: w=>go (nx c x) w
theorem sO (c:Int×Int) (w:List Bool) (x:Bool):go c (w ++ [x])=nx (go c w) x:=by
 induction w generalizing c with
 | nil=>rfl
 | cons y w ih=>exact ih _
theorem Pg (c:Int×Int) (w:List Bool):(go c w).1 + (go c w).2=c.1 + c.2 + (w.length:Int):=by
 induction w generalizing c with
 | nil=>exact (afT _).symm
 | cons y w ih=>
   show (go (nx c y) w).1 + (go (nx c y) w).2=_
   rw [ih,gM,ac3]
   omega
def ph (p:List (List Int)) (e:Int×Int) (c:Int×Int):Int:=((T p c).countP λw=>decide (go c w=e):Nat)
theorem HJ {p:List (List Int)} {e c:Int×Int} (h:ik p c=false):ph p e c=if c=e then 1 else 0:=by
 unfold ph
 rw [lV h]
 show ((List.countP (λw=>decide (go c w=e)) [[]]:Nat):Int)=_
 rw [ae5,List.countP_nil]
 show (((0 + if decide (c=e)=true then 1 else 0:Nat)):Int)=_
 by_cases z:c=e
 .rw [acU z,acU (ac2 z)]; rfl
 .rw [acW z,acW (by rw [acZ z]; exact acP)]; rfl
theorem Mo {p:List (List Int)} {e c:Int×Int} (h:ik p c=true):ph p e c=ph p e (nx c true) + ph p e (nx c false):=by
 unfold ph
 rw [nI h,agB,afe,afe,Int.natCast_add]
 rfl
theorem yI {p:List (List Int)} {c:Int×Int} (h:c∈bf 0 p):ik p c=true:=by
 obtain ⟨k,hk,h1,h2⟩:=j5 h
 have e:c=(c.1,((k:Nat):Int) - c.1):=by
  rw [show ((k:Nat):Int) - c.1=c.2 by rw [aeh] at h2; omega]
 rw [e,pU]
 exact ac2 h1
theorem HK {p:List (List Int)} {e:Int×Int}:∀ c∈bf 0 p,Hy (λx y=>ph p e (x,y)) c=0:=λc hc=>by
 have h:=Mo (e:=e) (yI hc)
 unfold Hy
 have h:ph p e c=ph p e (c.1 + 1,c.2) + ph p e (c.1,c.2 + 1):=h
 show ph p e (c.1 + 1,c.2) + ph p e (c.1,c.2 + 1) - ph p e (c.1,c.2)=0
 rw [show ((c.1,c.2):Int×Int)=c from rfl]
 omega
theorem KC:∀ {q:List (List Int)} {n:Nat},(∀ r∈q,r.Nodup)->(bf n q).Nodup:=by
 intro q
 induction q with
 | nil=>intro n _; exact List.nodup_nil
 | cons r q ih=>
   intro n h
   show (jJ n r ++ bf (n + 1) q).Nodup
   refine aeS.mpr ⟨?_,ih λs hs=>h s (acO _ hs),λa ha b hb=>?_⟩
   .unfold jJ
    exact List.Pairwise.map _ (λa b BZ z=>BZ (aeu Prod.fst z)) (h r acR)
   .obtain ⟨x,hx,rfl⟩:=ac5.mp ha
    obtain ⟨k,_,_,h2⟩:=j5 hb
    intro z
    rw [<- z] at h2
    have:x + ((n:Int) - x)=((n + 1 + k:Nat):Int):=h2
    omega
theorem Ph (r:List Int):(led r).Nodup:=gK fi
theorem q0 {p:List (List Int)} (hp:Pl p):(aj p).Nodup:=by
 rw [jv hp]
 refine (KC λr hr=>?_).sublist aft
 obtain ⟨s,_,rfl⟩:=ac5.mp hr
 exact Ph s
theorem HL {l:List (Int×Int)} (hn:l.Nodup) {e:Int×Int} (he:e∈l) (f:Int×Int->Int):sm (λc=>f c * (if c=e then 1 else 0)) l=f e:=by
 induction l with
 | nil=>cases he
 | cons a l ih=>
   rw [cq]
   obtain ⟨h1,h2⟩:=afc.mp hn
   by_cases z:a=e
   .subst z
    rw [acU rfl,af4,qZ,afT]
    intro c hc
    rw [acW (show ¬ c=a from λq=>h1 (q ▸ hc)),agn]
   .rw [acW z,agn,ahc]
    rcases acK.mp he with q | q
    .exact absurd q.symm z
    .exact ih h2 q
theorem CC {p:List (List Int)} {c:Int×Int} (h:c∈aj p):ik p c=false:=by
 unfold aj at h
 have:=(adU.mp h).2
 simpa using this
theorem wF {p:List (List Int)} (hp:Pl p) {e:Int×Int} (he:e∈aj p):cG p e.1 e.2=ph p e (0,0):=by
 have h:=HA hp (φ:=λx y=>ph p e (x,y)) HK
 rw [<- h,<- HL (q0 hp) he λc=>cG p c.1 c.2]
 refine gL λc hc=>?_
 rw [HJ (CC hc)]
theorem Sn {p:List (List Int)} (c:Int×Int):∀ w∈T p c,ik p (go c w)=false:=by
 refine u3 (p:=p) (P:=λc=>∀ w∈T p c,ik p (go c w)=false) (λc h w hw=>?_) (λc h i j w hw=>?_) c
 .rw [lV h,adm] at hw
  subst hw; exact h
 .rw [nI h,adh,ac5,ac5] at hw
  rcases hw with ⟨u,hu,rfl⟩ | ⟨u,hu,rfl⟩
  .exact i u hu
  .exact j u hu
theorem HM {p:List (List Int)} (hp:Pl p) (hl:p.length<=11):sm (λc=>cG p c.1 c.2) (aj p)<=2048:=by
 have h:∀ l:List (Int×Int),(∀ e∈l,e∈aj p)->l.Nodup->sm (λc=>cG p c.1 c.2) l=((T p (0,0)).countP λw=>decide (go (0,0) w∈l):Nat):=by
  intro l
  induction l with
  | nil=>intro _ _; rw [pW]; simp
  | cons a l ih=>
    intro h1 h2
    obtain ⟨n1,n2⟩:=afc.mp h2
    rw [cq,ih (λe he=>h1 e (acO _ he)) n2,wF hp (h1 a acR)]
    unfold ph
    rw [<- Int.natCast_add]
    congr 1
    generalize T p (0,0)=t
    induction t with
    | nil=>rfl
    | cons w t it=>
      rw [ae5,ae5,ae5]
      by_cases z:go (0,0) w=a
      .have q:go (0,0) w∉l:=by rw [z]; exact n1
       rw [acU (ac2 z),acW (by rw [acZ q]; exact acP),acU (ac2 (by rw [z]; exact acR))]
       omega
      .rw [acW (by rw [acZ z]; exact acP)]
       by_cases q:go (0,0) w∈l
       .rw [acU (ac2 q),acU (ac2 (acO _ q))]; omega
       .rw [acW (by rw [acZ q]; exact acP),acW (by rw [acZ (by intro y; rcases acK.mp y with y | y; exact z y; exact q y)]; exact acP)]; omega
 rw [h _ (λ_ z=>z) (q0 hp)]
 have h1:=afY (l:=T p (0,0)) (p:=λw=>decide (go (0,0) w∈aj p))
 have h2:(T p (0,0)).length<=2 ^ (p.length - ((0:Int) + 0).toNat):=yH (p:=p) (0,0)
 have h3:2 ^ (p.length - ((0:Int) + 0).toNat)<=2 ^ 11:=aea (by decide) (by omega)
 have:(2:Nat) ^ 11=2048:=by decide
 omega
theorem Wt {p:List (List Int)} (c:Int×Int):∀ w∈T p c,c.1 + c.2<=(p.length:Int)->c.1 + c.2 + (w.length:Int)<=(p.length:Int):=by
 refine u3 (p:=p) (P:=λc=>∀ w∈T p c,c.1 + c.2<=(p.length:Int)->c.1 + c.2 + (w.length:Int)<=(p.length:Int)) (λc h w hw hc=>?_) (λc h i j w hw hc=>?_) c
 .rw [lV h,adm] at hw
  subst hw
  show c.1 + c.2 + ((0:Nat):Int)<=_
  omega
 .have hl:=mP h
  rw [nI h,adh,ac5,ac5] at hw
  rcases hw with ⟨u,hu,rfl⟩ | ⟨u,hu,rfl⟩
  .have:=i u hu (by rw [gM]; omega)
   rw [gM] at this
   rw [ac3]; omega
  .have:=j u hu (by rw [gM]; omega)
   rw [gM] at this
   rw [ac3]; omega
theorem Pj {p:List (List Int)} {c:Int×Int} {k:Nat} (h:ik p c=true) (e:c.1 + c.2=(k:Int)):k < p.length /\ c.1∈p.getD k []:=by
 have hl:=mP h
 have e2:c=(c.1,(k:Int) - c.1):=by rw [show (k:Int) - c.1=c.2 by omega]
 rw [e2,pU,adt] at h
 exact ⟨by omega,h⟩
theorem KD {b:Int}:∀ {q:List (List Int)} {n k:Nat},b∈q.getD k []->k < q.length->(b,((n + k:Nat):Int) - b)∈bf n q:=by
 intro q
 induction q with
 | nil=>intro n k _ h; cases h
 | cons r q ih=>
   intro n k hb hk
   show _∈jJ n r ++ bf (n + 1) q
   cases k with
   | zero=>exact adv _ (ac5.mpr ⟨b,hb,rfl⟩)
   | succ k=>
     have:=ih (n:=n + 1) (k:=k) hb (by simpa using hk)
     rw [show n + 1 + k=n + (k + 1) by omega] at this
     exact acX _ this
theorem KE {p:List (List Int)} (c:Int×Int):c∈(0,0) :: bf 1 (p.map led)->∀ u∈T p c,go c u∈(0,0) :: bf 1 (p.map led):=by
 refine u3 (p:=p) (P:=λc=>c∈(0,0) :: bf 1 (p.map led)->∀ u∈T p c,go c u∈(0,0) :: bf 1 (p.map led)) (λc h hc u hu=>?_) (λc h i j hc u hu=>?_) c
 .rw [lV h] at hu
  rw [adm.mp hu]; exact hc
 .have hl:=mP h
  obtain ⟨k,hk⟩:∃ k:Nat,c.1 + c.2=(k:Int):=⟨(c.1 + c.2).toNat,by omega⟩
  obtain ⟨h1,h2⟩:=Pj h hk
  have nxt:∀ x,nx c x∈(0,0) :: bf 1 (p.map led):=λx=>by
   have hm:(nx c x).1∈(p.map led).getD k []:=by
    rw [acS,adb,acL h1]
    show (nx c x).1∈led p[k]
    rw [acS,acL h1] at h2
    have h2:c.1∈p[k]:=h2
    cases x
    .exact gJ.mpr (.inl h2)
    .exact gJ.mpr (.inr (by rw [show (nx c true).1 - 1=c.1 from by show c.1 + 1 - 1=c.1; omega]; exact h2))
   have:=KD (n:=1) hm (by rw [acH]; exact h1)
   have e:((1 + k:Nat):Int) - (nx c x).1=(nx c x).2:=by have:=gM c x; omega
   rw [e] at this
   exact acO _ this
  rw [nI h] at hu
  rcases adh.mp hu with z | z
  .obtain ⟨w,hw,rfl⟩:=ac5.mp z
   exact i (nxt true) w hw
  .obtain ⟨w,hw,rfl⟩:=ac5.mp z
   exact j (nxt false) w hw
theorem row_end {p:List (List Int)} {u:List Bool} (hu:u∈T p (0,0)):go (0,0) u∈aj p:=by
 unfold aj
 rw [adU]
 exact ⟨KE (0,0) acR u hu,by rw [Sn (0,0) u hu]; rfl⟩
def phA (p:List (List Int)) (e:Int×Int) (k:Nat) (c:Int×Int):Int:=((T p c).countP λw=>decide (go c w=e) && w.getD k false:Nat)
theorem phA_0 {p:List (List Int)} {e c:Int×Int} (h:ik p c=true):phA p e 0 c=ph p e (nx c true):=by
 unfold phA ph
 rw [nI h,agB,afe,afe]
 have e2:(T p (nx c false)).countP ((λw:List Bool=>decide (go c w=e) && w.getD 0 false) ∘ λx=>false :: x)=0:=List.countP_eq_zero.mpr λw _=>by simp
 rw [e2,Nat.add_zero]
 congr 1
 refine List.countP_congr λw _=>?_
 show (decide (go (nx c true) w=e) && true)=true↔_
 rw [Bool.and_true]
theorem So {p:List (List Int)} {e c:Int×Int} {k:Nat} (h:ik p c=true):phA p e (k + 1) c=phA p e k (nx c true) + phA p e k (nx c false):=by
 unfold phA
 rw [nI h,agB,afe,afe,Int.natCast_add]
 rfl
def Dp (p:List (List Int)):Nat->Int×Int->Prop
 | 0,c=>ik p c=true
 | n + 1,c=>ik p c=true /\ Dp p n (nx c true) /\ Dp p n (nx c false)
theorem Dp.go {p:List (List Int)} {n:Nat} {c:Int×Int} (h:Dp p n c):ik p c=true:=by
 cases n with
 | zero=>exact h
 | succ n=>exact h.1
theorem KG (c:Int×Int):nx (nx c false) true=nx (nx c true) false:=rfl
theorem sP {p:List (List Int)} {e:Int×Int}:∀ (n:Nat) (c:Int×Int),Dp p n c->phA p e n c=ph p e (nx c true)
 | 0,c,h=>phA_0 h
 | n + 1,c,h=>by
   rw [So h.1,sP n _ h.2.1,sP n _ h.2.2,KG,<- Mo h.2.1.go]
theorem Sq {p:List (List Int)}:∀ (n:Nat) (c:Int×Int),(∀ u∈T p c,n < u.length)->Dp p n c:=λn=>by
 have g0:∀ {n:Nat} {c:Int×Int},(∀ u∈T p c,n < u.length)->ik p c=true:=λ{n c} h=>by
  cases q:ik p c with
  | true=>rfl
  | false=>
    have:=h [] (by rw [lV q]; exact adm.mpr rfl)
    simp at this
 induction n with
 | zero=>exact λc h=>g0 h
 | succ n ih=>
   intro c h
   have hg:=g0 h
   refine ⟨hg,ih _ λu hu=>?_,ih _ λu hu=>?_⟩
   .have:=h (true :: u) (by rw [nI hg]; exact adv _ (ac5.mpr ⟨u,hu,rfl⟩))
    simpa using this
   .have:=h (false :: u) (by rw [nI hg]; exact acX _ (ac5.mpr ⟨u,hu,rfl⟩))
    simpa using this
theorem Sr {p:List (List Int)} (hp:Pl p):ik p (0,0)=true:=by
 obtain ⟨q,rfl,_⟩:=hp.ex
 have:=pU ([0] :: q) 0 0
 rw [show (((0:Nat):Int) - 0)=0 from rfl] at this
 rw [this]
 simp
theorem Ss {p:List (List Int)} (hp:Pl p) {e:Int×Int} (he:e∈aj p):i4 p e.1 e.2=ph p e (1,0):=by
 have:=uY hp (φ:=λx y=>ph p e (x,y)) HK
 rw [<- this]
 have h2:sm (λc=>i4 p c.1 c.2 * ph p e (c.1,c.2)) (aj p)=sm (λc=>i4 p c.1 c.2 * (if c=e then 1 else 0)) (aj p):=by
  unfold sm
  congr 1
  refine adY λc hc=>?_
  show i4 p c.1 c.2 * ph p e c=_
  rw [HJ (CC hc)]
 rw [h2,HL (q0 hp) he λc=>i4 p c.1 c.2]
theorem CD {p:List (List Int)} (hp:Pl p) {e:Int×Int} (he:e∈aj p) {n:Nat} (h:∀ u∈T p (0,0),n < u.length):((T p (0,0)).countP λw=>decide (go (0,0) w=e) && w.getD n false:Nat)=i4 p e.1 e.2:=by
 rw [Ss hp he]
 exact sP n (0,0) (Sq n (0,0) h)
def ch (x:Bool):Nat:=if x=true then 98 else 103
def tx (w:List Bool):Str:=⟨(w.map ch).toArray⟩
theorem jl (w:List Bool):(tx w).cps.toList=w.map ch:=by unfold tx; simp
theorem pX (w:List Bool):(tx w).length=w.length:=by
 show (tx w).cps.size=_
 rw [<- Array.length_toList,jl,acH]
theorem CF {x y:Str} (h:x.cps.toList=y.cps.toList):x=y:=by
 obtain ⟨a⟩:=x
 obtain ⟨b⟩:=y
 congr 1
 exact Array.toList_inj.mp h
theorem Pk (a b:List Bool):tx a ++ tx b=tx (a ++ b):=by
 refine CF ?_
 show ((tx a).cps ++ (tx b).cps).toList=_
 rw [Array.toList_append,jl,jl,jl,ade]
theorem Pm:("b":Str)=tx [true]:=by decide +kernel
theorem Pn:("g":Str)=tx [false]:=by decide +kernel
theorem tx_0:("":Str)=tx []:=by decide +kernel
theorem Po (w:List Bool):(tx w).cps.all (· < 128)=true:=by
 rw [<- Array.all_toList,jl,List.all_map,af0]
 intro x _
 cases x <;> decide
theorem HN (w:List Bool):ng (tx w)=w.map λx=>.str (tx [x]):=by
 unfold ng
 rw [jl,ady]
 rfl
theorem Mp (x:Bool):md (.str (tx [x])) (.str "b")=some (.bool x):=by
 cases x with
 | true=>exact wx (by decide +kernel) (by decide +kernel) (by decide +kernel)
 | false=>exact wx (by decide +kernel) (by decide +kernel) (by decide +kernel)
theorem wG {w:List Bool} {x:Bool} (h:w.length<=1000):bM (.str (tx w)) (.str (tx [x]))=some (.str (tx (w ++ [x]))):=by
 have e:bM (.str (tx w)) (.str (tx [x]))=some (.str (tx w ++ tx [x])):=acU (by rw [pX,pX]; simp; omega)
 rw [e,Pk]
theorem HP {g:DS->Option D} {δ:DS} {b:Bool} (h:g δ=some (.bool b)):mV g δ=some b:=by unfold mV; rw [h]; rfl
theorem Pp (w:List Bool):∀ c:Int×Int,c.1 + PyProof.Rows.cnt 98 (w.map ch)=(go c w).1:=by
 induction w with
 | nil=>intro c; exact afT _
 | cons x w ih=>
   intro c
   rw [acQ,PyProof.Rows.cnt_cons]
   show _=(go (nx c x) w).1
   rw [<- ih (nx c x)]
   cases x
   .show c.1 + ((0:Int) + _)=c.1 + _
    omega
   .show c.1 + ((1:Int) + _)=c.1 + 1 + _
    omega
theorem HQ (w:List Bool):Txt.count (tx w) "b"=(go (0,0) w).1:=by
 have e:("b":Str)=⟨#[98]⟩:=by decide +kernel
 rw [e,PyProof.Rows.count_cnt,jl,<- Pp w (0,0)]
 exact (ahc _).symm
def dW (w:List Bool):D:=.tuple [.str (tx w),dC (go (0,0) w)]
theorem u4 {i j:Nat} {δ:DS} {l:List D} {d:D} (h:ae j δ=some (.list (l ++ [d]))):qP i j δ=some (.nx ((δ.set j (some (.list l))).set i (some d))):=by
 unfold qP
 rw [h]
 show ((l ++ [d])[(l ++ [d]).length - 1]?).bind _=_
 rw [ac7,adI,Nat.add_sub_cancel,List.getElem?_concat_length,List.dropLast_concat]
 rfl
theorem Mq {a b:DS->Option Bool} {δ:DS} {x y:Bool} (h1:a δ=some x) (h2:x=true->b δ=some y):jA a b δ=some (x && y):=by
 unfold jA
 rw [h1,acJ]
 cases x with
 | true=>exact h2 rfl
 | false=>rfl
theorem lW {g:DS->Option (List D)} {δ:DS} {xs:List D} (h:g δ=some xs) (hl:xs.length<=100000):aS g δ=some (.tuple xs):=by
 unfold aS
 rw [h,acJ,acU hl]
def ms (p:List (List Int)) (P:List (List Bool)):Nat:=(P.map λw=>2 * (T p (go (0,0) w)).length - 1).sum
theorem CG {p:List (List Int)} (c:Int×Int):1<=(T p c).length:=agg.mpr (Sm c)
theorem HR {p:List (List Int)} (P:List (List Bool)):P.length<=ms p P:=by
 induction P with
 | nil=>exact aek _
 | cons w P ih=>
   have:=CG (p:=p) (go (0,0) w)
   unfold ms at ih ⊢
   rw [acQ,List.sum_cons,ac3]
   omega
theorem wH {p:List (List Int)} (P:List (List Bool)) (w:List Bool):ms p (P ++ [w])=ms p P + (2 * (T p (go (0,0) w)).length - 1):=by
 unfold ms
 rw [ade,List.sum_append]
 simp
theorem Pq {s m w t f:Nat} (hm:s + (2 * w - 1)=m) (hw:w=t + f) (h1:1<=t) (h2:1<=f):s + (2 * f - 1) + (2 * t - 1)=m - 1:=by omega
def bh (p:List (List Int)) (w:List Bool):List (List Bool):=(T p (go (0,0) w)).map (w ++ ·)
theorem Pr {p:List (List Int)} {w:List Bool} (h:ik p (go (0,0) w)=false):bh p w=[w]:=by
 unfold bh; rw [lV h]; simp
theorem Su {p:List (List Int)} {w:List Bool} (h:ik p (go (0,0) w)=true):bh p w=bh p (w ++ [true]) ++ bh p (w ++ [false]):=by
 unfold bh
 rw [nI h,sO,sO,ade,ady,ady]
 congr 1 <;> exact adY λv _=>by simp
theorem AQ {p:List (List Int)} (hl:p.length<=8):kI [b0 p]=some ((T p (0,0)).map dW):=by
 rw [AA]
 refine aT ?_
 have hT:(T p (0,0)).length<=256:=by
  have h1:=yH (p:=p) (0,0)
  have h2:2 ^ (p.length - ((0,0):Int×Int).1.toNat)<=2 ^ 8:=aea (by decide) (by omega)
  refine ado h1 (ado (aea (by decide) (?_:_<=8)) (by decide))
  omega
 refine aE [some (b0 p),some (.list []),none,none,none] rfl ?_
 refine aE [some (b0 p),some (.list []),some (.list (([[]]:List (List Bool)).map λw=>.str (tx w))),none,none] ?_ ?_
 .rw [show ([[]]:List (List Bool)).map (λw=>PyData.str (tx w))=[.str ""] by rw [tx_0]; rfl]; rfl
 refine jX (λm δ=>∃ (F P:List (List Bool)) (a b:Option D),δ=[some (b0 p),some (.list (F.map dW)),some (.list (P.map λw=>.str (tx w))),a,b] /\ F ++ P.reverse.flatMap (bh p)=T p (0,0) /\ ms p P=m /\ m<=600 /\ ∀ w∈P,w.length<=8)
  (λδ=>∃ a b c,δ=[some (b0 p),some (.list ((T p (0,0)).map dW)),a,b,c]) (2 * (T p (0,0)).length - 1) ⟨[],[[]],none,none,rfl,?_,?_,by omega,λw hw=>by simp at hw; subst hw; exact aek _⟩ ?_ ?_
 .show [] ++ (([[]]:List (List Bool)).reverse.flatMap (bh p))=_
  unfold bh
  simp [go]
 .unfold ms; simp [go]
 .rintro m δ ⟨F,P,a,b,rfl,hF,hm,hm3,Wu⟩
  have hc:gB (g2 uE (cM bL (aa (ae 2) af)) (gC (.int (0)))) [some (b0 p),some (.list (F.map dW)),some (.list (P.map λw=>.str (tx w))),a,b]=some (decide ((0:Int) < ((P.length:Nat):Int))):=by
   refine cL ?_
   show some (PyData.bool (decide ((0:Int) < (((P.map λw=>PyData.str (tx w)).length:Nat):Int))))=_
   rw [acH]
  have hFl:F.length<=256:=by
   have:=aeu List.length hF
   rw [ac7] at this
   omega
  have hPl:=HR (p:=p) P
  rcases List.eq_nil_or_concat P with z | ⟨P',w,z⟩
  .subst z
   have:F=T p (0,0):=by simpa using hF
   subst this
   exact .inl ⟨hc,_,_,_,rfl⟩
  .rw [List.concat_eq_append] at z
   subst z
   refine .inr ⟨by rw [hc,ac2 (by rw [ac7,adI]; omega)],?_⟩
   rw [wH] at hm
   have vM:=CG (p:=p) (go (0,0) w)
   have Pt:=Pg (0,0) w
   have Pt:(go (0,0) w).1 + (go (0,0) w).2=(w.length:Int):=by rw [Pt]; show 0 + 0 + _=_; omega
   rw [ae0,afV,agj,afW] at hF
   have To:=Wu w (acX _ (adm.mpr rfl))
   have eP:(P' ++ [w]).map (λw=>PyData.str (tx w))=P'.map (λw=>PyData.str (tx w)) ++ [.str (tx w)]:=by rw [ade]; rfl
   rw [eP]
   have e2:Al (ae 3) (gC (.str "b")) [some (b0 p),some (.list (F.map dW)),some (.list (P'.map λw=>.str (tx w))),some (.str (tx w)),b]=some (.int (go (0,0) w).1):=by
    show some (PyData.int (Txt.count (tx w) "b"))=_
    rw [HQ]
   have el:cM bL (aa (ae 3) af) [some (b0 p),some (.list (F.map dW)),some (.list (P'.map λw=>.str (tx w))),some (.str (tx w)),some (.int (go (0,0) w).1)]=some (.int (w.length:Nat)):=by
    show (if (tx w).length<=100000 then some (PyData.int ((tx w).length:Nat)) else none)=_
    rw [pX,acU (by omega)]
   have ep:cM bL (aa (ae 0) af) [some (b0 p),some (.list (F.map dW)),some (.list (P'.map λw=>.str (tx w))),some (.str (tx w)),some (.int (go (0,0) w).1)]=some (.int (p.length:Nat)):=by
    show some (PyData.int (((p.map dR).length:Nat):Int))=_
    rw [acH]
   have ec:jA (gB (g2 ql (cM bL (aa (ae 3) af)) (cM bL (aa (ae 0) af)))) (gB (g2 JS (ae 4) (g2 bC (ae 0) (cM bL (aa (ae 3) af))))) [some (b0 p),some (.list (F.map dW)),some (.list (P'.map λw=>.str (tx w))),some (.str (tx w)),some (.int (go (0,0) w).1)]=some (ik p (go (0,0) w)):=by
    refine (Mq (x:=decide ((w.length:Int) < (p.length:Int))) (y:=decide ((go (0,0) w).1∈p.getD w.length [])) (cL (ak el ep rfl)) λhx=>?_).trans ?_
    .rw [adt] at hx
     have hi:=Cq (p:=p) (i:=(w.length:Int)) (by omega) hx
     rw [adA] at hi
     exact cL (ak rfl (ak rfl el hi) AI)
    .unfold ik
     rw [Pt,adA,ac2 (show (0:Int)<=(w.length:Int) by omega),aff]
   cases hg:ik p (go (0,0) w) with
   | true=>
     rw [hg] at ec
     have iG:=mP hg
     have hT2:=nI hg
     have hTl:(T p (go (0,0) w)).length=(T p (go (0,0) (w ++ [true]))).length + (T p (go (0,0) (w ++ [false]))).length:=by
      rw [hT2,ac7,acH,acH,sO,sO]
     have h1:=CG (p:=p) (go (0,0) (w ++ [true]))
     have h2:=CG (p:=p) (go (0,0) (w ++ [false]))
     refine ⟨[some (b0 p),some (.list (F.map dW)),some (.list ((P' ++ [w ++ [false]] ++ [w ++ [true]]).map λw=>.str (tx w))),some (.str (tx w)),some (.int (go (0,0) w).1)],m - 1,?_,by omega,F,P' ++ [w ++ [false]] ++ [w ++ [true]],_,_,rfl,?_,?_,by omega,λu hu=>?_⟩
     .refine bO _ (u4 (l:=P'.map λw=>.str (tx w)) (d:=.str (tx w)) rfl) (bO _ (aK e2) (ji true ec (λ_=>?_) λz=>nomatch z))
      have afQ:P'.length<=600:=by have:=HR (p:=p) P'; omega
      refine bO _ (iI (ds:=P'.map λw=>.str (tx w)) (d:=.str (tx (w ++ [false]))) rfl (ak rfl rfl (by rw [Pn]; exact wG (by omega))) (by rw [acH]; omega)) ?_
      refine (iI (ds:=P'.map (λw=>PyData.str (tx w)) ++ [.str (tx (w ++ [false]))]) (d:=.str (tx (w ++ [true]))) rfl (ak rfl rfl (by rw [Pm]; exact wG (by omega))) (by rw [ac7,acH,adI]; omega)).trans ?_
      rw [ade,ade]
      rfl
     .rw [ae0,ae0,afV,afV,agj,agj,afW,afW,<- List.append_assoc (bh p (w ++ [true])),<- Su hg]
      exact hF
     .rw [wH,wH]
      exact Pq hm hTl h1 h2
     .rcases adh.mp hu with z | z
      .rcases adh.mp z with z | z
       .exact Wu u (adv _ z)
       .rw [adm] at z; rw [z,ac7,adI]; omega
      .rw [adm] at z; rw [z,ac7,adI]; omega
   | false=>
     rw [hg] at ec
     rw [Pr hg] at hF
     refine ⟨[some (b0 p),some (.list ((F ++ [w]).map dW)),some (.list (P'.map λw=>.str (tx w))),some (.str (tx w)),some (.int (go (0,0) w).1)],ms p P',?_,by omega,F ++ [w],P',_,_,rfl,?_,rfl,by omega,λu hu=>Wu u (adv _ hu)⟩
     .refine bO _ (u4 (l:=P'.map λw=>.str (tx w)) (d:=.str (tx w)) rfl) (bO _ (aK e2) (ji false ec (λz=>nomatch z) λ_=>?_))
      refine (iI (ds:=F.map dW) (d:=dW w) rfl ?_ (by rw [acH]; omega)).trans ?_
      .have e5:(w.length:Int) - (go (0,0) w).1=(go (0,0) w).2:=by omega
       refine lW (cons_of rfl (cons_of (lW (cons_of rfl (cons_of (ak el rfl (show _=some (PyData.int (go (0,0) w).2) by rw [<- e5]; rfl)) rfl)) (by show 2<=100000; decide)) rfl)) (by show 2<=100000; decide)
      .rw [ade]; rfl
     .rw [aew]
      exact hF
 .rintro δ' ⟨a,b,c,rfl⟩
  exact ret (.list ((T p (0,0)).map dW)) rfl (.mk rfl rfl)
def cO (w:List Bool) (t:List (List Bool)):List D:=t.map λu=>.str (tx (w ++ u))
theorem t6 {p:List (List Int)} (hl:p.length<=11):∀ (n:Nat) (c:Int×Int) (w:List Bool),c.1 + c.2=(w.length:Int)->(p.length:Int)<=c.1 + c.2 + n->w.length<=12->bS (n + 1) [b0 p,.str (tx w),dC c]=some (cO w (T p c)):=by
 intro n
 induction n with
 | zero=>
   intro c w hw hn h12
   have hg:ik p c=false:=by
    cases h:ik p c with
    | false=>rfl
    | true=>have:=mP h; omega
   rw [mO,lV hg]
   refine aT (qV true (kz (x:=false) (HP (call_of (cons_of rfl (cons_of rfl rfl)) rfl ((i3 p c).trans (by rw [hg]))))) (λ_=>qW _ rfl (.mk rfl ?_)) λz=>nomatch z)
   show [PyData.str (tx w)]=[PyData.str (tx (w ++ []))]
   rw [adV]
 | succ n ih=>
   intro c w hw hn h12
   rw [mO]
   refine aT ?_
   cases hg:ik p c with
   | false=>
     rw [lV hg]
     refine qV true (kz (x:=false) (HP (call_of (cons_of rfl (cons_of rfl rfl)) rfl ((i3 p c).trans (by rw [hg]))))) (λ_=>qW _ rfl (.mk rfl ?_)) λz=>nomatch z
     show [PyData.str (tx w)]=[PyData.str (tx (w ++ []))]
     rw [adV]
   | true=>
     have iG:=mP hg
     have hs:∀ x,(nx c x).1 + (nx c x).2=((w ++ [x]).length:Int):=λx=>by rw [gM,ac7,adI]; omega
     have i:∀ x,bS (n + 1) [b0 p,.str (tx (w ++ [x])),dC (nx c x)]=some (cO (w ++ [x]) (T p (nx c x))):=λx=>ih (nx c x) (w ++ [x]) (hs x) (by rw [gM]; omega) (by rw [ac7,adI]; omega)
     have len:∀ x,(T p (nx c x)).length<=2048:=λx=>by
      have h1:=yH (p:=p) (nx c x)
      have h2:2 ^ (p.length - ((nx c x).1 + (nx c x).2).toNat)<=2 ^ 11:=aea (by decide) (by omega)
      have:(2:Nat) ^ 11=2048:=by decide
      omega
     have hr:∀ x,cO (w ++ [x]) (T p (nx c x))=cO w ((T p (nx c x)).map (x :: ·)):=λx=>by
      unfold cO
      rw [ady]
      refine adY λu _=>?_
      show PyData.str (tx (w ++ [x] ++ u))=PyData.str (tx (w ++ x :: u))
      rw [aew]; rfl
     refine lL (kz (x:=true) (HP (call_of (cons_of rfl (cons_of rfl rfl)) rfl ((i3 p c).trans (by rw [hg]))))) ?_
     have e1:∀ z:Option D,aW (bS (n + 1)) 3 (aa (ae 0) (aa (g2 bM (ae 1) (gC (.str "b"))) (aa (az dD 2 (aa (ae 2) (aa (gC (.str "b")) af))) af))) [some (b0 p),some (.str (tx w)),some (dC c),z]=some (cO w ((T p (nx c true)).map (true :: ·))):=λz=>by
      rw [<- hr]
      exact be (cons_of rfl (cons_of (ak rfl rfl (by rw [Pm]; exact wG (by omega))) (cons_of (call_of (cons_of rfl (cons_of rfl rfl)) rfl (pQ c)) rfl))) rfl (i true)
     have e2:∀ z:Option D,aW (bS (n + 1)) 3 (aa (ae 0) (aa (g2 bM (ae 1) (gC (.str "g"))) (aa (az dD 2 (aa (ae 2) (aa (gC (.str "g")) af))) af))) [some (b0 p),some (.str (tx w)),some (dC c),z]=some (cO w ((T p (nx c false)).map (false :: ·))):=λz=>by
      rw [<- hr]
      exact be (cons_of rfl (cons_of (ak rfl rfl (by rw [Pn]; exact wG (by omega))) (cons_of (call_of (cons_of rfl (cons_of rfl rfl)) rfl (pR c)) rfl))) rfl (i false)
     refine aE [some (b0 p),some (.str (tx w)),some (dC c),some (.list (cO w ((T p (nx c true)).map (true :: ·))))] (v8 (e1 _)) ?_
     refine aE [some (b0 p),some (.str (tx w)),some (dC c),some (.list (cO w (T p c)))] ((wu (ds:=cO w ((T p (nx c true)).map (true :: ·))) rfl (e2 _) ?_).trans ?_) (ret _ rfl (.mk rfl rfl))
     .unfold cO
      rw [acH,acH,acH,acH]
      have:=len true
      have:=len false
      omega
     .rw [nI hg]
      unfold cO
      rw [ade]; rfl
theorem KH {l:List (Int×Int)} {f:Int×Int->Int}:aR (l.map f)=sm f l:=by
 induction l with
 | nil=>rfl
 | cons a l ih=>rw [acQ,aR,ih,cq]
theorem Pu {g:DS->Option D} {δ:DS} {l:List Int} (h:g δ=some (.list (l.map .int))):cM GB (aa g af) δ=some (.int (aR l)):=by
 refine eF (cons_of h rfl) ?_
 show (k8 (l.map .int)).map _=_
 rw [mm]; rfl
theorem KI {p:List (List Int)} (hp:Pl p) {c:Int×Int} (h:c∈aj p):cG p c.1 c.2≠0:=by
 rw [jv hp] at h
 obtain ⟨k,hk,h1,h2⟩:=j5 (adU.mp h).1
 rw [acH] at hk
 have e:(p.map led).getD k []=led (p.getD k []):=by
  rw [acS,acS,adb,acL hk]; rfl
 rw [e] at h1
 rw [sH hp (k:=k + 1) (by rw [h2]; congr 1; omega)]
 exact agl (Ht hp k c.1 h1)
theorem D7 {p:List (List Int)} (hp:Pl p) (hl:p.length<=11) (eG:∀ r∈p,r.length<=25):mx [b0 p]=some (cO [] (T p (0,0))):=by
 rw [D0]
 refine aT ?_
 obtain ⟨kds,e,hd⟩:=ju (p:=p) (by omega) eG (0,0)
 refine aE [some (b0 p),some (.dict kds)] (aK (call_of (cons_of rfl (cons_of rfl rfl)) rfl e)) ?_
 have ec:cD (aI (aP (aW jc 1 (aa (ae 0) af)))) [1] (jU (ae 1) (ae 0)) [some (b0 p),some (.dict kds)]=some (((aj p).map λc=>cG p c.1 c.2).map .int):=by
  refine dY dC PyData.int (λc=>cG p c.1 c.2) (aj p) ?_ (by have:=jk (p:=p) (by omega) eG; omega) λc hc=>?_
  .have e9:aP (aW jc 1 (aa (ae 0) af)) [some (b0 p),some (.dict kds)]=some (.list ((aj p).map dC)):=aN (be (cons_of rfl rfl) rfl (sE (p:=p) (by omega) eG))
   unfold aI
   rw [e9]
   rfl
  .exact (oW (c:=c) rfl rfl).trans (Dt.get hd (KI hp hc))
 have es:gB (g2 uE (cM GB (aa (aP (cD (aI (aP (aW jc 1 (aa (ae 0) af)))) [1] (jU (ae 1) (ae 0)))) af)) (gC (.int (4000)))) [some (b0 p),some (.dict kds)]=some false:=by
  refine cL (ak (Pu (aN ec)) rfl ?_)
  show some (PyData.bool (decide (4000 < aR ((aj p).map λc=>cG p c.1 c.2))))=_
  rw [KH,acZ]
  have:=HM hp hl
  omega
 refine lL es ?_
 have e3:jF [b0 p,.str "",dC (0,0)]=some (cO [] (T p (0,0))):=by
  rw [tx_0]
  exact t6 hl 25 (0,0) [] rfl (by show (p.length:Int)<=0 + 0 + ((25:Nat):Int); omega) (by decide)
 exact ret _ (aN (be (cons_of rfl (cons_of rfl (cons_of rfl rfl))) rfl e3)) (.mk rfl rfl)
theorem Sv (x:Bool):mX (.str (tx [x])) (.tuple [.str "b",.str "g"])=some (.bool false):=by
 have e:mX (.str (tx [x])) (.tuple [.str "b",.str "g"])=some (.bool (!(FK (.str "b") (.str (tx [x])) || (FK (.str "g") (.str (tx [x])) || false)))):=rfl
 rw [e]
 have z:(FK (.str "b") (.str (tx [x])) || (FK (.str "g") (.str (tx [x])) || false))=true:=by cases x <;> decide +kernel
 rw [z]; rfl
theorem v_after (c:Int×Int) (x:Bool):dD [dC c,.str (tx [x])]=some (dC (nx c x)):=by
 cases x
 .rw [<- Pn]; exact pR c
 .rw [<- Pm]; exact pQ c
theorem Pw {p:List (List Int)} (c:Int×Int):∀ u∈T p c,∀ k,k < u.length->ik p (go c (u.take k))=true:=by
 refine u3 (p:=p) (P:=λc=>∀ u∈T p c,∀ k,k < u.length->ik p (go c (u.take k))=true) (λc h u hu k hk=>?_) (λc h i j u hu k hk=>?_) c
 .rw [lV h] at hu
  rw [adm.mp hu] at hk
  simp at hk
 .rw [nI h] at hu
  cases k with
  | zero=>exact h
  | succ k=>
    rcases adh.mp hu with z | z
    .obtain ⟨w,hw,rfl⟩:=ac5.mp z
     exact i w hw k (by simpa using hk)
    .obtain ⟨w,hw,rfl⟩:=ac5.mp z
     exact j w hw k (by simpa using hk)
theorem HS {p:List (List Int)} {u:List Bool} (hu:u∈T p (0,0)):jf [b0 p,.str (tx u)]=some (dC (go (0,0) u)):=by
 rw [G6]
 refine aT ?_
 refine aE [some (b0 p),some (.str (tx u)),some (dC (0,0)),none] rfl ?_
 refine fO (λx:Bool=>PyData.str (tx [x])) u (λk δ=>∃ a,δ=[some (b0 p),some (.str (tx u)),some (dC (go (0,0) (u.take k))),a]) ?_ ⟨none,rfl⟩ ?_ ?_
 .show (if (tx u).cps.all (· < 128)=true then some (ng (tx u)) else none)=_
  rw [acU (Po u),HN]
 .rintro k x δ hk ⟨a,rfl⟩
  have hkl:=(acN.mp hk).1
  have hg:=Pw (0,0) u hu k hkl
  have ht:u.take (k + 1)=u.take k ++ [x]:=by rw [adB,hk]; rfl
  refine ⟨_,[some (b0 p),some (.str (tx u)),some (dC (go (0,0) (u.take (k + 1)))),some (.str (tx [x]))],rfl,?_,_,rfl⟩
  refine bO _ (GX (yo (cL (ak rfl rfl (Sv x))) (kz (kA (call_of (cons_of rfl (cons_of rfl rfl)) rfl ((i3 p _).trans (by rw [hg]))))))) ?_
  rw [ht,sO]
  exact aK (call_of (cons_of rfl (cons_of rfl rfl)) rfl (v_after _ x))
 .rintro δ' ⟨a,rfl⟩
  rw [adE]
  exact lL (kA (call_of (cons_of rfl (cons_of rfl rfl)) rfl ((i3 p _).trans (by rw [Sn (0,0) u hu])))) (ret _ rfl (.mk rfl rfl))
theorem yJ {α:Type} {gt:D->DS->Option DS} {f:DS->List (D×D)->Option (DS×List (D×D))} (enc:α->D) (W:Nat->DS->List (D×D)->Prop) (xs:List α):∀ (k:Nat) {δ:DS} {kds:List (D×D)},W k δ kds->
  (∀ i x δ kds,xs[i]?=some x->W (k + i) δ kds->∃ fh r,gt (enc x) δ=some fh /\ f fh kds=some r /\ W (k + i + 1) r.1 r.2)->∃ r,Am gt f (xs.map enc) δ kds=some r /\ W (k + xs.length) r.1 r.2:=by
 induction xs with
 | nil=>intro k δ kds h _; exact ⟨(δ,kds),rfl,h⟩
 | cons x xs ih=>
   intro k δ kds h hs
   obtain ⟨fh,r,e1,e2,h2⟩:=hs 0 x δ kds rfl h
   obtain ⟨r2,e3,h3⟩:=ih (k + 1) h2 λi y δ kds e w=>by
    have:=hs (i + 1) y δ kds (by simpa using e) (by rw [show k + (i + 1)=k + 1 + i by omega]; exact w)
    rw [show k + (i + 1) + 1=k + 1 + i + 1 by omega] at this
    exact this
   refine ⟨r2,?_,by rw [ac3,show k + (xs.length + 1)=k + 1 + xs.length by omega]; exact h3⟩
   rw [acQ,Am,e1,acJ,e2,acJ]
   exact e3
theorem wI (X:Int×Int->D) (c:Int×Int):∀ es:List (Int×Int),cj (es.map λe=>(dC e,X e)) [.inl c.1,.inl c.2]=if c∈es then some (X c) else none:=λes=>by
 induction es with
 | nil=>rfl
 | cons e es ih=>
   rw [acQ]
   by_cases h:e=c
   .subst h
    rw [dH (p:=(dC e,X e)) rfl,acU acR]
   .have hk:¬ keyOf (dC e)=some ([.inl c.1,.inl c.2]:List Key):=λz=>by
     have z:some ([.inl e.1,.inl e.2]:List Key)=some [.inl c.1,.inl c.2]:=z
     have:=sD.mp (adp z)
     exact h (Prod.ext this.1 this.2)
    rw [dJ (p:=(dC e,X e)) hk,ih]
    by_cases m:c∈es
    .rw [acU m,acU (acO _ m)]
    .rw [acW m,acW (by simp only [acK,agQ]; exact ⟨λz=>h z.symm,m⟩)]
def gr {α:Type} (e:Int×Int) (rs:List (List Bool)) (fs:List α):List α:=((rs.zip fs).filter λq=>decide (go (0,0) q.1=e)).map (·.2)
theorem sQ {α:Type} (e:Int×Int) (rs:List (List Bool)) (fs:List α):(gr e rs fs).length<=rs.length:=by
 unfold gr
 rw [acH]
 refine ado (aep _ _) ?_
 rw [aeN]
 exact Nat.min_le_left _ _
theorem KJ {α:Type} (e:Int×Int) {rs:List (List Bool)} {fs:List α} {j:Nat} {u:List Bool} {x:α} (h1:rs[j]?=some u) (h2:fs[j]?=some x):gr e (rs.take (j + 1)) (fs.take (j + 1))=gr e (rs.take j) (fs.take j) ++ if go (0,0) u=e then [x] else []:=by
 have l1:=(acN.mp h1).1
 have l2:=(acN.mp h2).1
 have t1:rs.take (j + 1)=rs.take j ++ [u]:=by rw [adB,h1]; rfl
 have t2:fs.take (j + 1)=fs.take j ++ [x]:=by rw [adB,h2]; rfl
 unfold gr
 rw [t1,t2,List.zip_append (by rw [adF,adF]; omega),afb,ade]
 congr 1
 show (List.filter _ [(u,x)]).map _=_
 by_cases z:go (0,0) u=e
 .rw [afH (by exact ac2 z),acU z]; rfl
 .rw [afG (by rw [acZ z]; exact acP),acW z]; rfl
theorem KL {gk ge:DS->Option D} {δ:DS} {kds:List (D×D)} {c:Int×Int} {d:D} {ds:List D} (h1:gk δ=some (dC c)) (h2:ge δ=some d) (h3:cj kds [.inl c.1,.inl c.2]=some (.list ds)) (h4:ds.length < 100000):
  uU gk ge δ kds=some (δ,kds.map λp=>if keyOf p.1=some ([.inl c.1,.inl c.2]:List Key) then (p.1,.list (ds ++ [d])) else p):=by
 unfold uU
 rw [h1,h2,acJ,acJ]
 show ((some ([.inl c.1,.inl c.2]:List Key))).bind _=_
 rw [acJ,h3,acJ]
 exact acU h4
theorem D8 {i:Nat} {f1 f2:DS->List (D×D)->Option (DS×List (D×D))} {gl:DS->Option (List D)} {δ:DS} {r1 r2:DS×List (D×D)} {l:List D} (h0:ae i δ=some (.dict [])) (h1:f1 (δ.set i none) []=some r1) (h2:f2 r1.1 r1.2=some r2) (h3:gl (r2.1.set i (some (.dict r2.2)))=some l):
  qQ i f1 f2 gl δ=some (.rt (.list l)):=by
 unfold qQ
 rw [h0,acJ,acU (show Wh (.dict [])=true from rfl),h1,acJ,h2,acJ,h3]
 rfl
theorem HU {p:List (List Int)} (hp:Pl p) (hl:p.length<=11) (eG:∀ r∈p,r.length<=25) {ds:List D} (hd:ds.length=(T p (0,0)).length):j0 [b0 p,.list ds]=some ((aj p).map λe=>.list (gr e (T p (0,0)) ds)):=by
 rw [G8]
 refine aT ?_
 have Wn:(cO [] (T p (0,0))).length=(T p (0,0)).length:=by unfold cO; rw [List.length_map]
 have hT:(T p (0,0)).length<=2048:=by
  refine ado (yH (p:=p) (0,0)) (ado (aea (by decide) (?_:_<=11)) (by decide))
  omega
 have Sk:=jk (p:=p) (by omega) eG
 have RE:=q0 hp
 refine aE [some (b0 p),some (.list ds),some (.list (cO [] (T p (0,0)))),none,none,none,none,none] (aK (aN (be (cons_of rfl rfl) rfl (D7 hp hl eG)))) ?_
 refine lL (cL (ak (eF (cons_of rfl rfl) (fE _)) (eF (cons_of rfl rfl) (fE _)) ((nh _ _).trans (by rw [hd,Wn,ac2 rfl]; rfl)))) ?_
 refine aE [some (b0 p),some (.list ds),some (.list (cO [] (T p (0,0)))),some (.list ((aj p).map dC)),none,none,none,none] (aK (aN (be (cons_of rfl rfl) rfl (sE (p:=p) (by omega) eG)))) ?_
 refine aE [some (b0 p),some (.list ds),some (.list (cO [] (T p (0,0)))),some (.list ((aj p).map dC)),some (.dict []),none,none,none] rfl ?_
 obtain ⟨r1,e1,a5,he1,EB⟩:=yJ (gt:=au 5) (f:=Cb (ae 5)) dC (λi δ kds=>∃ a,δ=[some (b0 p),some (.list ds),some (.list (cO [] (T p (0,0)))),some (.list ((aj p).map dC)),none,a,none,none] /\ kds=((aj p).take i).map λe=>(dC e,.list [])) (aj p) 0
  (δ:=[some (b0 p),some (.list ds),some (.list (cO [] (T p (0,0)))),some (.list ((aj p).map dC)),none,none,none,none]) (kds:=[]) ⟨none,rfl,rfl⟩ (by
   rintro i c δ kds hi ⟨a,rfl,rfl⟩
   rw [aeh]
   have IS:=(acN.mp hi).1
   have ht:(aj p).take (i + 1)=(aj p).take i ++ [c]:=by rw [adB,hi]; rfl
   have hc:c∉(aj p).take i:=λz=>by
    have:=(agH (i + 1) (aj p)).nodup RE
    rw [ht,aeS] at this
    exact this.2.2 c z c (adm.mpr rfl) rfl
   refine ⟨_,([some (b0 p),some (.list ds),some (.list (cO [] (T p (0,0)))),some (.list ((aj p).map dC)),none,some (dC c),none,none],((aj p).take (i + 1)).map λe=>(dC e,.list [])),rfl,?_,_,rfl,rfl⟩
   show (if _ /\ _ then some _ else none)=_
   rw [acU]
   .rw [ht,ade]; rfl
   .refine ⟨by rw [acH,adF]; omega,?_⟩
    exact (wI (λ_=>.list []) c _).trans (acW hc))
 rw [aeh,adE] at EB
 have hz:kr (ae 2) (ae 1) [some (b0 p),some (.list ds),some (.list (cO [] (T p (0,0)))),some (.list ((aj p).map dC)),none,a5,none,none]=some (((T p (0,0)).zip ds).map λq=>.tuple [.str (tx q.1),q.2]):=by
  show some (oD (cO [] (T p (0,0))) ds)=_
  unfold oD cO
  rw [List.zipWith_map_left,List.zip,List.map_zipWith]
  rfl
 obtain ⟨r2,e2,b5,b6,b7,JO,xX⟩:=yJ (gt:=cW 2 (aO (au 6) (aO (au 7) cY))) (f:=uU (az jf 2 (aa (ae 0) (aa (ae 6) af))) (ae 7)) (λq:List Bool×D=>PyData.tuple [.str (tx q.1),q.2])
  (λj δ kds=>∃ a b c,δ=[some (b0 p),some (.list ds),some (.list (cO [] (T p (0,0)))),some (.list ((aj p).map dC)),none,a,b,c] /\ kds=(aj p).map λe=>(dC e,.list (gr e ((T p (0,0)).take j) (ds.take j)))) ((T p (0,0)).zip ds) 0
  (δ:=r1.1) (kds:=r1.2) ⟨a5,none,none,he1,by rw [EB]; rfl⟩ (by
   rintro j ⟨u,d⟩ δ kds hj ⟨a,b,c,rfl,rfl⟩
   rw [aeh]
   rw [List.getElem?_zip_eq_some] at hj
   obtain ⟨j1,j2⟩:=hj
   have hu:u∈T p (0,0):=adk j1
   have hm:=row_end hu
   have hk:=wI (λe=>.list (gr e ((T p (0,0)).take j) (ds.take j))) (go (0,0) u) (aj p)
   rw [acU hm] at hk
   have hg:(gr (go (0,0) u) ((T p (0,0)).take j) (ds.take j)).length < 100000:=by
    have:=sQ (go (0,0) u) ((T p (0,0)).take j) (ds.take j)
    rw [adF] at this
    omega
   have ee:az jf 2 (aa (ae 0) (aa (ae 6) af)) [some (b0 p),some (.list ds),some (.list (cO [] (T p (0,0)))),some (.list ((aj p).map dC)),none,a,some (.str (tx u)),some d]=some (dC (go (0,0) u)):=call_of (cons_of rfl (cons_of rfl rfl)) rfl (HS hu)
   refine ⟨[some (b0 p),some (.list ds),some (.list (cO [] (T p (0,0)))),some (.list ((aj p).map dC)),none,a,some (.str (tx u)),some d],([some (b0 p),some (.list ds),some (.list (cO [] (T p (0,0)))),some (.list ((aj p).map dC)),none,a,some (.str (tx u)),some d],(aj p).map λe=>(dC e,.list (gr e ((T p (0,0)).take (j + 1)) (ds.take (j + 1))))),rfl,(KL ee rfl hk hg).trans ?_,_,_,_,rfl,rfl⟩
   rw [ady]
   congr 2
   refine adY λe _=>?_
   show (if keyOf (dC e)=some ([.inl (go (0,0) u).1,.inl (go (0,0) u).2]:List Key) then (dC e,PyData.list (gr (go (0,0) u) ((T p (0,0)).take j) (ds.take j) ++ [d])) else (dC e,PyData.list (gr e ((T p (0,0)).take j) (ds.take j))))=(dC e,PyData.list (gr e ((T p (0,0)).take (j + 1)) (ds.take (j + 1))))
   rw [KJ e j1 j2]
   by_cases z:go (0,0) u=e
   .rw [acU (by rw [z]; rfl),acU z,z]
   .rw [acW λy=>z (by
     have y:some ([.inl e.1,.inl e.2]:List Key)=some [.inl (go (0,0) u).1,.inl (go (0,0) u).2]:=y
     have:=sD.mp (adp y)
     exact (Prod.ext this.1 this.2).symm),acW z,adV])
 rw [aeh,aeN,hd,Nat.min_self,adE,<- hd,adE] at xX
 have e3:cD (aI (ae 3)) [4] (jU (ae 1) (ae 0)) [some (b0 p),some (.list ds),some (.list (cO [] (T p (0,0)))),some (.list ((aj p).map dC)),some (.dict ((aj p).map λe=>(dC e,.list (gr e (T p (0,0)) ds)))),b5,b6,b7]=some (((aj p).map λe=>gr e (T p (0,0)) ds).map PyData.list):=
  dY dC PyData.list (λe=>gr e (T p (0,0)) ds) (aj p) rfl (by omega) λc hc=>(oW (c:=c) rfl rfl).trans ((wI (λe=>.list (gr e (T p (0,0)) ds)) c (aj p)).trans (acU hc))
 rw [ady] at e3
 have Mg:DN (kr (ae 2) (ae 1)) (cW 2 (aO (au 6) (aO (au 7) cY))) (uU (az jf 2 (aa (ae 0) (aa (ae 6) af))) (ae 7)) r1.1 r1.2=some r2:=by
  unfold DN
  rw [he1] at e2 ⊢
  rw [hz,acJ]
  exact e2
 refine .mk (d:=(aj p).map λe=>.list (gr e (T p (0,0)) ds)) ?_ rfl
 have Mh:DN (aI (ae 3)) (au 5) (Cb (ae 5)) [some (b0 p),some (.list ds),some (.list (cO [] (T p (0,0)))),some (.list ((aj p).map dC)),none,none,none,none] []=some r1:=e1
 have e4:=D8 (i:=4) (δ:=[some (b0 p),some (.list ds),some (.list (cO [] (T p (0,0)))),some (.list ((aj p).map dC)),some (.dict []),none,none,none]) rfl Mh Mg (by rw [JO,xX]; exact e3)
 rw [e4]
 rfl
theorem CH (a b:eA) (ha:Sz 4000 a) (hb:Sz 4000 b):sr [dF a,dF b]=some (dF (oH a b)):=by
 rw [O4]
 refine aT ?_
 obtain ⟨x,y,hg,e1,e2,hc⟩:=uW (t:=a.2) (b:=b.2) hb.ne
 have vg:=AL a.2 b.2 hb.bot
 have IU:bt (Int.gcd a.2 b.2:Int)<=4000:=iO (cu ⟨y,by rw [aeU]; exact e2⟩ hb.ne) hb.bot
 generalize (Int.gcd a.2 b.2:Int)=g at *
 have ex:a.2 / g=x:=by rw [e1]; exact agi _ (by omega)
 have ey:b.2 / g=y:=by rw [e2]; exact agi _ (by omega)
 have hx:bt x<=4000:=iO (cu ⟨g,e1⟩ ha.ne) ha.bot
 have hy:bt y<=4000:=iO (cu ⟨g,e2⟩ hb.ne) hb.bot
 have vf:=mC (a.1 * y + b.1 * x) g (by omega) IU
 have ok:=c5 (t:=a.1 * y + b.1 * x) (show g≠0 by omega)
 have hq:=(Kc ha.low.2 hb.low.2 ha.low.1 hb.low.1 hg e1 e2 hc ok).qm (adl ha.ne hb.ne)
 have c2:=iO (ok.bot_le (by omega)) IU
 refine aE [some (dF a),some (dF b),some (.int g),none,none,none] (aK (call_of (cons_of (ak rfl rfl (eL a)) (cons_of (ak rfl rfl (eL b)) rfl)) rfl vg)) ?_
 refine aE [some (dF a),some (dF b),some (.int g),some (.int x),none,none] (aK ((ak (ak rfl rfl (eL a)) rfl (oP hg (aJ IU (by decide)))).trans (by rw [ex]))) ?_
 refine aE [some (dF a),some (dF b),some (.int g),some (.int x),some (.int y),none] (aK ((ak (ak rfl rfl (eL b)) rfl (oP hg (aJ IU (by decide)))).trans (by rw [ey]))) ?_
 refine aE [some (dF a),some (dF b),some (.int g),some (.int x),some (.int y),some (dF (br (a.1 * y + b.1 * x) g))]
  (aK (call_of (cons_of (ak (ak (ak rfl rfl (gH a)) rfl (eE (iP ha.top hy))) (ak (ak rfl rfl (gH b)) rfl (eE (iP hb.top hx))) rfl) (cons_of rfl rfl)) rfl vf)) ?_
 refine ret (dF (oH a b)) ?_ (.mk rfl rfl)
 unfold oH
 rw [<- hq]
 exact kO (ak rfl rfl (gH _)) (ak (ak rfl rfl (eE (iP hx hy))) (ak rfl rfl (eL _)) (eE (iP (dn hx hy) c2)))
theorem HV {m:Nat} {q:eA} (h:Sz m q):Sz m (-q.1,q.2):=⟨⟨h.low.1,by show Int.gcd (-q.1) q.2=1; rw [Int.neg_gcd]; exact h.low.2⟩,GW h.top,h.bot⟩
theorem HW (a b:eA) (ha:Sz 4000 a) (hb:Sz 4000 b):qX [dF a,dF b]=some (dF (oH a (-b.1,b.2))):=by
 rw [Kk]
 refine aT (ret _ (call_of (cons_of rfl (cons_of (kO (x:=.int (-b.1)) (y:=.int b.2) rfl rfl) rfl)) rfl (CH a (-b.1,b.2) ha (HV hb))) (.mk rfl rfl))
theorem KN (a b:eA) (ha:Sz 4000 a) (hb:Sz 4000 b) (h0:b.1≠0):nj [dF a,dF b]=some (dF (jD a (br b.2 b.1))):=by
 rw [O5]
 refine aT (ret _ (call_of (cons_of rfl (cons_of (call_of (cons_of rfl (cons_of rfl rfl)) rfl (mC b.2 b.1 h0 hb.top)) rfl)) rfl (Hq a _ ha (oX h0 hb.bot hb.top))) (.mk rfl rfl))
theorem Px {B:Int} (hB:B≠0):(0,1)=br 0 B:=n4.qm (n:=0) (d:=1) ⟨by decide,by decide,by omega⟩ hB
theorem AR {a c B:Int} (hB:B≠0):oH (br a B) (br c B)=br (a + c) B:=by
 rw [oO hB hB]
 refine gG (adl hB hB) hB ?_
 grind
theorem Kd {a B:Int} (hB:B≠0):(-(br a B).1,(br a B).2)=br (-a) B:=by
 have h:=c5 (t:=a) hB
 refine n4.qm ⟨h.pos,by rw [Int.neg_gcd]; exact h.GL,?_⟩ hB
 have:=h.eq
 grind
theorem qsq {a B:Int} (hB:B≠0):((br a B).1 ^ 2,(br a B).2 ^ 2)=br (a * a) (B * B):=by
 have h:=c5 (t:=a) hB
 generalize (br a B).1=n at *
 generalize (br a B).2=d at *
 have hc:Nat.Coprime n.natAbs d.natAbs:=h.GL
 refine n4.qm ⟨?_,?_,?_⟩ (adl hB hB)
 .have:=h.pos
  have:0 < d ^ 2:=Int.pow_pos (by omega)
  omega
 .show Nat.gcd (n ^ 2).natAbs (d ^ 2).natAbs=1
  rw [Int.natAbs_pow,Int.natAbs_pow]
  exact Nat.Coprime.pow 2 2 hc
 .have:=h.eq
  have e:n ^ 2 * (B * B)=(n * B) * (n * B):=by grind
  rw [e,this]; grind
theorem mH {t B:Int} {m:Nat} (hB:B≠0) (h1:bt t<=m) (h2:bt B<=m) (hm:m<=4000):Sz 4000 (br t B):=(oX hB h1 h2).up hm
def Tn (m:Nat) (ts:List Int):Prop:=∀ t∈ts,t.natAbs<=m
theorem jW (a:List Int) (x:Int):aR (a ++ [x])=aR a + x:=by
 induction a with
 | nil=>show x + 0=0 + x; omega
 | cons y a ih=>show y + aR (a ++ [x])=y + aR a + x; omega
theorem mF {m:Nat}:∀ {ts:List Int},Tn m ts->(aR ts).natAbs<=ts.length * m:=λ{ts}=>by
 induction ts with
 | nil=>intro _; exact aek _
 | cons t ts ih=>
   intro h
   have h1:=h t acR
   have h2:=ih λx hx=>h x (acO _ hx)
   have e:aR (t :: ts)=t + aR ts:=rfl
   rw [e,ac3,Nat.succ_mul]
   have:=Int.natAbs_add_le t (aR ts)
   omega
theorem kP {B:Int} {ts:List Int} {m:Nat} (hB:B≠0) (hb:bt B<=300) (ht:Tn m ts) (hl:ts.length<=2048) (hm:m < 2 ^ 100):dZ [.list (ts.map λt=>dF (br t B))]=some (dF (br (aR ts) B)):=by
 rw [we]
 refine aT ?_
 have sz:∀ k,bt (aR (ts.take k))<=120:=λk=>by
  refine bY ?_
  have h1:=mF (m:=m) (ts:=ts.take k) λt h=>ht t (ad2 h)
  have h2:(ts.take k).length<=2048:=by rw [adF]; omega
  have h3:(ts.take k).length * m<=2048 * m:=ad9 _ h2
  have h4:2048 * m < 2048 * 2 ^ 100:=Nat.mul_lt_mul_of_pos_left hm (by decide)
  have h5:2048 * 2 ^ 100 < 2 ^ 120:=by decide
  omega
 refine aE [some (.list (ts.map λt=>dF (br t B))),some (dF (br 0 B)),none] (by rw [<- Px hB]; rfl) ?_
 refine fO (λt=>dF (br t B)) ts (λk δ=>∃ a,δ=[some (.list (ts.map λt=>dF (br t B))),some (dF (br (aR (ts.take k)) B)),a]) rfl ⟨none,rfl⟩ ?_ ?_
 .rintro k t δ hk ⟨a,rfl⟩
  have Qa:ts.take (k + 1)=ts.take k ++ [t]:=by rw [adB,hk]; rfl
  have Wv:bt t<=120:=by
   have:=ht t (adk hk)
   exact bY (by have:(2:Nat) ^ 100 < 2 ^ 120:=(by decide); omega)
  refine ⟨_,[some (.list (ts.map λt=>dF (br t B))),some (dF (br (aR (ts.take (k + 1))) B)),some (dF (br t B))],rfl,?_,_,rfl⟩
  refine (aK (call_of (cons_of rfl (cons_of rfl rfl)) rfl (CH _ _ (mH hB (aJ (sz k) (show 120<=300 by decide)) hb (by decide)) (mH hB (aJ Wv (show 120<=300 by decide)) hb (by decide))))).trans ?_
  rw [AR hB,Qa,jW]
  rfl
 .rintro δ' ⟨a,rfl⟩
  rw [adE]
  exact ret _ rfl (.mk rfl rfl)
theorem yK {S B:Int} {n:Nat} (hB:B≠0) (h1:bt S<=600) (h2:bt B<=600) (hn:0 < n) (hn2:n<=2048):nj [dF (br S B),.tuple [.int (n:Nat),.int 1]]=some (dF (br S ((n:Int) * B))):=by
 have hz:((n:Nat):Int)≠0:=by omega
 have sz:Sz 4000 ((n:Int),1):=⟨⟨by show (1:Int)<=1; decide,by show Nat.gcd (n:Int).natAbs 1=1; exact Nat.gcd_one_right _⟩,aJ (bY (m:=12) (by show (n:Int).natAbs < 2 ^ 12; omega)) (by decide),aJ (bY (m:=1) (by show (1:Int).natAbs < 2 ^ 1; decide)) (by decide)⟩
 have e:=KN (br S B) ((n:Int),1) (mH hB h1 h2 (by decide)) sz hz
 rw [oN hB hz,af4,aeU B] at e
 exact e
theorem nb {n:Nat} {B:Int} (hn:0 < n) (hB:B≠0):(n:Int) * B≠0:=adl (by omega) hB
theorem KO {B:Int} (h1:1<=B) (h2:B < 2 ^ 48):bt B<=48:=bY (by omega)
structure nJ (ts:List Int) (B:Int):Prop where
 pos:0 < ts.length
 vH:ts.length<=2048
 sm:Tn (2 ^ 48) ts
 lo:1<=B
 hi:B < 2 ^ 48
theorem nJ.ne {ts:List Int} {B:Int} (h:nJ ts B):B≠0:=by have:=h.lo; omega
theorem nJ.sum {ts:List Int} {B:Int} (h:nJ ts B):bt (aR ts)<=60:=by
 refine bY ?_
 have h1:=mF h.sm
 have h2:ts.length * 2 ^ 48<=2048 * 2 ^ 48:=ad9 _ h.vH
 omega
theorem nJ.Ww {ts:List Int} {B:Int} (h:nJ ts B):Tn (2 ^ 96) (ts.map λt=>t * t):=λx hx=>by
 obtain ⟨t,ht,rfl⟩:=ac5.mp hx
 have:=h.sm t ht
 rw [agx,show 2 ^ 96=2 ^ 48 * 2 ^ 48 from rfl]
 exact agC this this
theorem nJ.sq {ts:List Int} {B:Int} (h:nJ ts B):bt (aR (ts.map λt=>t * t))<=110:=by
 refine bY ?_
 have h1:=mF h.Ww
 rw [acH] at h1
 have h2:ts.length * 2 ^ 96<=2048 * 2 ^ 96:=ad9 _ h.vH
 have h3:2048 * 2 ^ 96 < 2 ^ 110:=by decide
 omega
theorem nJ.bb {ts:List Int} {B:Int} (h:nJ ts B):bt (B * B)<=96:=dn (KO h.lo h.hi) (KO h.lo h.hi)
theorem D9 {ts:List Int} {B:Int} (h:nJ ts B) {δ:DS} (h0:ae 0 δ=some (.list (ts.map λt=>dF (br t B)))):az nj 2 (aa (az dZ 1 (aa (ae 0) af)) (aa (aS (aa (cM bL (aa (ae 0) af)) (aa (gC (.int (1))) af))) af)) δ=some (dF (br (aR ts) ((ts.length:Int) * B))):=by
 have e1:=kP h.ne (aJ (KO h.lo h.hi) (by decide)) h.sm h.vH (by decide)
 have e2:aS (aa (cM bL (aa (ae 0) af)) (aa (gC (.int (1))) af)) δ=some (.tuple [.int (ts.length:Nat),.int 1]):=lW (cons_of (eF (cons_of h0 rfl) (by rw [fE,acH])) (cons_of rfl rfl)) (by show 2<=100000; decide)
 exact call_of (cons_of (call_of (cons_of h0 rfl) rfl e1) (cons_of e2 rfl)) rfl (yK h.ne (aJ h.sum (by decide)) (aJ (KO h.lo h.hi) (by decide)) h.pos h.vH)
theorem Ea {ts:List Int} {B:Int} (h:nJ ts B):my [.list (ts.map λt=>dF (br t B))]=some (dF (br ((ts.length:Int) * aR (ts.map λt=>t * t) - aR ts * aR ts) ((ts.length:Int) * B * B))):=by
 rw [D1]
 refine aT ?_
 have hB:=h.ne
 have HX:B * B≠0:=adl hB hB
 have Wx:=KO h.lo h.hi
 have ep:cD (aI (ae 0)) [] (az kD 2 (aa (ae 0) (aa (gC (.int (2))) af))) [some (.list (ts.map λt=>dF (br t B))),none]=some ((ts.map λt=>t * t).map λt=>dF (br t (B * B))):=by
  refine dY (λt=>dF (br t B)) (λt=>dF (br t (B * B))) (λt=>t * t) ts rfl (by have:=h.vH; omega) λt ht=>?_
  have hs:=oX (t:=t) (m:=300) hB (aJ (bY (m:=49) (by have:=h.sm t ht; omega)) (by decide)) (aJ Wx (by decide))
  exact call_of (cons_of rfl (cons_of rfl rfl)) rfl ((yC (br t B) 2 (aJ hs.top (by decide)) (aJ hs.bot (by decide)) (by decide)).trans (by rw [qsq hB]))
 have e1:=kP HX (aJ h.bb (by decide)) h.Ww (by rw [acH]; exact h.vH) (by decide)
 refine aE [some (.list (ts.map λt=>dF (br t B))),some (dF (br (aR (ts.map λt=>t * t)) (B * B)))] (aK (call_of (cons_of (aN ep) rfl) rfl e1)) ?_
 have e2:=kP hB (aJ Wx (by decide)) h.sm h.vH (by decide)
 have hs:=oX (t:=aR ts) (m:=300) hB (aJ h.sum (by decide)) (aJ Wx (by decide))
 have e3:kD [dF (br (aR ts) B),.int 2]=some (dF (br (aR ts * aR ts) (B * B))):=(yC (br (aR ts) B) 2 (aJ hs.top (by decide)) (aJ hs.bot (by decide)) (by decide)).trans (by rw [qsq hB])
 have e4:=yK (S:=aR ts * aR ts) (n:=ts.length) HX (aJ (dn h.sum h.sum) (by decide)) (aJ h.bb (by decide)) h.pos h.vH
 have e5:aS (aa (cM bL (aa (ae 0) af)) (aa (gC (.int (1))) af)) [some (.list (ts.map λt=>dF (br t B))),some (dF (br (aR (ts.map λt=>t * t)) (B * B)))]=some (.tuple [.int (ts.length:Nat),.int 1]):=lW (cons_of (eF (cons_of rfl rfl) (by rw [fE,acH])) (cons_of rfl rfl)) (by show 2<=100000; decide)
 have hN:=nb h.pos HX
 have bN:bt ((ts.length:Int) * (B * B))<=300:=aJ (dn (bY (m:=12) (by have:=h.vH; show ((ts.length:Nat):Int).natAbs < 2 ^ 12; omega)) h.bb) (by decide)
 have e6:=HW (br (aR (ts.map λt=>t * t)) (B * B)) (br (aR ts * aR ts) ((ts.length:Int) * (B * B))) (mH HX (aJ h.sq (show 110<=300 by decide)) (aJ h.bb (by decide)) (by decide)) (mH hN (aJ (dn h.sum h.sum) (show 120<=300 by decide)) bN (by decide))
 rw [Kd hN,oO HX hN] at e6
 refine ret _ (call_of (cons_of rfl (cons_of (call_of (cons_of (call_of (cons_of (call_of (cons_of rfl rfl) rfl e2) (cons_of rfl rfl)) rfl e3) (cons_of e5 rfl)) rfl e4) rfl)) rfl e6) (.mk rfl ?_)
 congr 1
 refine gG (adl HX hN) (by rw [Int.mul_assoc]; exact hN) ?_
 generalize (ts.length:Int)=n
 generalize aR (ts.map λt=>t * t)=Q
 generalize aR ts=S
 grind
theorem Sw {g:DS->Option D} {t:D->DS->Option DS} {δ δ':DS} {d:D} (h:g δ=some d) (ht:t d δ=some δ'):JQ g t δ=some (.nx δ'):=by unfold JQ; rw [h]; show (t d δ).bind _=_; rw [ht]; rfl
theorem kQ (t b:Int) (hb:1<=b) (Wk:bt b<=9000):eV [.int t,.int b]=some (dF (br t b)):=by
 rw [AB]
 refine aT ?_
 have Ow:b≠0:=by omega
 have hg:0 < Int.gcd t b:=afd _ Ow
 have IU:bt ((Int.gcd t b:Nat):Int)<=9000:=by
  refine iO ?_ Wk
  have:(Int.gcd t b) ∣ b.natAbs:=agM _ _
  have:=agT (by omega) this
  omega
 have e:dv t b=(Int.gcd t b:Int):=by unfold dv; rw [if_neg (by omega)]
 refine aE [some (.int t),some (.int b),some (.int (Int.gcd t b:Nat))] (aK (call_of (cons_of rfl (cons_of rfl rfl)) rfl (t5 t b (by omega)))) (ret (dF (br t b)) ?_ (.mk rfl rfl))
 refine (kO (ak rfl rfl (v5 (by omega) IU)) (ak rfl rfl (v5 (by omega) IU))).trans ?_
 rw [<- e]
 rfl
theorem wJ (ns:List Int) {n:Nat} (hn:n<=1000):hJ (iU [.list (ns.map .int),.int (n:Nat)]) λd=>∃ (ts:List Int) (B:Int),d=.tuple [.list (ts.map .int),.int B] /\ ts.length=n /\ Tn 1000000 ts /\ 1<=B /\ B<=1000000000000:=by
 rw [wj]
 have cl:∀ {i:Nat} {δ:DS},az bV 2 (aa (ae 0) (aa (gC (.int (i:Nat))) af)) (some (.list (ns.map .int)) :: δ)=some (.int (ns.getD i 0)):=λ{i δ}=>call_of (cons_of rfl (cons_of rfl rfl)) rfl (nH ns i)
 refine aE [some (.list (ns.map .int)),some (.int (n:Nat)),some (.int (ns.getD 2 0)),none,none] (aK (cl (i:=2))) ?_
 have p12:lz (.int 10) (.int 12)=some (.int 1000000000000):=(Cg (k:=12) (by decide) (by decide)).trans rfl
 have TN:lz (.int 10) (.int 18)=some (.int 1000000000000000000):=(Cg (k:=18) (by decide) (by decide)).trans rfl
 have p6:lz (.int 10) (.int 6)=some (.int 1000000):=(Cg (k:=6) (by decide) (by decide)).trans rfl
 obtain ⟨B,hB⟩:∃ B:Int,B=1 + ns.getD 3 0 % 1000000000000:=⟨_,rfl⟩
 have Sx:1<=B /\ B<=1000000000000:=by omega
 refine aE [some (.list (ns.map .int)),some (.int (n:Nat)),some (.int (ns.getD 2 0)),some (.int B),none] (aK ((ak rfl (ak (cl (i:=3)) (ak rfl rfl p12) (jb (by decide))) rfl).trans (by rw [hB]; rfl))) ?_
 obtain ⟨_,ed,l,rfl,hl,hx⟩:=oS (ns.getD 2 0) 1000 n (by decide) (aJ (bY (m:=10) (by decide)) (by decide)) hn
 refine aE [some (.list (ns.map .int)),some (.int (n:Nat)),some (.int (ns.getD 2 0)),some (.int B),some (.list (l.map .int))] (aK (aN (be (cons_of rfl (cons_of rfl (cons_of rfl rfl))) rfl ed))) ?_
 obtain ⟨_,em,l2,rfl,Jy,hx2⟩:=qt (ns.getD 2 0) 1000000 n (by decide) hn
 have hc:gB (kj ql ql (g1 kh (g2 lz (gC (.int (10))) (gC (.int (18))))) (ae 2) (g2 lz (gC (.int (10))) (gC (.int (18))))) [some (.list (ns.map .int)),some (.int (n:Nat)),some (.int (ns.getD 2 0)),some (.int B),some (.list (l.map .int))]=some (decide (-1000000000000000000 < ns.getD 2 0) && decide (ns.getD 2 0 < 1000000000000000000)):=by
  refine cL (Ct (x:=.int (-1000000000000000000)) ?_ rfl rfl (ak rfl rfl TN) rfl)
  unfold g1
  rw [ak rfl rfl TN]
  rfl
 have st:∃ ts:List Int,ts.length=n /\ (∀ t∈ts,0<=t /\ t < 1000000) /\ j8 (gB (kj ql ql (g1 kh (g2 lz (gC (.int (10))) (gC (.int (18))))) (ae 2) (g2 lz (gC (.int (10))) (gC (.int (18)))))) (aQ 4 (aP (aW gm 3 (aa (ae 2) (aa (g2 lz (gC (.int (10))) (gC (.int (6)))) (aa (ae 1) af)))))) cN [some (.list (ns.map .int)),some (.int (n:Nat)),some (.int (ns.getD 2 0)),some (.int B),some (.list (l.map .int))]=some (.nx [some (.list (ns.map .int)),some (.int (n:Nat)),some (.int (ns.getD 2 0)),some (.int B),some (.list (ts.map .int))]):=by
  cases hz:(decide (-1000000000000000000 < ns.getD 2 0) && decide (ns.getD 2 0 < 1000000000000000000)) with
  | true=>exact ⟨l2,Jy,hx2,ji true (hc.trans (aeu some hz)) (λ_=>aK (aN (be (cons_of rfl (cons_of (ak rfl rfl p6) (cons_of rfl rfl))) rfl em))) λz=>nomatch z⟩
  | false=>exact ⟨l,hl,λt ht=>by have:=hx t ht; omega,ji false (hc.trans (aeu some hz)) (λz=>nomatch z) λ_=>rfl⟩
 obtain ⟨ts,h1,h2,es⟩:=st
 refine aE _ es ?_
 have ec:cD (aI (ae 4)) [] (g2 g6 (ae 0) (gC (.int (400)))) [some (.list (ns.map .int)),some (.int (n:Nat)),some (.int (ns.getD 2 0)),some (.int B),some (.list (ts.map .int))]=some ((ts.map λt=>t - 400).map .int):=dY PyData.int PyData.int (λt=>t - 400) ts rfl (by omega) λt _=>rfl
 refine ret (.tuple [.list ((ts.map λt=>t - 400).map .int),.int B]) (kO (aN ec) rfl) (.mk rfl ⟨ts.map λt=>t - 400,B,rfl,by rw [acH]; exact h1,λx hx=>?_,Sx.1,Sx.2⟩)
 obtain ⟨t,ht,rfl⟩:=ac5.mp hx
 have:=h2 t ht
 omega
theorem sR {α:Type} (e:Int×Int):∀ (rs:List (List Bool)) (fs:List α),fs.length=rs.length->(gr e rs fs).length=rs.countP λw=>decide (go (0,0) w=e):=λrs=>by
 induction rs with
 | nil=>intro fs _; rfl
 | cons r rs ih=>
   intro fs h
   cases fs with
   | nil=>simp at h
   | cons x fs=>
     have i:=ih fs (by simpa using h)
     unfold gr at i ⊢
     rw [adL,adH,ae5]
     by_cases z:go (0,0) r=e
     .rw [acU (by exact ac2 z),acU (ac2 z),acQ,ac3,i]
     .rw [acW (by rw [acZ z]; exact acP),acW (by rw [acZ z]; exact acP),i,Nat.add_zero]
theorem wK {α:Type} {e:Int×Int} {rs:List (List Bool)} {fs:List α} {x:α} (h:x∈gr e rs fs):x∈fs:=by
 obtain ⟨q,hq,rfl⟩:=ac5.mp h
 exact (ad5 (adU.mp hq).1).2
theorem Py (l:List (Int×Int)):i9 (l.map dC)=l.zipIdx.map λx=>.tuple [.int (x.2:Nat),dC x.1]:=by
 unfold i9
 rw [agd,ady]
 rfl
theorem Sy {l:List D} {i:Nat} {d:D} (h:l[i]?=some d):bC (.list l) (.int (i:Nat))=some d:=iR h
theorem gN (a b:eA) (ha:Sz 4000 a) (hb:Sz 4000 b):bK [dF a,dF b]=some (dF (jD a b)):=by
 rw [yx]
 have p1:=ha.low.1
 have p2:=hb.low.1
 exact aT (ret _ (call_of (cons_of (ak (ak rfl rfl (gH a)) (ak rfl rfl (gH b)) (eE (iP ha.top hb.top))) (cons_of (ak (ak rfl rfl (eL a)) (ak rfl rfl (eL b)) (eE (iP ha.bot hb.bot))) rfl)) rfl (kQ _ _ (ae7 (by omega) (by omega)) (aJ (dn ha.bot hb.bot) (by decide)))) (.mk rfl rfl))
theorem gn (a b:eA) (ha:Sz 4000 a) (hb:Sz 4000 b):bJ [dF a,dF b]=some (dF (oH a b)):=by
 rw [AD]
 have p1:=ha.low.1
 have p2:=hb.low.1
 exact aT (ret _ (call_of (cons_of (ak (ak (ak rfl rfl (gH a)) (ak rfl rfl (eL b)) (eE (iP ha.top hb.bot))) (ak (ak rfl rfl (gH b)) (ak rfl rfl (eL a)) (eE (iP hb.top ha.bot))) rfl) (cons_of (ak (ak rfl rfl (eL a)) (ak rfl rfl (eL b)) (eE (iP ha.bot hb.bot))) rfl)) rfl (kQ _ _ (ae7 (by omega) (by omega)) (aJ (dn ha.bot hb.bot) (by decide)))) (.mk rfl rfl))
theorem pY {α β:Type} (ex ey:α->D) (ky:β->D) (h:α->β) (P:α->Bool) {gi:DS->Option (List D)} {ix:List Nat} {gc:DS->Option Bool} {ge:DS->Option D} {δ:DS} (l:List α) (hi:gi δ=some (l.map λa=>.tuple [ex a,ey a])) (hl:l.length<=100000)
  (hc:∀ a∈l,gc (some (ex a) :: some (ey a) :: eB ix δ)=some (P a)) (he:∀ a∈l,P a=true->ge (some (ex a) :: some (ey a) :: eB ix δ)=some (ky (h a))):bU gi 2 ix (cW 2 (aO (au 0) (aO (au 1) cY))) gc ge δ=some (((l.filter P).map h).map ky):=by
 unfold bU
 rw [hi,acJ,acU (by rw [acH]; exact hl)]
 exact wy (λa=>PyData.tuple [ex a,ey a]) ky h P l λa ha=>by
  show (Option.bind (some (some (ex a) :: some (ey a) :: eB ix δ)) _)=_
  rw [acJ,hc a ha,acJ]
  cases q:P a with
  | true=>rw [acU rfl,acU rfl,he a ha q]; rfl
  | false=>rw [acW acP,acW acP]
theorem Pz {α β:Type} (f:List Bool×α->β) (e:Int×Int):∀ (rs:List (List Bool)) (fs:List α),fs.length=rs.length->gr e rs ((rs.zip fs).map f)=((rs.zip fs).filter λq=>decide (go (0,0) q.1=e)).map f:=λrs=>by
 induction rs with
 | nil=>intro fs _; rfl
 | cons r rs ih=>
   intro fs h
   cases fs with
   | nil=>simp at h
   | cons x fs=>
     have i:=ih fs (by simpa using h)
     unfold gr at i ⊢
     rw [adL,acQ,adL,adH,adH]
     by_cases z:go (0,0) r=e
     .rw [acU (ac2 z),acU (ac2 z),acQ,acQ,i]
     .rw [acW (by rw [acZ z]; exact acP),acW (by rw [acZ z]; exact acP),i]
def tell (Bt:Int×Int->Int) (p:List (List Int)) (ss:List Int):List D:=((T p (0,0)).zip ss).map λx=>dF (br x.2 (Bt (go (0,0) x.1)))
theorem KP {Bt:Int×Int->Int} {p:List (List Int)} {ss:List Int} (hs:ss.length=(T p (0,0)).length) (e:Int×Int):gr e (T p (0,0)) (tell Bt p ss)=(gr e (T p (0,0)) ss).map λs=>dF (br s (Bt e)):=by
 unfold tell
 rw [Pz _ e _ _ hs]
 unfold gr
 rw [ady]
 refine adY λx hx=>?_
 have:=(adU.mp hx).2
 rw [decide_eq_true_iff] at this
 show dF (br x.2 (Bt (go (0,0) x.1)))=_
 rw [this]; rfl
structure Told (p:List (List Int)) (ss:List Int) (Bt:Int×Int->Int):Prop where
 len:ss.length=(T p (0,0)).length
 wL:∀ e∈aj p,nJ (gr e (T p (0,0)) ss) (Bt e)
 sum:∀ e∈aj p,aR (gr e (T p (0,0)) ss)=i4 p e.1 e.2 * Bt e
theorem AS {ts:List Int} {B:Int} (h:nJ ts B):kK [.list (ts.map λt=>dF (br t B))]=some (dF (br (aR ts) ((ts.length:Int) * B))):=by
 rw [AE]
 refine aT ?_
 have hB:=h.ne
 have Wy:=KO h.lo h.hi
 have sz:∀ k,bt (aR (ts.take k))<=120:=λk=>by
  refine bY ?_
  have h1:=mF (m:=2 ^ 48) (ts:=ts.take k) λt h'=>h.sm t (ad2 h')
  have h2:(ts.take k).length<=2048:=by rw [adF]; have:=h.vH; omega
  have h3:(ts.take k).length * 2 ^ 48<=2048 * 2 ^ 48:=ad9 _ h2
  have h5:2048 * 2 ^ 48 < 2 ^ 120:=by decide
  omega
 refine aE [some (.list (ts.map λt=>dF (br t B))),some (dF (br 0 B)),none] (by rw [<- Px hB]; exact aK (kO rfl rfl)) ?_
 refine fO (λt=>dF (br t B)) ts (λk δ=>∃ a,δ=[some (.list (ts.map λt=>dF (br t B))),some (dF (br (aR (ts.take k)) B)),a]) rfl ⟨none,rfl⟩ ?_ ?_
 .rintro k t δ hk ⟨a,rfl⟩
  have Qa:ts.take (k + 1)=ts.take k ++ [t]:=by rw [adB,hk]; rfl
  have Wv:bt t<=120:=aJ (bY (m:=49) (by have:=h.sm t (adk hk); omega)) (by decide)
  refine ⟨_,[some (.list (ts.map λt=>dF (br t B))),some (dF (br (aR (ts.take (k + 1))) B)),some (dF (br t B))],rfl,?_,_,rfl⟩
  refine (aK (call_of (cons_of rfl (cons_of rfl rfl)) rfl (gn _ _ (mH hB (aJ (sz k) (show 120<=300 by decide)) (aJ Wy (by decide)) (by decide)) (mH hB (aJ Wv (show 120<=300 by decide)) (aJ Wy (by decide)) (by decide))))).trans ?_
  rw [AR hB,Qa,jW]
  rfl
 .rintro δ' ⟨a,rfl⟩
  rw [adE]
  have hn:=h.pos
  have hf:=h.vH
  have e1:((1,(ts.length:Int)):eA)=br 1 (ts.length:Int):=(GS (q:=(1,(ts.length:Int))) ⟨by show (1:Int)<=(ts.length:Int); omega,by show Int.gcd 1 _=1; exact Int.gcd_one_left _⟩).symm
  have vt:=gN (br (aR ts) B) (1,(ts.length:Int)) (mH hB (aJ h.sum (show 60<=300 by decide)) (aJ Wy (by decide)) (by decide)) ⟨⟨by show (1:Int)<=(ts.length:Int); omega,by show Int.gcd 1 _=1; exact Int.gcd_one_left _⟩,aJ (bY (m:=1) (by show (1:Int).natAbs < 2 ^ 1; decide)) (by decide),aJ (bY (m:=12) (by show ((ts.length:Nat):Int).natAbs < 2 ^ 12; omega)) (by decide)⟩
  rw [e1,oN hB (by omega),af4,aeU B] at vt
  refine ret _ (call_of (cons_of rfl (cons_of (kO rfl (eF (cons_of rfl rfl) (by rw [fE,acH]))) rfl)) rfl (Eq.trans ?_ vt)) (.mk rfl rfl)
  rw [<- e1]; rfl
theorem fold_min:∀ (l:List Int) (x:Int),(l.foldl (λm y=>if y < m then y else m) x∈x :: l) /\ ∀ z∈x :: l,l.foldl (λm y=>if y < m then y else m) x<=z
 | [],x=>⟨acR,λz hz=>by rw [adm.mp hz]; exact Int.le_refl x⟩
 | y :: l,x=>by
   obtain ⟨a,b⟩:=fold_min l (if y < x then y else x)
   rw [List.foldl_cons]
   refine ⟨?_,λz hz=>?_⟩
   .rcases acK.mp a with q | q
    .rw [q]
     split
     .exact acO _ acR
     .exact acR
    .exact acO _ (acO _ q)
   .have h0:=b _ acR
    have h1:(if y < x then y else x)<=x /\ (if y < x then y else x)<=y:=by split <;> omega
    rcases acK.mp hz with q | q
    .rw [q]; exact ahd h0 h1.1
    .rcases acK.mp q with q | q
     .rw [q]; exact ahd h0 h1.2
     .exact b z (acO _ q)
theorem KQ {ns:List Int} (h:ns≠[]):∃ m,DT ns=some m /\ m∈ns /\ ∀ z∈ns,m<=z:=by
 cases ns with
 | nil=>exact absurd rfl h
 | cons x l=>exact ⟨_,rfl,(fold_min l x).1,(fold_min l x).2⟩
theorem KR {w:List Bool} {k:Nat} (h:k<=w.length):Txt.slice (tx w) none (some (k:Int))=tx (w.take k):=by
 have e:=beq_iff_eq.mp (PyProof.Rows.slice_closes_to (x:=tx w) (j:=(k:Int)) ⟨by omega,by rw [jl,acH]; omega⟩)
 rw [e]
 refine CF ?_
 show (List.drop (0:Int).toNat (tx w).cps.toList).take ((k:Int) - 0).toNat=_
 rw [jl,jl,show ((k:Int) - 0).toNat=k by omega,show (0:Int).toNat=0 from rfl,List.drop_zero,List.map_take]
theorem SA {w:List Bool} {k:Nat} (h:k < w.length) (h2:w.length<=1000):bC (.str (tx w)) (.int (k:Nat))=some (.str (tx [w.getD k false])):=by
 show (if (tx w).length<=100000 then (o7 (tx w).cps.toList (k:Int)).map λc=>PyData.str ⟨#[c]⟩ else none)=_
 rw [acU (by rw [pX]; omega),jl,iR (v:=ch (w.getD k false)) (by rw [adb,acL h,acS,acL h]; rfl)]
 rfl
theorem AU (a c:Int×Int):md (dC a) (dC c)=some (.bool (decide (a=c))):=by
 exact Mm a c
theorem u5 {α:Type} (P:α->Bool):∀ l:List α,aR (l.map λx=>if P x=true then 1 else 0)=(l.countP P:Nat)
 | []=>rfl
 | x :: l=>by
   rw [acQ,ae5,show ∀ (y:Int) (m:List Int),aR (y :: m)=y + aR m from λ_ _=>rfl,u5 P l]
   split <;> push_cast <;> omega
section
variable {p:List (List Int)} (hp:Pl p) (hl:p.length<=8)
include hp hl
theorem kR:(T p (0,0)).length<=256 /\ (∀ u∈T p (0,0),1<=u.length /\ u.length<=8) /\ ∀ e∈aj p,0 < (T p (0,0)).countP (λw=>decide (go (0,0) w=e)):=by
 refine ⟨?_,λu hu=>⟨?_,?_⟩,λe he=>?_⟩
 .have:=yH (p:=p) (0,0)
  have h2:2 ^ (p.length - ((0:Int) + 0).toNat)<=2 ^ 8:=aea (by decide) (by show p.length - 0<=8; omega)
  exact ado this h2
 .cases u with
  | nil=>
    rw [nI (Sr hp)] at hu
    simp at hu
  | cons x u=>simp
 .have:=Wt (p:=p) (0,0) u hu (by show (0:Int) + 0<=_; omega)
  simp at this
  omega
 .have h:=wF hp he
  obtain ⟨b,g,ok⟩:=lU hp he
  have:=ok.pos
  unfold ph at h
  omega
end
abbrev sT (a0 a1 a2:D) (a3 a4 a5 a6 a7 a8 a9 a10 a11 a12 a13 a14:Option D):DS:=[some a0,some a1,some a2,a3,a4,a5,a6,a7,a8,a9,a10,a11,a12,a13,a14]
theorem u6 {a b:DS->Option D} {δ:DS} {x y:D} (h1:a δ=some x) (h2:b δ=some y):aS (aa a (aa b af)) δ=some (.tuple [x,y]):=lW (cons_of h1 (cons_of h2 rfl)) (by show 2<=100000; decide)
theorem KS {α:Type} (e:Int×Int):∀ (rs:List (List Bool)) (fs:List α),((fs.zip rs).filter λx=>decide (go (0,0) x.2=e)).map (·.1)=gr e rs fs:=λrs=>by
 induction rs with
 | nil=>intro fs; unfold gr; simp
 | cons r rs ih=>
   intro fs
   cases fs with
   | nil=>unfold gr; simp
   | cons x fs=>
     have i:=ih fs
     unfold gr at i ⊢
     rw [adL,adL,adH,adH]
     by_cases z:go (0,0) r=e
     .rw [acU (ac2 z),acU (ac2 z),acQ,acQ,i]
     .rw [acW (by rw [acZ z]; exact acP),acW (by rw [acZ z]; exact acP),i]
theorem PB {α:Type} (f:List Bool->α) (e:Int×Int) (rs:List (List Bool)):gr e rs (rs.map f)=(rs.filter λw=>decide (go (0,0) w=e)).map f:=by
 induction rs with
 | nil=>rfl
 | cons r rs ih=>
   unfold gr at ih ⊢
   rw [acQ,adL,adH,adH]
   by_cases z:go (0,0) r=e
   .rw [acU (ac2 z),acU (ac2 z),acQ,acQ,ih]
   .rw [acW (by rw [acZ z]; exact acP),acW (by rw [acZ z]; exact acP),ih]
theorem told_0 {p:List (List Int)} (hp:Pl p) (hl:p.length<=8) {n:Nat} (h:∀ u∈T p (0,0),n < u.length):Told p ((T p (0,0)).map λu=>if u.getD n false=true then 1 else 0) λ_=>1:=by
 obtain ⟨f1,f2,f3⟩:=kR hp hl
 refine ⟨by rw [acH],λe he=>⟨?_,?_,λt ht=>?_,Int.le_refl 1,by decide⟩,λe he=>?_⟩
 .rw [sR e _ _ (by rw [acH])]; exact f3 e he
 .have:=sQ e (T p (0,0)) ((T p (0,0)).map λu=>if u.getD n false=true then (1:Int) else 0)
  omega
 .obtain ⟨u,_,rfl⟩:=ac5.mp (wK ht)
  split <;> decide
 .rw [PB,u5,List.countP_filter,af4,<- CD hp he h]
  congr 1
  refine List.countP_congr λw _=>?_
  rw [Bool.and_comm]
theorem Mr {α β:Type} (f:α->Int×Int->β) (e:Int×Int):∀ (rs:List (List Bool)) (fs:List α),gr e rs ((fs.zip rs).map λx=>f x.1 (go (0,0) x.2))=(gr e rs fs).map λt=>f t e:=λrs=>by
 induction rs with
 | nil=>intro fs; unfold gr; simp
 | cons r rs ih=>
   intro fs
   cases fs with
   | nil=>unfold gr; simp
   | cons x fs=>
     have i:=ih fs
     unfold gr at i ⊢
     rw [adL,acQ,adL,adH,adL,adH]
     by_cases z:go (0,0) r=e
     .rw [acU (ac2 z),acU (ac2 z),acQ,acQ,acQ,i]
      show f x (go (0,0) r) :: _=f x e :: _
      rw [z]
     .rw [acW (by rw [acZ z]; exact acP),acW (by rw [acZ z]; exact acP),i]
theorem yL {α β γ:Type} (g:α×β->γ):∀ (fs:List α) (rs:List β),fs.length=rs.length->rs.zip ((fs.zip rs).map g)=(fs.zip rs).map λx=>(x.2,g x)
 | [],[],_=>rfl
 | x :: fs,r :: rs,h=>by
   rw [List.zip_cons_cons,List.map_cons,List.zip_cons_cons,List.map_cons,yL g fs rs (by simpa using h)]
 | [],_ :: _,h=>by simp at h
 | _ :: _,[],h=>by simp at h
theorem PC (S n F B:Int):S * n + n * (F * B - S)=F * (n * B):=by grind
theorem KU (x n f B S:Int):(x * (n * B) + (f * B - S) * B) * (n * B)=(x * n + (f * B - S)) * (B * (n * B)):=by grind
theorem PD {x y:Nat} (h1:x<=1000000) (h2:y<=256):x * y<=256000000:=ado (agC h1 h2) (by decide)
theorem CI (n c:Int):∀ ts:List Int,aR (ts.map λt=>t * n + c)=aR ts * n + (ts.length:Int) * c
 | []=>by simp [aR]
 | t :: ts=>by
   rw [acQ,show ∀ (y:Int) (m:List Int),aR (y :: m)=y + aR m from λ_ _=>rfl,CI n c ts,show aR (t :: ts)=t + aR ts from rfl,ac3]
   push_cast
   grind
theorem Eb {p:List (List Int)} (hp:Pl p) (hl:p.length<=8) (eG:∀ r∈p,r.length<=25) (ns:List Int):∃ ss Bt,fJ [.list (ns.map .int),.list ((T p (0,0)).map dW),.list ((aj p).map dC)]=some (tell Bt p ss) /\ Told p ss Bt:=by
 obtain ⟨f1,f2,f3⟩:=kR hp hl
 have hTn:T p (0,0)≠[]:=Sm _
 have cl:∀ {i:Nat} {δ:DS},az bV 2 (aa (ae 0) (aa (gC (.int (i:Nat))) af)) (some (.list (ns.map .int)) :: δ)=some (.int (ns.getD i 0)):=λ{i δ}=>call_of (cons_of rfl (cons_of rfl rfl)) rfl (nH ns i)
 suffices key:hJ (fJ [.list (ns.map .int),.list ((T p (0,0)).map dW),.list ((aj p).map dC)]) λds=>∃ ss Bt,ds=tell Bt p ss /\ Told p ss Bt by
  obtain ⟨_,e,ss,Bt,rfl,q⟩:=key
  exact ⟨ss,Bt,e,q⟩
 rw [t4]
 obtain ⟨mz,hm,Wz,WA⟩:=KQ (ns:=(T p (0,0)).map λu=>(u.length:Int)) (by simpa using hTn)
 obtain ⟨u0,hu0,e0⟩:=ac5.mp Wz
 obtain ⟨m,rfl⟩:∃ m:Nat,mz=m:=⟨u0.length,e0.symm⟩
 have hm1:1<=m:=by have:=(f2 u0 hu0).1; omega
 have hmu:∀ u∈T p (0,0),m<=u.length:=λu hu=>by
  have:=WA _ (ac5.mpr ⟨u,hu,rfl⟩)
  omega
 have ec:bU (aI (ae 1)) 2 [] (cW 2 (aO (au 0) (aO (au 1) cY))) (λ_=>some true) (cM bL (aa (ae 0) af)) (sT (.list (ns.map .int)) (.list ((T p (0,0)).map dW)) (.list ((aj p).map dC)) none none none none none none none none none none none none)=some (((T p (0,0)).map λu=>(u.length:Int)).map .int):=by
  have:=pY (gi:=aI (ae 1)) (ix:=[]) (gc:=λ_=>some true) (ge:=cM bL (aa (ae 0) af)) (δ:=sT (.list (ns.map .int)) (.list ((T p (0,0)).map dW)) (.list ((aj p).map dC)) none none none none none none none none none none none none) (λu=>.str (tx u)) (λu=>dC (go (0,0) u)) PyData.int (λu:List Bool=>(u.length:Int)) (λ_=>true) (T p (0,0)) rfl (by omega) (λ_ _=>rfl) (λu hu _=>eF (cons_of rfl rfl) (by have h8:=(f2 u hu).2; show (if (tx u).length<=100000 then some (PyData.int ((tx u).length:Nat)) else none)=_; rw [pX,acU (by omega)]))
  rw [ae1.mpr (by simp)] at this
  exact this
 refine aE (sT (.list (ns.map .int)) (.list ((T p (0,0)).map dW)) (.list ((aj p).map dC)) (some (.int (m:Nat))) none none none none none none none none none none none) (aK (eF (cons_of (aN ec) rfl) ?_)) ?_
 .show (k8 _).bind _=_
  rw [mm]
  show (DT _).map _=_
  rw [hm]; rfl
 refine aE (sT (.list (ns.map .int)) (.list ((T p (0,0)).map dW)) (.list ((aj p).map dC)) (some (.int (m:Nat))) (some (.int (ns.getD 1 0 / 1000 % 3))) none none none none none none none none none none) (aK (ak (ak (cl (i:=1)) rfl (dd 1000 (by decide) (by decide))) rfl (jb (by decide)))) ?_
 refine qV (decide (ns.getD 1 0 / 1000 % 3=0)) (cL (ak rfl rfl (v7 _ _))) (λ_=>?_) λ_=>?_
 .rw [seq_assoc]
  have q1:=aeM (ns.getD 2 0) (show ((m:Nat):Int)≠0 by omega)
  have q2:=aeq (ns.getD 2 0) (show 0 < ((m:Nat):Int) by omega)
  obtain ⟨n,hn⟩:∃ n:Nat,ns.getD 2 0 % (m:Int)=n:=⟨(ns.getD 2 0 % (m:Int)).toNat,by omega⟩
  have hnm:n < m:=by omega
  refine aE (sT (.list (ns.map .int)) (.list ((T p (0,0)).map dW)) (.list ((aj p).map dC)) (some (.int (m:Nat))) (some (.int (ns.getD 1 0 / 1000 % 3))) (some (.int (n:Nat))) none none none none none none none none none) (aK ((ak (cl (i:=2)) rfl (jb (by omega))).trans (by rw [hn]))) ?_
  have hu:∀ u∈T p (0,0),n < u.length:=λu hu=>by have:=hmu u hu; omega
  have ec2:=pY (gi:=aI (ae 1)) (ix:=[5]) (gc:=λ_=>some true) (ge:=aS (aa (cM Dj (aa (g2 md (g2 bC (ae 0) (ae 2)) (gC (.str "b"))) af)) (aa (gC (.int (1))) af))) (δ:=sT (.list (ns.map .int)) (.list ((T p (0,0)).map dW)) (.list ((aj p).map dC)) (some (.int (m:Nat))) (some (.int (ns.getD 1 0 / 1000 % 3))) (some (.int (n:Nat))) none none none none none none none none none) (λu=>.str (tx u)) (λu=>dC (go (0,0) u)) id (λu:List Bool=>dF (br (if u.getD n false=true then 1 else 0) 1)) (λ_=>true) (T p (0,0)) rfl (by omega) (λ_ _=>rfl) (λu hu' _=>by
   have h8:=(f2 u hu').2
   refine (u6 (x:=.int (if u.getD n false=true then 1 else 0)) (eF (cons_of (ak (ak rfl rfl (SA (hu u hu') (by omega))) rfl (Mp _)) rfl) ?_) rfl).trans ?_
   .cases u.getD n false <;> rfl
   .cases u.getD n false <;> rfl)
  rw [ae1.mpr (by simp),List.map_id] at ec2
  refine qW (.list _) (aN ec2) (.mk rfl ⟨(T p (0,0)).map λu=>if u.getD n false=true then 1 else 0,λ_=>1,?_,told_0 hp hl hu⟩)
  unfold tell
  rw [<- List.map_prod_left_eq_zip]
  rw [ady]
  rfl
 rw [GY]
 obtain ⟨_,ev,ts,B,rfl,TV,TX,Sx,hB2⟩:=wJ ns (n:=(T p (0,0)).length) (by omega)
 have Pf:B≠0:=by omega
 have bB:bt B<=40:=bY (by omega)
 refine aE (sT (.list (ns.map .int)) (.list ((T p (0,0)).map dW)) (.list ((aj p).map dC)) (some (.int (m:Nat))) (some (.int (ns.getD 1 0 / 1000 % 3))) none (some (.list (ts.map .int))) (some (.int B)) none none none none none none none) (Sw (call_of (cons_of rfl (cons_of (eF (cons_of rfl rfl) (by show some (PyData.int _)=_; rw [acH])) rfl)) rfl ev) rfl) ?_
 refine aE (sT (.list (ns.map .int)) (.list ((T p (0,0)).map dW)) (.list ((aj p).map dC)) (some (.int (m:Nat))) (some (.int (ns.getD 1 0 / 1000 % 3))) none (some (.list (ts.map .int))) (some (.int B)) (some (.list (ts.map λt=>dF (br t B)))) none none none none none none) (aK (aN ?_)) ?_
 .have:=dY (gi:=aI (ae 6)) (ix:=[7]) (ge:=az eV 2 (aa (ae 0) (aa (ae 1) af))) (δ:=sT (.list (ns.map .int)) (.list ((T p (0,0)).map dW)) (.list ((aj p).map dC)) (some (.int (m:Nat))) (some (.int (ns.getD 1 0 / 1000 % 3))) none (some (.list (ts.map .int))) (some (.int B)) none none none none none none none) PyData.int (λt=>dF (br t B)) id ts (oZ rfl) (by omega) (λt _=>call_of (cons_of rfl (cons_of rfl rfl)) rfl (kQ t B Sx (aJ bB (by decide))))
  rw [List.map_id] at this
  exact this
 refine aE (sT (.list (ns.map .int)) (.list ((T p (0,0)).map dW)) (.list ((aj p).map dC)) (some (.int (m:Nat))) (some (.int (ns.getD 1 0 / 1000 % 3))) none (some (.list (ts.map .int))) (some (.int B)) (some (.list (ts.map λt=>dF (br t B)))) (some (.dict [])) none none none none none) rfl ?_
 have nE:∀ e:Int×Int,(gr e (T p (0,0)) ts).length=(T p (0,0)).countP λw=>decide (go (0,0) w=e):=λe=>sR e _ _ TV
 have CJ:∀ e∈aj p,nJ (gr e (T p (0,0)) ts) B:=λe he=>⟨by rw [nE]; exact f3 e he,by have:=sQ e (T p (0,0)) ts; omega,λt ht=>by have:=TX t (wK ht); omega,Sx,by omega⟩
 obtain ⟨mid,PH⟩:∃ mid:Int×Int->eA,mid=λe=>br (i4 p e.1 e.2 * B - aR (gr e (T p (0,0)) ts)) (((gr e (T p (0,0)) ts).length:Int) * B):=⟨_,rfl⟩
 have Sk:=jk (p:=p) (by omega) eG
 refine fO dC (aj p) (λi δ=>∃ (kds:List (D×D)) (Bv xo tH ra pZ:Option D),δ=sT (.list (ns.map .int)) (.list ((T p (0,0)).map dW)) (.list ((aj p).map dC)) (some (.int (m:Nat))) (some (.int (ns.getD 1 0 / 1000 % 3))) none (some (.list (ts.map .int))) (some (.int B)) (some (.list (ts.map λt=>dF (br t B)))) (some (.dict kds)) Bv xo tH ra pZ /\ kds.length<=i /\ ∀ e∈(aj p).take i,cj kds [.inl e.1,.inl e.2]=some (dF (mid e))) (oZ rfl) ⟨[],none,none,none,none,none,rfl,ac1 _,λe he=>by simp at he⟩ ?_ ?_
 .rintro i e δ he ⟨kds,Bv,xo,tH,ra,pZ,rfl,hlen,hk⟩
  have hme:=adk he
  have hi':i < (aj p).length:=(acN.mp he).1
  have M:=CJ e hme
  have nB:=nb M.pos Pf
  have hf:=M.vH
  have Tw:((gr e (T p (0,0)) ts).length:Int)≠0:=by have:=M.pos; omega
  have kF:(((T p (0,0)).filter λu=>decide (go (0,0) u=e) && u.getD 0 false).length:Int)=i4 p e.1 e.2:=by
   rw [<- CD hp hme (n:=0) λu hu=>(f2 u hu).1,List.countP_eq_length_filter]
  have kB:bt (i4 p e.1 e.2)<=12:=by
   rw [<- kF]
   refine bY ?_
   have:=aep (λu:List Bool=>decide (go (0,0) u=e) && u.getD 0 false) (T p (0,0))
   show ((_:Nat):Int).natAbs < 2 ^ 12
   omega
  have c11:=pY (gi:=kr (ae 8) (ae 1)) (ix:=[10]) (gc:=gB (g2 md (g2 bC (ae 1) (gC (.int (1)))) (ae 2))) (ge:=ae 0) (δ:=sT (.list (ns.map .int)) (.list ((T p (0,0)).map dW)) (.list ((aj p).map dC)) (some (.int (m:Nat))) (some (.int (ns.getD 1 0 / 1000 % 3))) none (some (.list (ts.map .int))) (some (.int B)) (some (.list (ts.map λt=>dF (br t B)))) (some (.dict kds)) (some (dC e)) xo tH ra pZ) (λx:Int×List Bool=>dF (br x.1 B)) (λx=>dW x.2) (λt=>dF (br t B)) (λx=>x.1) (λx=>decide (go (0,0) x.2=e)) (ts.zip (T p (0,0))) ((sJ rfl rfl).trans (by rw [mD])) (by rw [aeN]; omega) (λx _=>cL (ak (ak rfl rfl rfl) rfl (AU _ _))) (λx _ _=>rfl)
  rw [KS] at c11
  have c12:=pY (gi:=aI (ae 1)) (ix:=[10]) (gc:=jA (gB (g2 md (ae 1) (ae 2))) (gB (g2 md (J6 (ae 0) vL (lF (gC (.int (1))))) (gC (.str "b"))))) (ge:=ae 0) (δ:=sT (.list (ns.map .int)) (.list ((T p (0,0)).map dW)) (.list ((aj p).map dC)) (some (.int (m:Nat))) (some (.int (ns.getD 1 0 / 1000 % 3))) none (some (.list (ts.map .int))) (some (.int B)) (some (.list (ts.map λt=>dF (br t B)))) (some (.dict kds)) (some (dC e)) (some (.list ((gr e (T p (0,0)) ts).map λt=>dF (br t B)))) tH ra pZ) (λu=>.str (tx u)) (λu=>dC (go (0,0) u)) (λu=>.str (tx u)) (λu:List Bool=>u) (λu=>decide (go (0,0) u=e) && u.getD 0 false) (T p (0,0)) rfl (by omega) (λu hu=>Mq (cL (ak rfl rfl (AU _ _))) λ_=>cL (ak (x:=.str (tx [u.getD 0 false])) (by
   obtain ⟨u1,u2⟩:=f2 u hu
   unfold J6
   show (if (tx u).length<=100000 then some (PyData.str (Txt.slice (tx u) none (some ((1:Nat):Int)))) else none)=_
   rw [acU (by rw [pX]; omega),KR u1]
   cases u with
   | nil=>simp at u1
   | cons x u=>rfl) rfl (Mp _))) (λu _ _=>rfl)
  rw [List.map_id' ] at c12
  have vf:=kQ (i4 p e.1 e.2) ((gr e (T p (0,0)) ts).length:Int) (by omega) (aJ (bY (m:=12) (by show ((_:Nat):Int).natAbs < 2 ^ 12; omega)) (by decide))
  have vm:=AS M
  have sz1:Sz 4000 (br (i4 p e.1 e.2) ((gr e (T p (0,0)) ts).length:Int)):=mH Tw (aJ kB (show 12<=300 by decide)) (aJ (bY (m:=12) (by show ((_:Nat):Int).natAbs < 2 ^ 12; omega)) (by decide)) (by decide)
  have bnB:bt (((gr e (T p (0,0)) ts).length:Int) * B)<=300:=aJ (dn (bY (m:=12) (by show ((_:Nat):Int).natAbs < 2 ^ 12; omega)) bB) (by decide)
  have sz2:Sz 4000 (br (aR (gr e (T p (0,0)) ts)) (((gr e (T p (0,0)) ts).length:Int) * B)):=mH nB (aJ M.sum (show 60<=300 by decide)) bnB (by decide)
  have vp:=gn _ _ sz1 (HV sz2)
  rw [Kd nB,oO Tw nB] at vp
  have em:br (i4 p e.1 e.2 * (((gr e (T p (0,0)) ts).length:Int) * B) + -aR (gr e (T p (0,0)) ts) * ((gr e (T p (0,0)) ts).length:Int)) (((gr e (T p (0,0)) ts).length:Int) * (((gr e (T p (0,0)) ts).length:Int) * B))=mid e:=by
   rw [PH]
   refine gG (adl Tw nB) nB ?_
   generalize ((gr e (T p (0,0)) ts).length:Int)=n
   grind
  rw [em] at vp
  refine ⟨_,sT (.list (ns.map .int)) (.list ((T p (0,0)).map dW)) (.list ((aj p).map dC)) (some (.int (m:Nat))) (some (.int (ns.getD 1 0 / 1000 % 3))) none (some (.list (ts.map .int))) (some (.int B)) (some (.list (ts.map λt=>dF (br t B)))) (some (.dict (jT kds [.inl e.1,.inl e.2] (dF (mid e))))) (some (dC e)) (some (.list ((gr e (T p (0,0)) ts).map λt=>dF (br t B)))) (some (.list (((T p (0,0)).filter λu=>decide (go (0,0) u=e) && u.getD 0 false).map λu=>.str (tx u)))) (some (dF (br (i4 p e.1 e.2) ((gr e (T p (0,0)) ts).length:Int)))) (some (dF (br (aR (gr e (T p (0,0)) ts)) (((gr e (T p (0,0)) ts).length:Int) * B)))),rfl,?_,_,_,_,_,_,_,rfl,?_,?_⟩
  .refine bO (sT (.list (ns.map .int)) (.list ((T p (0,0)).map dW)) (.list ((aj p).map dC)) (some (.int (m:Nat))) (some (.int (ns.getD 1 0 / 1000 % 3))) none (some (.list (ts.map .int))) (some (.int B)) (some (.list (ts.map λt=>dF (br t B)))) (some (.dict kds)) (some (dC e)) (some (.list ((gr e (T p (0,0)) ts).map λt=>dF (br t B)))) tH ra pZ) (aK (aN c11)) ?_
   refine bO (sT (.list (ns.map .int)) (.list ((T p (0,0)).map dW)) (.list ((aj p).map dC)) (some (.int (m:Nat))) (some (.int (ns.getD 1 0 / 1000 % 3))) none (some (.list (ts.map .int))) (some (.int B)) (some (.list (ts.map λt=>dF (br t B)))) (some (.dict kds)) (some (dC e)) (some (.list ((gr e (T p (0,0)) ts).map λt=>dF (br t B)))) (some (.list (((T p (0,0)).filter λu=>decide (go (0,0) u=e) && u.getD 0 false).map λu=>.str (tx u)))) ra pZ) (aK (aN c12)) ?_
   refine bO (sT (.list (ns.map .int)) (.list ((T p (0,0)).map dW)) (.list ((aj p).map dC)) (some (.int (m:Nat))) (some (.int (ns.getD 1 0 / 1000 % 3))) none (some (.list (ts.map .int))) (some (.int B)) (some (.list (ts.map λt=>dF (br t B)))) (some (.dict kds)) (some (dC e)) (some (.list ((gr e (T p (0,0)) ts).map λt=>dF (br t B)))) (some (.list (((T p (0,0)).filter λu=>decide (go (0,0) u=e) && u.getD 0 false).map λu=>.str (tx u)))) (some (dF (br (i4 p e.1 e.2) ((gr e (T p (0,0)) ts).length:Int)))) pZ) (aK (call_of (cons_of (eF (cons_of rfl rfl) (by show some (PyData.int _)=_; rw [acH,kF])) (cons_of (eF (cons_of rfl rfl) (by show some (PyData.int _)=_; rw [acH])) rfl)) rfl vf)) ?_
   refine bO (sT (.list (ns.map .int)) (.list ((T p (0,0)).map dW)) (.list ((aj p).map dC)) (some (.int (m:Nat))) (some (.int (ns.getD 1 0 / 1000 % 3))) none (some (.list (ts.map .int))) (some (.int B)) (some (.list (ts.map λt=>dF (br t B)))) (some (.dict kds)) (some (dC e)) (some (.list ((gr e (T p (0,0)) ts).map λt=>dF (br t B)))) (some (.list (((T p (0,0)).filter λu=>decide (go (0,0) u=e) && u.getD 0 false).map λu=>.str (tx u)))) (some (dF (br (i4 p e.1 e.2) ((gr e (T p (0,0)) ts).length:Int)))) (some (dF (br (aR (gr e (T p (0,0)) ts)) (((gr e (T p (0,0)) ts).length:Int) * B))))) (aK (call_of (cons_of rfl rfl) rfl vm)) ?_
   refine wt (c:=e) rfl rfl (call_of (cons_of rfl (cons_of (u6 (ak rfl (ak rfl rfl (gH _)) rfl) (ak rfl rfl (eL _))) rfl)) rfl ?_) (by omega)
   rw [<- vp,<- Kd nB]
   show bJ [_,.tuple [.int (0 - _),_]]=_
   rw [Int.zero_sub]; rfl
  .have:=pG kds [.inl e.1,.inl e.2] (dF (mid e))
   omega
  .intro c hc
   rw [uS]
   by_cases z:(([.inl c.1,.inl c.2]:List Key)=[.inl e.1,.inl e.2])
   .rw [acU z]
    obtain ⟨z1,z2⟩:=sD.mp z
    rw [show c=e from Prod.ext z1 z2]
   .rw [acW z]
    rw [adB,he] at hc
    rcases adh.mp hc with y | y
    .exact hk c y
    .have:c=e:=by simpa using y
     exact absurd (by rw [this]) z
 .rintro δ' ⟨kds,Bv,xo,tH,ra,pZ,rfl,_,hk⟩
  rw [adE] at hk
  obtain ⟨cE,TY⟩:∃ cE:Int×Int->Int,cE=λe=>i4 p e.1 e.2 * B - aR (gr e (T p (0,0)) ts):=⟨_,rfl⟩
  obtain ⟨nN,WB⟩:∃ nN:Int×Int->Int,nN=λe=>((gr e (T p (0,0)) ts).length:Int):=⟨_,rfl⟩
  have bd:∀ e∈aj p,0 < nN e /\ nN e<=256 /\ (cE e).natAbs<=256 * 1000000000000 + 256 * 1000000 /\ ∀ t∈gr e (T p (0,0)) ts,(t * nN e + cE e).natAbs<=2 ^ 48:=λe he=>by
   have M:=CJ e he
   have g1:=sQ e (T p (0,0)) ts
   have p1:=M.pos
   have hS:(aR (gr e (T p (0,0)) ts)).natAbs<=256 * 1000000:=by
    have:=mF (m:=1000000) (ts:=gr e (T p (0,0)) ts) λt ht=>TX t (wK ht)
    exact ado this (ad9 _ (by omega))
   have hk0:0<=i4 p e.1 e.2 /\ i4 p e.1 e.2<=256:=by
    rw [<- CD hp he (n:=0) λu hu=>(f2 u hu).1]
    have:=afY (p:=λw:List Bool=>decide (go (0,0) w=e) && w.getD 0 false) (l:=T p (0,0))
    omega
   have hkB:0<=i4 p e.1 e.2 * B /\ i4 p e.1 e.2 * B<=256 * 1000000000000:=⟨Int.mul_nonneg hk0.1 (by omega),ahd (af2 hk0.2 (by omega)) (af6 hB2 (by omega))⟩
   rw [WB,TY]
   refine ⟨by show (0:Int) < ((_:Nat):Int); omega,by show ((_:Nat):Int)<=256; omega,by show (i4 p e.1 e.2 * B - aR (gr e (T p (0,0)) ts)).natAbs<=_; omega,λt ht=>?_⟩
   have h6:=TX t (wK ht)
   have hm:(t * ((gr e (T p (0,0)) ts).length:Int)).natAbs<=256000000:=by
    rw [agx]
    exact PD h6 (by show (((gr e (T p (0,0)) ts).length:Nat):Int).natAbs<=256; omega)
   show (t * ((gr e (T p (0,0)) ts).length:Int) + (i4 p e.1 e.2 * B - aR (gr e (T p (0,0)) ts))).natAbs<=2 ^ 48
   omega
  have cF:=pY (gi:=kr (ae 8) (ae 1)) (ix:=[9]) (gc:=λ_=>some true) (ge:=az bJ 2 (aa (ae 0) (aa (jU (ae 2) (g2 bC (ae 1) (gC (.int (1))))) af))) (δ:=sT (.list (ns.map .int)) (.list ((T p (0,0)).map dW)) (.list ((aj p).map dC)) (some (.int (m:Nat))) (some (.int (ns.getD 1 0 / 1000 % 3))) none (some (.list (ts.map .int))) (some (.int B)) (some (.list (ts.map λt=>dF (br t B)))) (some (.dict kds)) Bv xo tH ra pZ) (λx:Int×List Bool=>dF (br x.1 B)) (λx=>dW x.2) id (λx=>dF (br (x.1 * nN (go (0,0) x.2) + cE (go (0,0) x.2)) (nN (go (0,0) x.2) * B))) (λ_=>true) (ts.zip (T p (0,0))) ((sJ rfl rfl).trans (by rw [mD])) (by rw [aeN]; omega) (λ_ _=>rfl) (λx hx _=>by
   have hr:x.2∈T p (0,0):=(ad5 hx).2
   have htm:x.1∈ts:=(ad5 hx).1
   have he:=row_end hr
   generalize hE:go (0,0) x.2=e at *
   have M:=CJ e he
   have nB:=nb M.pos Pf
   have hf:=M.vH
   obtain ⟨b1,b2,b3,_⟩:=bd e he
   have s1:Sz 4000 (br x.1 B):=mH Pf (aJ (bY (m:=20) (by have:=TX x.1 htm; omega)) (show 20<=300 by decide)) (aJ bB (by decide)) (by decide)
   have s2:Sz 4000 (mid e):=by
    rw [PH]
    refine mH nB (aJ (bY (m:=49) ?_) (show 49<=300 by decide)) (aJ (dn (bY (m:=12) (by show ((_:Nat):Int).natAbs < 2 ^ 12; omega)) bB) (by decide)) (by decide)
    rw [TY] at b3
    have b3:(i4 p e.1 e.2 * B - aR (gr e (T p (0,0)) ts)).natAbs<=256 * 1000000000000 + 256 * 1000000:=b3
    omega
   have vp:=gn _ _ s1 s2
   refine (call_of (cons_of rfl (cons_of ((oW (c:=e) rfl (ak rfl rfl (by show some (dC (go (0,0) x.2))=_; rw [hE]))).trans (hk e he)) rfl)) rfl vp).trans ?_
   rw [PH]
   show some (dF (oH (br x.1 B) (br _ _)))=some (dF _)
   rw [oO Pf nB,WB,TY]
   congr 2
   refine gG (adl Pf nB) nB ?_
   exact KU x.1 ((gr e (T p (0,0)) ts).length:Int) (i4 p e.1 e.2) B (aR (gr e (T p (0,0)) ts)))
  rw [ae1.mpr (by simp),List.map_id] at cF
  refine ret (.list _) (aN cF) (.mk rfl ⟨(ts.zip (T p (0,0))).map λx=>x.1 * nN (go (0,0) x.2) + cE (go (0,0) x.2),λe=>nN e * B,?_,?_,λe he=>?_,λe he=>?_⟩)
  .unfold tell
   rw [yL _ _ _ TV,ady]
   rfl
  .rw [acH,aeN]; omega
  .obtain ⟨b1,b2,b3,b4⟩:=bd e he
   have M:=CJ e he
   rw [Mr (λt c=>t * nN c + cE c)]
   refine ⟨by rw [acH]; exact M.pos,by rw [acH]; exact M.vH,λy hy=>?_,?_,?_⟩
   .obtain ⟨t,ht,rfl⟩:=ac5.mp hy
    exact b4 t ht
   .exact ae7 b1 (by omega)
   .have:nN e * B<=256 * 1000000000000:=ahd (af2 b2 (by omega)) (af6 hB2 (by omega))
    show nN e * B < 2 ^ 48
    omega
  .rw [Mr (λt c=>t * nN c + cE c),CI]
   show _=_ * (nN e * B)
   rw [WB,TY]
   show aR (gr e (T p (0,0)) ts) * ((gr e (T p (0,0)) ts).length:Int) + ((gr e (T p (0,0)) ts).length:Int) * (i4 p e.1 e.2 * B - aR (gr e (T p (0,0)) ts))=_
   exact PC _ _ _ _
end aA
namespace aA
theorem u7:∀ (l:List Int) (a b:Int),lT l->(∀ x∈l,a<=x /\ x<=b)->a<=b + 1->(l.length:Int)<=b - a + 1
 | [],a,b,_,_,h=>by simp; omega
 | x :: l,a,b,hr,hx,h=>by
   have h1:=hx x acR
   have ih:=u7 l (x + 1) b (adD.mp hr).2 (λy hy=>⟨by have:=(adD.mp hr).1 y hy; omega,(hx y (acO _ hy)).2⟩) (by omega)
   rw [ac3]
   push_cast
   omega
theorem yM:∀ (q:List (List Int)) (n:Nat),(∀ k,k < q.length->(q.getD k []).length<=n + k + 1)->2 * (bf n q).length<=q.length * (2 * n + q.length + 1)
 | [],n,_=>by simp [bf]
 | r :: q,n,h=>by
   have h0:=h 0 (by simp)
   have ih:=yM q (n + 1) λk hk=>by
    have:=h (k + 1) (by simpa using hk)
    rw [show (r :: q).getD (k + 1) []=q.getD k [] from rfl] at this
    omega
   rw [bf,ac7,ac3]
   unfold jJ
   rw [acH]
   have h0':r.length<=n + 0 + 1:=h0
   have e:(q.length + 1) * (2 * n + (q.length + 1) + 1)=q.length * (2 * (n + 1) + q.length + 1) + 2 * (n + 1):=by
    generalize q.length=m
    grind
   rw [e]
   omega
theorem yN {p:List (List Int)} (hp:Pl p) (k:Nat):(led (p.getD k [])).length<=k + 2:=by
 have hr:=(oU hp).2 k
 have:=u7 (led (p.getD k [])) 0 ((k:Int) + 1) fi (λx hx=>by
  rcases gJ.mp hx with z | z
  .have:=hr _ z; omega
  .have:=hr _ z; omega) (by omega)
 omega
theorem ends_324 {p:List (List Int)} (hp:Pl p) (hl:p.length<=24):(aj p).length<=324:=by
 rw [jv hp]
 refine ado (aep _ _) ?_
 have:=yM (p.map led) 1 λk hk=>by
  rw [acH] at hk
  have e:(p.map led).getD k []=led (p.getD k []):=by
   rw [acS,acS,adb,acL hk]; rfl
  rw [e]
  have:=yN hp k
  omega
 rw [acH] at this
 have h2:p.length * (2 * 1 + p.length + 1)<=24 * (2 * 1 + 24 + 1):=agC hl (by omega)
 omega
end aA
namespace aA
open PySem L2 Q1
theorem PJ {p:List (List Int)} (hp:Pl p):1<=p.length:=by
 obtain ⟨q,rfl,_⟩:=hp.ex
 simp
theorem yO {p:List (List Int)} (hp:Pl p) (B:Nat) (hB:∀ q∈(aj p).map (shr p),q.2 ∣ (B:Int)) (k:Nat):k9 p ((aj p).zip (sN ((aj p).map (shr p)) B)) k=(B:Int) * if k=1 then 1 else 0:=by
 rw [<- HG hp k,<- Hx]
 unfold k9 sN
 rw [ady]
 have gen:∀ l:List (Int×Int),(∀ c∈l,c∈aj p)->sm (λz:(Int×Int)×Int=>z.2 * cG p z.1.1 z.1.2 * EE k z.1.1 z.1.2) (l.zip (l.map ((λq:eA=>q.1 * ((B:Int) / q.2)) ∘ shr p)))=sm (λc=>(B:Int) * (i4 p c.1 c.2 * EE k c.1 c.2)) l:=by
  intro l
  induction l with
  | nil=>intro _; rfl
  | cons c l ih=>
    intro h
    rw [acQ,adL,cq,cq,ih λz hz=>h z (acO _ hz)]
    congr 1
    have hc:=h c acR
    obtain ⟨b,g,he⟩:=lU hp hc
    have e:=(HH he).eq
    obtain ⟨x,hx⟩:=hB (shr p c) (ac5.mpr ⟨c,hc,rfl⟩)
    have p1:=(HH he).pos
    show (shr p c).1 * ((B:Int) / (shr p c).2) * cG p c.1 c.2 * EE k c.1 c.2=_
    rw [hx,Int.mul_ediv_cancel_left _ (by omega)]
    generalize shr p c=q at *
    generalize cG p c.1 c.2=w at *
    generalize i4 p c.1 c.2=f at *
    generalize EE k c.1 c.2=z
    have:q.1 * x * w * z=(q.1 * w) * (x * z):=by grind
    rw [this,e]; grind
 exact gen _ λc h=>h
theorem HY {p:List (List Int)} (hp:Pl p) {e:Int×Int} (he:e∈aj p) {α:Type} {fs:List α} (h:fs.length=(T p (0,0)).length):((gr e (T p (0,0)) fs).length:Int)=cG p e.1 e.2:=by
 rw [sR e _ _ h,wF hp he]; rfl
theorem SD {p:List (List Int)} (hp:Pl p) (hl:p.length<=8):∀ q∈(aj p).map (shr p),Sz 9 q:=λq hq=>by
 obtain ⟨e,he,rfl⟩:=ac5.mp hq
 obtain ⟨b,g,ok⟩:=lU hp he
 obtain ⟨f1,f2,_⟩:=kR hp hl
 have hw:cG p e.1 e.2<=256:=by
  rw [<- HY hp he (fs:=T p (0,0)) rfl]
  have:=sQ e (T p (0,0)) (T p (0,0))
  omega
 have hf:0<=i4 p e.1 e.2 /\ i4 p e.1 e.2<=256:=by
  rw [<- CD hp he (n:=0) λu hu=>(f2 u hu).1]
  have:=afY (p:=λw:List Bool=>decide (go (0,0) w=e) && w.getD 0 false) (l:=T p (0,0))
  omega
 have:=ok.pos
 exact oX (by omega) (bY (by omega)) (bY (by omega))
theorem HZ {p:List (List Int)} (hp:Pl p) (hl8:p.length<=8) (eG:∀ r∈p,r.length<=25):j3 [b0 p,dP ((aj p).map (shr p))]=some (([(0,1),(1,1)]:List eA).map dF):=by
 have hl:p.length<=24:=by omega
 have hsh:=SD hp hl8
 have af7:=ends_324 hp hl
 have vm:=D6 hp hl eG ((aj p).map (shr p)) (N:=9) (by rw [acH]) (λq hq=>(hsh q hq).low.1) (λq hq=>(hsh q hq).bot) (by rw [acH]; omega) (λq hq=>aJ (hsh q hq).top (by decide))
 obtain ⟨B,hB⟩:∃ B,B=g9 ((aj p).map (shr p)) 1:=⟨_,rfl⟩
 have hBd:=(yj ((aj p).map (shr p)) 1).2
 have Pf:0 < B:=by rw [hB]; exact oJ _ 1 (by decide) λq hq=>(hsh q hq).ne
 rw [<- hB] at vm hBd
 rw [mq λk _=>yO hp B hBd k] at vm
 have hpt:OY (tab (p.length + 1) λk=>(B:Int) * if k=1 then 1 else 0) B=[(0,1),(1,1)]:=by
  have RG:=PJ hp
  obtain ⟨j,hj⟩:∃ j,p.length + 1=j + 2:=⟨p.length - 1,by omega⟩
  unfold OY tab
  rw [hj,List.range_succ_eq_map,List.range_succ_eq_map]
  simp only [acQ,ady]
  have z0:∀ x:Int,x=0->br x (B:Int)=Qz:=λx hx=>(GP (by omega)).mpr hx
  have e1:br ((B:Int) * 1) (B:Int)=(1,1):=by
   rw [af4]
   exact ((⟨by decide,by decide,by omega⟩:n4 1 1 (B:Int) (B:Int)).qm (by omega)).symm
  have tl:(List.range j).map ((λt=>br t (B:Int)) ∘ (λk:Nat=>(B:Int) * if k=1 then 1 else 0) ∘ Nat.succ ∘ Nat.succ)=List.replicate j Qz:=by
   rw [List.eq_replicate_iff]
   refine ⟨by simp,λz hz=>?_⟩
   obtain ⟨k,_,rfl⟩:=ac5.mp hz
   exact z0 _ (by show (B:Int) * (if k + 1 + 1=1 then 1 else 0)=0; rw [acW (by omega),agn])
  have:(br ((B:Int) * if (0:Nat)=1 then 1 else 0) (B:Int) :: br ((B:Int) * if True then 1 else 0) (B:Int) :: List.replicate j Qz)=[(0,1),(1,1)] ++ List.replicate j Qz:=by
   rw [z0 _ (by simp),acU trivial,e1]; rfl
  rw [tl,this,yk]
  decide
 rw [hpt] at vm
 exact vm
section
variable {p:List (List Int)} (hp:Pl p) (hl:p.length<=8) (eG:∀ r∈p,r.length<=25) {ss:List Int} {Bt:Int×Int->Int} (W:Told p ss Bt)
include hp hl eG W
theorem yP:aI (aP (aW j0 2 (aa (ae 0) (aa (ae 1) af)))) [some (b0 p),some (.list (tell Bt p ss))]=some ((aj p).map λe=>PyData.list ((gr e (T p (0,0)) ss).map λs=>dF (br s (Bt e)))):=by
 have vb:=HU hp (by omega) eG (ds:=tell Bt p ss) (by unfold tell; rw [List.length_map,List.length_zip,W.len,Nat.min_self])
 refine oZ (aN ((be (cons_of rfl (cons_of rfl rfl)) rfl vb).trans ?_))
 congr 1
 refine adY λe _=>?_
 rw [KP W.len]
theorem SE:kG [b0 p,.list (tell Bt p ss)]=some (((aj p).map (shr p)).map dF):=by
 have Sk:=jk (p:=p) (by omega) eG
 rw [Aw]
 refine aT (ret (.list (((aj p).map (shr p)).map dF)) (aN ?_) (.mk rfl rfl))
 refine dY (λe=>PyData.list ((gr e (T p (0,0)) ss).map λs=>dF (br s (Bt e)))) dF (shr p) (aj p) (yP hp hl eG W) (by omega) λe he=>?_
 refine (D9 (W.wL e he) rfl).trans ?_
 obtain ⟨b,g,ok⟩:=lU hp he
 have hB:=(W.wL e he).ne
 have vM:=ok.pos
 rw [W.sum e he,HY hp he W.len]
 unfold shr
 congr 2
 refine gG (adl (by omega) hB) (by omega) ?_
 generalize i4 p e.1 e.2=f
 generalize cG p e.1 e.2=w
 grind
def yQ (p:List (List Int)) (ss:List Int) (Bt:Int×Int->Int) (e:Int×Int):eA:=br (((gr e (T p (0,0)) ss).length:Int) * aR ((gr e (T p (0,0)) ss).map λt=>t * t) - aR (gr e (T p (0,0)) ss) * aR (gr e (T p (0,0)) ss)) (((gr e (T p (0,0)) ss).length:Int) * Bt e * Bt e)
theorem PK:ig [b0 p,.list (tell Bt p ss)]=some (((aj p).map (yQ p ss Bt)).map dF):=by
 have Sk:=jk (p:=p) (by omega) eG
 rw [tY]
 refine aT (ret (.list (((aj p).map (yQ p ss Bt)).map dF)) (aN ?_) (.mk rfl rfl))
 exact dY (λe=>PyData.list ((gr e (T p (0,0)) ss).map λs=>dF (br s (Bt e)))) dF (yQ p ss Bt) (aj p) (yP hp hl eG W) (by omega) λe he=>call_of (cons_of rfl rfl) rfl (Ea (W.wL e he))
end
theorem SF (x:Int):0<=x * x:=by
 rcases Int.le_total 0 x with h | h
 .exact Int.mul_nonneg h h
 .exact Int.mul_nonneg_of_nonpos_of_nonpos h h
theorem H8:∀ ts:List Int,aR ts * aR ts<=(ts.length:Int) * aR (ts.map λt=>t * t)
 | []=>by simp [aR]
 | t :: ts=>by
   have ih:=H8 ts
   have h2:∀ ts:List Int,2 * (t * aR ts)<=aR (ts.map λt=>t * t) + (ts.length:Int) * (t * t):=λts=>by
    induction ts with
    | nil=>simp [aR]
    | cons x ts ih=>
      rw [show aR (x :: ts)=x + aR ts from rfl,acQ,show ∀ (y:Int) (m:List Int),aR (y :: m)=y + aR m from λ_ _=>rfl,ac3]
      have:=SF (x - t)
      push_cast
      grind
   have:=h2 ts
   rw [show aR (t :: ts)=t + aR ts from rfl,acQ,show ∀ (y:Int) (m:List Int),aR (y :: m)=y + aR m from λ_ _=>rfl,ac3]
   push_cast
   grind
end aA
namespace aA
def EF (a b:Int):List Int->List (Int×Int)
 | []=>[(a,b)]
 | x :: r=>if b=x - 1 then EF a x r else (a,b) :: EF x x r
def mI:List Int->List (Int×Int)
 | []=>[]
 | x :: r=>EF x x r
structure Ms (R:List Int) (x y:Int):Prop where
 le:x<=y
 all:∀ z,x<=z->z<=y->z∈R
 no:y + 1∉R
def start (R:List Int) (x:Int):Bool:= !decide (x - 1∈R)
theorem AV {R:List Int}:∀ (rest pre:List Int) (a b:Int),R=pre ++ b :: rest->R.Pairwise (· < ·)->a<=b->(∀ z,a<=z->z<=b->z∈R)->(EF a b rest).map Prod.fst=a :: rest.filter (start R) /\ ∀ e∈EF a b rest,Ms R e.1 e.2
 | [],pre,a,b,hR,hr,BZ,C7=>by
   refine ⟨rfl,λe he=>?_⟩
   rw [adm.mp he]
   refine ⟨BZ,C7,λz=>?_⟩
   show False
   rw [hR] at z hr
   rw [afj] at hr
   rcases adh.mp z with q | q
   .have:=hr.2.2 _ q b acR
    simp only at this; omega
   .have:=adm.mp q
    simp only at this; omega
 | x :: rest,pre,a,b,hR,hr,BZ,C7=>by
   have hR':R=(pre ++ [b]) ++ x :: rest:=by rw [hR]; simp
   have TZ:=hr
   rw [hR,afj] at TZ
   have hbx:b < x:=(adD.mp TZ.2.1).1 x acR
   have hxR:x∈R:=by rw [hR]; simp
   have hbR:b∈R:=by rw [hR]; simp
   have btw:∀ z,b < z->z < x->z∉R:=by
    intro z h1 h2 hz
    rw [hR] at hz
    rcases adh.mp hz with q | q
    .have:=TZ.2.2 _ q b acR; omega
    .rcases acK.mp q with q | q
     .omega
     .rcases acK.mp q with q | q
      .omega
      .have:=(adD.mp (adD.mp TZ.2.1).2).1 z q; omega
   rw [EF]
   by_cases hx:b=x - 1
   .rw [acU hx]
    obtain ⟨h1,h2⟩:=AV rest (pre ++ [b]) a x hR' hr (by omega) (λz z1 z2=>by
     by_cases hz:z=x
     .rw [hz]; exact hxR
     .exact C7 z z1 (by omega))
    refine ⟨?_,h2⟩
    rw [h1,afG]
    unfold start
    rw [<- hx,ac2 hbR]; decide
   .rw [acW hx]
    obtain ⟨h1,h2⟩:=AV rest (pre ++ [b]) x x hR' hr (by omega) (λz z1 z2=>by
     have:z=x:=by omega
     rw [this]; exact hxR)
    refine ⟨?_,λe he=>?_⟩
    .rw [acQ,h1,afH]
     unfold start
     rw [acZ (btw (x - 1) (by omega) (by omega))]; rfl
    .rcases acK.mp he with q | q
     .rw [q]
      exact ⟨BZ,C7,λz=>by
       by_cases h3:b + 1=x
       .omega
       .exact btw (b + 1) (by omega) (by omega) z⟩
     .exact h2 e q
theorem KW {R:List Int} (hr:R.Pairwise (· < ·)):(mI R).map Prod.fst=R.filter (start R) /\ ∀ e∈mI R,Ms R e.1 e.2:=by
 cases R with
 | nil=>exact ⟨rfl,λe he=>by simp [mI] at he⟩
 | cons x r=>
   obtain ⟨h1,h2⟩:=AV (R:=x :: r) r [] x x rfl hr (by omega) (λz z1 z2=>by
    have:z=x:=by omega
    rw [this]; exact acR)
   refine ⟨?_,h2⟩
   show (EF x x r).map Prod.fst=_
   rw [h1,afH]
   unfold start
   rw [acZ]
   .rfl
   .intro z
    rcases acK.mp z with q | q
    .omega
    .have:=(adD.mp hr).1 _ q
     omega
end aA
namespace aA
open PySem L2 Q1
theorem u9 {r:List Int} (hr:lT r):(led r).length=r.length + (mI r).length:=by
 have nd:(led r).Nodup:=gK fi
 have hn:=gK hr
 have VQ:(r.map (· + 1) ++ r.filter (start r)).Nodup:=by
  rw [aeS]
  refine ⟨?_,hn.sublist aft,?_⟩
  .exact agJ.mpr (hn.imp λh e=>h (by omega))
  .rintro a ha b hb rfl
   obtain ⟨x,hx,rfl⟩:=ac5.mp ha
   have:=(adU.mp hb).2
   unfold start at this
   rw [show x + 1 - 1=x by omega,ac2 hx] at this
   exact absurd this (by decide)
 have pm:List.Perm (led r) (r.map (· + 1) ++ r.filter (start r)):=(afk nd VQ).mpr λz=>by
  rw [gJ,adh,ac5,adU]
  unfold start
  constructor
  .intro h
   by_cases q:z - 1∈r
   .exact .inl ⟨z - 1,q,by omega⟩
   .refine .inr ⟨h.resolve_right q,by rw [acZ q]; rfl⟩
  .rintro (⟨x,hx,rfl⟩ | ⟨h,_⟩)
   .exact .inr (by rw [show x + 1 - 1=x by omega]; exact hx)
   .exact .inl h
 rw [pm.length_eq,ac7,acH,<- (KW hr).1,acH]
theorem qu {α:Type} (P:α->Bool):∀ l:List α,(l.filter P).length + (l.filter λx=> !P x).length=l.length
 | []=>rfl
 | a :: l=>by
   have:=qu P l
   rw [adH,adH]
   cases P a <;> simp <;> omega
theorem Ec {l s:List Int} (hl:l.Nodup) (hs:s.Nodup) (h:∀ x∈s,x∈l):(l.filter λx=> !decide (x∈s)).length + s.length=l.length:=by
 have pm:List.Perm (l.filter λx=>decide (x∈s)) s:=(afk (hl.sublist aft) hs).mpr λz=>by
  rw [adU,adt]
  exact ⟨λq=>q.2,λq=>⟨h z q,q⟩⟩
 have:=qu (λx=>decide (x∈s)) l
 rw [pm.length_eq] at this
 omega
theorem yR {p:List (List Int)}:∀ (q:List (List Int)) (r:List Int) (n:Nat),(∀ j,p.getD (n + j) []=(r :: q).getD j [])->Ha r q->lT r->((bf (n + 1) ((r :: q).map led)).filter λc=> !ik p c).length=r.length + ((r :: q).map λs=>(mI s).length).sum
 | q,r,n,hg,hc,hr=>by
   have WC:((jJ (n + 1) (led r)).filter λc=> !ik p c).length=((led r).filter λx=> !decide (x∈p.getD (n + 1) [])).length:=by
    unfold jJ
    rw [List.filter_map,acH]
    congr 2
    funext b
    show (!ik p (b,((n + 1:Nat):Int) - b))=_
    rw [pU]
   have e1:=hg 1
   have nd:(led r).Nodup:=gK fi
   have lc:=u9 hr
   rw [acQ,bf,afb,ac7,WC,e1,acQ,List.sum_cons]
   cases q with
   | nil=>
     have e0:((led r).filter λx=> !decide (x∈([]:List Int)))=led r:=ae1.mpr λx _=>by simp
     rw [show ([r]:List (List Int)).getD 1 []=[] from rfl,e0]
     simp only [afM,bf,List.filter_nil,aej,List.sum_nil]
     omega
   | cons s q=>
     have hs:=hc.1
     have:=Ec nd (s:=s) (gK hs.2.1) hs.2.2
     have ih:=yR (p:=p) q s (n + 1) (λj=>by rw [show n + 1 + j=n + (j + 1) by omega,hg (j + 1)]; rfl) hc.2 hs.2.1
     rw [show (r :: s :: q).getD 1 []=s from rfl]
     rw [ih]
     omega
theorem Ed {p:List (List Int)} (hp:Pl p):(aj p).length=1 + (p.map λs=>(mI s).length).sum:=by
 rw [jv hp]
 obtain ⟨q,rfl,hc⟩:=hp.ex
 exact yR q [0] 0 (λj=>by rw [Nat.zero_add]) hc (by unfold lT; simp)
theorem KY {p:List (List Int)} (hp:Pl p):∀ r∈p,lT r:=by
 obtain ⟨q,rfl,hc⟩:=hp.ex
 have:∀ {q:List (List Int)} {r:List Int},Ha r q->∀ s∈q,lT s:=by
  intro q
  induction q with
  | nil=>intro r _ s hs; simp at hs
  | cons t q ih=>
    intro r hc s hs
    rcases acK.mp hs with z | z
    .rw [z]; exact hc.1.2.1
    .exact ih hc.2 s z
 intro r hr
 rcases acK.mp hr with z | z
 .rw [z]; unfold lT; simp
 .exact this hc r z
theorem wM:∀ (r:List Int) (a b:Int),(EF a b r).length<=r.length + 1
 | [],a,b=>by simp [EF]
 | x :: r,a,b=>by
   have h1:=wM r a x
   have h2:=wM r x x
   rw [EF]; split <;> simp only [ac3] <;> omega
theorem Ia (r:List Int):(mI r).length<=r.length:=by
 cases r with
 | nil=>simp [mI]
 | cons x r=>exact wM r x x
theorem CK {f:List Int->Nat}:∀ (q:List (List Int)) (k:Nat),(∀ j,j < q.length->2 * f (q.getD j [])<=k + j + 2)->4 * (q.map f).sum<=q.length * (2 * k + q.length + 3)
 | [],k,_=>by simp
 | r :: q,k,h=>by
   have h0:2 * f r<=k + 0 + 2:=h 0 (by simp)
   have ih:=CK (f:=f) q (k + 1) λj hj=>by
    have:2 * f (q.getD j [])<=k + (j + 1) + 2:=h (j + 1) (by simpa using hj)
    omega
   rw [acQ,List.sum_cons,ac3]
   have e:(q.length + 1) * (2 * k + (q.length + 1) + 3)=q.length * (2 * (k + 1) + q.length + 3) + (2 * k + 4):=by grind
   omega
theorem AW {p:List (List Int)} (hp:Pl p):4 * (aj p).length<=p.length * (p.length + 3) + 4:=by
 rw [Ed hp]
 have:=CK (f:=λs=>(mI s).length) p 0 λj hj=>by
  have hr:lT (p.getD j []):=KY hp _ (by rw [acS,acL hj]; exact aeG hj)
  have h1:=u9 hr
  have h2:=yN hp j
  have h3:=Ia (p.getD j [])
  omega
 rw [Nat.mul_zero,aeh] at this
 omega
theorem Ee {ge:DS->Option D} {x0 x2:Option D} {acc:List (Int×Int)} {c v:Int×Int} (h:ge [x0,some (.list ((acc ++ [c]).map dC)),x2]=some (dC v)):ki 1 (g1 kh (gC (.int (1)))) ge [x0,some (.list ((acc ++ [c]).map dC)),x2]=some (.nx [x0,some (.list ((acc ++ [v]).map dC)),x2]):=by
 unfold ki
 rw [h]
 have e:xp ((acc ++ [c]).map dC).length (-1)=some acc.length:=by
  unfold xp
  simp
  omega
 show (xp ((acc ++ [c]).map dC).length (-1)).bind _=_
 rw [e,acJ]
 have e2:((acc ++ [c]).map dC).set acc.length (dC v)=(acc ++ [v]).map dC:=by
  rw [ade,ade,List.set_append_right _ _ (by simp)]
  simp
 rw [e2]
 rfl
theorem yS {dr:D} (r:List Int) (hi:aI (ae 0) [some dr,some (.list []),none]=some (r.map .int)) (hn:r.length<=1000):ir [dr]=some ((mI r).map dC):=by
 rw [yr]
 refine aT ?_
 refine aE [some dr,some (.list []),none] rfl ?_
 refine fO PyData.int r (λi δ=>∃ x,(i=0 /\ δ=[some dr,some (.list []),x]) \/ (0 < i /\ ∃ acc a b,δ=[some dr,some (.list ((acc ++ [(a,b)]).map dC)),x] /\ acc.length < i /\ acc ++ EF a b (r.drop i)=mI r)) hi ⟨none,.inl ⟨rfl,rfl⟩⟩ ?_ ?_
 .rintro i y δ hi ⟨x,⟨rfl,rfl⟩ | ⟨h0,acc,a,b,rfl,hal,hs⟩⟩
  .refine ⟨_,[some dr,some (.list [dC (y,y)]),some (.int y)],rfl,?_,some (.int y),.inr ⟨by omega,[],y,y,rfl,by simp,?_⟩⟩
   .refine ji false ?_ (λz=>nomatch z) λ_=>(iI (d:=dC (y,y)) rfl rfl (by simp)).trans rfl
    rfl
   .cases r with
    | nil=>simp at hi
    | cons z r=>simp at hi; subst hi; rfl
  .have IS:=(acN.mp hi).1
   have hd:r.drop i=y :: r.drop (i + 1):=by
    rw [ael IS]
    congr 1
    rw [acL IS] at hi
    exact adp hi
   rw [hd,EF] at hs
   have Mt:o7 ((acc ++ [(a,b)]).map dC) (-1)=some (dC (a,b)):=Ci (by simp)
   have SG:∀ δ:DS,g1 kh (gC (.int (1))) δ=some (.int (-1)):=λ_=>rfl
   have hc:jA (gB (g2 uE (cM bL (aa (ae 1) af)) (gC (.int (0))))) (gB (g2 md (g2 bC (g2 bC (ae 1) (g1 kh (gC (.int (1))))) (gC (.int (1)))) (g2 g6 (ae 2) (gC (.int (1)))))) [some dr,some (.list ((acc ++ [(a,b)]).map dC)),some (.int y)]=some (decide (b=y - 1)):=by
    refine Ao (cL (ak (eF (cons_of rfl rfl) (fE _)) rfl ?_)) (cL (ak (ak (ak rfl (SG _) Mt) rfl R8) (ak rfl rfl rfl) (v7 _ _)))
    show some (PyData.bool (decide ((0:Int) < (((acc ++ [(a,b)]).map dC).length:Nat))))=_
    rw [ac2 (by rw [acH,ac7,adI]; omega)]
   by_cases hb:b=y - 1
   .rw [acU hb] at hs
    refine ⟨_,[some dr,some (.list ((acc ++ [(a,y)]).map dC)),some (.int y)],rfl,?_,some (.int y),.inr ⟨by omega,acc,a,y,rfl,by omega,hs⟩⟩
    refine ji true (hc.trans (by rw [ac2 hb])) (λ_=>?_) λz=>nomatch z
    have ht:aS (aa (g2 bC (g2 bC (ae 1) (g1 kh (gC (.int (1))))) (gC (.int (0)))) (aa (ae 2) af)) [some dr,some (.list ((acc ++ [(a,b)]).map dC)),some (.int y)]=some (dC (a,y)):=kO (ak (ak rfl (SG _) Mt) rfl O0) rfl
    exact Ee ht
   .rw [acW hb] at hs
    refine ⟨_,[some dr,some (.list ((acc ++ [(a,b)] ++ [(y,y)]).map dC)),some (.int y)],rfl,?_,some (.int y),.inr ⟨by omega,acc ++ [(a,b)],y,y,rfl,by simp; omega,by rw [aew]; exact hs⟩⟩
    refine ji false (hc.trans (by rw [acZ hb])) (λz=>nomatch z) λ_=>(iI (d:=dC (y,y)) rfl rfl (by simp; omega)).trans ?_
    rw [ade (l₂:=[(y,y)])]
    rfl
 .rintro δ' ⟨x,⟨h0,rfl⟩ | ⟨h0,acc,a,b,rfl,hal,hs⟩⟩
  .have:r=[]:=List.eq_nil_of_length_eq_zero h0
   subst this
   exact ret (.list []) rfl (.mk rfl rfl)
  .rw [afm] at hs
   have qC:acc ++ [(a,b)]=mI r:=hs
   rw [qC]
   exact ret (.list ((mI r).map dC)) rfl (.mk rfl rfl)
theorem KZ {m n:Nat} {a b:eA} (ha:Sz m a) (hb:Sz n b):Sz (m + n + 1) (oH a b):=by
 unfold oH
 refine oX (adl ha.ne hb.ne) ?_ ?_
 .exact GV (dn ha.top hb.bot) (aJ (dn hb.top ha.bot) (by omega))
 .exact aJ (dn ha.bot hb.bot) (by omega)
theorem wN {m n:Nat} {a b:eA} (ha:Sz m a) (hb:Sz n b):Sz (m + n) (jD a b):=oX (adl ha.ne hb.ne) (dn ha.top hb.top) (dn ha.bot hb.bot)
theorem Ib {i:Nat} {gx ge:DS->Option D} {δ:DS} {ds:List D} {k:Nat} {d:D} (h1:ge δ=some d) (h2:ae i δ=some (.list ds)) (h3:gx δ=some (.int (k:Nat))) (hk:k < ds.length):ki i gx ge δ=some (.nx (δ.set i (some (.list (ds.set k d))))):=by
 unfold ki
 rw [h1,h2,h3]
 show (xp ds.length (k:Int)).bind _=_
 rw [Mn hk]; rfl
def Ef (m:Nat) (l:List eA):Prop:=∀ q∈l,Sz m q
theorem Ic {p:List (List Int)} (hp:Pl p) (hl:p.length<=8) (eG:∀ r∈p,r.length<=25) {ws:List eA} (hw:ws.length=(aj p).length) (h30:(aj p).length<=28) (hs:Ef 112 ws):∃ zs:List eA,fk [.list (ws.map dF),.list ((aj p).map dC)]=some (zs.map dF):=by
 suffices key:hJ (fk [.list (ws.map dF),.list ((aj p).map dC)]) λr=>∃ zs:List eA,r=zs.map dF by
  obtain ⟨_,e,zs,rfl⟩:=key
  exact ⟨zs,e⟩
 rw [wm]
 refine aE [some (.list (ws.map dF)),some (.list ((aj p).map dC)),some (.list []),none,none,none,none] rfl ?_
 refine fO (λx:eA×(Int×Int)=>PyData.tuple [dF x.1,dC x.2]) (ws.zip (aj p)) (λi δ=>∃ (zs:List eA) (a b c d:Option D),δ=[some (.list (ws.map dF)),some (.list ((aj p).map dC)),some (.list (zs.map dF)),a,b,c,d] /\ zs.length<=20 /\ Ef (1 + 125 * i) zs) ((sJ rfl rfl).trans (by rw [mD])) ⟨[],none,none,none,none,rfl,by decide,λq hq=>by simp at hq⟩ ?_ ?_
 .rintro i ⟨w,e⟩ δ hx ⟨zs,a,b,c,d,rfl,WD,hz⟩
  have hm:=adk hx
  have hwm:w∈ws:=(ad5 hm).1
  have hem:e∈aj p:=(ad5 hm).2
  have hi:i < 28:=by
   have:=(acN.mp hx).1
   rw [aeN] at this
   omega
  obtain ⟨bb,g,ok⟩:=lU hp hem
  have hd:=ok.dr
  have eC:dC e=.tuple [.int (bb:Nat),.int (g:Nat)]:=by rw [ok.eq]; rfl
  have vp:=yE bb g (by omega) (by omega)
  obtain ⟨sp,Ez⟩:∃ sp,sp=oY bb g:=⟨_,rfl⟩
  have agc:sp.length=bb + g + 1:=by rw [Ez]; exact sG bb g
  have WE:∀ t∈sp,bt t<=9:=λt ht=>by rw [Ez] at ht; exact aJ (Cv ht) (by omega)
  have vp:iu [.int (bb:Nat),.int (g:Nat)]=some (sp.map .int):=by rw [Ez]; exact vp
  have wh:∃ mJ:List eA,mJ.length<=20 /\ sp.length<=mJ.length /\ Ef (1 + 125 * i) mJ /\ eS (gB (g2 ql (cM bL (aa (ae 2) af)) (cM bL (aa (ae 5) af)))) (lg 2 (aS (aa (gC (.int (0))) (aa (gC (.int (1))) af)))) [some (.list (ws.map dF)),some (.list ((aj p).map dC)),some (.list (zs.map dF)),some (dF w),some (dC e),some (.list (sp.map .int)),d]
    =some (.nx [some (.list (ws.map dF)),some (.list ((aj p).map dC)),some (.list (mJ.map dF)),some (dF w),some (dC e),some (.list (sp.map .int)),d]):=by
   obtain ⟨δ',e',mJ,z1,z2,z3,rfl⟩:∃ δ',eS (gB (g2 ql (cM bL (aa (ae 2) af)) (cM bL (aa (ae 5) af)))) (lg 2 (aS (aa (gC (.int (0))) (aa (gC (.int (1))) af)))) [some (.list (ws.map dF)),some (.list ((aj p).map dC)),some (.list (zs.map dF)),some (dF w),some (dC e),some (.list (sp.map .int)),d]=some (.nx δ') /\ ∃ mJ:List eA,mJ.length<=20 /\ sp.length<=mJ.length /\ Ef (1 + 125 * i) mJ /\ δ'=[some (.list (ws.map dF)),some (.list ((aj p).map dC)),some (.list (mJ.map dF)),some (dF w),some (dC e),some (.list (sp.map .int)),d]:=by
    refine so (λm δ=>∃ mJ:List eA,mJ.length<=20 /\ Ef (1 + 125 * i) mJ /\ m=sp.length - mJ.length /\ δ=[some (.list (ws.map dF)),some (.list ((aj p).map dC)),some (.list (mJ.map dF)),some (dF w),some (dC e),some (.list (sp.map .int)),d]) _ (sp.length - zs.length) ⟨zs,WD,hz,rfl,rfl⟩ ?_
    rintro m δ ⟨mJ,q1,q2,rfl,rfl⟩
    have T1:gB (g2 ql (cM bL (aa (ae 2) af)) (cM bL (aa (ae 5) af))) [some (.list (ws.map dF)),some (.list ((aj p).map dC)),some (.list (mJ.map dF)),some (dF w),some (dC e),some (.list (sp.map .int)),d]=some (decide (mJ.length < sp.length)):=by
     refine cL (ak (eF (cons_of rfl rfl) rfl) (eF (cons_of rfl rfl) rfl) ?_)
     show some (PyData.bool (decide (((mJ.map dF).length:Int) < ((sp.map PyData.int).length:Int))))=_
     rw [acH,acH,decide_eq_decide.mpr (show ((mJ.length:Nat):Int) < ((sp.length:Nat):Int)↔mJ.length < sp.length by omega)]
    by_cases q:mJ.length < sp.length
    .rw [ac2 q] at T1
     refine .inr ⟨T1,_,sp.length - (mJ ++ [((0,1):eA)]).length,iI rfl (u6 rfl rfl) (by rw [acH]; omega),by rw [ac7]; show sp.length - (mJ.length + 1) < _; omega,mJ ++ [((0,1):eA)],by rw [ac7]; show mJ.length + 1<=20; omega,λr hr=>?_,rfl,by rw [ade]; rfl⟩
     rcases adh.mp hr with y | y
     .exact q2 r y
     .rw [adm.mp y]
      exact ⟨⟨by decide,by decide⟩,aJ (bY (m:=1) (by decide)) (by omega),aJ (bY (m:=1) (by decide)) (by omega)⟩
    .rw [acZ q] at T1
     exact .inl ⟨T1,mJ,q1,by omega,q2,rfl⟩
   exact ⟨mJ,z1,z2,z3,e'⟩
  obtain ⟨mJ,z1,z2,z3,ew⟩:=wh
  have inner:∃ (va:List eA) (y:Option D),va.length<=20 /\ Ef (1 + 125 * (i + 1)) va /\ eT (fN (aa (cM bL (aa (ae 5) af)) af)) (au 6) (ki 2 (ae 6) (az bJ 2 (aa (g2 bC (ae 2) (ae 6)) (aa (az bK 2 (aa (ae 3) (aa (aS (aa (g2 bC (ae 5) (ae 6)) (aa (gC (.int (1))) af))) af))) af)))) [some (.list (ws.map dF)),some (.list ((aj p).map dC)),some (.list (mJ.map dF)),some (dF w),some (dC e),some (.list (sp.map .int)),d]
    =some (.nx [some (.list (ws.map dF)),some (.list ((aj p).map dC)),some (.list (va.map dF)),some (dF w),some (dC e),some (.list (sp.map .int)),y]):=by
   obtain ⟨δ',e',va,y,y1,y2,rfl⟩:=yn (t:=au 6) (b:=ki 2 (ae 6) (az bJ 2 (aa (g2 bC (ae 2) (ae 6)) (aa (az bK 2 (aa (ae 3) (aa (aS (aa (g2 bC (ae 5) (ae 6)) (aa (gC (.int (1))) af))) af))) af)))) (lo:=0) (n:=sp.length)
    (λk δ=>∃ (va:List eA) (y:Option D),va.length=mJ.length /\ ((∀ j q,va[j]?=some q->Sz (1 + 125 * (i + 1)) q) /\ ∀ j q,k<=j->va[j]?=some q->Sz (1 + 125 * i) q) /\ δ=[some (.list (ws.map dF)),some (.list ((aj p).map dC)),some (.list (va.map dF)),some (dF w),some (dC e),some (.list (sp.map .int)),y])
    (δ:=[some (.list (ws.map dF)),some (.list ((aj p).map dC)),some (.list (mJ.map dF)),some (dF w),some (dC e),some (.list (sp.map .int)),d]) ⟨mJ,d,rfl,⟨λj q h=>(z3 q (adk h)).up (by omega),λj q _ h=>z3 q (adk h)⟩,rfl⟩ (by
    rintro k δ hk ⟨va,y,y1,⟨y2,y3⟩,rfl⟩
    rw [ahc]
    have xX:k < va.length:=by omega
    have hkq:=y3 k va[k] (ac1 k) (acL xX)
    have TU:=WE sp[k] (aeG hk)
    have szc:Sz 9 ((sp[k],1):eA):=⟨⟨Int.le_refl 1,by show Int.gcd _ 1=1; exact agN _⟩,TU,aJ (bY (m:=1) (by show (1:Int).natAbs < 2 ^ 1; decide)) (by decide)⟩
    have vt:=gN w (sp[k],1) ((hs w hwm).up (by decide)) (szc.up (by decide))
    have szt:=wN (hs w hwm) szc
    have vq:=gn va[k] _ (hkq.up (by omega)) (szt.up (by decide))
    have szq:=KZ hkq szt
    refine ⟨_,_,rfl,Ib (d:=dF (oH va[k] (jD w (sp[k],1)))) ?_ rfl rfl (by rw [acH]; exact xX),va.set k (oH va[k] (jD w (sp[k],1))),some (.int (k:Nat)),by rw [adJ]; exact y1,⟨λj q h=>?_,λj q hj h=>?_⟩,by rw [List.map_set]; rfl⟩
    .exact call_of (cons_of (ak rfl rfl (iR (by rw [adb,acL xX]; rfl))) (cons_of (call_of (cons_of rfl (cons_of (u6 (ak rfl rfl (iR (by rw [adb,acL hk]; rfl))) rfl) rfl)) rfl vt) rfl)) rfl vq
    .by_cases z:k=j
     .subst z
      rw [adx xX] at h
      cases h
      exact szq.up (by omega)
     .rw [adg z] at h
      exact y2 j q h
    .rw [adg (by omega)] at h
     exact y3 j q (by omega) h)
   refine ⟨va,y,by omega,λq hq=>?_,?_⟩
   .obtain ⟨j,hj,ej⟩:=aeA hq
    exact y2.1 j q (by rw [acL hj,ej])
   .unfold eT
    rw [hV (n:=sp.length) (cons_of (eF (cons_of rfl rfl) (by show some (PyData.int _)=_; rw [acH])) rfl) (by omega)]
    exact e'
  obtain ⟨va,y,w1,w2,ei⟩:=inner
  refine ⟨[some (.list (ws.map dF)),some (.list ((aj p).map dC)),some (.list (zs.map dF)),some (dF w),some (dC e),c,d],[some (.list (ws.map dF)),some (.list ((aj p).map dC)),some (.list (va.map dF)),some (dF w),some (dC e),some (.list (sp.map .int)),y],rfl,?_,va,_,_,_,_,rfl,w1,w2⟩
  refine bO [some (.list (ws.map dF)),some (.list ((aj p).map dC)),some (.list (zs.map dF)),some (dF w),some (dC e),some (.list (sp.map .int)),d] (aK (aN (be (cons_of (ak rfl rfl (by rw [eC]; rfl)) (cons_of (ak rfl rfl (by rw [eC]; rfl)) rfl)) rfl vp))) ?_
  exact bO _ ew ei
 .rintro δ' ⟨zs,a,b,c,d,rfl,_,_⟩
  exact ret (.list (zs.map dF)) rfl (.mk rfl ⟨zs,rfl⟩)
theorem wO:∀ l:List eA,vJ (l.map dF)=true
 | []=>rfl
 | q :: l=>by
   have:=wO l
   simp [vJ,Qe,dF] at this ⊢
   exact this
theorem PL {p:List (List Int)} (hl:p.length<=24) (eG:∀ r∈p,r.length<=25):∃ b,eO [b0 p]=some (.bool b):=by
 have c:cD (aI (ae 0)) [] (g2 md (cM bL (aa (aP (aW ir 1 (aa (ae 0) af))) af)) (gC (.int (1)))) [some (b0 p)]=some ((p.map λr=>decide (((mI r).length:Int)=1)).map .bool):=
  dY dR PyData.bool (λr:List Int=>decide (((mI r).length:Int)=1)) p rfl (by omega) λr hr=>by
   refine ak (eF (cons_of (aN (be (cons_of rfl rfl) rfl (yS (dr:=dR r) r rfl (by have:=eG r hr; omega)))) rfl) (fE _)) rfl ?_
   rw [acH]
   exact v7 _ _
 refine ⟨(p.map λr=>decide (((mI r).length:Int)=1)).all id,?_⟩
 rw [oR]
 refine aT (ret _ (eF (cons_of (aN c) rfl) ?_) (.mk rfl rfl))
 show (kq _).map _=_
 rw [se]; rfl
theorem Ie {α:Type} (f g:α->D):∀ l:List α,oD (l.map f) (l.map g)=l.map λx=>.tuple [f x,g x]:=λl=>by
 rw [mD]
 induction l with
 | nil=>rfl
 | cons a l ih=>rw [adL,acQ,acQ,ih]
def EG (p:List (List Int)) (ss:List Int) (Bt:Int×Int->Int) (e:Int×Int):eA:=br (aR ((gr e (T p (0,0)) ss).map λt=>t * t)) (Bt e * Bt e)
section
variable {p:List (List Int)} (hp:Pl p) (hl:p.length<=8) (eG:∀ r∈p,r.length<=25) {ss:List Int} {Bt:Int×Int->Int} (W:Told p ss Bt) {e:Int×Int} (he:e∈aj p)
include hp hl eG W he
theorem K2:shr p e=br (aR (gr e (T p (0,0)) ss)) (((gr e (T p (0,0)) ss).length:Int) * Bt e):=by
 obtain ⟨b,g,ok⟩:=lU hp he
 have hB:=(W.wL e he).ne
 have vM:=ok.pos
 rw [W.sum e he,HY hp he W.len]
 unfold shr
 refine gG (by omega) (adl (by omega) hB) ?_
 generalize i4 p e.1 e.2=f
 generalize cG p e.1 e.2=w
 grind
theorem K3:oH (jD (jD (shr p e) (shr p e)) (((gr e (T p (0,0)) ss).length:Int),1)) (yQ p ss Bt e)=EG p ss Bt e:=by
 have M:=W.wL e he
 have hB:=M.ne
 have hN:=nb M.pos hB
 have e1:((((gr e (T p (0,0)) ss).length:Int),1):eA)=br ((gr e (T p (0,0)) ss).length:Int) 1:=n4.qm ⟨by decide,agN _,by omega⟩ (by decide)
 have Wq:=adl (adl hN hN) (show (1:Int)≠0 by decide)
 have hL:((gr e (T p (0,0)) ss).length:Int) * Bt e * Bt e≠0:=adl hN hB
 rw [K2 hp hl eG W he,e1,oN hN hN,oN (adl hN hN) (by decide)]
 unfold yQ EG
 rw [oO Wq hL]
 refine gG (adl Wq hL) (adl hB hB) ?_
 generalize ((gr e (T p (0,0)) ss).length:Int)=n
 generalize aR ((gr e (T p (0,0)) ss).map λt=>t * t)=Q
 generalize aR (gr e (T p (0,0)) ss)=S
 generalize Bt e=B
 grind
theorem Mu:Sz 4000 (yQ p ss Bt e):=by
 have M:=W.wL e he
 have hB:=M.ne
 have hN:=nb M.pos hB
 have T2:bt ((gr e (T p (0,0)) ss).length:Int)<=12:=bY (by have:=M.vH; show (((gr e (T p (0,0)) ss).length:Nat):Int).natAbs < 2 ^ 12; omega)
 have q1:=dn T2 M.sq
 have q2:=dn M.sum M.sum
 have q3:=dn (dn T2 (KO M.lo M.hi)) (KO M.lo M.hi)
 unfold yQ
 refine (oX (m:=200) (adl hN hB) ?_ (aJ q3 (by decide))).up (by decide)
 rw [Int.sub_eq_add_neg]
 exact aJ (GV q1 (aJ (GW q2) (by decide))) (by decide)
theorem SH:0<=(yQ p ss Bt e).1 /\ 1<=(yQ p ss Bt e).2:=by
 have M:=W.wL e he
 have Tt:=(Mu hp hl eG W he).low.1
 refine ⟨?_,Tt⟩
 have hB:=M.ne
 have hN:=nb M.pos hB
 have hL:((gr e (T p (0,0)) ss).length:Int) * Bt e * Bt e≠0:=adl hN hB
 have hLp:0 < ((gr e (T p (0,0)) ss).length:Int) * Bt e * Bt e:=by
  have:=M.lo
  have:=M.pos
  exact ae7 (ae7 (by omega) (by omega)) (by omega)
 have eq:=(c5 (t:=((gr e (T p (0,0)) ss).length:Int) * aR ((gr e (T p (0,0)) ss).map λt=>t * t) - aR (gr e (T p (0,0)) ss) * aR (gr e (T p (0,0)) ss)) hL).eq
 have hs:=H8 (gr e (T p (0,0)) ss)
 unfold yQ at Tt ⊢
 generalize br _ _=q at *
 generalize ((gr e (T p (0,0)) ss).length:Int) * Bt e * Bt e=L at *
 have h0:0<=q.1 * L:=by
  rw [eq]
  exact Int.mul_nonneg (by omega) (by omega)
 rcases Int.le_total 0 q.1 with h | h
 .exact h
 .have:q.1 * L<=0:=Int.mul_nonpos_of_nonpos_of_nonneg h (by omega)
  have h2:q.1 * L=0:=by omega
  rcases Int.mul_eq_zero.mp h2 with h3 | h3 <;> omega
theorem SI:Sz 112 (EG p ss Bt e):=by
 have M:=W.wL e he
 exact oX (adl M.ne M.ne) (aJ M.sq (by decide)) (aJ M.bb (by decide))
end
abbrev xt (S:D) (p:List (List Int)) (ss:List Int) (Bt:Int×Int->Int) (xs ys:List eA) (x9 Bv xo tH ra pZ:Option D):DS:=sT S (b0 p) (.list ((T p (0,0)).map dW)) (some (.list ((aj p).map dC))) (some (.list (tell Bt p ss))) (some (.list (((aj p).map (shr p)).map dF))) (some (.list (((aj p).map (yQ p ss Bt)).map dF))) (some (.list (xs.map dF))) (some (.list (ys.map dF))) x9 Bv xo tH ra pZ
abbrev WG:DS->Option Res:=
   (av (aQ 11 (aP (bU (kr (ae 4) (ae 2)) 2 [10] (cW 2 (aO (au 0) (aO (au 1) cY))) (gB (g2 md (g2 bC (ae 1) (gC (.int (1)))) (ae 2))) (ae 0))))
  (av (j8 (FC (qB (mV (zR "tuple" (g2 bC (ae 6) (ae 9))))) (FC (qB (mV (az iw 1 (aa (g2 bC (g2 bC (ae 6) (ae 9)) (gC (.int (0)))) af)))) (FC (gB (g2 ql (g2 bC (g2 bC (ae 6) (ae 9)) (gC (.int (0)))) (gC (.int (0))))) (gB (g2 ql (g2 bC (g2 bC (ae 6) (ae 9)) (gC (.int (1)))) (gC (.int (1)))))))) (bT (gC (.bool false))) cN)
  (av (aQ 12 (aS (aa (gC (.int (0))) (aa (gC (.int (1))) af))))
  (av (eT (aI (ae 11)) (au 13)
   (aQ 12 (az bJ 2 (aa (ae 12) (aa (az bK 2 (aa (ae 13) (aa (ae 13) af))) af)))))
  (av (lg 7 (ae 12))
  (av (aQ 14 (az bK 2 (aa (az bK 2 (aa (g2 bC (ae 5) (ae 9)) (aa (g2 bC (ae 5) (ae 9)) af))) (aa (aS (aa (cM bL (aa (ae 11) af)) (aa (gC (.int (1))) af))) af))))
  (lg 8 (az bJ 2 (aa (ae 14) (aa (g2 bC (ae 6) (ae 9)) af))))))))))
theorem K4 {p:List (List Int)} (hp:Pl p) (hl:p.length<=8) (eG:∀ r∈p,r.length<=25) {ss:List Int} {Bt:Int×Int->Int} (W:Told p ss Bt) {e:Int×Int} (S:D) {xs ys:List eA} {i:Nat} (hi:(aj p)[i]?=some e) (hx:xs.length<=1000) (hy:ys.length<=1000) (xo tH ra pZ:Option D):∃ WH WI K5 WJ,WG (xt S p ss Bt xs ys (some (.int (i:Nat))) (some (dC e)) xo tH ra pZ)=some (.nx (xt S p ss Bt (xs ++ [EG p ss Bt e]) (ys ++ [EG p ss Bt e]) (some (.int (i:Nat))) (some (dC e)) WH WI K5 WJ)):=by
 have he:=adk hi
 have M:=W.wL e he
 have hB:=M.ne
 have HX:=adl hB hB
 have bB:=KO M.lo M.hi
 have f1:=(kR hp hl).1
 have hW:(T p (0,0)).map dW=((T p (0,0)).zip ss).map λx=>dW x.1:=by
  rw [show (λx:List Bool×Int=>dW x.1)=dW ∘ Prod.fst from rfl,<- List.map_map,List.map_fst_zip (by have:=W.len; omega)]
 have T3:=pY (gi:=kr (ae 4) (ae 2)) (ix:=[10]) (gc:=gB (g2 md (g2 bC (ae 1) (gC (.int (1)))) (ae 2))) (ge:=ae 0) (δ:=xt S p ss Bt xs ys (some (.int (i:Nat))) (some (dC e)) xo tH ra pZ) (λx:List Bool×Int=>dF (br x.2 (Bt (go (0,0) x.1)))) (λx=>dW x.1) (λt=>dF (br t (Bt e))) (λx=>x.2) (λx=>decide (go (0,0) x.1=e)) ((T p (0,0)).zip ss) ((sJ rfl rfl).trans (by rw [hW]; unfold tell; rw [Ie])) (by rw [List.length_zip]; omega) (λx _=>cL (ak (ak rfl rfl rfl) rfl (AU _ _))) (λx _ hP=>by rw [<- of_decide_eq_true hP]; rfl)
 have T3:bU (kr (ae 4) (ae 2)) 2 [10] (cW 2 (aO (au 0) (aO (au 1) cY))) (gB (g2 md (g2 bC (ae 1) (gC (.int (1)))) (ae 2))) (ae 0) (xt S p ss Bt xs ys (some (.int (i:Nat))) (some (dC e)) xo tH ra pZ)=some ((gr e (T p (0,0)) ss).map λt=>dF (br t (Bt e))):=T3
 have sb:=K3 hp hl eG W he
 have lsz:=Mu hp hl eG W he
 obtain ⟨l1,l2⟩:=SH hp hl eG W he
 have hLE:(((aj p).map (yQ p ss Bt)).map dF)[i]?=some (dF (yQ p ss Bt e)):=by rw [adb,adb,hi]; rfl
 have hME:(((aj p).map (shr p)).map dF)[i]?=some (dF (shr p e)):=by rw [adb,adb,hi]; rfl
 have T4:Sz 9 (shr p e):=SD hp hl _ (ac5.mpr ⟨e,he,rfl⟩)
 have hqq:EG p ss Bt e=br (aR ((gr e (T p (0,0)) ss).map λt=>t * t)) (Bt e * Bt e):=rfl
 obtain ⟨ts,TV⟩:∃ ts,ts=gr e (T p (0,0)) ss:=⟨_,rfl⟩
 rw [<- TV] at T3 sb hqq M
 have iL:∀ {xs ys:List eA} {a b c d:Option D},g2 bC (ae 6) (ae 9) (xt S p ss Bt xs ys (some (.int (i:Nat))) (some (dC e)) a b c d)=some (dF (yQ p ss Bt e)):=ak rfl rfl (Sy hLE)
 have iA:∀ {xs ys:List eA} {a b c d:Option D},g2 bC (ae 5) (ae 9) (xt S p ss Bt xs ys (some (.int (i:Nat))) (some (dC e)) a b c d)=some (dF (shr p e)):=ak rfl rfl (Sy hME)
 generalize yQ p ss Bt e=lf at *
 generalize shr p e=sh at *
 have loop:∃ K5,eT (aI (ae 11)) (au 13) (aQ 12 (az bJ 2 (aa (ae 12) (aa (az bK 2 (aa (ae 13) (aa (ae 13) af))) af)))) (xt S p ss Bt xs ys (some (.int (i:Nat))) (some (dC e)) (some (.list (ts.map λt=>dF (br t (Bt e))))) (some (dF (0,1))) ra pZ)=some (.nx (xt S p ss Bt xs ys (some (.int (i:Nat))) (some (dC e)) (some (.list (ts.map λt=>dF (br t (Bt e))))) (some (dF (EG p ss Bt e))) K5 pZ)):=by
  obtain ⟨δ',e',y,rfl⟩:=qU (t:=au 13) (b:=aQ 12 (az bJ 2 (aa (ae 12) (aa (az bK 2 (aa (ae 13) (aa (ae 13) af))) af)))) (λt=>dF (br t (Bt e))) (λj δ=>∃ y,δ=xt S p ss Bt xs ys (some (.int (i:Nat))) (some (dC e)) (some (.list (ts.map λt=>dF (br t (Bt e))))) (some (dF (br (aR ((ts.take j).map λt=>t * t)) (Bt e * Bt e)))) y pZ) ts (δ:=xt S p ss Bt xs ys (some (.int (i:Nat))) (some (dC e)) (some (.list (ts.map λt=>dF (br t (Bt e))))) (some (dF (0,1))) ra pZ) ⟨ra,by rw [Px HX]; rfl⟩ (by
   rintro j t δ hj ⟨y,rfl⟩
   have ht:=adk hj
   have T5:bt t<=49:=bY (by have:=M.sm t ht; omega)
   have vt:=gN (br t (Bt e)) (br t (Bt e)) (mH hB (aJ T5 (show 49<=300 by decide)) (aJ bB (by decide)) (by decide)) (mH hB (aJ T5 (show 49<=300 by decide)) (aJ bB (by decide)) (by decide))
   rw [oN hB hB] at vt
   have tn:Tn (2 ^ 96) ((ts.take j).map λt=>t * t):=λx hx=>by
    obtain ⟨z,hz,rfl⟩:=ac5.mp hx
    exact M.Ww _ (ac5.mpr ⟨z,ad2 hz,rfl⟩)
   have bs:bt (aR ((ts.take j).map λt=>t * t))<=110:=bY (by
    have h1:=mF tn
    rw [acH] at h1
    have h2:(ts.take j).length * 2 ^ 96<=2048 * 2 ^ 96:=ad9 _ (by have:=M.vH; rw [adF]; omega)
    omega)
   have vp:=gn (br (aR ((ts.take j).map λt=>t * t)) (Bt e * Bt e)) (br (t * t) (Bt e * Bt e)) (mH HX (aJ bs (show 110<=300 by decide)) (aJ M.bb (by decide)) (by decide)) (mH HX (aJ (dn T5 T5) (show 98<=300 by decide)) (aJ M.bb (by decide)) (by decide))
   rw [AR HX] at vp
   refine ⟨_,_,rfl,aK (call_of (cons_of rfl (cons_of (call_of (cons_of rfl (cons_of rfl rfl)) rfl vt) rfl)) rfl vp),some (dF (br t (Bt e))),?_⟩
   have tk:ts.take (j + 1)=ts.take j ++ [t]:=by rw [adB,hj]; rfl
   rw [tk,ade,List.map_singleton,jW]
   rfl)
  rw [adE,<- hqq] at e'
  exact ⟨y,by unfold eT; exact e'⟩
 obtain ⟨K5,el⟩:=loop
 have T2:bt (ts.length:Int)<=12:=bY (by have:=M.vH; show ((ts.length:Nat):Int).natAbs < 2 ^ 12; omega)
 have nsz:Sz 12 (((ts.length:Int),1):eA):=⟨⟨Int.le_refl 1,by show Int.gcd _ 1=1; exact agN _⟩,T2,aJ (bY (m:=1) (by show (1:Int).natAbs < 2 ^ 1; decide)) (by decide)⟩
 have v1:=gN sh sh (T4.up (by decide)) (T4.up (by decide))
 have z1:=wN T4 T4
 have v2:=gN (jD sh sh) ((ts.length:Int),1) (z1.up (by decide)) (nsz.up (by decide))
 have z2:=wN z1 nsz
 have v3:=gn (jD (jD sh sh) ((ts.length:Int),1)) lf (z2.up (by decide)) lsz
 rw [sb] at v3
 generalize EG p ss Bt e=sq at *
 refine ⟨some (.list (ts.map λt=>dF (br t (Bt e)))),some (dF sq),K5,some (dF (jD (jD sh sh) ((ts.length:Int),1))),?_⟩
 refine bO (xt S p ss Bt xs ys (some (.int (i:Nat))) (some (dC e)) (some (.list (ts.map λt=>dF (br t (Bt e))))) tH ra pZ) (aK (aN T3)) ?_
 refine bO _ (GX (yo (kz (kA (b:=true) (by unfold zR; rw [iL]; rfl))) (yo (kz (kA (call_of (cons_of (ak iL rfl O0) rfl) rfl (yy _)))) (yo (cL (ak (ak iL rfl O0) rfl ?_)) (cL (ak (ak iL rfl R8) rfl ?_)))))) ?_
 .show some (PyData.bool (decide (lf.1 < (0:Int))))=_
  rw [acZ (by omega)]
 .show some (PyData.bool (decide (lf.2 < (1:Int))))=_
  rw [acZ (by omega)]
 refine bO (xt S p ss Bt xs ys (some (.int (i:Nat))) (some (dC e)) (some (.list (ts.map λt=>dF (br t (Bt e))))) (some (dF (0,1))) ra pZ) (aK (u6 rfl rfl)) ?_
 refine bO _ el ?_
 refine bO (xt S p ss Bt (xs ++ [sq]) ys (some (.int (i:Nat))) (some (dC e)) (some (.list (ts.map λt=>dF (br t (Bt e))))) (some (dF sq)) K5 pZ) ((iI rfl rfl (by rw [List.length_map]; omega)).trans (by unfold xt; rw [List.map_append]; rfl)) ?_
 refine bO (xt S p ss Bt (xs ++ [sq]) ys (some (.int (i:Nat))) (some (dC e)) (some (.list (ts.map λt=>dF (br t (Bt e))))) (some (dF sq)) K5 (some (dF (jD (jD sh sh) ((ts.length:Int),1))))) (aK (call_of (cons_of (call_of (cons_of iA (cons_of iA rfl)) rfl v1) (cons_of (u6 (eF (cons_of rfl rfl) (by rw [fE,acH])) rfl) rfl)) rfl v2)) ?_
 exact (iI rfl (call_of (cons_of rfl (cons_of iL rfl)) rfl v3) (by rw [List.length_map]; omega)).trans (by unfold xt; rw [List.map_append (l₁:=ys)]; rfl)
theorem PM {a b:DS->Option Bool} {δ:DS} (h1:a δ=some false):jA a b δ=some false:=by unfold jA; rw [h1]; rfl
theorem Ig (ns:List Int) (_h:ns.length<=63):uX [.list (ns.map .int)]=some (.bool true):=by
 rw [R9]
 refine aT ?_
 have cl:∀ {i:Nat} {δ:DS},az bV 2 (aa (ae 0) (aa (gC (.int (i:Nat))) af)) (some (.list (ns.map .int)) :: δ)=some (.int (ns.getD i 0)):=λ{i δ}=>call_of (cons_of rfl (cons_of rfl rfl)) rfl (nH ns i)
 obtain ⟨m0,He,h7,em⟩:∃ m0:Nat,1<=m0 /\ m0<=7 /\ (1 + ns.getD 1 0 % 7:Int)=m0:=⟨(1 + ns.getD 1 0 % 7).toNat,by omega,by omega,by omega⟩
 obtain ⟨_,ep,p,rfl,hp,og,eG⟩:=AH (ns.getD 0 0) m0 He (by omega)
 have hl:p.length<=8:=by omega
 obtain ⟨ss,Bt,et,W⟩:=Eb hp hl eG ns
 obtain ⟨S,hS⟩:∃ S,S=PyData.list (ns.map .int):=⟨_,rfl⟩
 have hm:g2 bM (gC (.int (1))) (g2 gU (az bV 2 (aa (ae 0) (aa (gC (.int (1))) af))) (gC (.int (7)))) [some (.list (ns.map .int)),none,none,none,none,none,none,none,none,none,none,none,none,none,none]=some (.int (m0:Nat)):=by
  rw [<- em]
  exact ak rfl (ak (cl (i:=1)) rfl (jb (by decide))) rfl
 have P8:az jg 2 (aa (az bV 2 (aa (ae 0) (aa (gC (.int (0))) af))) (aa (g2 bM (gC (.int (1))) (g2 gU (az bV 2 (aa (ae 0) (aa (gC (.int (1))) af))) (gC (.int (7))))) af)) [some (.list (ns.map .int)),none,none,none,none,none,none,none,none,none,none,none,none,none,none]=some (b0 p):=call_of (cons_of (cl (i:=0)) (cons_of hm rfl)) rfl ep
 rw [<- hS] at P8 et ⊢
 refine aE [some S,some (b0 p),none,none,none,none,none,none,none,none,none,none,none,none,none] (aK P8) ?_
 refine aE [some S,some (b0 p),some (.list ((T p (0,0)).map dW)),none,none,none,none,none,none,none,none,none,none,none,none] (aK (aN (be (cons_of rfl rfl) rfl (AQ hl)))) ?_
 refine aE [some S,some (b0 p),some (.list ((T p (0,0)).map dW)),some (.list ((aj p).map dC)),none,none,none,none,none,none,none,none,none,none,none] (aK (aN (be (cons_of rfl rfl) rfl (yG hp (by omega) eG)))) ?_
 refine aE [some S,some (b0 p),some (.list ((T p (0,0)).map dW)),some (.list ((aj p).map dC)),some (.list (tell Bt p ss)),none,none,none,none,none,none,none,none,none,none] (aK (aN (be (cons_of rfl (cons_of rfl (cons_of rfl rfl))) rfl et))) ?_
 refine aE [some S,some (b0 p),some (.list ((T p (0,0)).map dW)),some (.list ((aj p).map dC)),some (.list (tell Bt p ss)),some (.list (((aj p).map (shr p)).map dF)),none,none,none,none,none,none,none,none,none] (aK (aN (be (cons_of rfl (cons_of rfl rfl)) rfl (SE hp hl eG W)))) ?_
 refine aE [some S,some (b0 p),some (.list ((T p (0,0)).map dW)),some (.list ((aj p).map dC)),some (.list (tell Bt p ss)),some (.list (((aj p).map (shr p)).map dF)),some (.list (((aj p).map (yQ p ss Bt)).map dF)),none,none,none,none,none,none,none,none] (aK (aN (be (cons_of rfl (cons_of rfl rfl)) rfl (PK hp hl eG W)))) ?_
 refine lL (yo (cL (ak (aN (be (cons_of rfl (cons_of rfl rfl)) rfl (HZ hp hl eG))) (aN (l:=([(0,1),(1,1)]:List eA).map dF) rfl) ((G0 (GZ _ _)).trans (by rw [ac2 rfl]; rfl)))) (cL (ak (eF (cons_of rfl rfl) (fE _)) (eF (cons_of rfl rfl) (fE _)) ((nh _ _).trans (by rw [ac2 (by simp)]; rfl))))) ?_
 obtain ⟨b,eb⟩:=PL (p:=p) (by omega) eG
 refine lL ?_ ?_
 .cases b with
  | false=>exact PM (kA (call_of (cons_of rfl rfl) rfl eb))
  | true=>exact Ao (kA (call_of (cons_of rfl rfl) rfl eb)) (cL (ak rfl (aN (be (cons_of rfl rfl) rfl (HI hp (by omega) eG))) ((G0 (GZ ((aj p).map (shr p)) ((aj p).map (shr p)))).trans (by rw [ac2 rfl]; rfl))))
 refine aE [some S,some (b0 p),some (.list ((T p (0,0)).map dW)),some (.list ((aj p).map dC)),some (.list (tell Bt p ss)),some (.list (((aj p).map (shr p)).map dF)),some (.list (((aj p).map (yQ p ss Bt)).map dF)),some (.list []),none,none,none,none,none,none,none] rfl ?_
 refine aE (xt S p ss Bt [] [] none none none none none none) rfl ?_
 have h28:(aj p).length<=28:=by
  have h1:=AW hp
  have h2:p.length * (p.length + 3)<=7 * 10:=agC (by omega) (by omega)
  omega
 refine fO (λx:(Int×Int)×Nat=>PyData.tuple [.int (x.2:Nat),dC x.1]) (aj p).zipIdx (λi δ=>∃ x9 Bv xo tH ra pZ,δ=xt S p ss Bt (((aj p).take i).map (EG p ss Bt)) (((aj p).take i).map (EG p ss Bt)) x9 Bv xo tH ra pZ) (CA rfl (Py _)) ⟨_,_,_,_,_,_,rfl⟩ ?_ ?_
 .rintro i ⟨e,k⟩ δ hx ⟨x9,Bv,xo,tH,ra,pZ,rfl⟩
  have hxe:(aj p)[i]?=some e /\ k=i:=by
   rw [aev] at hx
   cases q:(aj p)[i]? with
   | none=>rw [q] at hx; cases hx
   | some z=>
     rw [q] at hx
     simp at hx
     exact ⟨by rw [hx.1],hx.2.symm⟩
  obtain ⟨hi,rfl⟩:=hxe
  have IT:(((aj p).take k).map (EG p ss Bt)).length<=1000:=by rw [acH,adF]; omega
  obtain ⟨WH,WI,K5,WJ,er⟩:=K4 hp hl eG W S hi IT IT xo tH ra pZ
  refine ⟨_,_,rfl,er,some (.int (k:Nat)),some (dC e),WH,WI,K5,WJ,?_⟩
  have tk:(aj p).take (k + 1)=(aj p).take k ++ [e]:=by rw [adB,hi]; rfl
  rw [tk,ade,List.map_singleton]
 .rintro δ' ⟨x9,Bv,xo,tH,ra,pZ,rfl⟩
  rw [afA,adE]
  obtain ⟨zs,ez⟩:=Ic hp hl eG (ws:=(aj p).map (EG p ss Bt)) (by rw [acH]) h28 λq hq=>by
   obtain ⟨e,he,rfl⟩:=ac5.mp hq
   exact SI hp hl eG W he
  exact ret (.bool true) (ak (aN (sI (cons_of rfl (cons_of rfl rfl)) rfl ez (wO zs))) (aN (sI (cons_of rfl (cons_of rfl rfl)) rfl ez (wO zs))) ((GZ zs zs).trans (by rw [ac2 rfl]))) (.mk rfl rfl)
theorem bE {N P:List Str} {sc:Scope} (a:sc.kind=.function:=by rfl) (b:sc.isCoroutine=false:=by rfl) (c:sc.isGenerator=false:=by rfl) (d:N.Nodup:=by decide +kernel) (e:N.take P.length=P:=by rfl) (f:∀ x∈P,sc.names.lookup x=some .local \/ sc.names.lookup x=some .cell:=by decide +kernel) (g:∀ y∈sc.names,y.2≠.free:=by decide +kernel):aB N P sc:=⟨a,b,c,d,e,f,g⟩
abbrev nK:Stmt:=top 10
theorem wQ:aB ["top","bottom","shared"] ["top","bottom"] (ah nK):=bE
abbrev nL:Stmt:=top 11
theorem o3:aB ["one","other","shared","one_part","other_part","rest"] ["one","other"] (ah nL):=bE
abbrev kS:Stmt:=top 12
theorem Ih:aB ["one","other"] ["one","other"] (ah kS):=bE
abbrev kT:Stmt:=top 13
theorem sS:aB ["one","other","left","right"] ["one","other"] (ah kT):=bE
abbrev nM:Stmt:=top 14
theorem K6:aB ["one","other"] ["one","other"] (ah nM):=bE
abbrev kU:Stmt:=top 15
theorem j6:aB ["one","many","top","bottom","turn"] ["one","many"] (ah kU):=bE
abbrev bW:Stmt:=top 16
theorem bo:aB ["one","other","rest","pair"] ["one","other"] (ah bW):=bE
abbrev nO:Stmt:=top 17
theorem jw:aB ["one","other","cut","upper","lower","many","rest"] ["one","other"] (ah nO):=bE
abbrev hZ:Stmt:=top 19
theorem sU:aB ["plan","count","draws"] ["plan","count"] (ah hZ):=bE
abbrev gp:Stmt:=top 20
theorem kW:aB ["plan","told","draws","place"] ["plan"] (ah gp):=bE
abbrev lX:Stmt:=top 21
theorem K7:aB ["plan"] ["plan"] (ah lX):=bE
abbrev eX:Stmt:=top 22
theorem jx:aB ["plan","told","draws","place"] ["plan"] (ah eX):=bE
abbrev iy:Stmt:=top 23
theorem Eg:aB ["place"] ["place"] (ah iy):=bE
abbrev kX:Stmt:=top 24
theorem Ii:aB ["count","sign"] ["count","sign"] (ah kX):=bE
abbrev fU:Stmt:=top 27
theorem iz:aB ["bad","good","told","top","place"] ["bad","good"] (ah fU):=bE
abbrev h9:Stmt:=top 28
theorem sV:aB ["fractions","kept"] ["fractions"] (ah h9):=bE
abbrev cH:Stmt:=top 29
theorem fm:aB ["fractions","common","fraction"] ["fractions"] (ah cH):=bE
abbrev dO:Stmt:=top 30
theorem wR:aB ["fractions","bottom"] ["fractions","bottom"] (ah dO):=bE
abbrev eY:Stmt:=top 32
theorem gO:aB ["plan","beginning","ways","count","many","led"] ["plan","beginning"] (ah eY):=bE
abbrev gq:Stmt:=top 35
theorem sW:aB ["plan","ways"] ["plan"] (ah gq):=bE
abbrev jm:Stmt:=top 36
theorem mG:aB ["plan","row","count","sign"] ["plan","row"] (ah jm):=bE
abbrev dq:Stmt:=top 37
theorem jn:aB ["plan","row","count","told"] ["plan","row","count"] (ah dq):=bE
abbrev iB:Stmt:=top 39
theorem p5:aB ["plan","ways","ways_of_bad"] ["plan"] (ah iB):=bE
abbrev eZ:Stmt:=top 40
theorem yT:aB ["plan","telling"] ["plan","telling"] (ah eZ):=bE
abbrev cP:Stmt:=top 41
theorem sX:aB ["plan","telling"] ["plan","telling"] (ah cP):=bE
abbrev gu:Stmt:=top 42
theorem sY:aB ["group","squares"] ["group"] (ah gu):=bE
abbrev iC:Stmt:=top 43
theorem ia:aB ["plan","telling","rows","there","groups","end","row","fraction"] ["plan","telling"] (ah iC):=bE
abbrev d3:Stmt:=top 44
theorem il:aB ["fractions","total","fraction"] ["fractions"] (ah d3):=bE
abbrev gv:Stmt:=top 46
theorem fb:aB ["plan","numbers","ways","bottom","totals","end","top","place","fraction"] ["plan","numbers"] (ah gv):=bE
abbrev cI:Stmt:=top 47
theorem p8:aB ["plan","numbers"] ["plan","numbers"] (ah cI):=bE
abbrev fc:Stmt:=top 49
theorem kY:aB ["row","told","number"] ["row"] (ah fc):=bE
abbrev bQ:Stmt:=top 50
theorem nP:aB ["plan"] ["plan"] (ah bQ):=bE
abbrev fV:Stmt:=top 52
theorem yU:aB ["_law_script","_law_k"] ["_law_script","_law_k"] (ah fV):=bE
abbrev d6:Stmt:=top 53
theorem ip:aB ["_law_cell_here","_law_base","_law_many","_law_row","_law_k"] ["_law_cell_here","_law_base","_law_many"] (ah d6):=bE
abbrev fe:Stmt:=top 54
theorem iV:aB ["_law_cell_here","_law_base","_law_many","_law_row","_law_k","_law_number"] ["_law_cell_here","_law_base","_law_many"] (ah fe):=bE
abbrev d7:Stmt:=top 55
theorem ck:aB ["_law_cell_here","_law_most_here","_law_rest","_law_many","_law_digits_here","_law_rows_here","_law_come","_law_at","_law_row"] ["_law_cell_here","_law_most_here"] (ah d7):=bE
abbrev d8:Stmt:=top 57
theorem gy:aB ["_law_plan_here","_law_found","_law_n","_law_on","_law_come"] ["_law_plan_here"] (ah d8):=bE
abbrev fW:Stmt:=top 58
theorem iD:aB ["_law_plan_here","_law_found","_law_pile","_law_row","_law_bad"] ["_law_plan_here"] (ah fW):=bE
abbrev de:Stmt:=top 59
theorem iW:aB ["_law_bad","_law_good","_law_row","_law_k"] ["_law_bad","_law_good"] (ah de):=bE
abbrev ff:Stmt:=top 60
theorem wU:aB ["_law_found"] ["_law_found"] (ah ff):=bE
abbrev du:Stmt:=top 61
theorem lY:aB ["_law_one","_law_other"] ["_law_one","_law_other"] (ah du):=bE
abbrev fX:Stmt:=top 62
theorem qv:aB ["_law_top","_law_bottom","_law_part"] ["_law_top","_law_bottom"] (ah fX):=bE
abbrev fY:Stmt:=top 63
theorem yV:aB ["_law_one","_law_other"] ["_law_one","_law_other"] (ah fY):=bE
abbrev fg:Stmt:=top 64
theorem wV:aB ["_law_one","_law_other"] ["_law_one","_law_other"] (ah fg):=bE
abbrev df:Stmt:=top 65
theorem fK:aB ["_law_script","_law_many","_law_cell_here","_law_bottom","_law_digits_here"] ["_law_script","_law_many"] (ah df):=bE
abbrev fZ:Stmt:=top 66
theorem jy:aB ["_law_some","_law_total","_law_one"] ["_law_some"] (ah fZ):=bE
abbrev bA:Stmt:=top 67
theorem bq:aB ["_law_script","_law_rows_here","_law_last","_law_short","_law_way","_law_at","_law_tops","_law_bottom","_law_told","_law_middle","_law_end","_law_mine","_law_first","_law_share","_law_mid"] ["_law_script","_law_rows_here","_law_last"] (ah bA):=bE
abbrev d9:Stmt:=top 68
theorem eI:aB ["_law_weights","_law_last","_law_total","_law_weight","_law_end","_law_spread","_law_k"] ["_law_weights","_law_last"] (ah d9):=bE
abbrev la:Stmt:=top 69
theorem fF:aB ["_law_script","_law_plan_here","_law_rows_here","_law_last","_law_telling_here","_law_means","_law_left","_law_mine","_law_due","_law_k","_law_end","_law_some","_law_square","_law_one","_law_average"] ["_law_script"] (ah la):=bE
theorem pO {X:Cx} {O:List Nat} (i:Nat) {x:Str} {pos:Pos} (hN:X.N[i]?=some x:=by rfl) (hv:JA (X.env.scope.names.lookup x)=true:=by rfl) (hd:(x == ("__debug__":Str))=false:=by decide) (vk:(x == ("__classdict__":Str))=false:=by decide):PE X (.Name x pos) (ib X.K O (ae i)):=N3 (pv i hN hv hd vk)
theorem pV {X:Cx} {O:List Nat} (i:Nat) {x:Str} {pos:Pos} (hN:X.N[i]?=some x:=by rfl) (hv:JA (X.env.scope.names.lookup x)=true:=by rfl) (hd:(x == ("__debug__":Str))=false:=by decide) (vk:(x == ("__classdict__":Str))=false:=by decide) (hi:i∉O:=by decide):PE X (.Name x pos) (tE X.K O (ae i)):=N2 (pv i hN hv hd vk) hi
theorem pI {X:Cx} {O:List Nat} {i j pos}:PE X (.Constant (.int i) j pos) (ib X.K O (gC (.int i))):=PE.sh (aD aH)
theorem pS {X:Cx} {O:List Nat} {fr:_} {x:Str} {e:Expr} {ge:DS->Option D} {pos pos':Pos} (i:Nat) (hN:X.N.Nodup) (he:PE X e (tE X.K O ge)) (hi:X.N[i]?=some x:=by rfl) (hx:Loc X.env.scope x:=by first | exact Or.inl rfl | exact Or.inr rfl) (hs:swapsWith e (some (.Name x pos')) pos.line X.env=pure false:=by rfl) (hf:X.fn x=true \/ X.env.scope.names.lookup x=some .local:=by first | exact .inl rfl | exact .inr rfl | assumption) (ho:i∉O:=by decide):PS X (.Assign [.Name x pos'] e pos) (L2.tS X.K O fr (aQ i ge)):=mW (di hN hi hx he hs hf) ho
theorem pC {X:Cx} {O:List Nat} {e:Expr} {es:List Expr} {gr:DS->Option (List D)} {pos p:Pos} {n k kk:Nat} {x:Str} {ps:List Str} {G:List D->Option D} (F:Dn X.prog X.w X.K X.mg X.base k x ps (lD X.K n G)) (hr:gT kk X.A) (ha:PA X (e :: es) (Di X.K O gr)) (hk:k<=kk:=by decide) (hg:Gl X x:=by rfl) (tM:(x == ("__debug__":Str))=false:=by decide) (he:starEach (e :: es) X.env=(false,eval e X.env) :: starEach es X.env:=by rfl) (og:(backTo pos (starEach es X.env)).any (·.1)=false:=by rfl):PE X (.Call (.Name x p) (e :: es) [] pos) (tE X.K O (az G n gr)):=qM F hr hk ha hg tM he og
section
variable (P:Program) (w:World) (K:PySem.W.Frag) (mg:Str->Option Value) (base:Heap)
abbrev Ij:Prop:=Dn P w K mg base 3 "_law_plus" ["_law_one","_law_other"] (lD K 2 bJ)
abbrev Eh:Prop:=Dn P w K mg base 3 "frac" ["top","bottom"] (lD K 2 kC)
abbrev K8:Prop:=Dn P w K mg base 2 "greatest_divisor" ["one","other"] (lD K 2 cv)
abbrev K9:Prop:=Dn P w K mg base 3 "_law_times" ["_law_one","_law_other"] (lD K 2 bK)
abbrev La:Prop:=Dn P w K mg base 2 "_law_frac" ["_law_top","_law_bottom"] (lD K 2 eV)
abbrev Ei:Prop:=Dn P w K mg base 3 "ends" ["plan"] (o8 K 1 jc)
abbrev Lb:Prop:=Dn P w K mg base 1 "_law_cell" ["_law_script","_law_k"] (lD K 2 bV)
abbrev PN:Prop:=Dn P w K mg base 1 "_law_digits" ["_law_cell_here","_law_base","_law_many"] (o8 K 3 fj)
abbrev Lc:Prop:=Dn P w K mg base 2 "ways_from" ["plan","beginning"] (lD K 2 dN)
abbrev PQ:Prop:=Dn P w K mg base 1 "_law_mixes" ["_law_cell_here","_law_base","_law_many"] (o8 K 3 gm)
abbrev CL:Prop:=Dn P w K mg base 1 "goes_on" ["plan","count"] (lD K 2 gj)
abbrev CM:Prop:=Dn P w K mg base 1 "after" ["count","sign"] (lD K 2 dD)
abbrev Ik:Prop:=Dn P w K mg base 5 "sum_of_all" ["fractions"] (lD K 1 dZ)
abbrev Mv:Prop:=Dn P w K mg base 5 "_law_telling" ["_law_script","_law_rows_here","_law_last"] (o8 K 3 fJ)
abbrev Il:Prop:=Dn P w K mg base 30 "by_end" ["plan","telling"] (o8 K 2 j0)
abbrev Im:Prop:=Dn P w K mg base 4 "plus" ["one","other"] (lD K 2 sr)
abbrev Io:Prop:=Dn P w K mg base 5 "over" ["one","other"] (lD K 2 nj)
abbrev Mw:Prop:=Dn P w K mg base 2 "_law_plan" ["_law_cell_here","_law_most_here"] (lD K 2 jg)
abbrev Mx:Prop:=Dn P w K mg base 4 "_law_summed" ["_law_weights","_law_last"] (o8 K 2 fk)
abbrev My:Prop:=Dn P w K mg base 1 "_law_divisor" ["_law_one","_law_other"] (lD K 2 ij)
abbrev Mz:Prop:=Dn P w K mg base 2 "_law_values" ["_law_script","_law_many"] (lD K 2 iU)
abbrev MA:Prop:=Dn P w K mg base 28 "rows_behind" ["plan","row","count"] (o8 K 3 jF)
abbrev MB:Prop:=Dn P w K mg base 4 "check_telling" ["plan","numbers"] (lD K 2 fR)
abbrev MC:Prop:=Dn P w K mg base 1 "_law_power" ["_law_bad","_law_good"] (o8 K 2 iu)
abbrev MD:Prop:=Dn P w K mg base 31 "left_within" ["plan","telling"] (o8 K 2 ig)
abbrev ME:Prop:=Dn P w K mg base 1 "tops_over" ["fractions","bottom"] (o8 K 2 jt)
abbrev MF:Prop:=Dn P w K mg base 3 "common_bottom" ["fractions"] (lD K 1 fP)
abbrev MG:Prop:=Dn P w K mg base 2 "is_side_by_side" ["plan"] (lD K 1 eO)
abbrev MH:Prop:=Dn P w K mg base 31 "averaged" ["plan","telling"] (o8 K 2 kG)
abbrev MI:Prop:=Dn P w K mg base 1 "_law_ends" ["_law_plan_here"] (o8 K 1 jh)
abbrev MJ:Prop:=Dn P w K mg base 1 "_law_rows" ["_law_plan_here"] (o8 K 1 kI)
abbrev MK:Prop:=Dn P w K mg base 1 "_law_whole" ["_law_found"] (lD K 1 iw)
abbrev ML:Prop:=Dn P w K mg base 5 "mean_of" ["plan","numbers"] (o8 K 2 j3)
abbrev MM:Prop:=Dn P w K mg base 1 "of_count" ["bad","good"] (o8 K 2 je)
abbrev MN:Prop:=Dn P w K mg base 4 "_law_mean" ["_law_some"] (lD K 1 kK)
abbrev MO:Prop:=Dn P w K mg base 1 "trimmed" ["fractions"] (o8 K 1 mw)
abbrev MP:Prop:=Dn P w K mg base 2 "end_of" ["plan","row"] (lD K 2 jf)
abbrev MQ:Prop:=Dn P w K mg base 5 "minus" ["one","other"] (lD K 2 qX)
abbrev MR:Prop:=Dn P w K mg base 4 "times" ["one","other"] (lD K 2 qY)
abbrev MS:Prop:=Dn P w K mg base 1 "stretches" ["row"] (o8 K 1 ir)
abbrev MT:Prop:=Dn P w K mg base 1 "power" ["one","many"] (lD K 2 kD)
abbrev MU:Prop:=Dn P w K mg base 1 "drawn_on" ["plan"] (o8 K 1 jd)
abbrev MV:Prop:=Dn P w K mg base 1 "leap" ["one","other"] (lD K 2 G4)
abbrev MW:Prop:=Dn P w K mg base 29 "rows_of" ["plan"] (o8 K 1 mx)
abbrev MX:Prop:=Dn P w K mg base 6 "left_in" ["group"] (lD K 1 my)
abbrev MY:Prop:=Dn P w K mg base 2 "come_to" ["plan"] (o8 K 1 iZ)
abbrev MZ:Prop:=Dn P w K mg base 1 "led_to" ["place"] (o8 K 1 jZ)
abbrev M0:Prop:=Dn P w K mg base 4 "shares" ["plan"] (o8 K 1 oQ)
end
section
variable {P:Program} {w:World} {K:PySem.W.Frag} {mg:Str->Option Value} {base:Heap}
theorem Ld (F:Df K mg "leap" nO ["one","other"]) (B:Bs mg) (sZ:Cn mg "WINDOW" (.int (240))) (AX:Cn mg "SHED" (.int (120))):MV P w K mg base:=
 cB [] G1 F jw λf cU A outer s H E hr=>(ai (pS 2 jw.nd (ay fB iN (PE.sh (BW (pO 0))) (PE.sh (aD (rB sZ)))))
  (ai (pS 3 jw.nd (ba (ab (ay zC aF (pO 0) (pO 2)) (ab (aD aH) (ab (aD aH) ag)))))
  (ai (pS 4 jw.nd (ba (ab (ay zC aF (pO 1) (pO 2)) (ab (aD aH) (ab (aD aH) ag)))))
  (ai (i8 adi (aX (lA hr) lB (PE.sh (ay zC aF (PE.sh (aC (pO 4) pI)) (PE.sh (aD (rB AX))))) pI (bw _)) (ai (pS 5 jw.nd (ay da aF (PE.sh (aC (pO 3) pI)) (PE.sh (aC (pO 4) pI))))
  (ai (pS 6 jw.nd (ba (ab (ay fB iN (PE.sh (aC (pO 3) pI)) (PE.sh (ay bx aF (pO 5) (PE.sh (aC (pO 4) pI))))) (ab (ay fB iN (PE.sh (aC (pO 3) pI)) (PE.sh (ay bx aF (pO 5) (PE.sh (aC (pO 4) pI))))) (ab (ay fB iN (PE.sh (aC (pO 3) pI)) (PE.sh (ay bx aF (pO 5) (PE.sh (aC (pO 4) pI))))) ag)))))
  (ai (pS 3 jw.nd (pV 4))
  (aq (pS 4 jw.nd (pV 6)))))))
  (aq (bZ (ba (ab (aG jO mh rfl B.abs pw (ao (PE.sh (ay bH bg (PE.sh (ay bx aF (PE.sh (aC (pO 3) pI)) (pO 0))) (PE.sh (ay bx aF (PE.sh (aC (pO 3) pI)) (pO 1))))) ax)) (ab (aG jO mh rfl B.abs pw (ao (PE.sh (ay bH bg (PE.sh (ay bx aF (PE.sh (aC (pO 4) pI)) (pO 0))) (PE.sh (ay bx aF (PE.sh (aC (pO 4) pI)) (pO 1))))) ax)) ag)))))))))
theorem mK (F:Df K mg "greatest_divisor" bW ["one","other"]) (B:Bs mg) (AY:Cn mg "LONG" (.int (4000))) (AZ:MV P w K mg base):K8 P w K mg base:=
 cB [] fT F bo λf cU A outer s H E hr=>(ai (pS 0 bo.nd (aG jO mh rfl B.abs pw (ao (pO 0) ax)))
  (ai (pS 1 bo.nd (aG jO mh rfl B.abs pw (ao (pO 1) ax)))
  (ai (i8 adi (aX (lA hr) lB (pO 1) pI (bw _)) (ai (pS 2 bo.nd (ay dQ aF (pO 0) (pO 1)))
  (ai (pS 0 bo.nd (pV 1))
  (ai (pS 1 bo.nd (pV 2))
  (aq (fu (aX mM cV (PE.sh (BW (pO 1))) (PE.sh (aD (rB AY))) (bw _)) (ai (pS 3 bo.nd (pC AZ hr (ab (pV 0) (ab (pV 1) ag))))
  (ai (pS 0 bo.nd (aC (pO 3) pI))
  (aq (pS 1 bo.nd (aC (pO 3) pI))))) dE))))))
  (aq (bZ (pV 0))))))
theorem Le (F:Df K mg "frac" nK ["top","bottom"]) (B:Bs mg) (bz:K8 P w K mg base):Eh P w K mg base:=
 cB [] Ap F wQ λf cU A outer s H E hr=>(ai (fu (aX (iF hr) imp_eq (pO 1) pI (bw _)) (aq jQ) dE)
  (ai (pS 2 wQ.nd (pC bz hr (ab (pV 0) (ab (pV 1) ag))))
  (ai (fu (aX ll cV (pO 1) pI (bw _)) (aq (pS 2 wQ.nd (lC (pO 2)))) dE)
  (aq (bZ (ba (ab (ay da aF (pO 0) (pO 2)) (ab (ay da aF (pO 1) (pO 2)) ag))))))))
theorem Lf (F:Df K mg "plus" nL ["one","other"]) (B:Bs mg) (fG:Eh P w K mg base) (bz:K8 P w K mg base):Im P w K mg base:=
 cB [] Aq F o3 λf cU A outer s H E hr=>(ai (pS 2 o3.nd (pC bz hr (ab (aC (pO 0) pI) (ab (aC (pO 1) pI) ag))))
  (ai (pS 3 o3.nd (ay da aF (PE.sh (aC (pO 0) pI)) (pO 2)))
  (ai (pS 4 o3.nd (ay da aF (PE.sh (aC (pO 1) pI)) (pO 2)))
  (ai (pS 5 o3.nd (pC fG hr (ab (ay bH bg (PE.sh (ay bx aF (PE.sh (aC (pO 0) pI)) (pO 4))) (PE.sh (ay bx aF (PE.sh (aC (pO 1) pI)) (pO 3)))) (ab (pV 2) ag))))
  (aq (bZ (ba (ab (aC (pO 5) pI) (ab (ay bx aF (PE.sh (ay bx aF (pO 3) (pO 4))) (PE.sh (aC (pO 5) pI))) ag)))))))))
theorem Ip (F:Df K mg "minus" kS ["one","other"]) (B:Bs mg) (p9:Im P w K mg base):MQ P w K mg base:=
 cB [] v9 F Ih λf cU A outer s H E hr=>(aq (bZ (pC p9 hr (ab (pV 0) (ab (ba (ab (lC (PE.sh (aC (pO 1) pI))) (ab (aC (pO 1) pI) ag))) ag)))))
theorem Iq (F:Df K mg "times" kT ["one","other"]) (B:Bs mg) (fG:Eh P w K mg base):MR P w K mg base:=
 cB [] wa F sS λf cU A outer s H E hr=>(ai (pS 2 sS.nd (pC fG hr (ab (aC (pO 0) pI) (ab (aC (pO 1) pI) ag))))
  (ai (pS 3 sS.nd (pC fG hr (ab (aC (pO 1) pI) (ab (aC (pO 0) pI) ag))))
  (aq (bZ (ba (ab (ay bx aF (PE.sh (aC (pO 2) pI)) (PE.sh (aC (pO 3) pI))) (ab (ay bx aF (PE.sh (aC (pO 2) pI)) (PE.sh (aC (pO 3) pI))) ag)))))))
theorem Lg (F:Df K mg "over" nM ["one","other"]) (B:Bs mg) (fG:Eh P w K mg base) (wW:MR P w K mg base):Io P w K mg base:=
 cB [] Ar F K6 λf cU A outer s H E hr=>(aq (bZ (pC wW hr (ab (pV 0) (ab (pC fG hr (ab (aC (pO 1) pI) (ab (aC (pO 1) pI) ag))) ag)))))
theorem Ir (F:Df K mg "power" kU ["one","many"]) (B:Bs mg):MT P w K mg base:=
 cB [] wb F j6 λf cU A outer s H E hr=>(ai (pS 2 j6.nd (aD aH))
  (ai (pS 3 j6.nd (aD aH))
  (ai (cZ adi rfl (g8 B.range (ab (pV 1) ag)) (ar (aw (i:=4) j6.nd rfl (Or.inl rfl)))
   (ai (pS 2 j6.nd (ay bx aF (pO 2) (PE.sh (aC (pO 0) pI))))
  (aq (pS 3 j6.nd (ay bx aF (pO 3) (PE.sh (aC (pO 0) pI)))))))
  (aq (bZ (ba (ab (pV 2) (ab (pV 3) ag))))))))
theorem A2 (F:Df K mg "goes_on" hZ ["plan","count"]) (B:Bs mg):CL P w K mg base:=
 cB [] pJ F sU λf cU A outer s H E hr=>(ai (pS 2 sU.nd (ay bH bg (PE.sh (aC (pO 1) pI)) (PE.sh (aC (pO 1) pI))))
  (aq (bZ (FA (FJ QX cV ll cV pI (pO 2) (PE.sh (aG aM bc rfl B.len bI (ao (pO 0) ax)))) (ER (rK FL FN (PE.sh (aC (pO 1) pI)) (PE.sh (aC (pO 0) (pO 2))) (by with_unfolding_all rfl)))))))
theorem Ej (F:Df K mg "led_to" iy ["place"]) (B:Bs mg):MZ P w K mg base:=
 cc [] su F Eg λf cU A outer s H E hr=>(aq (fM (m7 B.sorted B.set (PE.sh (PE.nE (pz kf kg (PE.sh (PE.nE (i7 gA lE rfl B.list om (ao (pO 0) ax)))) (PE.sh (PE.nE (PE.xr (bX (ah iy) ["place"] [] ["bad"] ["bad"] jC (PI.c (bD (pV 0))) (λ_ _ _ _ _ _=>(ar (aw (i:=0) (show (["bad"]:List Str).Nodup from by decide +kernel) rfl (Or.inl rfl)))) (λ_ _ _ _ _ _=>cy) (λ_ _ _ _ _ _=>(ay bH bg (pO 0) pI))))))))))))
theorem A3 (F:Df K mg "come_to" gp ["plan"]) (B:Bs mg) (s8:MZ P w K mg base):MY P w K mg base:=
 cc [1] pK F kW λf cU A outer s H E hr=>(ai (dB (di (i:=1) kW.nd rfl (Or.inl rfl) (dj (ab (ba (ab (aD aH) (ab (aD aH) ag))) ag))))
  (ai (cZ adi rfl (Gr B.enumerate (pV 0)) (dU rfl (aZ (ar (aw (i:=2) kW.nd rfl (Or.inr rfl))) (aZ (ar (aw (i:=3) kW.nd rfl (Or.inl rfl))) dS)))
   (aq (mi (cX (iq adn ae6 afy ma (pv 1) (bG (PE.xr (bX (ah gp) ["plan","told","draws","place"] [2] ["bad","draws"] ["bad"] jC (PI.c (bD (PE.nE (aY s8 hr (by decide) (ab (pV 3) ag))))) (λ_ _ _ _ _ _=>(ar (aw (i:=0) (show (["bad","draws"]:List Str).Nodup from by decide +kernel) rfl (Or.inl rfl)))) (λ_ _ _ _ _ _=>cy) (λ_ _ _ _ _ _=>(ba (ab (pV 0) (ab (ay fB iN (pO 1) (pO 0)) ag)))))) cz))))))
  (aq (c7 (pv 1)))))
theorem Lh (F:Df K mg "ends" lX ["plan"]) (B:Bs mg) (qa:MY P w K mg base) (eJ:CL P w K mg base):Ei P w K mg base:=
 cc [] As F K7 λf cU A outer s H E hr=>(aq (fM (bX (ah lX) ["plan"] [0] ["count","plan"] ["count"] jC (PI.c (bD (PE.nE (aY qa hr (by decide) (ab (pV 0) ag))))) (λ_ _ _ _ _ _=>(ar (aw (i:=0) (show (["count","plan"]:List Str).Nodup from by decide +kernel) rfl (Or.inl rfl)))) (λ_ _ _ _ _ _=>(pF (oy (i6 (PE.sh (pC eJ hr (ab (pV 1) (ab (pV 0) ag)))))))) (λ_ _ _ _ _ _=>(pV 0)))))
theorem yW (F:Df K mg "drawn_on" eX ["plan"]) (B:Bs mg):MU P w K mg base:=
 cc [1] nk F jx λf cU A outer s H E hr=>(ai (dB (di (i:=1) jx.nd rfl (Or.inl rfl) (dj ag)))
  (ai (cZ adi rfl (Gh B.enumerate (pV 0)) (dU rfl (aZ (ar (aw (i:=2) jx.nd rfl (Or.inr rfl))) (aZ (ar (aw (i:=3) jx.nd rfl (Or.inl rfl))) dS)))
   (aq (mi (cX (iq adn ae6 afy ma (pv 1) (bG (PE.xr (bX (ah eX) ["plan","told","draws","place"] [2] ["bad","draws"] ["bad"] jC (PI.c (bD (pV 3))) (λ_ _ _ _ _ _=>(ar (aw (i:=0) (show (["bad","draws"]:List Str).Nodup from by decide +kernel) rfl (Or.inl rfl)))) (λ_ _ _ _ _ _=>cy) (λ_ _ _ _ _ _=>(ba (ab (pV 0) (ab (ay fB iN (pO 1) (pO 0)) ag)))))) cz))))))
  (aq (c7 (pv 1)))))
theorem Iu (F:Df K mg "after" kX ["count","sign"]) (B:Bs mg):CM P w K mg base:=
 cB [] wc F Ii λf cU A outer s H E hr=>(ai (fu (aX (iF hr) imp_eq (pO 1) (PE.sh (fD fA)) (bw _)) (aq (bZ (ba (ab (ay bH bg (PE.sh (aC (pO 0) pI)) pI) (ab (aC (pO 0) pI) ag))))) dE)
  (aq (bZ (ba (ab (aC (pO 0) pI) (ab (ay bH bg (PE.sh (aC (pO 0) pI)) pI) ag))))))
theorem yX (F:Df K mg "of_count" fU ["bad","good"]) (B:Bs mg) {eQ:Addr} (gP:Cn mg "NOUGHT" (.ref eQ)) (gQ:(eQ,[V.int (0),V.int (1)])∈cA):MM P w K mg base:=
 cc [2] nq F iz λf cU A outer s H E hr=>(ai (dB (di (i:=2) iz.nd rfl (Or.inl rfl) (BP (dj (ab (Gu (rB gP) gQ (λ_=>(.cons (.int _) (.cons (.int _) .nil)))) ag)) (pO 0))))
  (ai (pS 3 iz.nd (aD aH))
  (ai (cZ adi rfl (g8 B.range (ab (ay bH bg (pO 1) pI) ag)) (ar (aw (i:=4) iz.nd rfl (Or.inl rfl)))
   (ai (dG (cX (iq adn adu adw c6 (pv 2) (bG (ba (ab (pV 3) (ab (aD aH) ag))) cz))))
  (aq (pS 3 iz.nd (ay da aF (PE.sh (ay bx aF (PE.sh (lC (pO 3))) (PE.sh (ay fB iN (pO 1) (pO 4))))) (PE.sh (ay bH bg (pO 4) pI)))))))
  (aq (c7 (pv 2))))))
theorem A4 (F:Df K mg "trimmed" h9 ["fractions"]) (B:Bs mg) {eQ:Addr} (gP:Cn mg "NOUGHT" (.ref eQ)) (gQ:(eQ,[V.int (0),V.int (1)])∈cA):MO P w K mg base:=
 cc [1] pL F sV λf cU A outer s H E hr=>(ai (dB (di (i:=1) sV.nd rfl (Or.inl rfl) (i7 gA lE rfl B.list om (ao (pO 0) ax))))
  (ai (i8 adi (PW.pt (me (aX mM cV (PE.sh (aG aM bc rfl B.len bI (ao (pO 1) ax))) pI (bw _)) (pw_and1 (aX (iF hr) imp_eq (PE.sh (aC (pO 1) (PE.sh (lC pI)))) (PE.sh (Gu (rB gP) gQ (λ_=>(.cons (.int _) (.cons (.int _) .nil))))) (bw _))))) (aq (Oe (cX (zK adn agf PySem.F.type_list_pop Fh (pv 1))))))
  (aq (c7 (pv 1)))))
theorem qb (F:Df K mg "common_bottom" cH ["fractions"]) (B:Bs mg) (bz:K8 P w K mg base):MF P w K mg base:=
 cB [] iH F fm λf cU A outer s H E hr=>(ai (pS 1 fm.nd (aD aH))
  (ai (cZ adi rfl (bD (pV 0)) (ar (aw (i:=2) fm.nd rfl (Or.inl rfl)))
   (aq (pS 1 fm.nd (ay bx aF (PE.sh (ay da aF (pO 1) (PE.sh (pC bz hr (ab (pV 1) (ab (aC (pO 2) pI) ag)))))) (PE.sh (aC (pO 2) pI))))))
  (aq (bZ (pV 1)))))
theorem wX (F:Df K mg "tops_over" dO ["fractions","bottom"]) (B:Bs mg):ME P w K mg base:=
 cc [] lM F wR λf cU A outer s H E hr=>(aq (fM (PE.xr (bX (ah dO) ["fractions","bottom"] [1] ["fraction","bottom"] ["fraction"] jC (PI.c (bD (pV 0))) (λ_ _ _ _ _ _=>(ar (aw (i:=0) (show (["fraction","bottom"]:List Str).Nodup from by decide +kernel) rfl (Or.inl rfl)))) (λ_ _ _ _ _ _=>cy) (λ_ _ _ _ _ _=>(ay bx aF (PE.sh (aC (pO 0) pI)) (PE.sh (ay da aF (pO 1) (PE.sh (aC (pO 0) pI))))))))))
theorem wY (F:Df K mg "ways_from" eY ["plan","beginning"]) (B:Bs mg) (gR:CM P w K mg base) (nQ:MU P w K mg base):Lc P w K mg base:=
 cB [2] lN F gO λf cU A outer s H E hr=>let hu:=ad0 (aeF (show 1<=64 by decide) _) hr.units
  (ai (vW (di (i:=2) gO.nd rfl (Or.inl rfl) (Gm hu (pO 1) (aD aH))))
  (ai (cZ adi rfl (bD (PE.nE (aY nQ hr (by decide) (ab (pV 0) ag)))) (ar (aw (i:=3) gO.nd rfl (Or.inl rfl)))
   (ai (pS 4 gO.nd (si hu (pO 2) (pO 3) (aD aH)))
  (aq (cZ adi rfl (bD (ba (ab (pC gR hr (ab (pV 3) (ab (fD fA) ag))) (ab (pC gR hr (ab (pV 3) (ab (fD fA) ag))) ag)))) (ar (aw (i:=5) gO.nd rfl (Or.inl rfl)))
   (aq (B3 (vG hu (pv 2) (pO 5) (ay bH bg (PE.sh (si hu (pO 2) (pO 5) (aD aH))) (pO 4)) (by rfl))))))))
  (aq (c7 (pv 2)))))
theorem tf (F:Df K mg "rows_behind" dq ["plan","row","count"]) (B:Bs mg) (gR:CM P w K mg base) (eJ:CL P w K mg base):MA P w K mg base:=by
 have okF:∀ n,Dn P w K mg base (2 + n) "rows_behind" ["plan","row","count"] (o8 K 3 (bS n)):=λn=>by
  induction n with
  | zero=>exact cc (k:=1) [3] (λ_=>none) F jn λf cU A outer s H E hr=>Dk
  | succ n eK=>exact cc (k:=2 + n) [3] (jE (bS n)) F jn λf cU A outer s H E hr=>(ai (fu (oy (i6 (PE.sh (qM eJ hr (by omega) (ab (pV 0) (ab (pV 2) ag)))))) (aq (fM (dj (ab (pV 1) ag)))) dE)
  (ai (dB (di (i:=3) jn.nd rfl (Or.inl rfl) (aY eK hr (by omega) (ab (pV 0) (ab (ay bH bg (pO 1) (PE.sh (fD fA))) (ab (qM gR hr (by omega) (ab (pV 2) (ab (fD fA) ag))) ag))))))
  (ai (mi (cX (iq adn ae6 afy ma (pv 3) (bG (aY eK hr (by omega) (ab (pV 0) (ab (ay bH bg (pO 1) (PE.sh (fD fA))) (ab (qM gR hr (by omega) (ab (pV 2) (ab (fD fA) ag))) ag)))) cz))))
  (aq (c7 (pv 3))))))
 exact okF 26
theorem A5 (F:Df K mg "rows_of" gq ["plan"]) (B:Bs mg) (lZ:Cn mg "MOST_ROWS" (.int (4000))) (gf:Ei P w K mg base) (eK:MA P w K mg base) (cQ:Lc P w K mg base):MW P w K mg base:=
 cc [] pM F sW λf cU A outer s H E hr=>let hu:=ad0 (aeF (show 1<=64 by decide) _) hr.units
  (ai (pS 1 sW.nd (pC cQ hr (ab (pV 0) (ab (ba (ab (aD aH) (ab (aD aH) ag))) ag))))
  (ai (fu (aX mM cV (PE.sh (aG (DJ rfl) J7 rfl B.sum OT (ao (PE.sh (PE.nE (PE.xr (bX (ah gq) ["plan","ways"] [1] ["end","ways"] ["end"] jC (PI.c (bD (PE.nE (aY gf hr (by decide) (ab (pV 0) ag))))) (λ_ _ _ _ _ _=>(ar (aw (i:=0) (show (["end","ways"]:List Str).Nodup from by decide +kernel) rfl (Or.inl rfl)))) (λ_ _ _ _ _ _=>cy) (λ_ _ _ _ _ _=>(oC hu (pO 1) (pO 0))))))) ax))) (PE.sh (aD (rB lZ))) (bw _)) (aq jQ) dE)
  (aq (fM (aY eK hr (by decide) (ab (pV 0) (ab (fD fA) (ab (ba (ab (aD aH) (ab (aD aH) ag))) ag))))))))
theorem Ek (F:Df K mg "end_of" jm ["plan","row"]) (B:Bs mg) (gR:CM P w K mg base) (eJ:CL P w K mg base):MP P w K mg base:=
 cB [] sv F mG λf cU A outer s H E hr=>(ai (pS 2 mG.nd (ba (ab (aD aH) (ab (aD aH) ag))))
  (ai (cZ adi rfl (Gy (pV 1)) (ar (aw (i:=3) mG.nd rfl (Or.inl rfl)))
   (ai (fu (PW.pt (rM (aX uH uI (pO 3) (PE.sh (ba (ab (fD fA) (ab (fD fA) ag)))) (by with_unfolding_all rfl)) (pw_or1 (oy (i6 (PE.sh (pC eJ hr (ab (pV 0) (ab (pV 2) ag))))))))) (aq jQ) dE)
  (aq (pS 2 mG.nd (pC gR hr (ab (pV 2) (ab (pV 3) ag)))))))
  (ai (fu (i6 (PE.sh (pC eJ hr (ab (pV 0) (ab (pV 2) ag))))) (aq jQ) dE)
  (aq (bZ (pV 2))))))
theorem El (F:Df K mg "shares" iB ["plan"]) (B:Bs mg) (gf:Ei P w K mg base) (fG:Eh P w K mg base) (cQ:Lc P w K mg base):M0 P w K mg base:=
 cc [] sx F p5 λf cU A outer s H E hr=>let hu:=ad0 (aeF (show 1<=64 by decide) _) hr.units
  (ai (pS 1 p5.nd (pC cQ hr (ab (pV 0) (ab (ba (ab (aD aH) (ab (aD aH) ag))) ag))))
  (ai (pS 2 p5.nd (pC cQ hr (ab (pV 0) (ab (ba (ab (aD aH) (ab (aD aH) ag))) ag))))
  (aq (fM (PE.xr (bX (ah iB) ["plan","ways","ways_of_bad"] [1,2] ["end","ways","ways_of_bad"] ["end"] jC (PI.c (bD (PE.nE (aY gf hr (by decide) (ab (pV 0) ag))))) (λ_ _ _ _ _ _=>(ar (aw (i:=0) (show (["end","ways","ways_of_bad"]:List Str).Nodup from by decide +kernel) rfl (Or.inl rfl)))) (λ_ _ _ _ _ _=>cy) (λ_ _ _ _ _ _=>(pC fG hr (ab (si hu (pO 2) (pO 0) (aD aH)) (ab (oC hu (pO 1) (pO 0)) ag))))))))))
theorem Em (F:Df K mg "by_end" iC ["plan","telling"]) (B:Bs mg) (tj:MP P w K mg base) (gf:Ei P w K mg base) (qc:MW P w K mg base):Il P w K mg base:=
 cc [4] sy F ia λf cU A outer s H E hr=>let hu:=ad0 (aeF (show 1<=64 by decide) _) hr.units
  (ai (pS 2 ia.nd (PE.nE (aY qc hr (by decide) (ab (pV 0) ag))))
  (ai (fu (aX (lA hr) lB (PE.sh (aG aM bc rfl B.len bI (ao (pO 1) ax))) (PE.sh (aG aM bc rfl B.len bI (ao (pO 2) ax))) (bw _)) (aq jQ) dE)
  (ai (pS 3 ia.nd (PE.nE (aY gf hr (by decide) (ab (pV 0) ag))))
  (ai (vW (di (i:=4) ia.nd rfl (Or.inr rfl) B4))
  (DR (Cc adi rfl (bD (pV 3)) (aw (i:=5) ia.nd rfl (Or.inl rfl)) (DO (by decide))
   (J9 (vG hu (pv 4) (pO 5) (dj ag) (by rfl))))
  (Cc adi rfl (nc B.zip (pV 2) (pV 1)) (EX rfl (rg (aw (i:=6) ia.nd rfl (Or.inl rfl)) (rg (aw (i:=7) ia.nd rfl (Or.inl rfl)) Bz))) (DP (by decide) (by decide))
   (Ka (cX (iq adn adu adw c6 (BG hu (pv 4) (PE.sh (pC tj hr (ab (pV 0) (ab (pV 6) ag)))) (by intro _ _; rfl)) (bG (pV 7) cz)))))
  (PE.xr (bX (ah iC) ["plan","telling","rows","there","groups","end","row","fraction"] [4] ["end","groups"] ["end"] jC (PI.c (bD (pV 3))) (λ_ _ _ _ _ _=>(ar (aw (i:=0) (show (["end","groups"]:List Str).Nodup from by decide +kernel) rfl (Or.inl rfl)))) (λ_ _ _ _ _ _=>cy) (λ_ _ _ _ _ _=>(oC hu (pO 1) (pO 0))))))))))
theorem t7 (F:Df K mg "sum_of_all" d3 ["fractions"]) (B:Bs mg) {eQ:Addr} (gP:Cn mg "NOUGHT" (.ref eQ)) (gQ:(eQ,[V.int (0),V.int (1)])∈cA) (p9:Im P w K mg base):Ik P w K mg base:=
 cB [] kE F il λf cU A outer s H E hr=>(ai (pS 1 il.nd (Gu (rB gP) gQ (λ_=>(.cons (.int _) (.cons (.int _) .nil)))))
  (ai (cZ adi rfl (bD (pV 0)) (ar (aw (i:=2) il.nd rfl (Or.inl rfl)))
   (aq (pS 1 il.nd (pC p9 hr (ab (pV 1) (ab (pV 2) ag))))))
  (aq (bZ (pV 1)))))
theorem yY (F:Df K mg "averaged" eZ ["plan","telling"]) (B:Bs mg) (j7:Il P w K mg base) (qd:Io P w K mg base) (eh:Ik P w K mg base):MH P w K mg base:=
 cc [] nu F yT λf cU A outer s H E hr=>(aq (fM (PE.xr (bX (ah eZ) ["plan","telling"] [] ["group"] ["group"] jC (PI.c (bD (PE.nE (aY j7 hr (by decide) (ab (pV 0) (ab (pV 1) ag)))))) (λ_ _ _ _ _ _=>(ar (aw (i:=0) (show (["group"]:List Str).Nodup from by decide +kernel) rfl (Or.inl rfl)))) (λ_ _ _ _ _ _=>cy) (λ_ _ _ _ _ _=>(pC qd hr (ab (pC eh hr (ab (pV 0) ag)) (ab (ba (ab (aG aM bc rfl B.len bI (ao (pO 0) ax)) (ab (aD aH) ag))) ag))))))))
theorem A6 (F:Df K mg "left_in" gu ["group"]) (B:Bs mg) (wZ:MQ P w K mg base) (qd:Io P w K mg base) (rb:MT P w K mg base) (eh:Ik P w K mg base):MX P w K mg base:=
 cB [] pN F sY λf cU A outer s H E hr=>(ai (pS 1 sY.nd (pC eh hr (ab (PE.nE (PE.xr (bX (ah gu) ["group","squares"] [] ["fraction"] ["fraction"] jC (PI.c (bD (pV 0))) (λ_ _ _ _ _ _=>(ar (aw (i:=0) (show (["fraction"]:List Str).Nodup from by decide +kernel) rfl (Or.inl rfl)))) (λ_ _ _ _ _ _=>cy) (λ_ _ _ _ _ _=>(pC rb hr (ab (pV 0) (ab (aD aH) ag))))))) ag)))
  (aq (bZ (pC wZ hr (ab (pV 1) (ab (pC qd hr (ab (pC rb hr (ab (pC eh hr (ab (pV 0) ag)) (ab (aD aH) ag))) (ab (ba (ab (aG aM bc rfl B.len bI (ao (pO 0) ax)) (ab (aD aH) ag))) ag))) ag))))))
theorem tm (F:Df K mg "left_within" cP ["plan","telling"]) (B:Bs mg) (j7:Il P w K mg base) (qe:MX P w K mg base):MD P w K mg base:=
 cc [] jG F sX λf cU A outer s H E hr=>(aq (fM (PE.xr (bX (ah cP) ["plan","telling"] [] ["group"] ["group"] jC (PI.c (bD (PE.nE (aY j7 hr (by decide) (ab (pV 0) (ab (pV 1) ag)))))) (λ_ _ _ _ _ _=>(ar (aw (i:=0) (show (["group"]:List Str).Nodup from by decide +kernel) rfl (Or.inl rfl)))) (λ_ _ _ _ _ _=>cy) (λ_ _ _ _ _ _=>(pC qe hr (ab (pV 0) ag)))))))
theorem qf (F:Df K mg "check_telling" cI ["plan","numbers"]) (B:Bs mg) (gf:Ei P w K mg base):MB P w K mg base:=
 cB [] fQ F p8 λf cU A outer s H E hr=>(aq (fu (aX (lA hr) lB (PE.sh (aG aM bc rfl B.len bI (ao (pO 1) ax))) (PE.sh (aG aM bc rfl B.len bI (ao (PE.sh (PE.nE (aY gf hr (by decide) (ab (pV 0) ag)))) ax))) (bw _)) (aq jQ) dE))
theorem A7 (F:Df K mg "mean_of" gv ["plan","numbers"]) (B:Bs mg) (iJ:MB P w K mg base) (iK:MF P w K mg base) (gf:Ei P w K mg base) (fG:Eh P w K mg base) (nR:MM P w K mg base) (l5:ME P w K mg base) (qg:MO P w K mg base) (cQ:Lc P w K mg base):ML P w K mg base:=
 cc [4] pP F fb λf cU A outer s H E hr=>let hu:=ad0 (aeF (show 1<=64 by decide) _) hr.units
  (ai (JR (cX (pC iJ hr (ab (pV 0) (ab (pV 1) ag)))))
  (ai (pS 2 fb.nd (pC cQ hr (ab (pV 0) (ab (ba (ab (aD aH) (ab (aD aH) ag))) ag))))
  (ai (pS 3 fb.nd (pC iK hr (ab (pV 1) ag)))
  (ai (dB (di (i:=4) fb.nd rfl (Or.inl rfl) (BP (dj (ab (aD aH) ag)) (PE.sh (ay bH bg (PE.sh (aG aM bc rfl B.len bI (ao (pO 0) ax))) pI)))))
  (ai (cZ adi rfl (nc B.zip (PE.nE (aY gf hr (by decide) (ab (pV 0) ag))) (PE.nE (aY l5 hr (by decide) (ab (pV 1) (ab (pV 3) ag))))) (dU rfl (aZ (ar (aw (i:=5) fb.nd rfl (Or.inl rfl))) (aZ (ar (aw (i:=6) fb.nd rfl (Or.inl rfl))) dS)))
   (aq (cZ adi rfl (km B.enumerate (PE.nE (aY nR hr (by decide) (ab (aC (pO 5) pI) (ab (aC (pO 5) pI) ag))))) (dU rfl (aZ (ar (aw (i:=7) fb.nd rfl (Or.inl rfl))) (aZ (ar (aw (i:=8) fb.nd rfl (Or.inl rfl))) dS)))
   (aq (FO (Jg (pv 4) (pO 7) get_own (PE.sh (ay bx aF (PE.sh (ay bx aF (pO 6) (PE.sh (oC hu (pO 2) (pO 5))))) (PE.sh (aC (pO 8) pI)))) Nj set_list))))))
  (aq (fM (aY qg hr (by decide) (ab (PE.nE (PE.xr (bX (ah gv) ["plan","numbers","ways","bottom","totals","end","top","place","fraction"] [3] ["total","bottom"] ["total"] jC (JW (pO 4)) (λ_ _ _ _ _ _=>(ar (aw (i:=0) (show (["total","bottom"]:List Str).Nodup from by decide +kernel) rfl (Or.inl rfl)))) (λ_ _ _ _ _ _=>cy) (λ_ _ _ _ _ _=>(pC fG hr (ab (pV 0) (ab (pV 1) ag))))))) ag)))))))))
theorem w4 (F:Df K mg "stretches" fc ["row"]) (B:Bs mg):MS P w K mg base:=
 cc [1] lO F kY λf cU A outer s H E hr=>(ai (dB (di (i:=1) kY.nd rfl (Or.inl rfl) (dj ag)))
  (ai (cZ adi rfl (bD (pV 0)) (ar (aw (i:=2) kY.nd rfl (Or.inl rfl)))
   (aq (fu (PW.pt (me (aX mM cV (PE.sh (aG aM bc rfl B.len bI (ao (pO 1) ax))) pI (bw _)) (pw_and1 (aX (iF hr) imp_eq (PE.sh (aC (PE.sh (aC (pO 1) (PE.sh (lC pI)))) pI)) (PE.sh (ay fB iN (pO 2) pI)) (bw _))))) (aq (xT (zx (ba (ab (aC (PE.sh (aC (pO 1) (PE.sh (lC pI)))) pI) (ab (pV 2) ag))) (EY (pv 1) (PE.sh (lC pI)) set_list)))) (aq (dG (cX (iq adn adu adw c6 (pv 1) (bG (ba (ab (pV 2) (ab (pV 2) ag))) cz))))))))
  (aq (c7 (pv 1)))))
theorem nS (F:Df K mg "is_side_by_side" bQ ["plan"]) (B:Bs mg) (l6:MS P w K mg base):MG P w K mg base:=
 cB [] gI F nP λf cU A outer s H E hr=>(aq (bZ (aG (DE rfl) J3 rfl B.all OH (ao (PE.sh (PE.nE (PE.xr (bX (ah bQ) ["plan"] [] ["place"] ["place"] jC (PI.c (bD (pV 0))) (λ_ _ _ _ _ _=>(ar (aw (i:=0) (show (["place"]:List Str).Nodup from by decide +kernel) rfl (Or.inl rfl)))) (λ_ _ _ _ _ _=>cy) (λ_ _ _ _ _ _=>(rK (iF hr) imp_eq (PE.sh (aG aM bc rfl B.len bI (ao (PE.sh (PE.nE (aY l6 hr (by decide) (ab (pV 0) ag)))) ax))) pI (bw _))))))) ax))))
theorem yZ (F:Df K mg "_law_cell" fV ["_law_script","_law_k"]) (B:Bs mg):Lb P w K mg base:=
 cB [] nv F yU λf cU A outer s H E hr=>(ai (fu (aX ll cV (pO 1) (PE.sh (aG aM bc rfl B.len bI (ao (pO 0) ax))) (bw _)) (aq (bZ (aC (pO 0) (pO 1)))) dE)
  (aq (bZ (aD aH))))
theorem t8 (F:Df K mg "_law_digits" d6 ["_law_cell_here","_law_base","_law_many"]) (B:Bs mg):PN P w K mg base:=
 cc [3] kH F ip λf cU A outer s H E hr=>(ai (dB (di (i:=3) ip.nd rfl (Or.inl rfl) (dj ag)))
  (ai (cZ adi rfl (g8 B.range (ab (pV 2) ag)) (ar (aw (i:=4) ip.nd rfl (Or.inl rfl)))
   (ai (dG (cX (iq adn adu adw c6 (pv 3) (bG (ay dQ aF (pO 0) (pO 1)) cz))))
  (aq (pS 0 ip.nd (ay da aF (pO 0) (pO 1))))))
  (aq (c7 (pv 3)))))
theorem w5 (F:Df K mg "_law_mixes" fe ["_law_cell_here","_law_base","_law_many"]) (B:Bs mg):PQ P w K mg base:=
 cc [3] lP F iV λf cU A outer s H E hr=>(ai (dB (di (i:=3) iV.nd rfl (Or.inl rfl) (dj ag)))
  (ai (cZ adi rfl (g8 B.range (ab (pV 2) ag)) (ar (aw (i:=4) iV.nd rfl (Or.inl rfl)))
   (ai (pS 5 iV.nd (ay dQ aF (PE.sh (ay bH bg (PE.sh (ay bH bg (PE.sh (ay bx aF (PE.sh (ay dQ aF (pO 0) pI)) pI)) (PE.sh (ay bx aF (PE.sh (ay bx aF (pO 4) (pO 4))) pI)))) (PE.sh (ay bx aF (pO 4) pI)))) pI))
  (aq (dG (cX (iq adn adu adw c6 (pv 3) (bG (ay dQ aF (PE.sh (ay da aF (PE.sh (ay dQ aF (PE.sh (ay bH bg (PE.sh (ay bx aF (pO 5) pI)) (pO 0))) pI)) pI)) (pO 1)) cz)))))))
  (aq (c7 (pv 3)))))
theorem y0 (F:Df K mg "_law_plan" d7 ["_law_cell_here","_law_most_here"]) (B:Bs mg) (fq:PN P w K mg base) (gz:PQ P w K mg base):Mw P w K mg base:=
 cB [5] ny F ck λf cU A outer s H E hr=>(ai (pS 2 ck.nd (ay da aF (pO 0) pI))
  (ai (pS 3 ck.nd (ay bH bg pI (PE.sh (ay bx aF pI (PE.sh (mf ur BQ rfl B.int zN (ao (PE.sh (rK mM cV (pO 1) pI (bw _))) ax)))))))
  (ai (pS 4 ck.nd (PE.nE (aY gz hr (by decide) (ab (pV 2) (ab (aD aH) (ab (pV 3) ag))))))
  (ai (fu (aX QY cV (PE.sh (aG jO mh rfl B.abs pw (ao (pO 0) ax))) (PE.sh (ay rk aF pI pI)) (bw _)) (aq (pS 4 ck.nd (PE.nE (aY fq hr (by decide) (ab (pV 2) (ab (aD aH) (ab (pV 3) ag))))))) dE)
  (ai (dB (di (i:=5) ck.nd rfl (Or.inl rfl) (dj (ab (ba (ab (aD aH) ag)) ag))))
  (ai (pS 6 ck.nd (PE.nE (dj (ab (aD aH) (ab (aD aH) ag)))))
  (ai (pS 7 ck.nd (aD aH))
  (ai (i8 adi (PW.pt (me (aX ll cV (PE.sh (aG aM bc rfl B.len bI (ao (pO 5) ax))) (pO 1) (bw _)) (pw_and1 (aX mM cV (PE.sh (aG aM bc rfl B.len bI (ao (pO 6) ax))) pI (bw _))))) (ai (mW (PS.nE (jS (i:=8) (ah d7) ["_law_cell_here","_law_most_here","_law_rest","_law_many","_law_digits_here","_law_rows_here","_law_come","_law_at","_law_row"] [4,3,7] ["_law_k","_law_bad","_law_digits_here","_law_many","_law_at"] ["_law_k","_law_bad"] ck.nd rfl rfl yf (PI.c (km B.enumerate (pV 6))) (λ_ _ _ _ _ _=>(dU rfl (aZ (ar (aw (i:=0) (show (["_law_k","_law_bad","_law_digits_here","_law_many","_law_at"]:List Str).Nodup from by decide +kernel) rfl (Or.inl rfl))) (aZ (ar (aw (i:=1) (show (["_law_k","_law_bad","_law_digits_here","_law_many","_law_at"]:List Str).Nodup from by decide +kernel) rfl (Or.inl rfl))) dS)))) (λ_ _ _ _ _ _=>(pF (aX mM cV (PE.sh (aC (pO 2) (PE.sh (ay dQ aF (PE.sh (ay bH bg (pO 4) (pO 0))) (pO 3))))) pI (bw _)))) (λ_ _ _ _ _ _=>(pV 1)))))
  (ai (pS 7 ck.nd (ay bH bg (pO 7) (PE.sh (aG aM bc rfl B.len bI (ao (pO 6) ax)))))
  (ai (fu (aX mM cV (PE.sh (ay dQ aF (pO 0) pI)) pI (bw _)) (aq (pS 8 ck.nd (PE.nE (Ob (pO 6) (rQ (PE.sh (aC (pO 4) (PE.sh (ay dQ aF (pO 7) (pO 3)))))) (rQ (PE.sh (aG (C1 rfl) JM rfl B.max NV (ao pI (ao (PE.sh (ay fB iN (PE.sh (aG aM bc rfl B.len bI (ao (pO 6) ax))) (PE.sh (aC (pO 4) (PE.sh (ay dQ aF (PE.sh (ay bH bg (pO 7) pI)) (pO 3))))))) ax))))))))) dE)
  (ai (pS 6 ck.nd (PE.nE (m7 B.sorted B.set (PE.sh (PE.nE (pz kf kg (pO 8) (PE.sh (PE.nE (PE.xr (bX (ah d7) ["_law_cell_here","_law_most_here","_law_rest","_law_many","_law_digits_here","_law_rows_here","_law_come","_law_at","_law_row"] [] ["_law_bad"] ["_law_bad"] jC (PI.c (bD (pV 8))) (λ_ _ _ _ _ _=>(ar (aw (i:=0) (show (["_law_bad"]:List Str).Nodup from by decide +kernel) rfl (Or.inl rfl)))) (λ_ _ _ _ _ _=>cy) (λ_ _ _ _ _ _=>(ay bH bg (pO 0) pI))))))))))))
  (aq (fu (aX mM cV (PE.sh (aG aM bc rfl B.len bI (ao (pO 8) ax))) pI (bw _)) (aq (dG (cX (iq adn adu adw c6 (pv 5) (bG (mf mN uG rfl B.tuple rD (ao (pO 8) ax)) cz))))) dE)))))))
  (aq (bZ (mf mN uG rfl B.tuple rD (ao (pO 5) ax))))))))))))
theorem y4 (F:Df K mg "_law_ends" d8 ["_law_plan_here"]) (B:Bs mg):MI P w K mg base:=
 cc [1] nz F gy λf cU A outer s H E hr=>(ai (dB (di (i:=1) gy.nd rfl (Or.inl rfl) (dj ag)))
  (ai (cZ adi rfl (Dq B.range (ab (aD aH) (ab (ay bH bg (PE.sh (aG aM bc rfl B.len bI (ao (pO 0) ax))) pI) ag))) (ar (aw (i:=2) gy.nd rfl (Or.inr rfl)))
   (ai (pS 3 gy.nd (ba ag))
  (ai (fu (aX ll cV (pO 2) (PE.sh (aG aM bc rfl B.len bI (ao (pO 0) ax))) (bw _)) (aq (pS 3 gy.nd (aC (pO 0) (pO 2)))) dE)
  (ai (pS 4 gy.nd (PE.nE (m7 B.sorted B.set (PE.sh (PE.nE (pz kf kg (PE.sh (PE.nE (i7 gA lE rfl B.list om (ao (PE.sh (aC (pO 0) (PE.sh (ay fB iN (pO 2) pI)))) ax)))) (PE.sh (PE.nE (PE.xr (bX (ah d8) ["_law_plan_here","_law_found","_law_n","_law_on","_law_come"] [] ["_law_bad"] ["_law_bad"] jC (PI.c (bD (aC (pO 0) (PE.sh (ay fB iN (pO 2) pI))))) (λ_ _ _ _ _ _=>(ar (aw (i:=0) (show (["_law_bad"]:List Str).Nodup from by decide +kernel) rfl (Or.inl rfl)))) (λ_ _ _ _ _ _=>cy) (λ_ _ _ _ _ _=>(ay bH bg (pO 0) pI))))))))))))
  (aq (mi (cX (iq PySem.F.plainAttrs_list PySem.F.slot_list_extend PySem.F.type_list_extend ma (pv 1) (bG (bX (ah d8) ["_law_plan_here","_law_found","_law_n","_law_on","_law_come"] [2,3] ["_law_bad","_law_n","_law_on"] ["_law_bad"] jC (PI.c (bD (pV 4))) (λ_ _ _ _ _ _=>(ar (aw (i:=0) (show (["_law_bad","_law_n","_law_on"]:List Str).Nodup from by decide +kernel) rfl (Or.inl rfl)))) (λ_ _ _ _ _ _=>(pF (aX uH uI (pO 0) (pO 2) (by with_unfolding_all rfl)))) (λ_ _ _ _ _ _=>(ba (ab (pV 0) (ab (ay fB iN (pO 1) (pO 0)) ag))))) cz)))))))))
  (aq (c7 (pv 1)))))
theorem y6 (F:Df K mg "_law_rows" fW ["_law_plan_here"]) (B:Bs mg):MJ P w K mg base:=
 cc [1,2] nA F iD λf cU A outer s H E hr=>(ai (dB (di (i:=1) iD.nd rfl (Or.inl rfl) (dj ag)))
  (ai (dB (di (i:=2) iD.nd rfl (Or.inl rfl) (dj (ab (fD fA) ag))))
  (ai (i8 adi (aX mM cV (PE.sh (aG aM bc rfl B.len bI (ao (pO 2) ax))) pI (bw _)) (ai (DL (j:=2) (di (i:=3) iD.nd rfl (Or.inl rfl) (zK adn agf PySem.F.type_list_pop Fh (pv 2))))
  (ai (pS 4 iD.nd (GA (pO 3) (PE.sh (fD fA))))
  (aq (fu (PW.pt (me (aX ll cV (PE.sh (aG aM bc rfl B.len bI (ao (pO 3) ax))) (PE.sh (aG aM bc rfl B.len bI (ao (pO 0) ax))) (bw _)) (pw_and1 (aX FL FN (pO 4) (PE.sh (aC (pO 0) (PE.sh (aG aM bc rfl B.len bI (ao (pO 3) ax))))) (by with_unfolding_all rfl))))) (ai (dG (cX (iq PySem.F.plainAttrs_list PySem.F.slot_list_append PySem.F.type_list_append c6 (pv 2) (bG (ay bH bg (pO 3) (PE.sh (fD fA))) cz))))
  (aq (dG (cX (iq adn adu adw c6 (pv 2) (bG (ay bH bg (pO 3) (PE.sh (fD fA))) cz)))))) (aq (dG (cX (iq adn adu adw c6 (pv 1) (bG (ba (ab (pV 3) (ab (ba (ab (pV 4) (ab (ay fB iN (PE.sh (aG aM bc rfl B.len bI (ao (pO 3) ax))) (pO 4)) ag))) ag))) cz))))))))))
  (aq (c7 (pv 1))))))
theorem w6 (F:Df K mg "_law_power" de ["_law_bad","_law_good"]) (B:Bs mg):MC P w K mg base:=
 cc [] lQ F iW λf cU A outer s H E hr=>(ai (pS 2 iW.nd (PE.nE (dj (ab (aD aH) ag))))
  (ai (cZ adi rfl (g8 B.range (ab (pV 1) ag)) (ar (aw (i:=3) iW.nd rfl (Or.inl rfl)))
   (aq (mW (PS.nE (jS (i:=2) (ah de) ["_law_bad","_law_good","_law_row","_law_k"] [] ["_law_one","_law_other"] ["_law_one","_law_other"] iW.nd rfl rfl yf (PI.c (nc B.zip (PE.nE (pz kf kg (pO 2) (PE.sh (PE.nE (dj (ab (aD aH) ag)))))) (PE.nE (pz kf kg (PE.sh (PE.nE (dj (ab (aD aH) ag)))) (pO 2))))) (λ_ _ _ _ _ _=>(dU rfl (aZ (ar (aw (i:=0) (show (["_law_one","_law_other"]:List Str).Nodup from by decide +kernel) rfl (Or.inl rfl))) (aZ (ar (aw (i:=1) (show (["_law_one","_law_other"]:List Str).Nodup from by decide +kernel) rfl (Or.inl rfl))) dS)))) (λ_ _ _ _ _ _=>cy) (λ_ _ _ _ _ _=>(ay fB iN (pO 0) (pO 1))))))))
  (aq (fM (pz kf kg (PE.sh (PE.nE (PE.xr (bX (ah de) ["_law_bad","_law_good","_law_row","_law_k"] [] ["_law_k"] ["_law_k"] jC (PI.c (g8 B.range (ab (pV 0) ag))) (λ_ _ _ _ _ _=>(ar (aw (i:=0) (show (["_law_k"]:List Str).Nodup from by decide +kernel) rfl (Or.inl rfl)))) (λ_ _ _ _ _ _=>cy) (λ_ _ _ _ _ _=>(aD aH)))))) (pO 2))))))
theorem w8 (F:Df K mg "_law_whole" ff ["_law_found"]) (B:Bs mg):MK P w K mg base:=
 cB [] lR F wU λf cU A outer s H E hr=>(aq (bZ (FA (zS "int" B.isinstance (pO 0) (vn rfl B.int zN (v:=.ty "int") rfl)) (ER (N8 (PE.sh (zS "bool" B.isinstance (pO 0) (vn rfl B.bool JF (v:=.ty "bool") rfl))))))))
theorem tq (F:Df K mg "_law_divisor" du ["_law_one","_law_other"]) (B:Bs mg):My P w K mg base:=
 cB [] jH F lY λf cU A outer s H E hr=>(ai (i8 adi (aX (lA hr) lB (pO 1) pI (bw _)) (aq (Oi (Ni (i:=0) (j:=1) rfl lY.nd rfl rfl (by decide) rfl rfl (ab (pV 1) (ab (ay dQ aF (pO 0) (pO 1)) ag)) rfl))))
  (aq (bZ (aG jO mh rfl B.abs pw (ao (pO 0) ax)))))
theorem y7 (F:Df K mg "_law_frac" fX ["_law_top","_law_bottom"]) (B:Bs mg) (jK:My P w K mg base):La P w K mg base:=
 cB [] nD F qv λf cU A outer s H E hr=>(ai (pS 2 qv.nd (pC jK hr (ab (pV 0) (ab (pV 1) ag))))
  (aq (bZ (ba (ab (ay da aF (pO 0) (pO 2)) (ab (ay da aF (pO 1) (pO 2)) ag))))))
theorem y8 (F:Df K mg "_law_plus" fY ["_law_one","_law_other"]) (B:Bs mg) (dw:La P w K mg base):Ij P w K mg base:=
 cB [] nF F yV λf cU A outer s H E hr=>(aq (bZ (pC dw hr (ab (ay bH bg (PE.sh (ay bx aF (PE.sh (aC (pO 0) pI)) (PE.sh (aC (pO 1) pI)))) (PE.sh (ay bx aF (PE.sh (aC (pO 1) pI)) (PE.sh (aC (pO 0) pI))))) (ab (ay bx aF (PE.sh (aC (pO 0) pI)) (PE.sh (aC (pO 1) pI))) ag)))))
theorem w9 (F:Df K mg "_law_times" fg ["_law_one","_law_other"]) (B:Bs mg) (dw:La P w K mg base):K9 P w K mg base:=
 cB [] lS F wV λf cU A outer s H E hr=>(aq (bZ (pC dw hr (ab (ay bx aF (PE.sh (aC (pO 0) pI)) (PE.sh (aC (pO 1) pI))) (ab (ay bx aF (PE.sh (aC (pO 0) pI)) (PE.sh (aC (pO 1) pI))) ag)))))
theorem t9 (F:Df K mg "_law_values" df ["_law_script","_law_many"]) (B:Bs mg) (cJ:Lb P w K mg base) (fq:PN P w K mg base) (gz:PQ P w K mg base):Mz P w K mg base:=
 cB [] kJ F fK λf cU A outer s H E hr=>(ai (pS 2 fK.nd (pC cJ hr (ab (pV 0) (ab (aD aH) ag))))
  (ai (pS 3 fK.nd (ay bH bg pI (PE.sh (ay dQ aF (PE.sh (pC cJ hr (ab (pV 0) (ab (aD aH) ag)))) (PE.sh (ay rk aF pI pI))))))
  (ai (pS 4 fK.nd (PE.nE (aY fq hr (by decide) (ab (pV 2) (ab (aD aH) (ab (pV 1) ag))))))
  (ai (fu (Ds ll cV ll cV (PE.sh (lC (PE.sh (ay rk aF pI pI)))) (pO 2) (PE.sh (ay rk aF pI pI))) (aq (pS 4 fK.nd (PE.nE (aY gz hr (by decide) (ab (pV 2) (ab (ay rk aF pI pI) (ab (pV 1) ag))))))) dE)
  (aq (bZ (ba (ab (PE.nE (PE.xr (bX (ah df) ["_law_script","_law_many","_law_cell_here","_law_bottom","_law_digits_here"] [] ["_law_number"] ["_law_number"] jC (PI.c (bD (pV 4))) (λ_ _ _ _ _ _=>(ar (aw (i:=0) (show (["_law_number"]:List Str).Nodup from by decide +kernel) rfl (Or.inl rfl)))) (λ_ _ _ _ _ _=>cy) (λ_ _ _ _ _ _=>(ay fB iN (pO 0) pI))))) (ab (pV 3) ag)))))))))
theorem y9 (F:Df K mg "_law_mean" fZ ["_law_some"]) (B:Bs mg) (cg:Ij P w K mg base) (cC:K9 P w K mg base):MN P w K mg base:=
 cB [] nG F jy λf cU A outer s H E hr=>(ai (pS 1 jy.nd (ba (ab (aD aH) (ab (aD aH) ag))))
  (ai (cZ adi rfl (bD (pV 0)) (ar (aw (i:=2) jy.nd rfl (Or.inl rfl)))
   (aq (pS 1 jy.nd (pC cg hr (ab (pV 1) (ab (pV 2) ag))))))
  (aq (bZ (pC cC hr (ab (pV 1) (ab (ba (ab (aD aH) (ab (aG aM bc rfl B.len bI (ao (pO 0) ax)) ag))) ag)))))))
theorem tu (F:Df K mg "_law_telling" bA ["_law_script","_law_rows_here","_law_last"]) (B:Bs mg) (cJ:Lb P w K mg base) (dw:La P w K mg base) (nT:MN P w K mg base) (cg:Ij P w K mg base) (kZ:Mz P w K mg base):Mv P w K mg base:=
 cc [9] jI F bq λf cU A outer s H E hr=>let hu:=ad0 (aeF (show 1<=64 by decide) _) hr.units
  (ai (pS 3 bq.nd (aG (DU rfl) GJ rfl B.min NW (ao (PE.sh (PE.nE (bX (ah bA) ["_law_script","_law_rows_here","_law_last","_law_short","_law_way","_law_at","_law_tops","_law_bottom","_law_told","_law_middle","_law_end","_law_mine","_law_first","_law_share","_law_mid"] [] ["_law_row","_law_end"] ["_law_row","_law_end"] yf (PI.c (bD (pV 1))) (λ_ _ _ _ _ _=>(dU rfl (aZ (ar (aw (i:=0) (show (["_law_row","_law_end"]:List Str).Nodup from by decide +kernel) rfl (Or.inl rfl))) (aZ (ar (aw (i:=1) (show (["_law_row","_law_end"]:List Str).Nodup from by decide +kernel) rfl (Or.inl rfl))) dS)))) (λ_ _ _ _ _ _=>cy) (λ_ _ _ _ _ _=>(aG aM bc rfl B.len bI (ao (pO 0) ax)))))) ax)))
  (ai (pS 4 bq.nd (ay dQ aF (PE.sh (ay da aF (PE.sh (pC cJ hr (ab (pV 0) (ab (aD aH) ag)))) pI)) pI))
  (ai (fu (aX (iF hr) imp_eq (pO 4) pI (bw _)) (ai (pS 5 bq.nd (ay dQ aF (PE.sh (pC cJ hr (ab (pV 0) (ab (aD aH) ag)))) (pO 3)))
  (aq (fM (bX (ah bA) ["_law_script","_law_rows_here","_law_last","_law_short","_law_way","_law_at","_law_tops","_law_bottom","_law_told","_law_middle","_law_end","_law_mine","_law_first","_law_share","_law_mid"] [5] ["_law_row","_law_end","_law_at"] ["_law_row","_law_end"] yf (PI.c (bD (pV 1))) (λ_ _ _ _ _ _=>(dU rfl (aZ (ar (aw (i:=0) (show (["_law_row","_law_end","_law_at"]:List Str).Nodup from by decide +kernel) rfl (Or.inl rfl))) (aZ (ar (aw (i:=1) (show (["_law_row","_law_end","_law_at"]:List Str).Nodup from by decide +kernel) rfl (Or.inl rfl))) dS)))) (λ_ _ _ _ _ _=>cy) (λ_ _ _ _ _ _=>(ba (ab (mf ur BQ rfl B.int zN (ao (PE.sh (rK (iF hr) imp_eq (PE.sh (aC (pO 0) (pO 2))) (PE.sh (fD fA)) (bw _))) ax)) (ab (aD aH) ag)))))))) dE)
  (ai (Oc (zx (pC kZ hr (ab (pV 0) (ab (aG aM bc rfl B.len bI (ao (pO 1) ax)) ag))) (dU rfl (aZ (ar (aw (i:=6) bq.nd rfl (Or.inl rfl))) (aZ (ar (aw (i:=7) bq.nd rfl (Or.inr rfl))) dS)))))
  (ai (mW (PS.nE (PS.xr (jS (i:=8) (ah bA) ["_law_script","_law_rows_here","_law_last","_law_short","_law_way","_law_at","_law_tops","_law_bottom","_law_told","_law_middle","_law_end","_law_mine","_law_first","_law_share","_law_mid"] [7] ["_law_top","_law_bottom"] ["_law_top"] bq.nd rfl rfl jC (PI.c (bD (pV 6))) (λ_ _ _ _ _ _=>(ar (aw (i:=0) (show (["_law_top","_law_bottom"]:List Str).Nodup from by decide +kernel) rfl (Or.inl rfl)))) (λ_ _ _ _ _ _=>cy) (λ_ _ _ _ _ _=>(pC dw hr (ab (pV 0) (ab (pV 1) ag))))))))
  (ai (vW (di (i:=9) bq.nd rfl (Or.inr rfl) B4))
  (ai (cZ adi rfl (bD (pV 2)) (ar (aw (i:=10) bq.nd rfl (Or.inr rfl)))
   (ai (mW (PS.nE (jS (i:=11) (ah bA) ["_law_script","_law_rows_here","_law_last","_law_short","_law_way","_law_at","_law_tops","_law_bottom","_law_told","_law_middle","_law_end","_law_mine","_law_first","_law_share","_law_mid"] [10] ["_law_one","_law_row","_law_end"] ["_law_one","_law_row"] bq.nd rfl rfl yf (PI.c (nc B.zip (pV 8) (pV 1))) (λ_ _ _ _ _ _=>(dU rfl (aZ (ar (aw (i:=0) (show (["_law_one","_law_row","_law_end"]:List Str).Nodup from by decide +kernel) rfl (Or.inl rfl))) (aZ (ar (aw (i:=1) (show (["_law_one","_law_row","_law_end"]:List Str).Nodup from by decide +kernel) rfl (Or.inl rfl))) dS)))) (λ_ _ _ _ _ _=>(pF (aX (iF hr) imp_eq (PE.sh (aC (pO 1) pI)) (pO 2) (bw _)))) (λ_ _ _ _ _ _=>(pV 0)))))
  (ai (mW (PS.nE (jS (i:=12) (ah bA) ["_law_script","_law_rows_here","_law_last","_law_short","_law_way","_law_at","_law_tops","_law_bottom","_law_told","_law_middle","_law_end","_law_mine","_law_first","_law_share","_law_mid"] [10] ["_law_row","_law_other","_law_end"] ["_law_row","_law_other"] bq.nd rfl rfl yf (PI.c (bD (pV 1))) (λ_ _ _ _ _ _=>(dU rfl (aZ (ar (aw (i:=0) (show (["_law_row","_law_other","_law_end"]:List Str).Nodup from by decide +kernel) rfl (Or.inl rfl))) (aZ (ar (aw (i:=1) (show (["_law_row","_law_other","_law_end"]:List Str).Nodup from by decide +kernel) rfl (Or.inl rfl))) dS)))) (λ_ _ _ _ _ _=>(pF (PW.pt (me (aX (iF hr) imp_eq (pO 1) (pO 2) (bw _)) (pw_and1 (aX (iF hr) imp_eq (PE.sh (OR (pO 0) FF (rQ pI))) (PE.sh (fD fA)) (bw _))))))) (λ_ _ _ _ _ _=>(pV 0)))))
  (ai (pS 13 bq.nd (pC dw hr (ab (aG aM bc rfl B.len bI (ao (pO 12) ax)) (ab (aG aM bc rfl B.len bI (ao (pO 11) ax)) ag))))
  (ai (pS 14 bq.nd (pC nT hr (ab (pV 11) ag)))
  (aq (B3 (vG hu (pv 9) (pO 10) (pC cg hr (ab (pV 13) (ab (ba (ab (ay fB iN pI (PE.sh (aC (pO 14) pI))) (ab (aC (pO 14) pI) ag))) ag))) (by rfl)))))))))
  (aq (fM (GK [2] (ah bA) ["_law_script","_law_rows_here","_law_last","_law_short","_law_way","_law_at","_law_tops","_law_bottom","_law_told","_law_middle","_law_end","_law_mine","_law_first","_law_share","_law_mid"] [9] ["_law_one","_law_row","_law_middle"] ["_law_one","_law_row"] yf (PI.c (nc B.zip (pV 8) (pV 1))) (λ_ _ _ _ _ _=>(dU rfl (aZ (ar (aw (i:=0) (show (["_law_one","_law_row","_law_middle"]:List Str).Nodup from by decide +kernel) rfl (Or.inl rfl))) (aZ (ar (aw (i:=1) (show (["_law_one","_law_row","_law_middle"]:List Str).Nodup from by decide +kernel) rfl (Or.inl rfl))) dS)))) (λ_ _ _ _ _ _=>cy) (λ_ _ _ _ _ _=>(pC cg hr (ab (pV 0) (ab (oC hu (pO 2) (PE.sh (aC (pO 1) pI))) ag))))))))))))))
theorem ua (F:Df K mg "_law_summed" d9 ["_law_weights","_law_last"]) (B:Bs mg) (cg:Ij P w K mg base) (l7:MC P w K mg base) (cC:K9 P w K mg base):Mx P w K mg base:=
 cc [2] kL F eI λf cU A outer s H E hr=>(ai (dB (di (i:=2) eI.nd rfl (Or.inl rfl) (dj ag)))
  (ai (cZ adi rfl (nc B.zip (pV 0) (pV 1)) (dU rfl (aZ (ar (aw (i:=3) eI.nd rfl (Or.inl rfl))) (aZ (ar (aw (i:=4) eI.nd rfl (Or.inl rfl))) dS)))
   (ai (pS 5 eI.nd (PE.nE (aY l7 hr (by decide) (ab (aC (pO 4) pI) (ab (aC (pO 4) pI) ag)))))
  (ai (i8 adi (aX ll cV (PE.sh (aG aM bc rfl B.len bI (ao (pO 2) ax))) (PE.sh (aG aM bc rfl B.len bI (ao (pO 5) ax))) (bw _)) (aq (dG (cX (iq adn adu adw c6 (pv 2) (bG (ba (ab (aD aH) (ab (aD aH) ag))) cz))))))
  (aq (cZ adi rfl (g8 B.range (ab (aG aM bc rfl B.len bI (ao (pO 5) ax)) ag)) (ar (aw (i:=6) eI.nd rfl (Or.inl rfl)))
   (aq (xT (zx (pC cg hr (ab (aC (pO 2) (pO 6)) (ab (pC cC hr (ab (pV 3) (ab (ba (ab (aC (pO 5) (pO 6)) (ab (aD aH) ag))) ag))) ag))) (EY (pv 2) (pO 6) set_list)))))))))
  (aq (c7 (pv 2)))))
theorem PR {f:Addr} {fd:FuncData} (F:gD K "law" "law" la f fd) (B:Bs mg) (cJ:Lb P w K mg base) (nU:MI P w K mg base) (nV:Mw P w K mg base) (cg:Ij P w K mg base) (nW:MJ P w K mg base) (iX:Mx P w K mg base) (jL:Mv P w K mg base) (cC:K9 P w K mg base) (l8:MK P w K mg base) (nX:MH P w K mg base) (gS:MG P w K mg base) (jM:MD P w K mg base) (qh:ML P w K mg base) (tw:M0 P w K mg base):rn P w K mg base C9 32 f fd ["_law_script"] (lD K 1 uX):=
 Ru [7,8] G9 F fF λf cU A outer s H E hr=>(ai (pS 1 fF.nd (pC nV hr (ab (pC cJ hr (ab (pV 0) (ab (aD aH) ag))) (ab (ay bH bg pI (PE.sh (ay dQ aF (PE.sh (pC cJ hr (ab (pV 0) (ab (aD aH) ag)))) pI))) ag))))
  (ai (pS 2 fF.nd (PE.nE (aY nW hr (by decide) (ab (pV 1) ag))))
  (ai (pS 3 fF.nd (PE.nE (aY nU hr (by decide) (ab (pV 1) ag))))
  (ai (pS 4 fF.nd (PE.nE (aY jL hr (by decide) (ab (pV 0) (ab (pV 2) (ab (pV 3) ag))))))
  (ai (pS 5 fF.nd (PE.nE (aY nX hr (by decide) (ab (pV 1) (ab (PE.nE (i7 gA lE rfl B.list om (ao (pO 4) ax))) ag)))))
  (ai (pS 6 fF.nd (PE.nE (aY jM hr (by decide) (ab (pV 1) (ab (PE.nE (i7 gA lE rfl B.list om (ao (pO 4) ax))) ag)))))
  (ai (fu (PW.pt (rM (aX (lA hr) lB (PE.sh (PE.nE (aY qh hr (by decide) (ab (pV 1) (ab (pV 5) ag))))) (PE.sh (PE.nE (dj (ab (ba (ab (aD aH) (ab (aD aH) ag))) (ab (ba (ab (aD aH) (ab (aD aH) ag))) ag))))) (bw _)) (pw_or1 (aX (lA hr) lB (PE.sh (aG aM bc rfl B.len bI (ao (pO 6) ax))) (PE.sh (aG aM bc rfl B.len bI (ao (pO 3) ax))) (bw _))))) (aq (bZ (Fw EO))) dE)
  (ai (fu (PW.pt (me (i6 (PE.sh (pC gS hr (ab (pV 1) ag)))) (pw_and1 (aX (lA hr) lB (pO 5) (PE.sh (PE.nE (aY tw hr (by decide) (ab (pV 1) ag)))) (bw _))))) (aq (bZ (Fw EO))) dE)
  (ai (dB (di (i:=7) fF.nd rfl (Or.inl rfl) (dj ag)))
  (ai (dB (di (i:=8) fF.nd rfl (Or.inl rfl) (dj ag)))
  (ai (cZ adi rfl (km B.enumerate (pV 3)) (dU rfl (aZ (ar (aw (i:=9) fF.nd rfl (Or.inl rfl))) (aZ (ar (aw (i:=10) fF.nd rfl (Or.inr rfl))) dS)))
   (ai (mW (PS.nE (jS (i:=11) (ah la) ["_law_script","_law_plan_here","_law_rows_here","_law_last","_law_telling_here","_law_means","_law_left","_law_mine","_law_due","_law_k","_law_end","_law_some","_law_square","_law_one","_law_average"] [10] ["_law_one","_law_row","_law_end"] ["_law_one","_law_row"] fF.nd rfl rfl yf (PI.c (nc B.zip (pV 4) (pV 2))) (λ_ _ _ _ _ _=>(dU rfl (aZ (ar (aw (i:=0) (show (["_law_one","_law_row","_law_end"]:List Str).Nodup from by decide +kernel) rfl (Or.inl rfl))) (aZ (ar (aw (i:=1) (show (["_law_one","_law_row","_law_end"]:List Str).Nodup from by decide +kernel) rfl (Or.inl rfl))) dS)))) (λ_ _ _ _ _ _=>(pF (aX (iF hr) imp_eq (PE.sh (aC (pO 1) pI)) (pO 2) (bw _)))) (λ_ _ _ _ _ _=>(pV 0)))))
  (ai (fu (PW.pt (rM (oy (i6 (PE.sh (zS "tuple" B.isinstance (PE.sh (aC (pO 6) (pO 9))) (vn rfl B.tuple rD (v:=.ty "tuple") rfl))))) (rM (oy (i6 (PE.sh (pC l8 hr (ab (aC (PE.sh (aC (pO 6) (pO 9))) pI) ag))))) (rM (aX ll cV (PE.sh (aC (PE.sh (aC (pO 6) (pO 9))) pI)) pI (bw _)) (pw_or1 (aX ll cV (PE.sh (aC (PE.sh (aC (pO 6) (pO 9))) pI)) pI (bw _))))))) (aq (bZ (Fw EO))) dE)
  (ai (pS 12 fF.nd (ba (ab (aD aH) (ab (aD aH) ag))))
  (ai (cZ adi rfl (bD (pV 11)) (ar (aw (i:=13) fF.nd rfl (Or.inl rfl)))
   (aq (pS 12 fF.nd (pC cg hr (ab (pV 12) (ab (pC cC hr (ab (pV 13) (ab (pV 13) ag))) ag))))))
  (ai (dG (cX (iq adn adu adw c6 (pv 7) (bG (pV 12) cz))))
  (ai (pS 14 fF.nd (pC cC hr (ab (pC cC hr (ab (aC (pO 5) (pO 9)) (ab (aC (pO 5) (pO 9)) ag))) (ab (ba (ab (aG aM bc rfl B.len bI (ao (pO 11) ax)) (ab (aD aH) ag))) ag))))
  (aq (dG (cX (iq adn adu adw c6 (pv 8) (bG (pC cg hr (ab (pV 14) (ab (aC (pO 6) (pO 9)) ag))) cz))))))))))))
  (aq (bZ (rK (iF hr) imp_eq (PE.sh (PE.nE (rS iX hr (by decide) (ao (pO 7) (ao (pO 3) ax))))) (PE.sh (PE.nE (rS iX hr (by decide) (ao (pO 8) (ao (pO 3) ax))))) (bw _)))))))))))))))
end
structure QF (K:PySem.W.Frag) (n:Str) (st:Stmt) (f:Addr) (od an:Option Addr) (sl:Array (Option Value)) (oc kV dc pm cd ct:Value):Prop where
 a:PySem.W.nsIn K mainGlobals n=some (some (.ref f))
 l:K.lookup f=some ⟨oc,od,.func (PySem.W.fnOf n n (j9 st) (fL st) (ah st) .none kV dc pm an cd ct),sl⟩
 c:PySem.W.codeIn K cd n=true
 k:PySem.W.keepIn K (.ref f)=true
theorem Iv {us:List Value} {n:Nat} (h:us.length=n + 1):∃ a r,us=a :: r /\ r.length=n:=by cases us with | nil=>cases h | cons a r=>exact ⟨a,r,rfl,Nat.succ.inj h⟩
theorem len_1 (us:List Value) (h:us.length=1):∃ a0,us=[a0]:=by obtain ⟨a,r,rfl,g⟩:=Iv h; rw [afE.mp g]; exact ⟨a,rfl⟩
theorem len_2 (us:List Value) (h:us.length=2):∃ a0 a1,us=[a0,a1]:=by obtain ⟨a,r,rfl,g⟩:=Iv h; obtain ⟨a0,rfl⟩:=len_1 r g; exact ⟨a,a0,rfl⟩
theorem len_3 (us:List Value) (h:us.length=3):∃ a0 a1 a2,us=[a0,a1,a2]:=by obtain ⟨a,r,rfl,g⟩:=Iv h; obtain ⟨a0,a1,rfl⟩:=len_2 r g; exact ⟨a,a0,a1,rfl⟩
section
variable {K:PySem.W.Frag} {mg:Str->Option Value} {f:Addr} {fd:FuncData}
theorem Li (F:gD K "frac" "frac" nK f fd) (m:mg "frac"=some (.ref f)):Df K mg "frac" nK ["top","bottom"]:=⟨f,fd,F,m,F.binds λ_ _ _ _ _ _ us hl=>by obtain ⟨a0,a1,rfl⟩:=len_2 us hl; rfl⟩
theorem Lj (F:gD K "plus" "plus" nL f fd) (m:mg "plus"=some (.ref f)):Df K mg "plus" nL ["one","other"]:=⟨f,fd,F,m,F.binds λ_ _ _ _ _ _ us hl=>by obtain ⟨a0,a1,rfl⟩:=len_2 us hl; rfl⟩
theorem Iw (F:gD K "minus" "minus" kS f fd) (m:mg "minus"=some (.ref f)):Df K mg "minus" kS ["one","other"]:=⟨f,fd,F,m,F.binds λ_ _ _ _ _ _ us hl=>by obtain ⟨a0,a1,rfl⟩:=len_2 us hl; rfl⟩
theorem Iy (F:gD K "times" "times" kT f fd) (m:mg "times"=some (.ref f)):Df K mg "times" kT ["one","other"]:=⟨f,fd,F,m,F.binds λ_ _ _ _ _ _ us hl=>by obtain ⟨a0,a1,rfl⟩:=len_2 us hl; rfl⟩
theorem Lk (F:gD K "over" "over" nM f fd) (m:mg "over"=some (.ref f)):Df K mg "over" nM ["one","other"]:=⟨f,fd,F,m,F.binds λ_ _ _ _ _ _ us hl=>by obtain ⟨a0,a1,rfl⟩:=len_2 us hl; rfl⟩
theorem Iz (F:gD K "power" "power" kU f fd) (m:mg "power"=some (.ref f)):Df K mg "power" kU ["one","many"]:=⟨f,fd,F,m,F.binds λ_ _ _ _ _ _ us hl=>by obtain ⟨a0,a1,rfl⟩:=len_2 us hl; rfl⟩
theorem mL (F:gD K "greatest_divisor" "greatest_divisor" bW f fd) (m:mg "greatest_divisor"=some (.ref f)):Df K mg "greatest_divisor" bW ["one","other"]:=⟨f,fd,F,m,F.binds λ_ _ _ _ _ _ us hl=>by obtain ⟨a0,a1,rfl⟩:=len_2 us hl; rfl⟩
theorem Ll (F:gD K "leap" "leap" nO f fd) (m:mg "leap"=some (.ref f)):Df K mg "leap" nO ["one","other"]:=⟨f,fd,F,m,F.binds λ_ _ _ _ _ _ us hl=>by obtain ⟨a0,a1,rfl⟩:=len_2 us hl; rfl⟩
theorem A8 (F:gD K "goes_on" "goes_on" hZ f fd) (m:mg "goes_on"=some (.ref f)):Df K mg "goes_on" hZ ["plan","count"]:=⟨f,fd,F,m,F.binds λ_ _ _ _ _ _ us hl=>by obtain ⟨a0,a1,rfl⟩:=len_2 us hl; rfl⟩
theorem A9 (F:gD K "come_to" "come_to" gp f fd) (m:mg "come_to"=some (.ref f)):Df K mg "come_to" gp ["plan"]:=⟨f,fd,F,m,F.binds λ_ _ _ _ _ _ us hl=>by obtain ⟨a0,rfl⟩:=len_1 us hl; rfl⟩
theorem Lm (F:gD K "ends" "ends" lX f fd) (m:mg "ends"=some (.ref f)):Df K mg "ends" lX ["plan"]:=⟨f,fd,F,m,F.binds λ_ _ _ _ _ _ us hl=>by obtain ⟨a0,rfl⟩:=len_1 us hl; rfl⟩
theorem za (F:gD K "drawn_on" "drawn_on" eX f fd) (m:mg "drawn_on"=some (.ref f)):Df K mg "drawn_on" eX ["plan"]:=⟨f,fd,F,m,F.binds λ_ _ _ _ _ _ us hl=>by obtain ⟨a0,rfl⟩:=len_1 us hl; rfl⟩
theorem En (F:gD K "led_to" "led_to" iy f fd) (m:mg "led_to"=some (.ref f)):Df K mg "led_to" iy ["place"]:=⟨f,fd,F,m,F.binds λ_ _ _ _ _ _ us hl=>by obtain ⟨a0,rfl⟩:=len_1 us hl; rfl⟩
theorem IA (F:gD K "after" "after" kX f fd) (m:mg "after"=some (.ref f)):Df K mg "after" kX ["count","sign"]:=⟨f,fd,F,m,F.binds λ_ _ _ _ _ _ us hl=>by obtain ⟨a0,a1,rfl⟩:=len_2 us hl; rfl⟩
theorem zb (F:gD K "of_count" "of_count" fU f fd) (m:mg "of_count"=some (.ref f)):Df K mg "of_count" fU ["bad","good"]:=⟨f,fd,F,m,F.binds λ_ _ _ _ _ _ us hl=>by obtain ⟨a0,a1,rfl⟩:=len_2 us hl; rfl⟩
theorem Ba (F:gD K "trimmed" "trimmed" h9 f fd) (m:mg "trimmed"=some (.ref f)):Df K mg "trimmed" h9 ["fractions"]:=⟨f,fd,F,m,F.binds λ_ _ _ _ _ _ us hl=>by obtain ⟨a0,rfl⟩:=len_1 us hl; rfl⟩
theorem qi (F:gD K "common_bottom" "common_bottom" cH f fd) (m:mg "common_bottom"=some (.ref f)):Df K mg "common_bottom" cH ["fractions"]:=⟨f,fd,F,m,F.binds λ_ _ _ _ _ _ us hl=>by obtain ⟨a0,rfl⟩:=len_1 us hl; rfl⟩
theorem xa (F:gD K "tops_over" "tops_over" dO f fd) (m:mg "tops_over"=some (.ref f)):Df K mg "tops_over" dO ["fractions","bottom"]:=⟨f,fd,F,m,F.binds λ_ _ _ _ _ _ us hl=>by obtain ⟨a0,a1,rfl⟩:=len_2 us hl; rfl⟩
theorem xb (F:gD K "ways_from" "ways_from" eY f fd) (m:mg "ways_from"=some (.ref f)):Df K mg "ways_from" eY ["plan","beginning"]:=⟨f,fd,F,m,F.binds λ_ _ _ _ _ _ us hl=>by obtain ⟨a0,a1,rfl⟩:=len_2 us hl; rfl⟩
theorem Bb (F:gD K "rows_of" "rows_of" gq f fd) (m:mg "rows_of"=some (.ref f)):Df K mg "rows_of" gq ["plan"]:=⟨f,fd,F,m,F.binds λ_ _ _ _ _ _ us hl=>by obtain ⟨a0,rfl⟩:=len_1 us hl; rfl⟩
theorem Eo (F:gD K "end_of" "end_of" jm f fd) (m:mg "end_of"=some (.ref f)):Df K mg "end_of" jm ["plan","row"]:=⟨f,fd,F,m,F.binds λ_ _ _ _ _ _ us hl=>by obtain ⟨a0,a1,rfl⟩:=len_2 us hl; rfl⟩
theorem tz (F:gD K "rows_behind" "rows_behind" dq f fd) (m:mg "rows_behind"=some (.ref f)):Df K mg "rows_behind" dq ["plan","row","count"]:=⟨f,fd,F,m,F.binds λ_ _ _ _ _ _ us hl=>by obtain ⟨a0,a1,a2,rfl⟩:=len_3 us hl; rfl⟩
theorem Ep (F:gD K "shares" "shares" iB f fd) (m:mg "shares"=some (.ref f)):Df K mg "shares" iB ["plan"]:=⟨f,fd,F,m,F.binds λ_ _ _ _ _ _ us hl=>by obtain ⟨a0,rfl⟩:=len_1 us hl; rfl⟩
theorem zc (F:gD K "averaged" "averaged" eZ f fd) (m:mg "averaged"=some (.ref f)):Df K mg "averaged" eZ ["plan","telling"]:=⟨f,fd,F,m,F.binds λ_ _ _ _ _ _ us hl=>by obtain ⟨a0,a1,rfl⟩:=len_2 us hl; rfl⟩
theorem tB (F:gD K "left_within" "left_within" cP f fd) (m:mg "left_within"=some (.ref f)):Df K mg "left_within" cP ["plan","telling"]:=⟨f,fd,F,m,F.binds λ_ _ _ _ _ _ us hl=>by obtain ⟨a0,a1,rfl⟩:=len_2 us hl; rfl⟩
theorem Bc (F:gD K "left_in" "left_in" gu f fd) (m:mg "left_in"=some (.ref f)):Df K mg "left_in" gu ["group"]:=⟨f,fd,F,m,F.binds λ_ _ _ _ _ _ us hl=>by obtain ⟨a0,rfl⟩:=len_1 us hl; rfl⟩
theorem Er (F:gD K "by_end" "by_end" iC f fd) (m:mg "by_end"=some (.ref f)):Df K mg "by_end" iC ["plan","telling"]:=⟨f,fd,F,m,F.binds λ_ _ _ _ _ _ us hl=>by obtain ⟨a0,a1,rfl⟩:=len_2 us hl; rfl⟩
theorem ub (F:gD K "sum_of_all" "sum_of_all" d3 f fd) (m:mg "sum_of_all"=some (.ref f)):Df K mg "sum_of_all" d3 ["fractions"]:=⟨f,fd,F,m,F.binds λ_ _ _ _ _ _ us hl=>by obtain ⟨a0,rfl⟩:=len_1 us hl; rfl⟩
theorem Bd (F:gD K "mean_of" "mean_of" gv f fd) (m:mg "mean_of"=some (.ref f)):Df K mg "mean_of" gv ["plan","numbers"]:=⟨f,fd,F,m,F.binds λ_ _ _ _ _ _ us hl=>by obtain ⟨a0,a1,rfl⟩:=len_2 us hl; rfl⟩
theorem qj (F:gD K "check_telling" "check_telling" cI f fd) (m:mg "check_telling"=some (.ref f)):Df K mg "check_telling" cI ["plan","numbers"]:=⟨f,fd,F,m,F.binds λ_ _ _ _ _ _ us hl=>by obtain ⟨a0,a1,rfl⟩:=len_2 us hl; rfl⟩
theorem xc (F:gD K "stretches" "stretches" fc f fd) (m:mg "stretches"=some (.ref f)):Df K mg "stretches" fc ["row"]:=⟨f,fd,F,m,F.binds λ_ _ _ _ _ _ us hl=>by obtain ⟨a0,rfl⟩:=len_1 us hl; rfl⟩
theorem nY (F:gD K "is_side_by_side" "is_side_by_side" bQ f fd) (m:mg "is_side_by_side"=some (.ref f)):Df K mg "is_side_by_side" bQ ["plan"]:=⟨f,fd,F,m,F.binds λ_ _ _ _ _ _ us hl=>by obtain ⟨a0,rfl⟩:=len_1 us hl; rfl⟩
theorem zd (F:gD K "_law_cell" "_law_cell" fV f fd) (m:mg "_law_cell"=some (.ref f)):Df K mg "_law_cell" fV ["_law_script","_law_k"]:=⟨f,fd,F,m,F.binds λ_ _ _ _ _ _ us hl=>by obtain ⟨a0,a1,rfl⟩:=len_2 us hl; rfl⟩
theorem uc (F:gD K "_law_digits" "_law_digits" d6 f fd) (m:mg "_law_digits"=some (.ref f)):Df K mg "_law_digits" d6 ["_law_cell_here","_law_base","_law_many"]:=⟨f,fd,F,m,F.binds λ_ _ _ _ _ _ us hl=>by obtain ⟨a0,a1,a2,rfl⟩:=len_3 us hl; rfl⟩
theorem xf (F:gD K "_law_mixes" "_law_mixes" fe f fd) (m:mg "_law_mixes"=some (.ref f)):Df K mg "_law_mixes" fe ["_law_cell_here","_law_base","_law_many"]:=⟨f,fd,F,m,F.binds λ_ _ _ _ _ _ us hl=>by obtain ⟨a0,a1,a2,rfl⟩:=len_3 us hl; rfl⟩
theorem ze (F:gD K "_law_plan" "_law_plan" d7 f fd) (m:mg "_law_plan"=some (.ref f)):Df K mg "_law_plan" d7 ["_law_cell_here","_law_most_here"]:=⟨f,fd,F,m,F.binds λ_ _ _ _ _ _ us hl=>by obtain ⟨a0,a1,rfl⟩:=len_2 us hl; rfl⟩
theorem zf (F:gD K "_law_ends" "_law_ends" d8 f fd) (m:mg "_law_ends"=some (.ref f)):Df K mg "_law_ends" d8 ["_law_plan_here"]:=⟨f,fd,F,m,F.binds λ_ _ _ _ _ _ us hl=>by obtain ⟨a0,rfl⟩:=len_1 us hl; rfl⟩
theorem zg (F:gD K "_law_rows" "_law_rows" fW f fd) (m:mg "_law_rows"=some (.ref f)):Df K mg "_law_rows" fW ["_law_plan_here"]:=⟨f,fd,F,m,F.binds λ_ _ _ _ _ _ us hl=>by obtain ⟨a0,rfl⟩:=len_1 us hl; rfl⟩
theorem xg (F:gD K "_law_power" "_law_power" de f fd) (m:mg "_law_power"=some (.ref f)):Df K mg "_law_power" de ["_law_bad","_law_good"]:=⟨f,fd,F,m,F.binds λ_ _ _ _ _ _ us hl=>by obtain ⟨a0,a1,rfl⟩:=len_2 us hl; rfl⟩
theorem xh (F:gD K "_law_whole" "_law_whole" ff f fd) (m:mg "_law_whole"=some (.ref f)):Df K mg "_law_whole" ff ["_law_found"]:=⟨f,fd,F,m,F.binds λ_ _ _ _ _ _ us hl=>by obtain ⟨a0,rfl⟩:=len_1 us hl; rfl⟩
theorem tD (F:gD K "_law_divisor" "_law_divisor" du f fd) (m:mg "_law_divisor"=some (.ref f)):Df K mg "_law_divisor" du ["_law_one","_law_other"]:=⟨f,fd,F,m,F.binds λ_ _ _ _ _ _ us hl=>by obtain ⟨a0,a1,rfl⟩:=len_2 us hl; rfl⟩
theorem zh (F:gD K "_law_frac" "_law_frac" fX f fd) (m:mg "_law_frac"=some (.ref f)):Df K mg "_law_frac" fX ["_law_top","_law_bottom"]:=⟨f,fd,F,m,F.binds λ_ _ _ _ _ _ us hl=>by obtain ⟨a0,a1,rfl⟩:=len_2 us hl; rfl⟩
theorem zi (F:gD K "_law_plus" "_law_plus" fY f fd) (m:mg "_law_plus"=some (.ref f)):Df K mg "_law_plus" fY ["_law_one","_law_other"]:=⟨f,fd,F,m,F.binds λ_ _ _ _ _ _ us hl=>by obtain ⟨a0,a1,rfl⟩:=len_2 us hl; rfl⟩
theorem xi (F:gD K "_law_times" "_law_times" fg f fd) (m:mg "_law_times"=some (.ref f)):Df K mg "_law_times" fg ["_law_one","_law_other"]:=⟨f,fd,F,m,F.binds λ_ _ _ _ _ _ us hl=>by obtain ⟨a0,a1,rfl⟩:=len_2 us hl; rfl⟩
theorem ud (F:gD K "_law_values" "_law_values" df f fd) (m:mg "_law_values"=some (.ref f)):Df K mg "_law_values" df ["_law_script","_law_many"]:=⟨f,fd,F,m,F.binds λ_ _ _ _ _ _ us hl=>by obtain ⟨a0,a1,rfl⟩:=len_2 us hl; rfl⟩
theorem zj (F:gD K "_law_mean" "_law_mean" fZ f fd) (m:mg "_law_mean"=some (.ref f)):Df K mg "_law_mean" fZ ["_law_some"]:=⟨f,fd,F,m,F.binds λ_ _ _ _ _ _ us hl=>by obtain ⟨a0,rfl⟩:=len_1 us hl; rfl⟩
theorem tF (F:gD K "_law_telling" "_law_telling" bA f fd) (m:mg "_law_telling"=some (.ref f)):Df K mg "_law_telling" bA ["_law_script","_law_rows_here","_law_last"]:=⟨f,fd,F,m,F.binds λ_ _ _ _ _ _ us hl=>by obtain ⟨a0,a1,a2,rfl⟩:=len_3 us hl; rfl⟩
theorem ue (F:gD K "_law_summed" "_law_summed" d9 f fd) (m:mg "_law_summed"=some (.ref f)):Df K mg "_law_summed" d9 ["_law_weights","_law_last"]:=⟨f,fd,F,m,F.binds λ_ _ _ _ _ _ us hl=>by obtain ⟨a0,a1,rfl⟩:=len_2 us hl; rfl⟩
theorem PU (F:gD K "law" "law" la f fd) (m:mg "law"=some (.ref f)):Df K mg "law" la ["_law_script"]:=⟨f,fd,F,m,F.binds λ_ _ _ _ _ _ us hl=>by obtain ⟨a0,rfl⟩:=len_1 us hl; rfl⟩
end
theorem all_mk {l:PySem.W.OpenLaw} {w:World} {K:PySem.W.Frag} {h:Heap} {mg:Str->Option Value} {fa:Addr} (X:K.In h) (G:h.Ns mainGlobals mg) (hfa:mg "law"=some (.ref fa))
  {f1 f2 f3 f4 f5 f6 f7 f8 f9 Ws f11 f12 f13 f14 f15 f16 f17 f18 f19 f20 f21 f22 f23 f24 f25 f26 f27 f28 f29 f30 f31 f32 f33 f34 f35 f36 f38 f39 f40 f41 f42 f43 f44 f45 f46 f47 f48 f49 f50:Addr} {od1 an1 od2 an2 od3 an3 od4 an4 od5 an5 od6 an6 od7 an7 od8 an8 od9 an9 WK WL WM WN WO WQ WR WS WT WU WV WX WY WZ W0 W1 W2 W3 W4 W5 W6 W7 W8 W9 Xa Xb Xc Xd Xe Xf Xg Xh Xi Xj Xk Xl Xm Xn Xo Xp Xq Xr Xs Xu Xv Xw Xx Xy Xz XA XB XC XD XE XF XG XH XI XJ XM XN XO XQ XR XS XT XU XW XX XY XZ X0 X1 X2 X3 X4 X5 X6 X7 SJ:Option Addr} {V0 Qb sl3 sl4 sl5 sl6 sl7 sl8 sl9 X8 X9 Yb Yc Yd Ye Yg Yh Yi Yj Yk Yl Ym Yn Yo Yp Yq Yr Ys Yt Yu Yv Yw Yx Yy Yz YA YB YC YD YE YF YG YH YI YJ YK YL YM YN:Array (Option Value)} {oc1 kV1 dc1 pm1 cd1 ct1 oc2 kV2 dc2 pm2 cd2 ct2 oc3 kV3 dc3 pm3 cd3 ct3 oc4 kV4 dc4 pm4 cd4 ct4 oc5 kV5 dc5 pm5 cd5 ct5 oc6 kV6 dc6 pm6 cd6 ct6 oc7 kV7 dc7 pm7 cd7 ct7 oc8 kV8 dc8 pm8 cd8 ct8 oc9 kV9 dc9 pm9 cd9 ct9 YO YQ YR YS YT YU YV YW YX YY YZ Y0 Y1 Y2 Y3 Y4 Y5 Y6 Y7 Y8 Y9 Za Zb Zc Zd Ze Zf Zg Zh Zi Zj Zk Zl Zm Zn Zo Zp Zq Zr Zs Zt Zu Zv Zw Zx Zy Zz ZA ZC ZD ZE ZF ZG ZH ZI ZJ ZK ZL ZM ZN ZO ZP ZQ ZR ZS ZT ZU ZV ZW ZX ZY ZZ Z0 Z1 Z2 Z3 Z4 Z5 Z6 Z7 Z8 Z9 aaa aab aac aad aae aaf aag aah aai aaj aak aal aam aan aao aap aaq aar aas aat aau aav aaw aax aay aaz aaA aaB aaC aaD aaE aaF aaG aaH aaI aaJ aaK aaL aaM aaN aaO aaP aaQ aaR aaS aaT aaU aaV aaW aaX aaY aaZ aa0 aa1 aa2 aa3 aa4 aa5 aa6 aa7 aa8 aa9 aba abb abc abd abe abf abg abh abi abj abk abl abm abn abo abp abq abr abt abu abv abw abx aby abz abA abB abC abD abE abF abG abH abI abJ abK abL abM abN abO abP abQ abR abS abT abU abV abW abX abY abZ ab0 ab1 ab2 ab3 ab4 ab5 ab6 ab7 ab8 ab9 aca acb acd ace acf acg ach aci acj ack acm acn aco acp acq acr acs acu acv acw acx acy acz acA acB acC acD acE acF acG SK SM SN SO SQ:Value}
  (q1:QF K "frac" nK f1 od1 an1 V0 oc1 kV1 dc1 pm1 cd1 ct1)
  (q2:QF K "plus" nL f2 od2 an2 Qb oc2 kV2 dc2 pm2 cd2 ct2)
  (q3:QF K "minus" kS f3 od3 an3 sl3 oc3 kV3 dc3 pm3 cd3 ct3)
  (q4:QF K "times" kT f4 od4 an4 sl4 oc4 kV4 dc4 pm4 cd4 ct4)
  (q5:QF K "over" nM f5 od5 an5 sl5 oc5 kV5 dc5 pm5 cd5 ct5)
  (q6:QF K "power" kU f6 od6 an6 sl6 oc6 kV6 dc6 pm6 cd6 ct6)
  (q7:QF K "greatest_divisor" bW f7 od7 an7 sl7 oc7 kV7 dc7 pm7 cd7 ct7)
  (q8:QF K "leap" nO f8 od8 an8 sl8 oc8 kV8 dc8 pm8 cd8 ct8)
  (q9:QF K "goes_on" hZ f9 od9 an9 sl9 oc9 kV9 dc9 pm9 cd9 ct9)
  (T6:QF K "come_to" gp Ws WK WL X8 YO YQ YR YS YT YU)
  (T7:QF K "ends" lX f11 WM WN X9 YV YW YX YY YZ Y0)
  (T8:QF K "drawn_on" eX f12 WO WQ Yb Y1 Y2 Y3 Y4 Y5 Y6)
  (T9:QF K "led_to" iy f13 WR WS Yc Y7 Y8 Y9 Za Zb Zc)
  (Ua:QF K "after" kX f14 WT WU Yd Zd Ze Zf Zg Zh Zi)
  (Ub:QF K "of_count" fU f15 WV WX Ye Zj Zk Zl Zm Zn Zo)
  (Uc:QF K "trimmed" h9 f16 WY WZ Yg Zp Zq Zr Zs Zt Zu)
  (Ud:QF K "common_bottom" cH f17 W0 W1 Yh Zv Zw Zx Zy Zz ZA)
  (Ue:QF K "tops_over" dO f18 W2 W3 Yi ZC ZD ZE ZF ZG ZH)
  (Ug:QF K "ways_from" eY f19 W4 W5 Yj ZI ZJ ZK ZL ZM ZN)
  (Uh:QF K "rows_of" gq f20 W6 W7 Yk ZO ZP ZQ ZR ZS ZT)
  (Ui:QF K "end_of" jm f21 W8 W9 Yl ZU ZV ZW ZX ZY ZZ)
  (Uj:QF K "rows_behind" dq f22 Xa Xb Ym Z0 Z1 Z2 Z3 Z4 Z5)
  (Uk:QF K "shares" iB f23 Xc Xd Yn Z6 Z7 Z8 Z9 aaa aab)
  (Ul:QF K "averaged" eZ f24 Xe Xf Yo aac aad aae aaf aag aah)
  (Um:QF K "left_within" cP f25 Xg Xh Yp aai aaj aak aal aam aan)
  (Uo:QF K "left_in" gu f26 Xi Xj Yq aao aap aaq aar aas aat)
  (Up:QF K "by_end" iC f27 Xk Xl Yr aau aav aaw aax aay aaz)
  (Uq:QF K "sum_of_all" d3 f28 Xm Xn Ys aaA aaB aaC aaD aaE aaF)
  (Ur:QF K "mean_of" gv f29 Xo Xp Yt aaG aaH aaI aaJ aaK aaL)
  (Us:QF K "check_telling" cI f30 Xq Xr Yu aaM aaN aaO aaP aaQ aaR)
  (Ut:QF K "stretches" fc f31 Xs Xu Yv aaS aaT aaU aaV aaW aaX)
  (Uu:QF K "is_side_by_side" bQ f32 Xv Xw Yw aaY aaZ aa0 aa1 aa2 aa3)
  (Uv:QF K "_law_cell" fV f33 Xx Xy Yx aa4 aa5 aa6 aa7 aa8 aa9)
  (Uw:QF K "_law_digits" d6 f34 Xz XA Yy aba abb abc abd abe abf)
  (Ux:QF K "_law_mixes" fe f35 XB XC Yz abg abh abi abj abk abl)
  (Uy:QF K "_law_plan" d7 f36 XD XE YA abm abn abo abp abq abr)
  (Uz:QF K "_law_ends" d8 f38 XF XG YB abt abu abv abw abx aby)
  (UA:QF K "_law_rows" fW f39 XH XI YC abz abA abB abC abD abE)
  (UB:QF K "_law_power" de f40 XJ XM YD abF abG abH abI abJ abK)
  (UC:QF K "_law_whole" ff f41 XN XO YE abL abM abN abO abP abQ)
  (UD:QF K "_law_divisor" du f42 XQ XR YF abR abS abT abU abV abW)
  (UE:QF K "_law_frac" fX f43 XS XT YG abX abY abZ ab0 ab1 ab2)
  (UG:QF K "_law_plus" fY f44 XU XW YH ab3 ab4 ab5 ab6 ab7 ab8)
  (UH:QF K "_law_times" fg f45 XX XY YI ab9 aca acb acd ace acf)
  (UI:QF K "_law_values" df f46 XZ X0 YJ acg ach aci acj ack acm)
  (UJ:QF K "_law_mean" fZ f47 X1 X2 YK acn aco acp acq acr acs)
  (UK:QF K "_law_telling" bA f48 X3 X4 YL acu acv acw acx acy acz)
  (UL:QF K "_law_summed" d9 f49 X5 X6 YM acA acB acC acD acE acF)
  (M1:QF K "law" la f50 X7 SJ YN acG SK SM SN SO SQ)
  {SR:Tok} (SS:PySem.W.nsIn K mainGlobals "LONG"=some (some (.int 4000 SR)))
  {Ln:Tok} (Lo:PySem.W.nsIn K mainGlobals "WINDOW"=some (some (.int 240 Ln)))
  {SU:Tok} (SV:PySem.W.nsIn K mainGlobals "SHED"=some (some (.int 120 SU)))
  {eQ:Addr} {IB:Option Addr} {IC:Array (Option Value)} {Lp:Nat} {ID IE:Tok} (Lq:PySem.W.nsIn K mainGlobals "NOUGHT"=some (some (.ref eQ))) (Lr:K.lookup eQ=some ⟨.type "tuple",IB,.seq #[.int (0) ID,.int (1) IE] Lp,IC⟩)
  {Be:Tok} (Bf:PySem.W.nsIn K mainGlobals "MOST_ROWS"=some (some (.int 4000 Be)))
  (SW:PySem.W.nsIn K mainGlobals "len"=some none)
  (Lu:PySem.W.nsIn K mainGlobals "range"=some none)
  (xj:PySem.W.nsIn K mainGlobals "isinstance"=some none)
  (SX:PySem.W.nsIn K mainGlobals "max"=some none)
  (SY:PySem.W.nsIn K mainGlobals "min"=some none)
  (S0:PySem.W.nsIn K mainGlobals "int"=some none)
  (PV:PySem.W.nsIn K mainGlobals "bool"=some none)
  (Lv:PySem.W.nsIn K mainGlobals "tuple"=some none)
  (PX:PySem.W.nsIn K mainGlobals "list"=some none)
  (S4:PySem.W.nsIn K mainGlobals "abs"=some none)
  (S5:PySem.W.nsIn K mainGlobals "str"=some none)
  (S6:PySem.W.nsIn K mainGlobals "sum"=some none)
  (IF:PySem.W.nsIn K mainGlobals "sorted"=some none)
  (Bg:PySem.W.nsIn K mainGlobals "reversed"=some none)
  (zk:PySem.W.nsIn K mainGlobals "enumerate"=some none)
  (S7:PySem.W.nsIn K mainGlobals "set"=some none)
  (S8:PySem.W.nsIn K mainGlobals "all"=some none)
  (S9:PySem.W.nsIn K mainGlobals "zip"=some none)
  (Ta:PySem.W.nsIn K mainGlobals "any"=some none)
  (ct:cA=[(eQ,[V.int (0),V.int (1)])])
  :oE K /\ ∃ fd:FuncData,(∀ (s:Shared) (v:Value),BindsTo s fd ⟨[v],[]⟩ [("_law_script",v)]) /\ ∀ base:Heap,(bF K).In base->base.Ns mainGlobals mg->rn l.prog w (bF K) mg base C9 32 fa fd ["_law_script"] (lD (bF K) 1 uX):=by
 have e:=hfa.symm.trans (acY X G M1.a)
 cases e
 have C:oE K:=⟨(λp xs m=>by rw [ct] at m ⊢; simp only [acK,adz,aez,afx] at m; rcases m with ⟨rfl,rfl⟩ <;> simp [adW, *]),(λp xs m=>by have m:=Gv m; rw [ct] at m; simp only [acK,adz,aez,afx] at m; rcases m with ⟨rfl,rfl⟩ <;> first | exact ⟨_,_,_,_,Lr,(by show 2<=sizeLine; decide),(.cons ⟨_,rfl⟩ (.cons ⟨_,rfl⟩ .nil))⟩)⟩
 have PY:Df (bF K) mg "frac" nK ["top","bottom"]:=Li (C.func (aU (st:=nK) q1.l q1.c q1.k)) (acY X G q1.a)
 have PZ:Df (bF K) mg "plus" nL ["one","other"]:=Lj (C.func (aU (st:=nL) q2.l q2.c q2.k)) (acY X G q2.a)
 have Lw:Df (bF K) mg "minus" kS ["one","other"]:=Iw (C.func (aU (st:=kS) q3.l q3.c q3.k)) (acY X G q3.a)
 have Lx:Df (bF K) mg "times" kT ["one","other"]:=Iy (C.func (aU (st:=kT) q4.l q4.c q4.k)) (acY X G q4.a)
 have P0:Df (bF K) mg "over" nM ["one","other"]:=Lk (C.func (aU (st:=nM) q5.l q5.c q5.k)) (acY X G q5.a)
 have Ly:Df (bF K) mg "power" kU ["one","many"]:=Iz (C.func (aU (st:=kU) q6.l q6.c q6.k)) (acY X G q6.a)
 have nZ:Df (bF K) mg "greatest_divisor" bW ["one","other"]:=mL (C.func (aU (st:=bW) q7.l q7.c q7.k)) (acY X G q7.a)
 have P4:Df (bF K) mg "leap" nO ["one","other"]:=Ll (C.func (aU (st:=nO) q8.l q8.c q8.k)) (acY X G q8.a)
 have Es:Df (bF K) mg "goes_on" hZ ["plan","count"]:=A8 (C.func (aU (st:=hZ) q9.l q9.c q9.k)) (acY X G q9.a)
 have Et:Df (bF K) mg "come_to" gp ["plan"]:=A9 (C.func (aU (st:=gp) T6.l T6.c T6.k)) (acY X G T6.a)
 have P5:Df (bF K) mg "ends" lX ["plan"]:=Lm (C.func (aU (st:=lX) T7.l T7.c T7.k)) (acY X G T7.a)
 have Bh:Df (bF K) mg "drawn_on" eX ["plan"]:=za (C.func (aU (st:=eX) T8.l T8.c T8.k)) (acY X G T8.a)
 have IG:Df (bF K) mg "led_to" iy ["place"]:=En (C.func (aU (st:=iy) T9.l T9.c T9.k)) (acY X G T9.a)
 have Lz:Df (bF K) mg "after" kX ["count","sign"]:=IA (C.func (aU (st:=kX) Ua.l Ua.c Ua.k)) (acY X G Ua.a)
 have Bi:Df (bF K) mg "of_count" fU ["bad","good"]:=zb (C.func (aU (st:=fU) Ub.l Ub.c Ub.k)) (acY X G Ub.a)
 have Eu:Df (bF K) mg "trimmed" h9 ["fractions"]:=Ba (C.func (aU (st:=h9) Uc.l Uc.c Uc.k)) (acY X G Uc.a)
 have qI:Df (bF K) mg "common_bottom" cH ["fractions"]:=qi (C.func (aU (st:=cH) Ud.l Ud.c Ud.k)) (acY X G Ud.a)
 have zl:Df (bF K) mg "tops_over" dO ["fractions","bottom"]:=xa (C.func (aU (st:=dO) Ue.l Ue.c Ue.k)) (acY X G Ue.a)
 have zm:Df (bF K) mg "ways_from" eY ["plan","beginning"]:=xb (C.func (aU (st:=eY) Ug.l Ug.c Ug.k)) (acY X G Ug.a)
 have Ew:Df (bF K) mg "rows_of" gq ["plan"]:=Bb (C.func (aU (st:=gq) Uh.l Uh.c Uh.k)) (acY X G Uh.a)
 have IH:Df (bF K) mg "end_of" jm ["plan","row"]:=Eo (C.func (aU (st:=jm) Ui.l Ui.c Ui.k)) (acY X G Ui.a)
 have uf:Df (bF K) mg "rows_behind" dq ["plan","row","count"]:=tz (C.func (aU (st:=dq) Uj.l Uj.c Uj.k)) (acY X G Uj.a)
 have II:Df (bF K) mg "shares" iB ["plan"]:=Ep (C.func (aU (st:=iB) Uk.l Uk.c Uk.k)) (acY X G Uk.a)
 have Bj:Df (bF K) mg "averaged" eZ ["plan","telling"]:=zc (C.func (aU (st:=eZ) Ul.l Ul.c Ul.k)) (acY X G Ul.a)
 have ug:Df (bF K) mg "left_within" cP ["plan","telling"]:=tB (C.func (aU (st:=cP) Um.l Um.c Um.k)) (acY X G Um.a)
 have Ex:Df (bF K) mg "left_in" gu ["group"]:=Bc (C.func (aU (st:=gu) Uo.l Uo.c Uo.k)) (acY X G Uo.a)
 have IJ:Df (bF K) mg "by_end" iC ["plan","telling"]:=Er (C.func (aU (st:=iC) Up.l Up.c Up.k)) (acY X G Up.a)
 have xk:Df (bF K) mg "sum_of_all" d3 ["fractions"]:=ub (C.func (aU (st:=d3) Uq.l Uq.c Uq.k)) (acY X G Uq.a)
 have Ey:Df (bF K) mg "mean_of" gv ["plan","numbers"]:=Bd (C.func (aU (st:=gv) Ur.l Ur.c Ur.k)) (acY X G Ur.a)
 have qJ:Df (bF K) mg "check_telling" cI ["plan","numbers"]:=qj (C.func (aU (st:=cI) Us.l Us.c Us.k)) (acY X G Us.a)
 have zo:Df (bF K) mg "stretches" fc ["row"]:=xc (C.func (aU (st:=fc) Ut.l Ut.c Ut.k)) (acY X G Ut.a)
 have o6:Df (bF K) mg "is_side_by_side" bQ ["plan"]:=nY (C.func (aU (st:=bQ) Uu.l Uu.c Uu.k)) (acY X G Uu.a)
 have Bk:Df (bF K) mg "_law_cell" fV ["_law_script","_law_k"]:=zd (C.func (aU (st:=fV) Uv.l Uv.c Uv.k)) (acY X G Uv.a)
 have xl:Df (bF K) mg "_law_digits" d6 ["_law_cell_here","_law_base","_law_many"]:=uc (C.func (aU (st:=d6) Uw.l Uw.c Uw.k)) (acY X G Uw.a)
 have zp:Df (bF K) mg "_law_mixes" fe ["_law_cell_here","_law_base","_law_many"]:=xf (C.func (aU (st:=fe) Ux.l Ux.c Ux.k)) (acY X G Ux.a)
 have Bl:Df (bF K) mg "_law_plan" d7 ["_law_cell_here","_law_most_here"]:=ze (C.func (aU (st:=d7) Uy.l Uy.c Uy.k)) (acY X G Uy.a)
 have Bm:Df (bF K) mg "_law_ends" d8 ["_law_plan_here"]:=zf (C.func (aU (st:=d8) Uz.l Uz.c Uz.k)) (acY X G Uz.a)
 have Bo:Df (bF K) mg "_law_rows" fW ["_law_plan_here"]:=zg (C.func (aU (st:=fW) UA.l UA.c UA.k)) (acY X G UA.a)
 have zq:Df (bF K) mg "_law_power" de ["_law_bad","_law_good"]:=xg (C.func (aU (st:=de) UB.l UB.c UB.k)) (acY X G UB.a)
 have zr:Df (bF K) mg "_law_whole" ff ["_law_found"]:=xh (C.func (aU (st:=ff) UC.l UC.c UC.k)) (acY X G UC.a)
 have uh:Df (bF K) mg "_law_divisor" du ["_law_one","_law_other"]:=tD (C.func (aU (st:=du) UD.l UD.c UD.k)) (acY X G UD.a)
 have Bp:Df (bF K) mg "_law_frac" fX ["_law_top","_law_bottom"]:=zh (C.func (aU (st:=fX) UE.l UE.c UE.k)) (acY X G UE.a)
 have Bq:Df (bF K) mg "_law_plus" fY ["_law_one","_law_other"]:=zi (C.func (aU (st:=fY) UG.l UG.c UG.k)) (acY X G UG.a)
 have zt:Df (bF K) mg "_law_times" fg ["_law_one","_law_other"]:=xi (C.func (aU (st:=fg) UH.l UH.c UH.k)) (acY X G UH.a)
 have xm:Df (bF K) mg "_law_values" df ["_law_script","_law_many"]:=ud (C.func (aU (st:=df) UI.l UI.c UI.k)) (acY X G UI.a)
 have Br:Df (bF K) mg "_law_mean" fZ ["_law_some"]:=zj (C.func (aU (st:=fZ) UJ.l UJ.c UJ.k)) (acY X G UJ.a)
 have ui:Df (bF K) mg "_law_telling" bA ["_law_script","_law_rows_here","_law_last"]:=tF (C.func (aU (st:=bA) UK.l UK.c UK.k)) (acY X G UK.a)
 have xn:Df (bF K) mg "_law_summed" d9 ["_law_weights","_law_last"]:=ue (C.func (aU (st:=d9) UL.l UL.c UL.k)) (acY X G UL.a)
 have aed:Df (bF K) mg "law" la ["_law_script"]:=PU (C.func (aU (st:=la) M1.l M1.c M1.k)) (acY X G M1.a)
 have AY:Cn mg "LONG" (.int 4000):=⟨_,acY X G SS,⟨_,rfl⟩⟩
 have sZ:Cn mg "WINDOW" (.int 240):=⟨_,acY X G Lo,⟨_,rfl⟩⟩
 have AX:Cn mg "SHED" (.int 120):=⟨_,acY X G SV,⟨_,rfl⟩⟩
 have gP:Cn mg "NOUGHT" (.ref eQ):=⟨_,acY X G Lq,rfl⟩
 have gQ:(eQ,[V.int (0),V.int (1)])∈cA:=by rw [ct]; simp
 have lZ:Cn mg "MOST_ROWS" (.int 4000):=⟨_,acY X G Bf,⟨_,rfl⟩⟩
 have B:Bs mg:=⟨ads X G SW,ads X G Lu,ads X G xj,ads X G SX,ads X G SY,ads X G S0,ads X G PV,ads X G Lv,ads X G PX,ads X G S4,ads X G S5,ads X G S6,ads X G IF,ads X G Bg,ads X G zk,ads X G S7,ads X G S8,ads X G S9,ads X G Ta⟩
 refine ⟨C,PySem.W.fnOf "law" "law" (j9 la) (fL la) (ah la) .none SK SM SN SJ SO SQ,λs v=>.of_eq rfl,λbase _ _=>?_⟩
 have AZ:=Ld (P:=l.prog) (w:=w) (base:=base) P4 B sZ AX
 have bz:=mK (P:=l.prog) (w:=w) (base:=base) nZ B AY AZ
 have fG:=Le (P:=l.prog) (w:=w) (base:=base) PY B bz
 have p9:=Lf (P:=l.prog) (w:=w) (base:=base) PZ B fG bz
 have wZ:=Ip (P:=l.prog) (w:=w) (base:=base) Lw B p9
 have wW:=Iq (P:=l.prog) (w:=w) (base:=base) Lx B fG
 have qd:=Lg (P:=l.prog) (w:=w) (base:=base) P0 B fG wW
 have rb:=Ir (P:=l.prog) (w:=w) (base:=base) Ly B
 have eJ:=A2 (P:=l.prog) (w:=w) (base:=base) Es B
 have s8:=Ej (P:=l.prog) (w:=w) (base:=base) IG B
 have qa:=A3 (P:=l.prog) (w:=w) (base:=base) Et B s8
 have gf:=Lh (P:=l.prog) (w:=w) (base:=base) P5 B qa eJ
 have nQ:=yW (P:=l.prog) (w:=w) (base:=base) Bh B
 have gR:=Iu (P:=l.prog) (w:=w) (base:=base) Lz B
 have nR:=yX (P:=l.prog) (w:=w) (base:=base) Bi B gP gQ
 have qg:=A4 (P:=l.prog) (w:=w) (base:=base) Eu B gP gQ
 have iK:=qb (P:=l.prog) (w:=w) (base:=base) qI B bz
 have l5:=wX (P:=l.prog) (w:=w) (base:=base) zl B
 have cQ:=wY (P:=l.prog) (w:=w) (base:=base) zm B gR nQ
 have eK:=tf (P:=l.prog) (w:=w) (base:=base) uf B gR eJ
 have qc:=A5 (P:=l.prog) (w:=w) (base:=base) Ew B lZ gf eK cQ
 have tj:=Ek (P:=l.prog) (w:=w) (base:=base) IH B gR eJ
 have tw:=El (P:=l.prog) (w:=w) (base:=base) II B gf fG cQ
 have j7:=Em (P:=l.prog) (w:=w) (base:=base) IJ B tj gf qc
 have eh:=t7 (P:=l.prog) (w:=w) (base:=base) xk B gP gQ p9
 have nX:=yY (P:=l.prog) (w:=w) (base:=base) Bj B j7 qd eh
 have qe:=A6 (P:=l.prog) (w:=w) (base:=base) Ex B wZ qd rb eh
 have jM:=tm (P:=l.prog) (w:=w) (base:=base) ug B j7 qe
 have iJ:=qf (P:=l.prog) (w:=w) (base:=base) qJ B gf
 have qh:=A7 (P:=l.prog) (w:=w) (base:=base) Ey B iJ iK gf fG nR l5 qg cQ
 have l6:=w4 (P:=l.prog) (w:=w) (base:=base) zo B
 have gS:=nS (P:=l.prog) (w:=w) (base:=base) o6 B l6
 have cJ:=yZ (P:=l.prog) (w:=w) (base:=base) Bk B
 have fq:=t8 (P:=l.prog) (w:=w) (base:=base) xl B
 have gz:=w5 (P:=l.prog) (w:=w) (base:=base) zp B
 have nV:=y0 (P:=l.prog) (w:=w) (base:=base) Bl B fq gz
 have nU:=y4 (P:=l.prog) (w:=w) (base:=base) Bm B
 have nW:=y6 (P:=l.prog) (w:=w) (base:=base) Bo B
 have l7:=w6 (P:=l.prog) (w:=w) (base:=base) zq B
 have l8:=w8 (P:=l.prog) (w:=w) (base:=base) zr B
 have jK:=tq (P:=l.prog) (w:=w) (base:=base) uh B
 have dw:=y7 (P:=l.prog) (w:=w) (base:=base) Bp B jK
 have cg:=y8 (P:=l.prog) (w:=w) (base:=base) Bq B dw
 have cC:=w9 (P:=l.prog) (w:=w) (base:=base) zt B dw
 have kZ:=t9 (P:=l.prog) (w:=w) (base:=base) xm B cJ fq gz
 have nT:=y9 (P:=l.prog) (w:=w) (base:=base) Br B cg cC
 have jL:=tu (P:=l.prog) (w:=w) (base:=base) ui B cJ dw nT cg kZ
 have iX:=ua (P:=l.prog) (w:=w) (base:=base) xn B cg l7 cC
 exact PR (P:=l.prog) (w:=w) (base:=base) (C.func (aU (st:=la) M1.l M1.c M1.k)) B cJ nU nV cg nW iX jL cC l8 nX gS jM qh tw
theorem walk {l:PySem.W.OpenLaw} {q:Program} {loose:List Str} {XP:(Str->Option Value)->Heap->Prop} {YP:World->Heap->Prop} {d:DefRec} {K:Params->PySem.W.Frag} (hn:l.most=some 63) (Rc:d.params.defaults=[])
  (hY:∀ (w:World) (h:Heap),YP w h->(K w.params).In h)
  (F:∀ (w:World) (mg:Str->Option Value) (fa:Addr) (h:Heap),(K w.params).In h->h.Ns mainGlobals mg->mg d.name=some (.ref fa)->
   oE (K w.params) /\ ∃ fd:FuncData,(∀ (s:Shared) (u:Value),BindsTo s fd ⟨[u],[]⟩ [("_law_script",u)]) /\ ∀ base:Heap,(bF (K w.params)).In base->base.Ns mainGlobals mg->rn l.prog w (bF (K w.params)) mg base C9 32 fa fd ["_law_script"] (lD (bF (K w.params)) 1 uX)):
  PySem.W.WalkO q loose XP YP l.row.toRowW d [] (λf vs=>PySem.call f vs):=
 L2.Gw (n:=63) (k:=32) (x:="_law_script") (CX:=λ_=>C9) (sp:=λw=>lD (bF (K w.params)) 1 uX) hn (by decide) Rc ⟨rfl,by decide,by decide⟩ hY F (λ_ _ a ns hl hS hT=>⟨rfl,[],[.list (ns.map PyData.int)],.bool true,⟨λ_ z=>by simp at z,hT⟩,by rw [zO]; exact .cons (.lst hS (cx.ints ns)) .nil,Ig ns hl,λv H' _ h=>by cases h; rfl⟩) λ_ _ _ _ _ z=>z
end aA
open PySem PySem.W PyProof.Rows
set_option tactic.hygienic true
set_option maxRecDepth 100000 in
set_option maxHeartbeats 0 in
theorem PySem.Challenge.cw_lotdraw_k42_whole_less_spread_holds : PySem.Challenge.rw_lotdraw_k42_whole_less_spread.Holds := by
 w_on; o_law
 refine PySem.W.holds_open (q:=aA.xw) (loose:=[]) (Xt:=aA.hpX) (XP:=XL aA.xw []) (Yf:=Hook.obs (kHook aA.Qq aA.Qr aA.EJ)) (Ya:=Hook.val (kHook aA.Qq aA.Qr aA.EJ)) (YP:=Hook.says (kHook aA.Qq aA.Qr aA.EJ)) (N:=5420) (Hd.CO ?h1 rfl (λ_=>rfl) aA.IW aA.IX) (Hook.of _) (Hook.keeps _) (λs e=>xl_of s (Bool.and_eq_true_iff.mp e).1) XL.keeps (by rfl) (by rfl) (by rfl) (λs e=>recFacts_of (Bool.and_eq_true_iff.mp e).2) rfl (by first | assumption | decide +kernel) (by decide +kernel) ⟨rfl,rfl,rfl,rfl,rfl,by decide +kernel⟩ ?hw ?hc
 case h1=>kernel_rfl
 case hw=>w_witness2
 k_fill
 refine aA.walk (l:=PySem.Challenge.rw_lotdraw_k42_whole_less_spread) rfl rfl (λw h Y=>PySem.W.kIn_of Y) ?F
 case F=>
  intro w mg fa h KX G Rf
  refine' aA.all_mk KX G Rf ?_ ?_ ?_ ?_ ?_ ?_ ?_ ?_ ?_ ?_ ?_ ?_ ?_ ?_ ?_ ?_ ?_ ?_ ?_ ?_ ?_ ?_ ?_ ?_ ?_ ?_ ?_ ?_ ?_ ?_ ?_ ?_ ?_ ?_ ?_ ?_ ?_ ?_ ?_ ?_ ?_ ?_ ?_ ?_ ?_ ?_ ?_ ?_ ?_ ?_ ?_ ?_ ?_ ?_ ?_ ?_ ?_ ?_ ?_ ?_ ?_ ?_ ?_ ?_ ?_ ?_ ?_ ?_ ?_ ?_ ?_ ?_ ?_ ?_ ?ct
  all_goals try first | (refine' ⟨?x,?y,?z,?t⟩; (case x=>k_is); (case y=>k_is); (case z=>k_is); (case t=>k_is)) | (refine' ⟨_,_,_,_,_,_,_,_,_,_,?_,?_,?_,?_⟩<;>try k_is) | k_is
  (case ct=>rfl)
  all_goals kernel_rfl
end
