import PyProof.Rows.All
import Wide.All
import OpenK.AllK
import Wide.FinOn
import Lean
import PyProof.EqAt
import PyProof.EqKinds
import PyProof.TupleCall
import PySem.Challenge.RW_lotdraw_k50_rules_refused
set_option Elab.async false
set_option linter.all false
set_option maxRecDepth 100000
set_option tactic.hygienic false
abbrev au:=PySem.W.Frag
abbrev dG:=PySem.Str->Option PySem.Value
abbrev cq:=List (PySem.Addr×PySem.Obj)
abbrev cW:=PySem.Value->PySem.Shared->Prop
abbrev d6:=List (List Int)
abbrev fH:=List (Int×Int)
abbrev cc:=List PySem.Value
noncomputable section
def aaa:=@PySem.wpAny_bind
def aab:=@PySem.Heap.get?_push_of_some
def aac:=@Option.bind_some
def aad:=@List.getElem?_eq_getElem
def aax:=@List.length_map
def aay:=@PySem.wpAny_pure
def aaB:=@PySem.Heap.lt_size
def aaC:=@Nat.lt_of_lt_of_le
def aaD:=@List.mem_cons_self
def aaE:=@List.mem_cons_of_mem
def aaF:=@Nat.le_refl
def aaG:=@List.mem_cons
def aaH:=@PySem.Heap.get?_push_size
def aaI:=@List.size_toArray
def aaJ:=@List.getD_eq_getElem?_getD
def aaK:=@List.getElem?_eq_some_iff
def aaL:=@if_pos
def aaM:=@List.getElem?_cons_zero
def aaN:=@List.mem_append_right
def aaO:=@if_neg
def aaP:=@List.mem_of_getElem?
def aaQ:=@decide_eq_true
def aaR:=@Nat.ne_of_lt
def aaS:=@Bool.and_eq_true
def aaT:=@List.getElem?_cons_succ
def aaU:=@List.getElem?_map
def aaW:=@Bool.false_ne_true
def aaX:=@decide_eq_false
def aaY:=@List.map_cons
def aa0:=@List.length_cons
def aa1:=@PySem.W.mg_none_of
def aa2:=@Option.join_some
def aa3:=@List.mem_map
def aa4:=@PySem.PassesOwn.never
def aa5:=@PySem.wpAny_mono
def aa6:=@Nat.le_trans
def aa7:=@List.length_append
def aa8:=@List.getElem?_set_ne
def aa9:=@PySem.F.plainAttrs_list
def aba:=@List.map_append
def abb:=@Int.toNat_natCast
def abc:=@PySem.Heap.SameBut.update
def abd:=@List.mem_append
def abe:=@Option.some.inj
def abf:=@Array.length_toList
def abg:=@PySem.W.mg_of
def abh:=@List.append_nil
def abi:=@PySem.F.slot_list_append
def abj:=@List.getElem?_set_self
def abk:=@PySem.wpAny_truthy_bool
def abl:=@Int.mul_ne_zero
def abm:=@PySem.F.excBase_ValueError
def abn:=@List.length_take
def abo:=@decide_eq_true_eq
def abp:=@Nat.lt_irrefl
def abq:=@Nat.lt_of_le_of_lt
def abr:=@Int.emod_lt_of_pos
def abt:=@Int.natAbs_natCast
def abu:=@PySem.F.type_list_append
def abv:=@PyProof.Rows.callWith_type1
def abx:=@PySem.Heap.get?_update_self
def aby:=@PySem.W.kia_one
def abz:=@Int.lt_of_mul_lt_mul_right
def abA:=@decide_eq_false_iff_not
def abB:=@List.mem_append_left
def abC:=@List.mem_of_mem_take
def abD:=@PySem.Obj.data_mapFields
def abE:=@List.pairwise_cons
def abF:=@decide_eq_true_iff
def abG:=@List.take_length
def abH:=@List.length_filter_le
def abI:=@Int.mul_lt_mul_of_pos_right
def abJ:=@congrArg
def abK:=@List.length_set
def abL:=@Int.emod_nonneg
def abM:=@Nat.le_of_lt
def abN:=@PySem.Heap.get?_update_other
def abO:=@List.map_map
def abP:=@Array.getElem?_eq_getElem
def abQ:=@PySem.mem_of_lookup
def abR:=@PySem.wpAny_newObj_type
def abS:=@Nat.zero_le
def abT:=@Nat.lt_succ_of_lt
def abU:=@List.take_add_one
def abV:=@Int.mul_pos
def abW:=@List.getElem?_eq_none
def abX:=@PySem.codeAny_builtin
def abY:=@Int.mul_comm
def ab0:=@PySem.F.called_set
def ab1:=@PySem.wpAny_callSpecial?_slot
def ab2:=@PySem.wpAny_call_entry
def ab3:=@PySem.F.slot_tuple_iterator_next
def ab4:=@List.pairwise_map
def ab5:=@List.getElem?_append_right
def ab6:=@of_decide_eq_true
def ab7:=@List.length_range
def ab8:=@List.getElem_of_mem
def ab9:=@List.of_mem_zip
def acd:=@PySem.wpAny_Call_Name_kw
def ace:=@decide_eq_decide
def acf:=@List.mem_range
def ach:=@Int.pow_pos
def aci:=@Bool.not_eq_true'
def acj:=@List.mem_filter
def ack:=@PySem.codeAny_mono
def acm:=@PySem.wpAny_holding
def acn:=@Nat.lt_succ_self
def aco:=@PySem.wpAny_setField
def acp:=@PySem.Heap.size_push
def acu:=@List.length_replicate
def acv:=@PySem.Obj.isFreed_of_fields
def acw:=@PySem.wpAny_passesOwn
def acx:=@Ne.symm
def acy:=@Nat.ne_of_gt
def acz:=@PySem.wpAny_pyIter_enum
def acA:=@List.getElem?_zipIdx
def acB:=@PySem.wpAny_setState_of
def acC:=@Nat.le_succ
def acD:=@PySem.codeAny_call_builtin
def acE:=@Nat.zero_add
def acF:=@PySem.F.called_enumerate
def acG:=@Bool.true_and
def acH:=@PySem.wpAny_setEntries_of
def acI:=@Int.mul_ediv_cancel
def acJ:=@List.lookup_cons
def acK:=@PySem.wpAny_askSetting
def acL:=@List.not_mem_nil
def acM:=@List.length_eq_zero_iff
def acN:=@PySem.Value.type.inj
def acO:=@Nat.mul_div_cancel_left
def acP:=@PySem.wpAny_rule
def acQ:=@of_decide_eq_false
def acR:=@Bool.false_eq_true
def acS:=@Option.map_some
def acT:=@Int.gcd_pos_of_ne_zero_right
def acU:=@PySem.sizeLine_eq
def acV:=@PySem.wpAny_letOwnedTupleGo_enum
def acW:=@Array.perm_iff_toList_perm
def acX:=@List.getElem_mem
def acY:=@List.drop_eq_getElem_cons
def acZ:=@List.getElem?_append_left
def ac0:=@List.getElem?_zip_eq_some
def ac1:=@Int.eq_of_mul_eq_mul_left
def ac2:=@Int.mul_neg_of_neg_of_pos
def ac3:=@beq_eq_false_iff_ne
def ac4:=@PyProof.Rows.F.entry_set_update_loop
def ac5:=@Int.mul_fdiv_cancel
def ac6:=@Nat.add_le_add_left
def ac7:=@Option.isSome_iff_exists
def ac8:=@PySem.F.args_tuple_add_2
def ac9:=@List.all_cons
def ada:=@List.any_cons
def adb:=@PySem.wpAny_attempt
def ade:=@Nat.le_of_dvd
def adf:=@PySem.wpAny_execs_nil
def adg:=@Int.pow_ne_zero
def adh:=@PySem.Calls.spliced_cons
def adi:=@PySem.F.args_tuple_iterator_next_1
def adk:=@List.set_cons_zero
def adl:=@PySem.F.entry_tuple_add
def adm:=@PySem.F.entry_tuple_iterator_next
def adn:=@Option.map_eq_some_iff
def adq:=@PySem.F.slot_tuple_add
def ads:=@PySem.Calls.callWith_builtin
def adt:=@PySem.F.slot_list_extend
def adu:=@PySem.Obj.cls_mapFields
def adv:=@PySem.isSubtype_type
def adx:=@Int.lt_trichotomy
def ady:=@Nat.gcd_dvd_right
def adz:=@PySem.F.slot_dict_get
def adA:=@Int.natAbs_dvd_natAbs
def adB:=@PySem.call_meets
def adC:=@beq_iff_eq
def adE:=@List.all_eq_true
def adF:=@List.getElem_map
def adG:=@List.filter_cons
def adH:=@PySem.wpAny_standAt
def adI:=@PySem.plainId_quiet
def adJ:=@PySem.Around.frames_deeper
def adK:=@PySem.Calls.evalArgs_plain
def adL:=@List.pairwise_append
def adM:=@List.nodup_cons
def adN:=@Int.mul_eq_zero
def adO:=@List.replicate_succ
def adP:=@List.length_pos_iff
def adQ:=@PySem.F.plain_list_iadd
def adR:=@Nat.mul_le_mul_left
def adT:=@Nat.le_of_eq
def adU:=@getElem?_pos
def adX:=@Int.zero_add
def adZ:=@Bool.false_and
def ad0:=@List.mem_filterMap
def ad3:=@Array.append_empty
def ad4:=@PySem.wpAny_seqItems
def ad8:=@PySem.wpAny_fieldsOf
def aeb:=@List.set_cons_succ
def aec:=@List.mem_singleton
def aed:=@List.length_zipIdx
def aee:=@List.filter_append
def aei:=@PySem.W.kitx_list
def aek:=@List.take_sublist
def ael:=@PySem.wpAny_of_eq
def aen:=@Array.toList_push
def aeo:=@List.append_assoc
def aep:=@Bool.eq_false_iff
def aev:=@Prod.mk.injEq
def aez:=@Nat.succ_ne_self
def aeA:=@Nat.le_of_not_lt
def aeC:=@List.ext_getElem
def aeE:=@List.cons_append
def aeK:=@List.map_nil
def aeL:=@Nat.lt_trans
def aeQ:=@Nat.min_self
def aeR:=@Int.zero_mul
def aeS:=@Int.ne_of_gt
def aeT:=@Int.pow_succ
def aeU:=@Nat.succ_pos
namespace L2
open PySem
def gj (s:Stmt):Arguments:=match s with
 | .FunctionDef _ a _ _ _ _ _ _ _ _=>a
 | _=>{ posonlyargs:=[],args:=[],vararg:=none,kwonlyargs:=[],kw_defaults:=[],kwarg:=none,defaults:=[] }
def cU (s:Stmt):List Stmt:=match s with
 | .FunctionDef _ _ b _ _ _ _ _ _ _=>b
 | _=>[]
def aj (s:Stmt):Scope:=match s with
 | .FunctionDef _ _ _ _ _ _ sc _ _ _=>sc
 | _=>{ kind:=.function,names:=[],isGenerator:=false,isCoroutine:=false }
end L2
namespace Hd
open PySem PySem.W
def B0 (tb:String->Option Builtin) (p:Program) (w:World) (m:Nat) (ann:Option Value):Nat->SharedT->Thread->Option SharedT
 | 0,_,_=>none
 | n + 1,s,t=>match through t with
   | true=>some s
   | false=>match stepOk m ann t with
     | false=>none
     | true=>match stepT (denote tb) p w s t with
       | some (s',t')=>B0 tb p w m ann n s' t'
       | none=>none
theorem D4:∀ {n:Nat} {s s':SharedT} {t:Thread},B0 tb p w m ann n s t=some s'->topRun tb p w m ann n s.abs t=some s'.abs
 | 0,_,_,_,h=>by cases h
 | n + 1,s,s',t,h=>by
   unfold B0 at h
   unfold topRun
   cases he:through t with
   | true=>rw [he] at h; cases h; rfl
   | false=>
     rw [he] at h
     cases hk:stepOk m ann t with
     | false=>rw [hk] at h; cases h
     | true=>
       rw [hk] at h
       cases hs:stepT (denote tb) p w s t with
       | none=>rw [hs] at h; cases h
       | some r=>obtain ⟨s2,t2⟩:=r; rw [hs] at h; rw [stepT_spec hs]; exact D4 h
def OH (P:Params):BT:=(.node (boot_o_0 P) (.node (boot_o_1 P) (.node (boot_o_3 P) (.node (boot_o_7 P) .nil .nil) .nil) (.node (boot_o_5 P) (.node (boot_o_9 P) .nil .nil) .nil)) (.node (boot_o_2 P) (.node (boot_o_4 P) (.node (boot_o_8 P) .nil .nil) .nil) (.node (boot_o_6 P) (.node (boot_o_10 P) .nil .nil) .nil)))
theorem boot_abs (P:Params):boot_heap P=absHeap (OH P) 11 (boot_heap P).life:=by kernel_rfl
def Aj (w:World) (os:OsState):SharedT:=⟨OH w.params,11,(boot_heap w.params).life,Array.mk [],boot_drawn,boot_toks,os⟩
theorem LG (w:World) (os:OsState):(Aj w os).abs=⟨boot_heap w.params,Array.mk [],boot_drawn,boot_toks,os⟩:=rfl
theorem Fm (P:Params):((boot_heap P).isNs mainGlobals,(boot_heap P).objs.size,(boot_heap P).nsMap mainGlobals "__annotations__")=(true,11,some (.ref 6)):=by kernel_rfl
theorem Fo {p q:Program} {Ya:World->α} (e:opening p=plainProg p.main.scope.names) (hN:Nat.ble 600 N=true) (f:∀ s,fenceModules? p s=some s)
  (one:∀ (w:World) (os:OsState),(B0 treeTable p w 11 (some (.ref 6)) N (Aj w os) (topStub p)).map (λs=>((staticsOk (importedModules p.main.body) (boot_heap w.params) s.abs.heap && namesBound p s.abs.heap && gensDone s.abs && laidKept (boot_heap w.params) s.abs.heap),Yf s.abs))=some (true,Ya w))
  (two:∀ (w:World) (os:OsState),(B0 treeTable p w 11 (some (.ref 6)) N (Aj w os) (topStub p)).map (λs=>openSeen q loose (importedModules p.main.body) Xt true s.abs)=some (openGood q loose)):
  LeftO p q loose Xt Yf Ya N:=λw=>by
 obtain ⟨⟨h,gs,d,k,os⟩,e1,e2⟩:=adn.mp (boot_open e hN f w)
 obtain ⟨rfl,rfl,rfl,rfl⟩:h=boot_heap w.params /\ gs=Array.mk [] /\ d=boot_drawn /\ k=boot_toks:=by simpa using e2
 obtain ⟨s,r,l⟩:=adn.mp (one w os)
 obtain ⟨l1,l3⟩:_ /\ _:=by simpa only [Prod.mk.injEq] using l
 have l2:openSeen q loose (importedModules p.main.body) Xt true s.abs=openGood q loose:=by grind
 obtain ⟨z1,z2,z3⟩:_ /\ _ /\ _:=by simpa only [Prod.mk.injEq] using Fm w.params
 have r':=D4 r
 rw [LG] at r'
 have t:topFrom treeTable p w N ⟨boot_heap w.params,Array.mk [],boot_drawn,boot_toks,os⟩=some s.abs:=by
  unfold topFrom
  rw [z1,z2,z3,r']
  show (match staticsOk (importedModules p.main.body) (boot_heap w.params) s.abs.heap && namesBound p s.abs.heap && gensDone s.abs && laidKept (boot_heap w.params) s.abs.heap with | true=>_ | false=>_)=_
  rw [l1]
 unfold openEnds
 rw [e1]
 show (topFrom treeTable p w N ⟨boot_heap w.params,Array.mk [],boot_drawn,boot_toks,os⟩).map _=_
 rw [t,acS,l2,l3]
end Hd
namespace az
open PySem PySem.W L2
def top (i:Nat):Stmt:=PySem.Challenge.pw_lotdraw_k50_rules_refused.main.body.getD i (.Pass ⟨0,0,0,0⟩)
def Ak:Program:={ PySem.Challenge.pw_lotdraw_k50_rules_refused with main:={ PySem.Challenge.pw_lotdraw_k50_rules_refused.main with body:=[top 1,top 2,top 3,top 4,top 5,top 6,top 7,top 9,top 10,top 11,top 12,top 13,top 14,top 15,top 16,top 17,top 18,top 19,top 20,top 22,top 23,top 24,top 25,top 26,top 27,top 28,top 30,top 31,top 32,top 33,top 34,top 36,top 37,top 39,top 40,top 42,top 43,top 44,top 45,top 46,top 47,top 48,top 49,top 50,top 51,top 53,top 54,top 55,top 56,top 57,top 58,top 60,top 62,top 63,top 64,top 65,top 66,top 67,top 68,top 69,top 70,top 71,top 72,top 73,top 74,top 75,top 76,top 77] } }
abbrev ent (P:Params) (k:Str) (n:Nat) (v:Value):DictEntry:=⟨PyData.keyHash P k,.str k n,v⟩
abbrev TQ (P:Params):=λx0 x1 x2 x3 x4 x5 x6=>(⟨(.type "dict"),none,(.dict #[(ent P "__module__" x0 (.str "lotdraw.errors" 187)),(ent P "__firstlineno__" x1 (.int x2 x3)),(ent P "__static_attributes__" x4 (.ref x5)),(ent P "__doc__" x6 .none)] 2),#[]⟩:Obj)
abbrev wA (P:Params):=λx0 x1 x2 x3 x4 x5=>(⟨(.type "type"),none,(.cls ⟨x0,[(.ref 24)],[(.ref x1),(.ref 24),(.type "ValueError"),(.type "Exception"),(.type "BaseException"),(.type "object")],x2,x0,true,[],[],false,none,false⟩),#[(some (.ref x3)),none,(some (.str x0 x4)),(some (.str x0 x5)),(some (.builtin "ValueError.__new__")),(some (.bool true))]⟩:Obj)
abbrev gP (P:Params):=λx0 x1 x2 x3 x4 x5 x6 x7 x8 x9 X8 x11 x12=>(⟨(.type "code"),none,(.fields #[(.str x0 x1),(.str x0 x2),(.str "/claim/cut.py" x3),(.int x4 0),(.int x5 0),(.int 0 0),(.int 0 0),(.int 3 0),(.ref x6),(.bool true),(.int 181 0),(.ref x7),.none,(.ref x8),(.ref x9),(.ref X8),(.int x11 0),(.int x4 0),(.str "/claim/cut.py" x12)]),#[]⟩:Obj)
abbrev ig (P:Params):=λx0 x1 x2 x3 x4=>(⟨(.type "function"),none,.func (fnOf x0 x0 (gj (top x1)) (cU (top x1)) (aj (top x1)) .none .none .none (.str x2 x3) none (.ref x4) .none),#[]⟩:Obj)
abbrev GZ (P:Params):=λx0 x1 x2 x3 x4 x5 x6 x7 x8 x9 X8=>(⟨(.type "code"),none,(.fields #[(.str x0 x1),(.str x0 x2),(.str "/claim/cut.py" x3),(.int x4 0),(.int x5 0),(.int 0 0),(.int 0 0),(.int 3 0),(.ref x6),(.bool true),(.int 181 0),(.ref x7),.none,.none,.none,(.ref x8),(.int x9 0),(.int x4 0),(.str "/claim/cut.py" X8)]),#[]⟩:Obj)
def UD:Params->Frag:=λP=>(nat_lit 2,⟨.none,none,(.dict #[] 0),#[]⟩) ::
 (nat_lit 3,⟨(.type "dict"),none,(.dict #[(ent P "__name__" 165 (.str "law_lotdraw_k50_rules_refused" 686)),(ent P "__doc__" 166 .none),(ent P "__package__" 167 .none),(ent P "__loader__" 168 (.builtin "__main__.__loader__#opaque")),(ent P "__spec__" 169 .none),(ent P "__annotations__" 170 (.ref 6)),(ent P "__builtins__" 171 (.ref 4)),(ent P "__file__" 173 (.str "/claim/cut.py" 172)),(ent P "__cached__" 174 .none),(ent P "LotError" 206 (.ref 24)),(ent P "NoNumber" 222 (.ref 37)),(ent P "NoPlan" 238 (.ref 49)),(ent P "NoEnd" 254 (.ref 61)),(ent P "NoTelling" 270 (.ref 73)),(ent P "NoLot" 286 (.ref 85)),(ent P "NoShares" 302 (.ref 97)),(ent P "LONG" 306 (.int 4000 305)),(ent P "WINDOW" 308 (.int 240 307)),(ent P "SHED" 310 (.int 120 309)),(ent P "frac" 319 (.ref 106)),(ent P "plus" 331 (.ref 113)),(ent P "minus" 339 (.ref 120)),(ent P "times" 349 (.ref 127)),(ent P "over" 357 (.ref 134)),(ent P "power" 368 (.ref 141)),(ent P "under" 376 (.ref 148)),(ent P "greatest_divisor" 386 (.ref 155)),(ent P "leap" 399 (.ref 162)),(ent P "goes_on" 410 (.ref 169)),(ent P "come_to" 416 (.ref 174)),(ent P "ends" 422 (.ref 179)),(ent P "drawn_on" 428 (.ref 184)),(ent P "check_ends" 438 (.ref 191)),(ent P "led_to" 444 (.ref 196)),(ent P "after" 452 (.ref 203)),(ent P "NOUGHT" 457 (.ref 204)),(ent P "of_count" 468 (.ref 211)),(ent P "trimmed" 476 (.ref 218)),(ent P "common_bottom" 485 (.ref 225)),(ent P "tops_over" 491 (.ref 230)),(ent P "ways_to" 501 (.ref 237)),(ent P "ways_from" 513 (.ref 244)),(ent P "mean_of" 521 (.ref 249)),(ent P "check_telling" 529 (.ref 256)),(ent P "WHOLE" 534 (.ref 257)),(ent P "refusing" 540 (.ref 262)),(ent P "ratio" 549 (.ref 269)),(ent P "rule_by_ratio" 563 (.ref 276)),(ent P "check_shares" 571 (.ref 283)),(ent P "check_most" 578 (.ref 290)),(ent P "often" 588 (.ref 297)),(ent P "by_falling_ratio" 594 (.ref 302)),(ent P "taken" 610 (.ref 309)),(ent P "in_order" 617 (.ref 316)),(ent P "MOST_PIECES" 621 (.int 200 620)),(ent P "lot_odds" 631 (.ref 323)),(ent P "check_lot" 640 (.ref 330)),(ent P "check_size" 648 (.ref 337)),(ent P "choices" 657 (.ref 344)),(ent P "falling" 667 (.ref 351)),(ent P "lot_rule" 685 (.ref 358)),(ent P "_law_cell" 695 (.ref 365)),(ent P "_law_digits" 706 (.ref 372)),(ent P "_law_mixes" 718 (.ref 379)),(ent P "_law_plan" 724 (.ref 384)),(ent P "_law_most" 731 (.ref 391)),(ent P "_law_ends" 737 (.ref 396)),(ent P "_law_ways" 750 (.ref 403)),(ent P "_law_divisor" 758 (.ref 410)),(ent P "_law_made" 767 (.ref 417)),(ent P "_law_word" 775 (.ref 424)),(ent P "_law_answer" 786 (.ref 431)),(ent P "_law_under" 794 (.ref 438)),(ent P "_law_due" 800 (.ref 443)),(ent P "_law_rule" 806 (.ref 448)),(ent P "_law_part" 822 (.ref 455)),(ent P "law" 834 (.ref 462))] 77),#[]⟩) ::
 (nat_lit 23,⟨(.type "dict"),none,(.dict #[(ent P "__module__" 196 (.str "lotdraw.errors" 187)),(ent P "__firstlineno__" 200 (.int 2 199)),(ent P "__static_attributes__" 201 (.ref 22)),(ent P "__weakref__" 203 (.ref 25)),(ent P "__doc__" 204 .none)] 3),#[]⟩) ::
 (nat_lit 24,⟨(.type "type"),none,(.cls ⟨"LotError",[(.type "ValueError")],[(.ref 24),(.type "ValueError"),(.type "Exception"),(.type "BaseException"),(.type "object")],23,"LotError",true,[],[(.ref 37),(.ref 49),(.ref 61),(.ref 73),(.ref 85),(.ref 97)],false,none,false⟩),#[(some (.ref 15)),none,(some (.str "LotError" 189)),(some (.str "LotError" 197)),(some (.builtin "ValueError.__new__")),(some (.bool true))]⟩) ::
 (nat_lit 25,⟨(.type "getset_descriptor"),none,(.fields #[(.str "__weakref__" 202),(.ref 24),(.builtin "ExceptionGroup.__weakref__"),.none]),#[]⟩) ::
 (nat_lit 36,TQ P 214 218 4 217 219 35 220) ::
 (nat_lit 37,wA P "NoNumber" 37 36 28 207 215) ::
 (nat_lit 48,TQ P 230 234 6 233 235 47 236) ::
 (nat_lit 49,wA P "NoPlan" 49 48 40 223 231) ::
 (nat_lit 60,TQ P 246 250 8 249 251 59 252) ::
 (nat_lit 61,wA P "NoEnd" 61 60 52 239 247) ::
 (nat_lit 72,TQ P 262 266 10 265 267 71 268) ::
 (nat_lit 73,wA P "NoTelling" 73 72 64 255 263) ::
 (nat_lit 84,TQ P 278 282 12 281 283 83 284) ::
 (nat_lit 85,wA P "NoLot" 85 84 76 271 279) ::
 (nat_lit 96,TQ P 294 298 14 297 299 95 300) ::
 (nat_lit 97,wA P "NoShares" 97 96 88 287 295) ::
 (nat_lit 105,gP P "frac" 311 312 313 20 2 100 101 102 103 104 317 318) ::
 (nat_lit 106,ig P "frac" 12 "lotdraw.fracs" 303 105) ::
 (nat_lit 112,gP P "plus" 320 321 322 27 2 107 108 109 110 111 329 330) ::
 (nat_lit 113,ig P "plus" 13 "lotdraw.fracs" 303 112) ::
 (nat_lit 119,gP P "minus" 332 333 334 33 2 114 115 116 117 118 337 338) ::
 (nat_lit 120,ig P "minus" 14 "lotdraw.fracs" 303 119) ::
 (nat_lit 126,gP P "times" 340 341 342 35 2 121 122 123 124 125 347 348) ::
 (nat_lit 127,ig P "times" 15 "lotdraw.fracs" 303 126) ::
 (nat_lit 133,gP P "over" 350 351 352 39 2 128 129 130 131 132 355 356) ::
 (nat_lit 134,ig P "over" 16 "lotdraw.fracs" 303 133) ::
 (nat_lit 140,gP P "power" 358 359 360 41 2 135 136 137 138 139 366 367) ::
 (nat_lit 141,ig P "power" 17 "lotdraw.fracs" 303 140) ::
 (nat_lit 147,gP P "under" 369 370 371 48 2 142 143 144 145 146 374 375) ::
 (nat_lit 148,ig P "under" 18 "lotdraw.fracs" 303 147) ::
 (nat_lit 154,gP P "greatest_divisor" 377 378 379 50 2 149 150 151 152 153 384 385) ::
 (nat_lit 155,ig P "greatest_divisor" 19 "lotdraw.fracs" 303 154) ::
 (nat_lit 161,gP P "leap" 387 388 389 62 2 156 157 158 159 160 397 398) ::
 (nat_lit 162,ig P "leap" 20 "lotdraw.fracs" 303 161) ::
 (nat_lit 168,gP P "goes_on" 402 403 404 73 2 163 164 165 166 167 408 409) ::
 (nat_lit 169,ig P "goes_on" 22 "lotdraw.plans" 400 168) ::
 (nat_lit 173,GZ P "come_to" 411 412 413 76 1 170 171 172 414 415) ::
 (nat_lit 174,ig P "come_to" 23 "lotdraw.plans" 400 173) ::
 (nat_lit 178,GZ P "ends" 417 418 419 81 1 175 176 177 420 421) ::
 (nat_lit 179,ig P "ends" 24 "lotdraw.plans" 400 178) ::
 (nat_lit 183,GZ P "drawn_on" 423 424 425 83 1 180 181 182 426 427) ::
 (nat_lit 184,ig P "drawn_on" 25 "lotdraw.plans" 400 183) ::
 (nat_lit 190,gP P "check_ends" 429 430 431 88 2 185 186 187 188 189 436 437) ::
 (nat_lit 191,ig P "check_ends" 26 "lotdraw.plans" 400 190) ::
 (nat_lit 195,GZ P "led_to" 439 440 441 93 1 192 193 194 442 443) ::
 (nat_lit 196,ig P "led_to" 27 "lotdraw.plans" 400 195) ::
 (nat_lit 202,gP P "after" 445 446 447 95 2 197 198 199 200 201 450 451) ::
 (nat_lit 203,ig P "after" 28 "lotdraw.plans" 400 202) ::
 (nat_lit 204,⟨(.type "tuple"),none,(.seq #[(.int 0 455),(.int 1 456)] 0),#[]⟩) ::
 (nat_lit 210,gP P "of_count" 458 459 460 101 2 205 206 207 208 209 466 467) ::
 (nat_lit 211,ig P "of_count" 31 "lotdraw.polys" 453 210) ::
 (nat_lit 217,gP P "trimmed" 469 470 471 108 1 212 213 214 215 216 474 475) ::
 (nat_lit 218,ig P "trimmed" 32 "lotdraw.polys" 453 217) ::
 (nat_lit 224,gP P "common_bottom" 477 478 479 113 1 219 220 221 222 223 483 484) ::
 (nat_lit 225,ig P "common_bottom" 33 "lotdraw.polys" 453 224) ::
 (nat_lit 229,GZ P "tops_over" 486 487 488 118 2 226 227 228 489 490) ::
 (nat_lit 230,ig P "tops_over" 34 "lotdraw.polys" 453 229) ::
 (nat_lit 236,gP P "ways_to" 494 495 496 121 2 231 232 233 234 235 499 500) ::
 (nat_lit 237,ig P "ways_to" 36 "lotdraw.ways" 492 236) ::
 (nat_lit 243,gP P "ways_from" 502 503 504 123 2 238 239 240 241 242 511 512) ::
 (nat_lit 244,ig P "ways_from" 37 "lotdraw.ways" 492 243) ::
 (nat_lit 248,GZ P "mean_of" 516 517 518 131 2 245 246 247 519 520) ::
 (nat_lit 249,ig P "mean_of" 39 "lotdraw.odds" 514 248) ::
 (nat_lit 255,gP P "check_telling" 522 523 524 140 2 250 251 252 253 254 527 528) ::
 (nat_lit 256,ig P "check_telling" 40 "lotdraw.odds" 514 255) ::
 (nat_lit 257,⟨(.type "tuple"),none,(.seq #[(.int 1 532),(.int 1 533)] 0),#[]⟩) ::
 (nat_lit 261,GZ P "refusing" 535 536 537 145 2 258 259 260 538 539) ::
 (nat_lit 262,ig P "refusing" 43 "lotdraw.rules" 530 261) ::
 (nat_lit 268,gP P "ratio" 541 542 543 148 3 263 264 265 266 267 547 548) ::
 (nat_lit 269,ig P "ratio" 44 "lotdraw.rules" 530 268) ::
 (nat_lit 275,gP P "rule_by_ratio" 550 551 552 151 4 270 271 272 273 274 561 562) ::
 (nat_lit 276,ig P "rule_by_ratio" 45 "lotdraw.rules" 530 275) ::
 (nat_lit 282,gP P "check_shares" 564 565 566 160 2 277 278 279 280 281 569 570) ::
 (nat_lit 283,ig P "check_shares" 46 "lotdraw.rules" 530 282) ::
 (nat_lit 289,gP P "check_most" 572 573 574 163 1 284 285 286 287 288 576 577) ::
 (nat_lit 290,ig P "check_most" 47 "lotdraw.rules" 530 289) ::
 (nat_lit 296,gP P "often" 579 580 581 166 2 291 292 293 294 295 586 587) ::
 (nat_lit 297,ig P "often" 48 "lotdraw.rules" 530 296) ::
 (nat_lit 301,GZ P "by_falling_ratio" 589 590 591 170 1 298 299 300 592 593) ::
 (nat_lit 302,ig P "by_falling_ratio" 49 "lotdraw.rules" 530 301) ::
 (nat_lit 308,gP P "taken" 595 596 597 175 2 303 304 305 306 307 608 609) ::
 (nat_lit 309,ig P "taken" 50 "lotdraw.rules" 530 308) ::
 (nat_lit 315,gP P "in_order" 611 612 613 187 1 310 311 312 313 314 615 616) ::
 (nat_lit 316,ig P "in_order" 51 "lotdraw.rules" 530 315) ::
 (nat_lit 322,gP P "lot_odds" 622 623 624 191 4 317 318 319 320 321 629 630) ::
 (nat_lit 323,ig P "lot_odds" 54 "lotdraw.lots" 618 322) ::
 (nat_lit 329,gP P "check_lot" 632 633 634 195 3 324 325 326 327 328 638 639) ::
 (nat_lit 330,ig P "check_lot" 55 "lotdraw.lots" 618 329) ::
 (nat_lit 336,gP P "check_size" 641 642 643 199 2 331 332 333 334 335 646 647) ::
 (nat_lit 337,ig P "check_size" 56 "lotdraw.lots" 618 336) ::
 (nat_lit 343,gP P "choices" 649 650 651 202 3 338 339 340 341 342 655 656) ::
 (nat_lit 344,ig P "choices" 57 "lotdraw.lots" 618 343) ::
 (nat_lit 350,gP P "falling" 658 659 660 204 2 345 346 347 348 349 665 666) ::
 (nat_lit 351,ig P "falling" 58 "lotdraw.lots" 618 350) ::
 (nat_lit 357,gP P "lot_rule" 670 671 672 210 5 352 353 354 355 356 683 684) ::
 (nat_lit 358,ig P "lot_rule" 60 "lotdraw.lotrules" 668 357) ::
 (nat_lit 364,gP P "_law_cell" 688 689 690 226 2 359 360 361 362 363 693 694) ::
 (nat_lit 365,ig P "_law_cell" 62 "law_lotdraw_k50_rules_refused" 686 364) ::
 (nat_lit 371,gP P "_law_digits" 696 697 698 230 3 366 367 368 369 370 704 705) ::
 (nat_lit 372,ig P "_law_digits" 63 "law_lotdraw_k50_rules_refused" 686 371) ::
 (nat_lit 378,gP P "_law_mixes" 707 708 709 236 3 373 374 375 376 377 716 717) ::
 (nat_lit 379,ig P "_law_mixes" 64 "law_lotdraw_k50_rules_refused" 686 378) ::
 (nat_lit 383,GZ P "_law_plan" 719 720 721 242 2 380 381 382 722 723) ::
 (nat_lit 384,ig P "_law_plan" 65 "law_lotdraw_k50_rules_refused" 686 383) ::
 (nat_lit 395,GZ P "_law_ends" 732 733 734 264 1 392 393 394 735 736) ::
 (nat_lit 396,ig P "_law_ends" 67 "law_lotdraw_k50_rules_refused" 686 395) ::
 (nat_lit 409,gP P "_law_divisor" 751 752 753 281 2 404 405 406 407 408 756 757) ::
 (nat_lit 410,ig P "_law_divisor" 69 "law_lotdraw_k50_rules_refused" 686 409) ::
 (nat_lit 416,gP P "_law_made" 759 760 761 285 2 411 412 413 414 415 765 766) ::
 (nat_lit 417,ig P "_law_made" 70 "law_lotdraw_k50_rules_refused" 686 416) ::
 (nat_lit 423,gP P "_law_word" 768 769 770 288 1 418 419 420 421 422 773 774) ::
 (nat_lit 424,ig P "_law_word" 71 "law_lotdraw_k50_rules_refused" 686 423) ::
 (nat_lit 430,gP P "_law_answer" 776 777 778 299 3 425 426 427 428 429 784 785) ::
 (nat_lit 431,ig P "_law_answer" 72 "law_lotdraw_k50_rules_refused" 686 430) ::
 (nat_lit 437,gP P "_law_under" 787 788 789 314 2 432 433 434 435 436 792 793) ::
 (nat_lit 438,ig P "_law_under" 73 "law_lotdraw_k50_rules_refused" 686 437) ::
 (nat_lit 442,GZ P "_law_due" 795 796 797 316 3 439 440 441 798 799) ::
 (nat_lit 443,ig P "_law_due" 74 "law_lotdraw_k50_rules_refused" 686 442) ::
 (nat_lit 447,GZ P "_law_rule" 801 802 803 327 2 444 445 446 804 805) ::
 (nat_lit 448,ig P "_law_rule" 75 "law_lotdraw_k50_rules_refused" 686 447) ::
 (nat_lit 454,gP P "_law_part" 807 808 809 339 3 449 450 451 452 453 820 821) ::
 (nat_lit 455,ig P "_law_part" 76 "law_lotdraw_k50_rules_refused" 686 454) ::
 (nat_lit 461,gP P "law" 823 824 825 352 1 456 457 458 459 460 832 833) ::
 (nat_lit 462,ig P "law" 77 "law_lotdraw_k50_rules_refused" 686 461) ::
 []
def UE:List Addr:=[2,3,23,24,25,36,37,48,49,60,61,72,73,84,85,96,97,105,106,112,113,119,120,126,127,133,134,140,141,147,148,154,155,161,162,168,169,173,174,178,179,183,184,190,191,195,196,202,203,204,210,211,217,218,224,225,229,230,236,237,243,244,248,249,255,256,257,261,262,268,269,275,276,282,283,289,290,296,297,301,302,308,309,315,316,322,323,329,330,336,337,343,344,350,351,357,358,364,365,371,372,378,379,383,384,395,396,409,410,416,417,423,424,430,431,437,438,442,443,447,448,454,455,461,462]
def UG:List Addr:=[311,299]
set_option maxHeartbeats 0
theorem G8 (P:Params):UE=(UD P).map (·.1):=by kernel_rfl
theorem LH (w:World) (os:OsState):(Hd.B0 treeTable PySem.Challenge.pw_lotdraw_k50_rules_refused w 11 (some (.ref 6)) 6726 (Hd.Aj w os) (topStub PySem.Challenge.pw_lotdraw_k50_rules_refused)).map (λs=>((staticsOk (importedModules PySem.Challenge.pw_lotdraw_k50_rules_refused.main.body) (boot_heap w.params) s.abs.heap && namesBound PySem.Challenge.pw_lotdraw_k50_rules_refused s.abs.heap && gensDone s.abs && laidKept (boot_heap w.params) s.abs.heap),(UE.map s.abs.heap.get?,UG.map s.abs.heap.get?)))=some (true,((UD w.params).map λp=>some p.2,UG.map λ_=>some (tabObj #[]))):=by kernel_rfl
abbrev hpX:Shared->Bool:=λs=>xlAt Ak [] s && recOk (RowW.records (OpenRow.toRowW (OpenLaw.row PySem.Challenge.rw_lotdraw_k50_rules_refused))) s
theorem LI (w:World) (os:OsState):(Hd.B0 treeTable PySem.Challenge.pw_lotdraw_k50_rules_refused w 11 (some (.ref 6)) 6726 (Hd.Aj w os) (topStub PySem.Challenge.pw_lotdraw_k50_rules_refused)).map (λs=>openSeen Ak [] (importedModules PySem.Challenge.pw_lotdraw_k50_rules_refused.main.body) hpX true s.abs)=some (openGood Ak []):=by kernel_rfl
end az
set_option maxHeartbeats 4000000
namespace L2
open PySem PySem.Spec PyProof.Rows
abbrev Key:=Sum Int Str
def xa:Key->Value->Bool
 | .inl k,v=>Value.isInt k v
 | .inr x,v=>Value.isStrOf x v
def X9 (w:World):Key->Int
 | .inl k=>hashInt k
 | .inr x=>hashStr w x
theorem dU:∀ {k:Key} {v:Value},xa k v=true->(∃ i t,k=Sum.inl i /\ v=Value.int i t) \/ (∃ x t,k=Sum.inr x /\ v=Value.str x t)
 | .inl i,v,h=>by
   obtain ⟨t,e⟩:=Value.isInt_shape (k:=i) (v:=v) h
   exact .inl ⟨i,t,rfl,e⟩
 | .inr x,v,h=>by
   obtain ⟨t,e⟩:=Value.isStrOf_shape (x:=x) (v:=v) h
   exact .inr ⟨x,t,rfl,e⟩
theorem Fp (i:Int) (t:Tok):xa (.inl i) (.int i t)=true:=by simp [xa,Value.isInt]
theorem Fq (x:Str) (t:Tok):xa (.inr x) (.str x t)=true:=by simp [xa,Value.isStrOf]
theorem Qr (a b:Int):decide ((Sum.inl a:Key)=Sum.inl b)=(a == b):=by lia
theorem Qs (a b:Str):decide ((Sum.inr a:Key)=Sum.inr b)=decide (a=b):=by simp
theorem Qt (a:Int) (b:Str):decide ((Sum.inl a:Key)=Sum.inr b)=false:=rfl
theorem Qu (a:Str) (b:Int):decide ((Sum.inr a:Key)=Sum.inl b)=false:=rfl
def eA (prog:Program) (w:World):PySem.KeyKind prog w Key where
 is:=xa
 hash:=X9 w
 inj:=λv a b ha hb=>by
  rcases dU ha with ⟨i,t,rfl,rfl⟩ | ⟨x,t,rfl,rfl⟩
  .rcases dU hb with ⟨j,u,rfl,e⟩ | ⟨y,u,rfl,e⟩
   .injection e with e1 _; rw [e1]
   .exact nomatch e
  .rcases dU hb with ⟨j,u,rfl,e⟩ | ⟨y,u,rfl,e⟩
   .exact nomatch e
   .injection e with e1 _; rw [e1]
 byValue:=λk v h=>by
  rcases dU h with ⟨i,t,rfl,rfl⟩ | ⟨x,t,rfl,rfl⟩ <;> rfl
 pyHash:=λhv h=>by
  rcases dU hv with ⟨i,t,rfl,rfl⟩ | ⟨x,t,rfl,rfl⟩
  .exact wpAny_pyHash_int h
  .exact wpAny_pyHash_str h
 eqBool:=λhu hv h=>by
  rcases dU hu with ⟨i,t,rfl,rfl⟩ | ⟨x,t,rfl,rfl⟩
  .rcases dU hv with ⟨j,u,rfl,rfl⟩ | ⟨y,u,rfl,rfl⟩
   .rw [Qr] at h; exact wpAny_eqBool_int h
   .rw [Qt] at h; exact SeqAt.EqAt.int_str i t y u _ _ _ _ h
  .rcases dU hv with ⟨j,u,rfl,rfl⟩ | ⟨y,u,rfl,rfl⟩
   .rw [Qu] at h; exact SeqAt.EqAt.str_int x t j u _ _ _ _ h
   .rw [Qs] at h; exact wpAny_eqBool_str h
 «strs»:=λk x t v h=>by
  rcases dU h with ⟨i,u,rfl,e⟩ | ⟨y,u,rfl,e⟩
  .exact nomatch e
  .injection e with e1 _
   subst e1
   cases v <;> rfl
theorem Al (prog:Program) (w:World) (i:Int) (t:Tok):(eA prog w).is (.inl i) (.int i t)=true:=Fp i t
theorem Am (prog:Program) (w:World) (x:Str) (t:Tok):(eA prog w).is (.inr x) (.str x t)=true:=Fq x t
inductive V where
 | ia | bl (b:Bool) | int (i:Int) | str (x:Str) | UH (b:Array UInt8) | TR (b:UInt64) | ref (a:Addr) | ty (n:String)
 deriving DecidableEq
def RelV:V->Value->Prop
 | .ia,u=>u=Value.none
 | .bl b,u=>u=Value.bool b
 | .int i,u=>∃ t,u=Value.int i t
 | .str x,u=>∃ t,u=Value.str x t
 | .UH b,u=>∃ t,u=Value.bytes b t
 | .TR b,u=>∃ t,u=Value.float b t
 | .ref a,u=>u=Value.ref a
 | .ty n,u=>u=Value.type n
abbrev bg:List V->List Value->Prop:=Paired RelV
theorem bg.length (r:bg xs us):xs.length=us.length:=Paired.length r
theorem bg.get:∀ {xs:List V} {us:cc} {i:Nat} {x:V},bg xs us->xs[i]?=some x->∃ u,us[i]?=some u /\ RelV x u
 | _,_,_,_,.nil,e=>by simp at e
 | _,_,0,_,.cons r _,e=>by simp at e; subst e; exact ⟨_,rfl,r⟩
 | _,_,i + 1,x,.cons _ t,e=>by
   obtain ⟨u,h1,h2⟩:=bg.get (i:=i) (x:=x) t (by simpa using e)
   exact ⟨u,by simpa using h1,h2⟩
theorem bg.set (r:RelV x u):∀ {xs:List V} {us:cc} (i:Nat),bg xs us->bg (xs.set i x) (us.set i u)
 | _,_,_,.nil=>.nil
 | _,_,0,.cons _ t=>.cons r t
 | _,_,i + 1,.cons q t=>.cons q (bg.set r i t)
theorem bg.append:∀ {xs ys:List V} {us ws:cc},bg xs us->bg ys ws->bg (xs ++ ys) (us ++ ws)
 | _,_,_,_,.nil,s=>s
 | _,_,_,_,.cons r t,s=>.cons r (bg.append t s)
theorem bg.take:∀ {xs:List V} {us:cc} (n:Nat),bg xs us->bg (xs.take n) (us.take n)
 | _,_,0,_=>.nil
 | _,_,_ + 1,.nil=>.nil
 | _,_,n + 1,.cons r t=>.cons r (bg.take n t)
theorem bg.drop:∀ {xs:List V} {us:cc} (n:Nat),bg xs us->bg (xs.drop n) (us.drop n)
 | _,_,0,r=>r
 | _,_,_ + 1,.nil=>.nil
 | _,_,n + 1,.cons _ t=>bg.drop n t
def qZ:Option V->Option Value->Prop
 | some v,some u=>RelV v u
 | none,none=>True
 | _,_=>False
def KV {κ:Type}:List (κ×V)->List (κ×Value)->Prop:=Paired λ(p:κ×V) (q:κ×Value)=>p.1=q.1 /\ RelV p.2 q.2
def kV:Key->V
 | .inl i=>.int i
 | .inr x=>.str x
inductive HO where
  | lst (xs:List V)
  | tup (xs:List V)
  | dK (bf:List (Key×V)) | dT (bf:List (List Key×V))
  | set (S:Int->Bool) (n:Nat)
  | ins (C dx:Addr) (fs:List (Str×V))
  | own (x:Addr)
  | xd (fs:List (Str×V))
  | met (f x:Addr)
  | Xk (lo hi:Int)
  | wz (o:Obj) (u:HO)
  | OI (ps:Array Value)
 | lam (p:Pos) (q:Str) | code (q:Str)
   | ext (φ:Heap->Prop)
abbrev Hp:=Addr->Option HO
def upd (H:Hp) (a:Addr) (o:HO):Hp:=λb=>if b=a then some o else H b
theorem cf:upd H a o a=some o:=by unfold upd; rw [if_pos rfl]
theorem aN (h:b≠a):upd H a o b=H b:=by unfold upd; rw [if_neg h]
theorem bo {H:Hp} (h:H a=some o) (h':H b=none):a≠b:=by lia
def eK (H:Hp) (b:Addr) (xs:List V):Prop:=H b=some (.tup xs) \/ ∃ ob,H b=some (.wz ob (.tup xs))
theorem eK.ne (t:eK H b xs) (n:b≠a):eK (upd H a o) b xs:=by
 rcases t with t | ⟨ob,t⟩
 .exact .inl (by rw [aN n]; exact t)
 .exact .inr ⟨ob,by rw [aN n]; exact t⟩
theorem eK.new (t:eK H b xs) (n:H a=none):eK (upd H a o) b xs:=t.ne λz=>by
 subst z
 rcases t with t | ⟨ob,t⟩ <;> rw [n] at t <;> cases t
theorem eK.dT {H:Hp} {a b:Addr} {o:HO} {xs:List V} {bf:List (List Key×V)} (t:eK H b xs) (e:H a=some (.dT bf)):eK (upd H a o) b xs:=t.ne λz=>by
 subst z
 rcases t with t | ⟨ob,t⟩ <;> rw [e] at t <;> cases t
section
variable (P:Program) (w:World)
def cN (H:Hp) (h:Heap) (a:Addr):HO->Prop
 | .lst xs=>xs.length<=sizeLine /\ ∃ (its:cc) (n:Nat),bg xs its /\ h.get? a=some { cls:=.type "list",data:=.seq its.toArray n }
 | .tup xs=>xs.length<=sizeLine /\ ∃ its:cc,bg xs its /\ IsTup h a its.toArray
 | .dK bf=>bf.length<=sizeLine /\ (a == sysModules)=false /\ ∃ vs,KV bf vs /\ h.DictOf (eA P w) a vs
 | .dT bf=>bf.length<=sizeLine /\ (a == sysModules)=false /\ ∃ xs:List (List Key×Addr×Value),
   Paired (λ(p:List Key×V) (q:List Key×Addr×Value)=>p.1=q.1 /\ eK H q.2.1 (p.1.map kV) /\ RelV p.2 q.2.2) bf xs /\
   ∃ o es ep,h.get? a=some o /\ o.ExactDict /\ o.data=.dict es ep /\ es.toList=xs.map (entryOfKey (tupleKind (eA P w))) /\ (xs.map (·.1)).Nodup
 | .set S n=>h.SetOf (intKind P w) a S n
 | .ins C dx fs=>H dx=some (.own a) /\ fs.length<=1000 /\ dx≠a /\ h.get? a=some (PySem.W.instObj C dx) /\
   ∃ mA,h.Ns1 dx mA /\ (∀ f,qZ (fs.lookup f) (mA f)) /\ PySem.Within mA (fs.map (·.1))
 | .own _=>∃ o,h.get? a=some o
 | .xd fs=>∃ mA,h.Ns1 a mA /\ ∀ f,qZ (fs.lookup f) (mA f)
 | .Xk lo hi=>∃ t u v,h.get? a=some { cls:=.type "range",data:=.fields #[.int lo t,.int hi u,.int 1 v] }
 | .wz o u=>h.get? a=some o /\ cN H h a u
 | .OI ps=>h.get? a=some { cls:=.none,data:=.fields ps }
 | .lam p q=>∃ ps:Array Value,h.get? a=some (PySem.W.tabObj ps) /\ TriplesOk ps.toList /\ (codeAmong p ps.toList=none \/ ∃ c,codeAmong p ps.toList=some (.ref c) /\ H c=some (.code q))
 | .code q=>h.CodeRec (.ref a) q
 | .met f x=>h.get? a=some (PySem.W.methodObj (.ref f) (.ref x))
 | .ext φ=>φ h /\ (∃ o,h.get? a=some o) /\ ∀ h1 h2:Heap,φ h1->(∀ o,h1.get? a=some o->h2.get? a=some o)->φ h2
def ml (H:Hp) (h:Heap):Prop:=∀ a o,H a=some o->cN P w H h a o
end
section
variable {P:Program} {w:World} {H H':Hp} {h h':Heap} {a:Addr} {o:HO}
theorem cN.lt (x:cN P w H h a o):a < h.objs.size:=by
 cases o with
 | lst xs=>obtain ⟨_,_,_,_,e⟩:=x; exact aaB e
 | tup xs=>obtain ⟨_,_,_,p⟩:=x; exact p.lt
 | dK bf=>obtain ⟨_,_,_,_,o,_,_,e,_⟩:=x; exact aaB e
 | dT bf=>obtain ⟨_,_,_,_,o,_,_,e,_⟩:=x; exact aaB e
 | set S n=>obtain ⟨o,_,_,_,e,_⟩:=x; exact aaB e
 | ins C dx fs=>obtain ⟨_,_,_,e,_⟩:=x; exact aaB e
 | own y=>obtain ⟨_,e⟩:=x; exact aaB e
 | xd fs=>obtain ⟨_,⟨_,_,_,e,_⟩,_⟩:=x; exact aaB e
 | Xk lo hi=>obtain ⟨_,_,_,e⟩:=x; exact aaB e
 | wz ob u=>obtain ⟨e,_⟩:=x; exact aaB e
 | OI ps=>exact aaB (show h.get? a=some _ from x)
 | lam p q=>obtain ⟨_,e,_⟩:=x; exact aaB e
 | code q=>obtain ⟨_,_,_,_,z,e,_⟩:=x; cases z; exact aaB e
 | met f y=>exact aaB (show h.get? a=some _ from x)
 | ext φ=>obtain ⟨_,⟨_,e⟩,_⟩:=x; exact aaB e
theorem Paired.Qv:∀ {l₁:List α} {l₂:List β},Paired F l₁ l₂->(∀ a b,F a b->G a b)->Paired G l₁ l₂
 | _,_,.nil,_=>.nil
 | _,_,.cons r t,f=>.cons (f _ _ r) (Paired.Qv t f)
theorem cN.ra (x:cN P w H h a o) (k:∀ b u,(b=a \/ H b=some (.own a))->h.get? b=some u->h'.get? b=some u)
  (ho:∀ b,H b=some (.own a)->H' b=some (.own a)) (ht:∀ b xs,eK H b xs->eK H' b xs) (hc:∀ b q,H b=some (.code q)->H' b=some (.code q):=by first | exact λ_ _ z=>z | (intro c y z; rw [aN (bo z (by assumption))]; exact z)):cN P w H' h' a o:=by
 induction o with
 | lst xs=>obtain ⟨z,its,n,r,e⟩:=x; exact ⟨z,its,n,r,k _ _ (.inl rfl) e⟩
 | tup xs=>obtain ⟨z,its,r,ob,e,c⟩:=x; exact ⟨z,its,r,ob,k _ _ (.inl rfl) e,c⟩
 | dK bf=>obtain ⟨z,y,vs,r,ob,es,ep,e,c⟩:=x; exact ⟨z,y,vs,r,ob,es,ep,k _ _ (.inl rfl) e,c⟩
 | dT bf=>
   obtain ⟨z,y,xs,r,ob,es,ep,e,c⟩:=x
   exact ⟨z,y,xs,Paired.Qv r λp q z=>⟨z.1,ht _ _ z.2.1,z.2.2⟩,ob,es,ep,k _ _ (.inl rfl) e,c⟩
 | set S n=>obtain ⟨ob,es,ep,t,e,c⟩:=x; exact ⟨ob,es,ep,t,k _ _ (.inl rfl) e,c⟩
 | ins C dx fs=>
   obtain ⟨d,z,ne,e,mA,⟨od,es,ep,e2,c⟩,r⟩:=x
   exact ⟨ho _ d,z,ne,k _ _ (.inl rfl) e,mA,⟨od,es,ep,k _ _ (.inr d) e2,c⟩,r⟩
 | own y=>obtain ⟨ob,e⟩:=x; exact ⟨ob,k _ _ (.inl rfl) e⟩
 | xd fs=>obtain ⟨mA,⟨od,es,ep,e,c⟩,r⟩:=x; exact ⟨mA,⟨od,es,ep,k _ _ (.inl rfl) e,c⟩,r⟩
 | Xk lo hi=>obtain ⟨t,u,v,e⟩:=x; exact ⟨t,u,v,k _ _ (.inl rfl) e⟩
 | wz ob u ih=>obtain ⟨e,q⟩:=x; exact ⟨k _ _ (.inl rfl) e,ih q⟩
 | lam p q=>obtain ⟨ps,e,t,r⟩:=x; exact ⟨ps,k _ _ (.inl rfl) e,t,r.imp id λ⟨c,e1,e2⟩=>⟨c,e1,hc c q e2⟩⟩
 | code q=>obtain ⟨c,o,vs,t,z,e,r⟩:=x; cases z; exact ⟨_,o,vs,t,rfl,k _ _ (.inl rfl) e,r⟩
 | OI ps=>
   have e:=x
   exact k a _ (.inl rfl) e
 | met f y=>
   have e:=x
   exact k a _ (.inl rfl) e
 | ext φ=>obtain ⟨p,⟨o,e⟩,st⟩:=x; exact ⟨st _ _ p λo q=>k _ _ (.inl rfl) q,⟨o,k _ _ (.inl rfl) e⟩,st⟩
theorem ml.lt (x:ml P w H h) (e:H a=some o):a < h.objs.size:=(x a o e).lt
theorem ml.fresh (x:ml P w H h) (e:h.objs.size<=a):H a=none:=by
 cases q:H a with
 | none=>rfl
 | some u=>exact absurd (aaC (x.lt q) e) (abp _)
theorem ml.kept (x:ml P w H h) (k:∀ b u,h.get? b=some u->h'.get? b=some u):ml P w H h':=λa o e=>
 (x a o e).ra (λb u _ q=>k b u q) (λ_ q=>q) (λ_ _ q=>q) λ_ _ q=>q
theorem ml.laid (x:ml P w H h) (k:∀ b u,h.get? b=some u->h'.get? b=some u) (hp:h.objs.size<=a) (new:cN P w (upd H a o) h' a o):ml P w (upd H a o) h':=λb u e=>by
 have hn:=x.fresh hp
 by_cases hb:b=a
 .subst hb; rw [cf] at e; cases e; exact new
 .rw [aN hb] at e
  exact (x b u e).ra (λc v _ q=>k c v q) (λc q=>by rw [aN (bo q hn)]; exact q) (λc xs q=>q.new hn) λc _ q=>by rw [aN (bo q hn)]; exact q
end
def Rd (H:Hp) (a:Addr) (u:HO):Prop:=H a=some u \/ ∃ o,H a=some (.wz o u)
theorem Rd.ok (r:Rd H a u) (x:ml P w H h):cN P w H h a u:=by
 rcases r with r | ⟨o,r⟩
 .exact x a u r
 .obtain ⟨_,q⟩:=x a _ r
  exact q
def UI:Option HO->Prop
 | some (.lst _)=>True
 | some (.dK _)=>True
 | some (.dT _)=>True
 | some (.set _ _)=>True
 | some (.ins _ _ _)=>True
 | some (.ext _)=>True
 | _=>False
section
variable {P:Program} {w:World} {H:Hp} {h h':Heap} {x e:Addr} {o':HO}
theorem ml.write (ok:ml P w H h) (mu:UI (H x)) (he:e=x \/ H e=some (.own x)) (k:∀ b u,b≠e->h.get? b=some u->h'.get? b=some u) (G9:∃ u,h'.get? e=some u)
  (new:cN P w (upd H x o') h' x o'):ml P w (upd H x o') h':=λb u q=>by
 have Yb:∀ c y,H c=some (.own y)->c≠x:=λc y r z=>by subst z; rw [r] at mu; exact mu
 by_cases hb:b=x
 .subst hb; rw [cf] at q; cases q; exact new
 .rw [aN hb] at q
  by_cases hbe:b=e
  .have q':H b=some (.own x):=by
    rcases he with z | z
    .grind
    .grind
   rw [q] at q'; cases q'
   obtain ⟨v,hv⟩:=G9
   exact ⟨v,by rw [hbe]; exact hv⟩
  .refine (ok b u q).ra (λc v hc r=>k c v ?_ r) (λc r=>by rw [aN (Yb c b r)]; exact r) (λc xs r=>r.ne λz=>by
    subst z
    rcases r with r | ⟨ob,r⟩ <;> rw [r] at mu <;> exact mu) λc y r=>by rw [aN λz=>by subst z; rw [r] at mu; exact mu]; exact r
   rcases hc with rfl | hc
   .grind
   .grind
end
structure Un (fs ex:List Addr) (H H':Hp) (h h':Heap):Prop where
 keep:∀ b o,h.get? b=some o->H b=none->b∉fs->b∉ex->h'.get? b=some o
 slot:∀ b o,h.get? b=some o->H b=none->b∈fs->b∉ex->∃ sl,h'.get? b=some { o with slots:=sl }
 free:∀ b o,h.get? b=some o->H b=none->b∉ex->H' b=none
 there:∀ b o,h.get? b=some o->b∉ex->∃ o',h'.get? b=some o'
 oA:∀ b xs,H b=some (.tup xs)->H' b=some (.tup xs)
 pT:∀ b o u,H b=some (.wz o u)->H' b=some (.wz o u)
 rb:∀ b ps,H b=some (.OI ps)->∃ more,H' b=some (.OI (ps ++ more))
section
variable {fs fs' ex ex':List Addr} {H H1 H2:Hp} {h h1 h2 h':Heap} {a x e:Addr} {o:HO}
theorem Un.any (u:Un fs ex H H1 h h1) (q:h.get? b=some ob) (n:H b=none) (hx:b∉ex):∃ sl,h1.get? b=some { ob with slots:=sl }:=by
 by_cases hb:b∈fs
 .exact u.slot b ob q n hb hx
 .exact ⟨ob.slots,u.keep b ob q n hb hx⟩
theorem Un.kept (k:∀ b u,h.get? b=some u->h'.get? b=some u):Un fs ex H H h h':=
 ⟨λb ob q _ _ _=>k b ob q,λb ob q _ _ _=>⟨ob.slots,k b ob q⟩,λ_ _ _ n _=>n,λb ob q _=>⟨ob,k b ob q⟩,λ_ _ q=>q,λ_ _ _ q=>q,λ_ ps q=>⟨#[],by rw [q]; simp⟩⟩
theorem Un.refl:Un fs ex H H h h:=Un.kept λ_ _ q=>q
theorem Un.laid (k:∀ b u,h.get? b=some u->h'.get? b=some u) (hp:h.objs.size<=a) (hn:H a=none):Un fs ex H (upd H a o) h h' where
 keep:=λb u q _ _ _=>k b u q
 slot:=λb u q _ _ _=>⟨u.slots,k b u q⟩
 free:=λb u q n _=>by rw [aN (aaR (aaC (aaB q) hp))]; exact n
 there:=λb u q _=>⟨u,k b u q⟩
 oA:=λb xs q=>by rw [aN (bo q hn)]; exact q
 pT:=λb u xs q=>by rw [aN (bo q hn)]; exact q
 rb:=λb ps q=>⟨#[],by rw [aN (bo q hn),q]; simp⟩
theorem Un.write (mu:UI (H x)) (he:e=x \/ H e=some (.own x)) (k:∀ b u,b≠e->h.get? b=some u->h'.get? b=some u) (G9:∃ u,h'.get? e=some u):Un fs ex H (upd H x o) h h':=by
 have hx:∀ b,H b=none->b≠x:=λb n z=>by subst z; rw [n] at mu; exact mu
 have hb:∀ b,H b=none->b≠e:=λb n z=>by grind
 have hm:∀ b u,H b=some u->¬ UI (some u)->b≠x:=λb u q nm z=>by subst z; rw [q] at mu; exact nm mu
 refine ⟨λb u q n _ _=>k b u (hb b n) q,λb u q n _ _=>⟨u.slots,k b u (hb b n) q⟩,λb u q n _=>by rw [aN (hx b n)]; exact n,λb u q _=>?_,
  λb xs q=>by rw [aN (hm b _ q λz=>z)]; exact q,λb u xs q=>by rw [aN (hm b _ q λz=>z)]; exact q,λb ps q=>⟨#[],by rw [aN (hm b _ q λz=>z),q]; simp⟩⟩
 by_cases hbe:b=e
 .grind
 .grind
end
def Xl (h:Heap) (H:Hp):List Addr:=(List.range h.objs.size).filter λa=>(H a).isSome
def wB (h:Heap) (H:Hp):Heap:=PySem.W.hideAll h (Xl h H)
theorem xb (h:Heap) (H:Hp):(wB h H).objs.size=h.objs.size:=PySem.W.hideAll_size _ _
theorem pU (e:h.get? b=some o) (n:H b=none):(wB h H).get? b=some o:=
 PySem.W.hideAll_get _ e λhm=>by
  have q:=(acj.mp hm).2
  rw [n] at q; simp at q
theorem D5 (e:(wB h H).get? b=some o):h.get? b=some o /\ H b=none:=by
 have e':=PySem.W.of_hideAll (Xl h H) e
 refine ⟨e',?_⟩
 cases q:H b with
 | none=>rfl
 | some x=>
   have hm:b∈Xl h H:=acj.mpr ⟨acf.mpr (aaB e'),by simp [q]⟩
   have z:(wB h H).get? b=none:=PySem.W.hideAll_none (Xl h H) hm
   rw [z] at e; cases e
def LJ (g h:Heap) (L:Addr):cq:=(List.range h.objs.size).filterMap λa=>if a=L \/ (g.get? a).isSome=true then none else (h.get? a).map λo=>(a,o)
def rest (g h:Heap) (L d:Addr):cq:=(LJ g h L).filter λp=>decide (p.1≠d)
structure Mod (K:au) (mg:dG) (base:Heap):Prop where
 TU:K.In base
 glob:base.Ns mainGlobals mg
 blt:∃ mb,base.Ns builtinsNs mb /\ ∀ x:Str,x≠"__name__"->mb x=bootBuiltins x
 nolimit:base.NoLimit
structure Cx where
 prog:Program
 w:World
 K:au
 mg:dG
 base:Heap
 A:Around
 N:List Str
 gQ:Shared
 Fs:Hp
 env:Env
 outer:List Env
 stack:List Env
 ex:List Addr
 fn:Str->Bool
 calm:Bool
 pn:cq
 xe:cW
def ke (l:List Env):List Addr:=l.filterMap (·.frame)
abbrev Cx.fs (X:Cx):List Addr:=ke X.outer
def UJ (sc:Scope) (x:Str):Prop:=sc.names.lookup x=some .local \/ sc.names.lookup x=some .cell \/ sc.names.lookup x=some .free
def Loc (sc:Scope) (x:Str):Prop:=sc.names.lookup x=some .local \/ sc.names.lookup x=some .cell
def Look (env:Env) (h:Heap) (m:dG) (x:Str) (u:Value):Prop:=
 (env.kindOf x=some .local /\ m x=some u) \/ ((env.kindOf x=some .cell \/ env.kindOf x=some .free) /\ ∃ c,env.cells.lookup x=some c /\ h.IsCell c (some u))
structure Cx.Ok (X:Cx):Prop where
 mod:Mod X.K X.mg X.base
 kind:X.env.scope.kind=.function
 glob:X.env.globals=mainGlobals
 blt:X.env.builtins=builtinsNs
 above:X.gQ.heap.objs.size<=X.env.locals
 inj:∀ x y c,X.env.cells.lookup x=some c->X.env.cells.lookup y=some c->x=y
 has:∀ x,(X.env.kindOf x=some .cell \/ X.env.kindOf x=some .free)->∃ c,X.env.cells.lookup x=some c
 Ha:∀ x c,X.fn x=true->X.env.cells.lookup x=some c->X.gQ.heap.objs.size<=c
 hd:X.calm=true->X.A.handled=none
 frames:X.A.frames=some X.stack
 LK:X.stack=X.outer \/ (X.stack=X.env :: X.outer /\ X.env.frame=some X.env.locals)
 Qw:∀ b∈X.ex,b≠X.env.locals /\ ∀ x c,X.env.cells.lookup x=some c->c≠b
 bs:∀ b o,X.base.get? b=some o->X.gQ.heap.get? b=some o /\ X.Fs b=none
 xY:X.base.objs.size<=X.gQ.heap.objs.size
 wC:∀ b o,X.base.get? b=some o->b∉X.ex
 xZ:∀ b∈X.ex,b∉X.fs
 jH:X.gQ.heap.FunFrames X.base X.outer
 B1:∀ b∈X.fs,X.Fs b=none
structure Inv (X:Cx) (pins:cq) (σ:List (Option V)) (H:Hp) (s:Shared):Prop where
 ok:X.Ok
 os:s.os=X.gQ.os
 bare:AllBare s.gens
 base:Un X.fs X.ex X.Fs H X.gQ.heap s.heap
 loc:∃ m,s.heap.Ns X.env.locals m /\ ∀ (i:Nat) (x:Str) (v:V),X.N[i]?=some x->σ[i]?=some (some v)->UJ X.env.scope x->∃ u,RelV v u /\ Look X.env s.heap m x u
 cell:∀ x c,X.env.cells.lookup x=some c->∃ v,s.heap.IsCell c v
 free:H X.env.locals=none
 gT:∀ x c,X.env.cells.lookup x=some c->H c=none
 pin:∀ p∈X.pn ++ pins,s.heap.get? p.1=some p.2 /\ H p.1=none /\ p.1≠X.env.locals /\ p.1∉X.fs /\ ∀ v,p.2.data≠.cell v
 cm:ml X.prog X.w H s.heap
 len:σ.length=X.N.length
section
variable {X:Cx} {pins:cq} {σ:List (Option V)} {H H':Hp} {s:Shared} {h':Heap}
theorem Cx.Ok.Qx (ok:X.Ok) (e:X.base.get? b=some o):b∉X.fs:=λhb=>by
 have:=(ok.jH.mem hb).1
 rw [e] at this; cases this
theorem Inv.bs (I:Inv X pins σ H s):∀ b o,X.base.get? b=some o->s.heap.get? b=some o /\ H b=none:=λb o e=>
 ⟨I.base.keep b o (I.ok.bs b o e).1 (I.ok.bs b o e).2 (I.ok.Qx e) (I.ok.wC b o e),I.base.free b o (I.ok.bs b o e).1 (I.ok.bs b o e).2 (I.ok.wC b o e)⟩
theorem Inv.bk (I:Inv X pins σ H s):∀ b o,X.base.get? b=some o->s.heap.get? b=some o:=λb o e=>(I.bs b o e).1
theorem Inv.mod (I:Inv X pins σ H s):Mod X.K X.mg X.base:=I.ok.mod
theorem Inv.oB (I:Inv X pins σ H s):X.K.In s.heap:=I.ok.mod.TU.keeps I.bk
theorem Inv.lt (I:Inv X pins σ H s):X.env.locals < s.heap.objs.size:=let ⟨_,hn,_⟩:=I.loc; hn.lt
theorem Inv.sz (I:Inv X pins σ H s):X.gQ.heap.objs.size<=s.heap.objs.size:=aa6 I.ok.above (abM I.lt)
theorem Inv.UK (I:Inv X pins σ H s) (h:s.heap.objs.size<=a):a∉X.fs:=λhb=>by
 obtain ⟨_,o,ho,_⟩:=I.ok.jH.mem hb
 exact absurd (aaC (aaB ho) (aa6 I.sz h)) (abp _)
theorem Inv.Hb (I:Inv X pins σ H s):∀ x c,X.env.cells.lookup x=some c->c≠X.env.locals:=λx c e z=>by
 obtain ⟨v,o,ho,hd⟩:=I.cell x c e
 obtain ⟨m,⟨o',es,ep,uq,G0,_⟩,_⟩:=I.loc
 rw [z,uq] at ho; cases ho; rw [G0] at hd; cases hd
theorem Inv.jH (I:Inv X pins σ H s):s.heap.FunFrames X.base X.outer:=by
 have all:∀ (l:List Env),(∀ b∈ke l,b∈X.fs)->X.gQ.heap.FunFrames X.base l->s.heap.FunFrames X.base l:=by
  intro l
  induction l with
  | nil=>intro _ _; trivial
  | cons env r ih=>
    intro hs hl
    obtain ⟨hk,⟨L,o,hf,hn,ho,hd⟩,hr⟩:=hl
    have hL:=hs L (by unfold ke; rw [List.filterMap_cons,hf]; exact List.mem_cons_self)
    obtain ⟨sl,e⟩:=I.base.slot L o ho (I.ok.B1 L hL) hL λz=>I.ok.xZ L z hL
    exact ⟨hk,⟨L,_,hf,hn,e,hd⟩,ih (λb hb=>hs b (by unfold ke; rw [List.filterMap_cons,hf]; exact List.mem_cons_of_mem _ hb)) hr⟩
 exact all X.outer (λ_ hb=>hb) I.ok.jH
theorem Inv.stack (I:Inv X pins σ H s):s.heap.FunFrames X.base X.stack:=by
 rcases I.ok.LK with e | ⟨e,hf⟩
 .rw [e]; exact I.jH
 .rw [e]
  obtain ⟨m,hn,_⟩:=I.loc
  refine .cons (by rw [I.ok.kind]; decide) hf hn ?_ I.jH
  exact Heap.get?_none_of_le (aa6 I.ok.xY I.ok.above)
theorem Inv.k8 (I:Inv X pins σ H s):∀ b∈ke X.stack,b∈X.env.locals :: X.fs:=λb hb=>by
 rcases I.ok.LK with e | ⟨e,hf⟩
 .grind
 .rw [e] at hb
  unfold ke at hb
  rw [List.filterMap_cons,hf] at hb
  exact hb
theorem Inv.tV (I:Inv X pins σ H s):∀ b∈ke X.stack,H b=none:=λb hb=>by
 rcases aaG.mp (I.k8 b hb) with e | hb
 .rw [e]; exact I.free
 .obtain ⟨_,o,ho,_⟩:=I.ok.jH.mem hb
  exact I.base.free b o ho (I.ok.B1 b hb) λz=>I.ok.xZ b z hb
theorem Inv.step {ch:List Addr} (I:Inv X pins σ H s)
  (An:∀ b∈ch,(b∈X.ex \/ X.gQ.heap.objs.size<=b) /\ b≠X.env.locals /\ (∀ x c,X.env.cells.lookup x=some c->c≠b) /\ ∀ p∈X.pn ++ pins,p.1≠b)
  (keep:∀ b o,b≠X.env.locals->b∉X.fs->b∉ch->s.heap.get? b=some o->H b=none->h'.get? b=some o)
  (slot:∀ b o,b≠X.env.locals->b∈X.fs->b∉ch->s.heap.get? b=some o->H b=none->∃ sl,h'.get? b=some { o with slots:=sl }) (free:∀ b o,b∉ch->s.heap.get? b=some o->H b=none->H' b=none)
  (there:∀ b o,b∉ch->s.heap.get? b=some o->∃ o',h'.get? b=some o')
  (oA:∀ b xs,H b=some (.tup xs)->H' b=some (.tup xs)) (pT:∀ b o u,H b=some (.wz o u)->H' b=some (.wz o u)) (rb:∀ b ps,H b=some (.OI ps)->∃ more,H' b=some (.OI (ps ++ more)))
  (ns:∀ m,s.heap.Ns X.env.locals m->h'.Ns X.env.locals m) (cm:ml X.prog X.w H' h') (hg:AllBare g'):
  Inv X pins σ H' { s with heap:=h',gens:=g',drawn:=d',toks:=t' }:=by
 have neL:∀ b o,X.gQ.heap.get? b=some o->b≠X.env.locals:=λb o e=>aaR (aaC (aaB e) I.ok.above)
 have Xm:∀ b o,X.gQ.heap.get? b=some o->b∉X.ex->b∉ch:=λb o e hx hb=>by
  rcases (An b hb).1 with z | z
  .grind
  .exact absurd (aaC (aaB e) z) (abp _)
 have cellK:∀ x c,X.env.cells.lookup x=some c->∀ v,s.heap.IsCell c v->h'.IsCell c v:=λx c e v ⟨o,ho,hd⟩=>by
  have UL:=λz=>(An c z).2.2.1 x c e rfl
  by_cases hc:c∈X.fs
  .obtain ⟨sl,q⟩:=slot c o (I.Hb x c e) hc UL ho (I.gT x c e)
   exact ⟨_,q,hd⟩
  .exact ⟨o,keep c o (I.Hb x c e) hc UL ho (I.gT x c e),hd⟩
 refine ⟨I.ok,I.os,hg,⟨λb o e n hb hx=>?_,λb o e n hb hx=>?_,λb o e n hx=>?_,λb o e hx=>?_,λb xs e=>oA b xs (I.base.oA b xs e),λb o xs e=>pT b o xs (I.base.pT b o xs e),λb ps e=>?_⟩,?_,λx c e=>?_,?_,λx c e=>?_,λp hp=>?_,cm,I.len⟩
 .exact keep b o (neL b o e) hb (Xm b o e hx) (I.base.keep b o e n hb hx) (I.base.free b o e n hx)
 .obtain ⟨sl,e1⟩:=I.base.slot b o e n hb hx
  obtain ⟨TV,e2⟩:=slot b _ (neL b o e) hb (Xm b o e hx) e1 (I.base.free b o e n hx)
  exact ⟨TV,e2⟩
 .obtain ⟨o',e1⟩:=I.base.there b o e hx
  exact free b o' (Xm b o e hx) e1 (I.base.free b o e n hx)
 .obtain ⟨o',e1⟩:=I.base.there b o e hx
  exact there b o' (Xm b o e hx) e1
 .obtain ⟨m1,e1⟩:=I.base.rb b ps e
  obtain ⟨m2,e2⟩:=rb b _ e1
  exact ⟨m1 ++ m2,by rw [e2,Array.append_assoc]⟩
 .obtain ⟨m,hn,hl⟩:=I.loc
  refine ⟨m,ns m hn,λi x v e1 e2 e3=>?_⟩
  obtain ⟨u,r,l⟩:=hl i x v e1 e2 e3
  refine ⟨u,r,?_⟩
  rcases l with l | ⟨k,c,e,z⟩
  .exact .inl l
  .exact .inr ⟨k,c,e,cellK x c e _ z⟩
 .obtain ⟨v,z⟩:=I.cell x c e
  exact ⟨v,cellK x c e v z⟩
 .obtain ⟨m,⟨o,_,_,ho,_⟩,_⟩:=I.loc
  exact free _ o (λz=>(An _ z).2.1 rfl) ho I.free
 .obtain ⟨v,o,ho,hd⟩:=I.cell x c e
  exact free c o (λz=>(An c z).2.2.1 x c e rfl) ho (I.gT x c e)
 .obtain ⟨e,n,ne,nf,d⟩:=I.pin p hp
  have UL:=λz=>(An p.1 z).2.2.2 p hp rfl
  exact ⟨keep p.1 p.2 ne nf UL e n,free p.1 p.2 UL e n,ne,nf,d⟩
theorem Inv.un (I:Inv X pins σ H s) (u:Un X.fs [] H H' s.heap h') (cm:ml X.prog X.w H' h'):Inv X pins σ H' { s with heap:=h',toks:=t' }:=by
 obtain ⟨m,⟨o,es,ep,ho,r⟩,_⟩:=id I.loc
 obtain ⟨sl,hL⟩:=u.any ho I.free (by simp)
 exact I.step (g':=s.gens) (d':=s.drawn) (ch:=[]) (λ_ z=>nomatch z) (λb o _ hb _ e n=>u.keep b o e n hb (by simp)) (λb o _ hb _ e n=>u.slot b o e n hb (by simp)) (λb o _ e n=>u.free b o e n (by simp)) (λb o _ e=>u.there b o e (by simp)) u.oA u.pT u.rb (λm' hm=>by
  obtain ⟨o',tW,Yc,uq,r'⟩:=hm
  rw [ho] at uq; cases uq
  exact ⟨_,tW,Yc,hL,r'⟩) cm I.bare
theorem Inv.call (I:Inv X pins σ H s) (u:Un (ke X.stack) ch H H' s.heap h') (cm:ml X.prog X.w H' h') (hg:AllBare g')
  (An:∀ b∈ch,(b∈X.ex \/ X.gQ.heap.objs.size<=b) /\ b≠X.env.locals /\ (∀ x c,X.env.cells.lookup x=some c->c≠b) /\ ∀ p∈X.pn ++ pins,p.1≠b):
  Inv X pins σ H' { s with heap:=h',gens:=g',drawn:=d',toks:=t' }:=by
 obtain ⟨m,⟨o,es,ep,ho,r⟩,_⟩:=id I.loc
 obtain ⟨sl,hL⟩:=u.any ho I.free λz=>(An _ z).2.1 rfl
 exact I.step (ch:=ch) An (λb o hL hb hc e n=>u.keep b o e n (λz=>(aaG.mp (I.k8 b z)).elim hL hb) hc) (λb o _ _ hc e n=>u.any e n hc) (λb o hc e n=>u.free b o e n hc) (λb o hc e=>u.there b o e hc) u.oA u.pT u.rb (λm' hm=>by
  obtain ⟨o',tW,Yc,uq,r'⟩:=hm
  rw [ho] at uq; cases uq
  exact ⟨_,tW,Yc,hL,r'⟩) cm hg
theorem Inv.turned (I:Inv X pins σ H s) (k:∀ b o,b≠it->s.heap.get? b=some o->h'.get? b=some o) (hn:H it=none) (hL:it≠X.env.locals)
  (h1:it∈X.ex \/ X.gQ.heap.objs.size<=it) (h2:∀ x c,X.env.cells.lookup x=some c->c≠it) (h3:∀ p∈X.pn ++ pins,p.1≠it):Inv X pins σ H { s with heap:=h',toks:=t' }:=by
 refine I.step (g':=s.gens) (d':=s.drawn) (ch:=[it]) (λb hb=>?_) (λb o _ _ hc e _=>k b o (λz=>hc (by simp [z])) e) (λb o _ _ hc e _=>⟨o.slots,k b o (λz=>hc (by simp [z])) e⟩) (λ_ _ _ _ n=>n)
  (λb o hc e=>⟨o,k b o (λz=>hc (by simp [z])) e⟩) (λ_ _ e=>e) (λ_ _ _ e=>e) (λb ps e=>⟨#[],by rw [e]; simp⟩) (λm hm=>?_) (λb u e=>?_) I.bare
 .grind
 .obtain ⟨o,es,ep,ho,r⟩:=hm
  exact ⟨o,es,ep,k _ o (acx hL) ho,r⟩
 .refine (I.cm b u e).ra (λc v hc q=>k c v ?_ q) (λ_ q=>q) (λ_ _ q=>q) λ_ _ q=>q
  rcases hc with z | z
  .grind
  .grind
theorem Inv.tok (I:Inv X pins σ H s) (t:Nat):Inv X pins σ H { s with toks:=t }:=I.un (h':=s.heap) (t':=t) Un.refl I.cm
theorem Inv.kept (I:Inv X pins σ H s) (k:∀ b u,s.heap.get? b=some u->h'.get? b=some u):Inv X pins σ H { s with heap:=h',toks:=t' }:=I.un (Un.kept k) (I.cm.kept k)
theorem Inv.laid (I:Inv X pins σ H s) (k:∀ b u,s.heap.get? b=some u->h'.get? b=some u) (hp:s.heap.objs.size<=a) (new:cN X.prog X.w (upd H a o) h' a o):
  Inv X pins σ (upd H a o) { s with heap:=h',toks:=t' }:=I.un (Un.laid k hp (I.cm.fresh hp)) (I.cm.laid k hp new)
theorem Inv.write (I:Inv X pins σ H s) (mu:UI (H x)) (he:e=x \/ H e=some (.own x)) (k:∀ b u,b≠e->s.heap.get? b=some u->h'.get? b=some u) (G9:∃ u,h'.get? e=some u)
  (new:cN X.prog X.w (upd H x o) h' x o):Inv X pins σ (upd H x o) { s with heap:=h',toks:=t' }:=I.un (Un.write mu he k G9) (I.cm.write mu he k G9 new)
theorem Inv.nh (I:Inv X pins σ H s) (h:∀ p∈pins',s.heap.get? p.1=some p.2 /\ H p.1=none /\ p.1≠X.env.locals /\ p.1∉X.fs /\ ∀ v,p.2.data≠.cell v):Inv X pins' σ H s:=
 ⟨I.ok,I.os,I.bare,I.base,I.loc,I.cell,I.free,I.gT,λp hp=>(abd.mp hp).elim (λz=>I.pin p (abB _ z)) (h p),I.cm,I.len⟩
theorem Ao {N:List Str} (hN:N.Nodup) {i j:Nat} (a:N[i]?=some x) (b:N[j]?=some x):i=j:=by
 obtain ⟨h1,e1⟩:=aaK.mp a
 obtain ⟨h2,e2⟩:=aaK.mp b
 exact (List.getElem_inj hN).mp (e1.trans e2.symm)
theorem xf (I:Inv X pins σ H s) (hN:X.N.Nodup) (hi:X.N[i]?=some x) (hx:Loc X.env.scope x) (r:RelV v u)
  (h:∀ s',Inv X pins (σ.set i (some v)) H s'->(∃ a,Heap.SameBut a s.heap s'.heap /\ (a=X.env.locals \/ X.env.cells.lookup x=some a))->Q () s') (hf:X.fn x=true \/ X.env.scope.names.lookup x=some .local):wpAny M A (storeName X.env x u) Q E s:=by
 obtain ⟨m,hn,hl⟩:=id I.loc
 have Yd:(X.env.scope.kind == .class || (X.env.scope.kind == .module && X.env.locals != X.env.globals))=false:=by rw [I.ok.kind]; rfl
 have UM:i < σ.length:=by rw [I.len]; exact (aaK.mp hi).1
 have Hb:=I.Hb
 have tracked:∀ {a:Addr} {h':Heap},(∃ o,s.heap.get? a=some o /\ H a=none)->Heap.SameBut a s.heap h'->ml X.prog X.w H h':=λ{a h'} ha hs b ob e=>by
  refine (I.cm b ob e).ra (λc w' hc q=>(hs.2 c ?_).trans q) (λ_ q=>q) (λ_ _ q=>q) λ_ _ q=>q
  rcases hc with rfl | hc
  .grind
  .grind
 rcases hx with hk | hk
 .refine wpAny_storeName_local hk hn (λh' Ye hs=>?_) Yd
  obtain ⟨oL,_,_,OJ,_⟩:=id hn
  refine h _ ⟨I.ok,I.os,I.bare,⟨λb o e n hb hx=>?_,λb o e n hb hx=>?_,I.base.free,λb o e hx=>?_,I.base.oA,I.base.pT,I.base.rb⟩,⟨_,Ye,λj y v' e1 e2 e3=>?_⟩,λy c e=>?_,I.free,I.gT,λp hp=>?_,tracked ⟨oL,OJ,I.free⟩ hs,by simpa using I.len⟩ ⟨_,hs,.inl rfl⟩
  .exact (hs.2 b (aaR (aaC (aaB e) I.ok.above))).trans (I.base.keep b o e n hb hx)
  .obtain ⟨sl,e1⟩:=I.base.slot b o e n hb hx
   exact ⟨sl,(hs.2 b (aaR (aaC (aaB e) I.ok.above))).trans e1⟩
  .obtain ⟨o',e1⟩:=I.base.there b o e hx
   exact ⟨o',(hs.2 b (aaR (aaC (aaB e) I.ok.above))).trans e1⟩
  .by_cases hj:j=i
   .subst hj
    rw [hi] at e1; cases e1
    rw [abj UM] at e2
    cases e2
    exact ⟨u,r,.inl ⟨hk,by simp⟩⟩
   .rw [aa8 (acx hj)] at e2
    obtain ⟨u',r',q⟩:=hl j y v' e1 e2 e3
    refine ⟨u',r',?_⟩
    rcases q with ⟨k,e⟩ | ⟨k,c,e,z⟩
    .refine .inl ⟨k,?_⟩
     have:y≠x:=λe=>hj (Ao hN e1 (e ▸ hi))
     simp [this,e]
    .exact .inr ⟨k,c,e,z.sameBut hs (Hb y c e)⟩
  .obtain ⟨w',z⟩:=I.cell y c e
   exact ⟨w',z.sameBut hs (Hb y c e)⟩
  .obtain ⟨e,n,ne,nf,d⟩:=I.pin p hp
   exact ⟨(hs.2 p.1 ne).trans e,n,ne,nf,d⟩
 .have Qy:X.fn x=true:=by
   rcases hf with z | z
   .exact z
   .grind
  obtain ⟨c,hc⟩:=I.ok.has x (.inl hk)
  obtain ⟨w',z⟩:=I.cell x c hc
  refine wpAny_storeName_cell I.ok.kind hk hc z (λh' Lk hs=>?_)
  obtain ⟨oc,hoc,Yg⟩:=id z
  refine h { s with heap:=h' } ⟨I.ok,I.os,I.bare,⟨λb o e n hb hx=>?_,λb o e n hb hx=>?_,I.base.free,λb o e hx=>?_,I.base.oA,I.base.pT,I.base.rb⟩,⟨m,hn.sameBut hs (Ne.symm (Hb x c hc)),λj y v' e1 e2 e3=>?_⟩,λy c' e=>?_,I.free,I.gT,λp hp=>?_,tracked ⟨oc,hoc,I.gT x c hc⟩ hs,by simpa using I.len⟩ ⟨c,hs,.inr hc⟩
  .exact (hs.2 b (aaR (aaC (aaB e) (I.ok.Ha x c Qy hc)))).trans (I.base.keep b o e n hb hx)
  .obtain ⟨sl,e1⟩:=I.base.slot b o e n hb hx
   exact ⟨sl,(hs.2 b (aaR (aaC (aaB e) (I.ok.Ha x c Qy hc)))).trans e1⟩
  .obtain ⟨o',e1⟩:=I.base.there b o e hx
   exact ⟨o',(hs.2 b (aaR (aaC (aaB e) (I.ok.Ha x c Qy hc)))).trans e1⟩
  .by_cases hj:j=i
   .subst hj
    rw [hi] at e1; cases e1
    rw [abj UM] at e2
    cases e2
    exact ⟨u,r,.inr ⟨.inl hk,c,hc,Lk⟩⟩
   .rw [aa8 (acx hj)] at e2
    obtain ⟨u',r',q⟩:=hl j y v' e1 e2 e3
    refine ⟨u',r',?_⟩
    rcases q with q | ⟨k,c',e,z'⟩
    .exact .inl q
    .refine .inr ⟨k,c',e,z'.sameBut hs ?_⟩
     rintro rfl
     exact hj (Ao hN e1 (I.ok.inj _ _ _ e hc ▸ hi))
  .by_cases OK:c'=c
   .grind
   .obtain ⟨w2,z2⟩:=I.cell y c' e
    exact ⟨w2,z2.sameBut hs OK⟩
  .obtain ⟨e,n,ne,nf,d⟩:=I.pin p hp
   refine ⟨(hs.2 p.1 ?_).trans e,n,ne,nf,d⟩
   intro q
   rw [q,hoc] at e
   have q':=abe e
   exact d w' (by rw [<- q']; exact Yg)
theorem mm (I:Inv X pins σ H s) (hN:X.N.Nodup) (hi:X.N[i]?=some x) (hx:Loc X.env.scope x) (r:RelV v u)
  (h:∀ s',Inv X pins (σ.set i (some v)) H s'->Q () s') (hf:X.fn x=true \/ X.env.scope.names.lookup x=some .local):wpAny M A (storeName X.env x u) Q E s:=
 xf I hN hi hx r (λs' I' _=>h s' I') hf
theorem Inv.He (I:Inv X pins σ H s) (ho:s'.os=s.os) (u:Un (ke X.stack) ch H H' s.heap s'.heap) (cm:ml X.prog X.w H' s'.heap) (hg:AllBare s'.gens)
  (An:∀ b∈ch,(b∈X.ex \/ X.gQ.heap.objs.size<=b) /\ b≠X.env.locals /\ (∀ x c,X.env.cells.lookup x=some c->c≠b) /\ ∀ p∈X.pn ++ pins,p.1≠b):Inv X pins σ H' s':=by
 obtain ⟨h',g',d',t',o'⟩:=s'
 have e:=ho
 subst e
 exact I.call (g':=g') (t':=t') (d':=d') u cm hg An
end
abbrev XK:=Value->Option Addr->Hp->Prop
abbrev St:=List (Option V)
abbrev VK:=V->Hp->Prop
abbrev TE:=St->Hp->VK->Prop
abbrev TT:=St->Hp->(Bool->Hp->Prop)->Prop
abbrev TA:=St->Hp->(List V->Hp->Prop)->Prop
structure Ends where
 nx:St->Hp->Prop
 rt:VK
 bk:St->Hp->Prop:=λ_ _=>False
 ct:St->Hp->Prop:=λ_ _=>False
abbrev TS:=Ends->St->Hp->Prop
def EP (X:Cx) (pins:cq) (σ:St) (Q:VK) (u:Value) (s':Shared):Prop:=∃ v H',Inv X pins σ H' s' /\ RelV v u /\ Q v H'
def TP (X:Cx) (pins:cq) (σ:St) (Q:Bool->Hp->Prop) (b:Bool) (s':Shared):Prop:=∃ H',Inv X pins σ H' s' /\ Q b H'
def AP (X:Cx) (pins:cq) (σ:St) (Q:List V->Hp->Prop) (us:cc) (s':Shared):Prop:=∃ vs H',Inv X pins σ H' s' /\ bg vs us /\ Q vs H'
def SP (X:Cx) (pins:cq) (D:Ends) (f:Flow) (s':Shared):Prop:=
 match f with
 | .next=>∃ dw H',Inv X pins dw H' s' /\ D.nx dw H'
 | .brk=>∃ dw H',Inv X pins dw H' s' /\ D.bk dw H'
 | .cont=>∃ dw H',Inv X pins dw H' s' /\ D.ct dw H'
 | .ret u=>∃ v dw H',Inv X pins dw H' s' /\ RelV v u /\ D.rt v H'
def PE (X:Cx) (e:Expr) (t:TE):Prop:=
 ∀ (pins:cq) (s:Shared) (σ:St) (H:Hp) (Q:VK),Inv X pins σ H s->t σ H Q->wpAny (model X.prog X.w) X.A (eval e X.env) (EP X pins σ Q) X.xe s
def PT (X:Cx) (e:Expr) (t:TT):Prop:=
 ∀ (pins:cq) (s:Shared) (σ:St) (H:Hp) (Q:Bool->Hp->Prop),Inv X pins σ H s->t σ H Q->wpAny (model X.prog X.w) X.A (isTrue e X.env (eval e X.env)) (TP X pins σ Q) X.xe s
def PW (X:Cx) (e:Expr) (t:TT):Prop:=
 ∀ (whole:Sem Value) (pins:cq) (s:Shared) (σ:St) (H:Hp) (Q:Bool->Hp->Prop),Inv X pins σ H s->t σ H Q->wpAny (model X.prog X.w) X.A (isTrue e X.env whole) (TP X pins σ Q) X.xe s
theorem PW.pt {X:Cx} {e:Expr} {t:TT} (h:PW X e t):PT X e t:=h _
def PA (X:Cx) (es:List Expr) (t:TA):Prop:=
 ∀ (pos:Pos) (pins:cq) (s:Shared) (σ:St) (H:Hp) (Q:List V->Hp->Prop),Inv X pins σ H s->t σ H Q->wpAny (model X.prog X.w) X.A (spliced (backTo pos (starEach es X.env))) (AP X pins σ Q) X.xe s
def PS (X:Cx) (st:Stmt) (t:TS):Prop:=
 ∀ (pins:cq) (s:Shared) (σ:St) (H:Hp) (D:Ends),Inv X pins σ H s->t D σ H->wpAny (model X.prog X.w) X.A (exec st X.env) (SP X pins D) X.xe s
def mn (X:Cx) (st:List Stmt) (t:TS):Prop:=
 ∀ (pins:cq) (s:Shared) (σ:St) (H:Hp) (D:Ends),Inv X pins σ H s->t D σ H->wpAny (model X.prog X.w) X.A (execs st X.env) (SP X pins D) X.xe s
theorem dj (h:wpAny M A t Q E s) (hQ:∀ a s,Q a s->Q' a s):wpAny M A t Q' E s:=aa5 h hQ λ_ _ x=>x
section
variable {X:Cx}
def ur (i:Nat):TE:=λσ H Q=>∃ v,σ[i]?=some (some v) /\ Q v H
def tC (v:V):TE:=λ_ H Q=>Q v H
theorem QA (hN:X.N[i]?=some x) (hv:UJ X.env.scope x) (hd:(x == ("__debug__":Str))=false:=by decide) (qY:(x == ("__classdict__":Str))=false:=by decide):PE X (.Name x pos) (ur i):=by
 intro pins s σ H Q I h
 obtain ⟨v,e,h⟩:=h
 obtain ⟨m,hn,hl⟩:=I.loc
 obtain ⟨u,r,l⟩:=hl i x v hN e hv
 have fin:EP X pins σ Q u s:=⟨v,H,I,r,h⟩
 rcases l with ⟨hk,hm⟩ | ⟨hk,c,hc,Hf⟩
 .exact wpAny_Name (wpAny_loadName_local I.ok.kind hk hn hm fin) hd
 .rcases hk with hk | hk
  .exact wpAny_Name (wpAny_loadName_cell I.ok.kind hk hc Hf fin) hd
  .exact wpAny_Name (wpAny_loadName_free I.ok.kind hk hc Hf fin qY) hd
theorem aS:PE X (.Constant (.int i) j pos) (tC (.int i)):=λ_ _ _ H _ I h=>wpAny_Constant_int ⟨.int i,H,I.tok _,⟨_,rfl⟩,h⟩
theorem OL:PE X (.Constant (.bool b) j pos) (tC (.bl b)):=λ_ _ _ H _ I h=>Constant_bool ⟨.bl b,H,I,rfl,h⟩
theorem c9:PE X (.Constant (.str x) j pos) (tC (.str x)):=λ_ _ _ H _ I h=>Calls.Constant_str ⟨.str x,H,I.tok _,⟨_,rfl⟩,h⟩
def Gl (X:Cx) (x:Str):Prop:=X.env.kindOf x=some .globalImplicit
theorem pW (I:Inv X pins σ H s) (hg:Gl X x) (hm:X.mg x=some u) (h:Q u s)
  (hd:(x == ("__debug__":Str))=false:=by decide):wpAny (model X.prog X.w) X.A (eval (.Name x pos) X.env) Q E s:=
 Calls.Name_function_global I.ok.kind hg (Calls.loadGlobal_global (by rw [I.ok.glob]; exact I.mod.glob.keeps I.bk) hm h) hd
theorem jI (I:Inv X pins σ H s) (hg:Gl X x) (hm:X.mg x=none) (hv:bootBuiltins x=some u) (h:Q u s)
  (hn:x≠"__name__":=by decide) (hd:(x == ("__debug__":Str))=false:=by decide):wpAny (model X.prog X.w) X.A (eval (.Name x pos) X.env) Q E s:=by
 obtain ⟨mb,h1,h2⟩:=I.mod.blt
 exact Calls.Name_function_global I.ok.kind hg (Calls.loadGlobal_builtin (by rw [I.ok.glob]; exact I.mod.glob.keeps I.bk) hm (by rw [I.ok.blt]; exact h1.keeps I.bk) ((h2 x hn).trans hv) h) hd
theorem LL (hg:Gl X x) (hm:X.mg x=some u) (r:RelV v u) (hd:(x == ("__debug__":Str))=false:=by decide):PE X (.Name x pos) (tC v):=
 λ_ _ _ H _ I h=>pW I hg hm ⟨v,H,I,r,h⟩ hd
theorem ya (hg:Gl X x) (hm:X.mg x=none) (hv:bootBuiltins x=some u) (r:RelV v u) (hn:x≠"__name__":=by decide) (hd:(x == ("__debug__":Str))=false:=by decide):PE X (.Name x pos) (tC v):=
 λ_ _ _ H _ I h=>jI I hg hm hv ⟨v,H,I,r,h⟩ hn hd
variable {a b:Expr} {ta tb:TE} {pos:Pos}
variable {tA Xn:TT} {rest:List Expr}
def Yh (t u:TT):TT:=λσ H Q=>t σ H λc H1=>if c=true then u σ H1 Q else Q false H1
def tOr (t u:TT):TT:=λσ H Q=>t σ H λc H1=>if c=true then Q true H1 else u σ H1 Q
def Yi (t:TT):TT:=λσ H Q=>t σ H λc H1=>Q (!c) H1
theorem pw_and1 (ha:PT X a tA):PW X (.BoolOp .And [a] pos) tA:=by
 intro wh pins s σ H Q I h
 refine isTrue_and (dj (ha pins s σ H Q I h) λc s1 e=>?_)
 cases c with
 | true=>exact isTrue_and_nil e
 | false=>exact e
theorem pw_or1 (ha:PT X a tA):PW X (.BoolOp .Or [a] pos) tA:=by
 intro wh pins s σ H Q I h
 refine isTrue_or (dj (ha pins s σ H Q I h) λc s1 e=>?_)
 cases c with
 | false=>exact isTrue_or_nil e
 | true=>exact e
theorem pw_and (ha:PT X a tA) (hb:PW X (.BoolOp .And (b :: rest) pos) Xn):PW X (.BoolOp .And (a :: b :: rest) pos) (Yh tA Xn):=by
 intro wh pins s σ H Q I h
 refine isTrue_and (dj (ha pins s σ H _ I h) λc s1 ⟨H1,I1,q1⟩=>?_)
 cases c with
 | true=>exact hb wh pins s1 σ H1 Q I1 q1
 | false=>exact ⟨H1,I1,q1⟩
theorem pw_or (ha:PT X a tA) (hb:PW X (.BoolOp .Or (b :: rest) pos) Xn):PW X (.BoolOp .Or (a :: b :: rest) pos) (tOr tA Xn):=by
 intro wh pins s σ H Q I h
 refine isTrue_or (dj (ha pins s σ H _ I h) λc s1 ⟨H1,I1,q1⟩=>?_)
 cases c with
 | true=>exact ⟨H1,I1,q1⟩
 | false=>exact hb wh pins s1 σ H1 Q I1 q1
theorem QB (ha:PT X a tA):PT X (.UnaryOp .Not a pos) (Yi tA):=by
 intro pins s σ H Q I h
 exact isTrue_not (ha pins s σ H (λc H1=>Q (!c) H1) I h)
def UN (ta tb:TE):TE:=λσ H Q=>ta σ H λx H1=>∃ c,x=.bl c /\ if c=true then tb σ H1 Q else Q (.bl false) H1
def Yj (ta tb:TE):TE:=λσ H Q=>ta σ H λx H1=>∃ c,x=.bl c /\ if c=true then Q (.bl true) H1 else tb σ H1 Q
def UO (ta:TE):TE:=λσ H Q=>ta σ H λx H1=>∃ c,x=.bl c /\ Q (.bl (!c)) H1
theorem oC (h:PE X a t):PE X (.BoolOp op [a] pos) t:=λpins s σ H Q I hw=>BoolOp_one (h pins s σ H Q I hw)
theorem QC (ha:PE X a ta) (hb:PE X (.BoolOp .And (b :: rest) pos) tb):PE X (.BoolOp .And (a :: b :: rest) pos) (UN ta tb):=by
 intro pins s σ H Q I h
 refine BoolOp_and (dj (ha pins s σ H _ I h) λv s1 ⟨x,H1,I1,r1,q1⟩=>?_)
 obtain ⟨c,rfl,q1⟩:=q1
 cases r1
 refine abk ?_
 cases c with
 | true=>exact hb pins s1 σ H1 Q I1 q1
 | false=>exact ⟨.bl false,H1,I1,rfl,q1⟩
theorem UP (ha:PE X a ta) (hb:PE X (.BoolOp .Or (b :: rest) pos) tb):PE X (.BoolOp .Or (a :: b :: rest) pos) (Yj ta tb):=by
 intro pins s σ H Q I h
 refine BoolOp_or (dj (ha pins s σ H _ I h) λv s1 ⟨x,H1,I1,r1,q1⟩=>?_)
 obtain ⟨c,rfl,q1⟩:=q1
 cases r1
 refine abk ?_
 cases c with
 | false=>exact hb pins s1 σ H1 Q I1 q1
 | true=>exact ⟨.bl true,H1,I1,rfl,q1⟩
theorem QD (ha:PE X a ta):PE X (.UnaryOp .Not a pos) (UO ta):=by
 intro pins s σ H Q I h
 refine UnaryOp_ (dj (ha pins s σ H _ I h) λv s1 ⟨x,H1,I1,r1,q1⟩=>?_)
 obtain ⟨c,rfl,q1⟩:=q1
 cases r1
 exact not_of (abk ⟨.bl (!c),H1,I1,rfl,q1⟩)
def tIf (t:TT) (ta tb:TE):TE:=λσ H Q=>t σ H λc H1=>if c=true then ta σ H1 Q else tb σ H1 Q
theorem Hg (hc:PT X c tA) (ha:PE X a ta) (hb:PE X b tb):PE X (.IfExp c a b pos) (tIf tA ta tb):=by
 intro pins s σ H Q I h
 refine wpAny_IfExp (dj (hc pins s σ H _ I h) λd s1 ⟨H1,I1,q1⟩=>?_)
 cases d with
 | true=>exact ha pins s1 σ H1 Q I1 q1
 | false=>exact hb pins s1 σ H1 Q I1 q1
end
def kB (K:au) (H:Hp) (a:Addr) (xs:List V):Prop:=
 Rd H a (.lst xs) \/
  ∃ (o:Obj) (its:Array Value) (n:Nat),K.lookup a=some o /\ o.cls=.type "list" /\ o.dict=none /\ o.data=.seq its n /\ its.size<=sizeLine /\ bg xs its.toList
def k7 (K:au) (H:Hp) (a:Addr) (xs:List V):Prop:=
 Rd H a (.tup xs) \/
  ∃ (o:Obj) (its:Array Value) (n:Nat),K.lookup a=some o /\ o.cls=.type "tuple" /\ o.data=.seq its n /\ its.size<=sizeLine /\ bg xs its.toList
def Yk:Value->Option V
 | .none=>some .ia
 | .bool b=>some (.bl b)
 | .int i _=>some (.int i)
 | .str x _=>some (.str x)
 | .bytes b _=>some (.UH b)
 | .float b _=>some (.TR b)
 | .ref a=>some (.ref a)
 | .type n=>some (.ty n)
 | _=>none
theorem RelV.abs (r:RelV x u):Yk u=some x:=by
 cases x with
 | ia=>cases r; rfl
 | bl _=>cases r; rfl
 | int _=>obtain ⟨t,rfl⟩:=r; rfl
 | str _=>obtain ⟨t,rfl⟩:=r; rfl
 | UH _=>obtain ⟨t,rfl⟩:=r; rfl
 | TR _=>obtain ⟨t,rfl⟩:=r; rfl
 | ref _=>cases r; rfl
 | ty _=>cases r; rfl
theorem RelV.inj (r:RelV x u) (q:RelV y u):x=y:=abe (r.abs.symm.trans q.abs)
theorem bg.inj:∀ {xs ys:List V} {us:cc},bg xs us->bg ys us->xs=ys
 | _,_,_,.nil,.nil=>rfl
 | _,_,_,.cons r t,.cons r' t'=>by rw [r.inj r',bg.inj t t']
section
variable {X:Cx} {pins:cq} {σ:St} {H:Hp} {s:Shared} {a:Addr} {xs ys:List V}
theorem kB.of {K:au} (h:H a=some (.lst xs)):kB K H a xs:=.inl (.inl h)
theorem Inv.list (I:Inv X pins σ H s) (h:kB X.K H a xs):∃ its:cc,bg xs its /\ PlainL s.heap a its.toArray /\ xs.length<=sizeLine:=by
 rcases h with h | ⟨o,its,n,hk,hc,hd,hs,hz,r⟩
 .obtain ⟨z,its,n,r,e⟩:=h.ok I.cm
  exact ⟨its,r,⟨_,n,e,rfl,rfl,rfl⟩,z⟩
 .refine ⟨its.toList,r,⟨o,n,I.oB a o hk,hc,hd,by simpa using hs⟩,?_⟩
  have e:=r.length
  simp only [abf] at e
  lia
theorem Inv.tuple (I:Inv X pins σ H s) (h:k7 X.K H a xs):∃ its:cc,bg xs its /\ IsTup s.heap a its.toArray /\ xs.length<=sizeLine:=by
 rcases h with h | ⟨o,its,n,hk,hc,hs,hz,r⟩
 .obtain ⟨z,its,r,p⟩:=h.ok I.cm
  exact ⟨its,r,p,z⟩
 .refine ⟨its.toList,r,⟨o,I.oB a o hk,hc,n,by simpa using hs⟩,?_⟩
  have e:=r.length
  simp only [abf] at e
  lia
theorem Inv.pX (I:Inv X pins σ H s) (h:kB X.K H a xs) (h':kB X.K H a ys):xs=ys:=by
 obtain ⟨its,r,⟨o,n,e,_,_,d⟩,_⟩:=I.list h
 obtain ⟨its',r',⟨o',n',e',_,_,d'⟩,_⟩:=I.list h'
 rw [e] at e'; cases e'
 rw [d] at d'
 injection d' with d1 _
 have:its=its':=by simpa using congrArg Array.toList d1
 subst this
 exact r.inj r'
theorem Inv.rf (I:Inv X pins σ H s) (h:k7 X.K H a xs) (h':k7 X.K H a ys):xs=ys:=by
 obtain ⟨its,r,⟨o,e,_,n,d⟩,_⟩:=I.tuple h
 obtain ⟨its',r',⟨o',e',_,n',d'⟩,_⟩:=I.tuple h'
 rw [e] at e'; cases e'
 rw [d] at d'
 injection d' with d1 _
 have:its=its':=by simpa using congrArg Array.toList d1
 subst this
 exact r.inj r'
end
abbrev Cx.wD (X:Cx) (E:cW):Cx:={ X with xe:=E }
abbrev Cx.Lm (X:Cx):Cx:=X.wD λ_ _=>False
theorem Cx.Ok.wD {X:Cx} (ok:X.Ok) (E:cW):(X.wD E).Ok:=
 ⟨ok.mod,ok.kind,ok.glob,ok.blt,ok.above,ok.inj,ok.has,ok.Ha,ok.hd,ok.frames,ok.LK,ok.Qw,ok.bs,ok.xY,ok.wC,ok.xZ,ok.jH,ok.B1⟩
theorem Cx.Ok.mo {X:Cx} (ok:(X.wD E).Ok):X.Ok:=
 ⟨ok.mod,ok.kind,ok.glob,ok.blt,ok.above,ok.inj,ok.has,ok.Ha,ok.hd,ok.frames,ok.LK,ok.Qw,ok.bs,ok.xY,ok.wC,ok.xZ,ok.jH,ok.B1⟩
section
variable {X:Cx} {pins:cq} {σ:St} {H:Hp} {s:Shared} {E:cW}
theorem Inv.wD (I:Inv X pins σ H s) (E:cW):Inv (X.wD E) pins σ H s:=⟨I.ok.wD E,I.os,I.bare,I.base,I.loc,I.cell,I.free,I.gT,I.pin,I.cm,I.len⟩
theorem Inv.mo (I:Inv (X.wD E) pins σ H s):Inv X pins σ H s:=⟨I.ok.mo,I.os,I.bare,I.base,I.loc,I.cell,I.free,I.gT,I.pin,I.cm,I.len⟩
theorem SP.mo (h:SP (X.wD E) pins D f s'):SP X pins D f s':=by
 cases f with
 | next=>obtain ⟨dw,H',I,q⟩:=h; exact ⟨dw,H',I.mo,q⟩
 | brk=>obtain ⟨dw,H',I,q⟩:=h; exact ⟨dw,H',I.mo,q⟩
 | cont=>obtain ⟨dw,H',I,q⟩:=h; exact ⟨dw,H',I.mo,q⟩
 | ret u=>obtain ⟨v,dw,H',I,r,q⟩:=h; exact ⟨v,dw,H',I.mo,r,q⟩
theorem mn.Lm {st:List Stmt} (h:mn X.Lm st t):mn X st t:=λpins s σ H D I hw=>
 aa5 (h pins s σ H D (I.wD _) hw) (λ_ _ q=>q.mo) λ_ _ z=>False.elim z
end
section
variable {X:Cx} {st:Stmt} {rest:List Stmt} {t u:TS} {e:Expr} {te:TE} {pos:Pos}
def UQ:TS:=λD σ H=>D.nx σ H
def Yl (t u:TS):TS:=λD σ H=>t { D with nx:=u D } σ H
theorem LM:mn X [] UQ:=λ_ _ σ H _ I h=>adf ⟨σ,H,I,h⟩
theorem Hh (h1:PS X st t) (h2:mn X rest u):mn X (st :: rest) (Yl t u):=by
 intro pins s σ H D I h
 refine wpAny_execs_cons (dj (h1 pins s σ H { D with nx:=u D } I h) λf s1 q=>?_)
 cases f with
 | next=>
   obtain ⟨dw,H',I',q⟩:=q
   exact h2 pins s1 dw H' D I' q
 | ret v=>exact q
 | brk=>exact q
 | cont=>exact q
theorem LN (h1:PS X st t):mn X [st] t:=by
 intro pins s σ H D I h
 refine wpAny_execs_cons (dj (h1 pins s σ H D I h) λf s1 q=>?_)
 cases f with
 | next=>exact adf q
 | ret v=>exact q
 | brk=>exact q
 | cont=>exact q
theorem Inv.quiet (I:Inv X pins σ H s):interactive X.env=false:=by simp [interactive,I.ok.kind]
def uu (te:TE):TS:=λD σ H=>te σ H λ_ H1=>D.nx σ H1
theorem cA (he:PE X e te) (hs:swapsWith e none pos.line X.env=pure false:=by rfl):PS X (.Expr e pos) (uu te):=by
 intro pins s σ H D I h
 exact wpAny_Expr_any (dj (he pins s σ H _ I h) λv s1 ⟨x,H1,I1,r1,q1⟩=>⟨σ,H1,I1,q1⟩) I.quiet hs
def Ym (te:TE):TS:=λD σ H=>te σ H D.rt
theorem B2 (he:PE X e te):PS X (.Return (some e) pos) (Ym te):=by
 intro pins s σ H D I h
 exact wpAny_Return_some (dj (he pins s σ H _ I h) λv s1 ⟨x,H1,I1,r1,q1⟩=>⟨x,σ,H1,I1,r1,q1⟩)
def Yn (c:TT) (t u:TS):TS:=λD σ H=>c σ H λb H1=>if b=true then t D σ H1 else u D σ H1
theorem UR (hc:PT X c tc) (ha:mn X a t) (hb:mn X b u):PS X (.If c a b pos) (Yn tc t u):=by
 intro pins s σ H D I h
 refine wpAny_If (dj (hc pins s σ H _ I h) λd s1 ⟨H1,I1,q1⟩=>?_)
 cases d with
 | true=>exact ha pins s1 σ H1 D I1 q1
 | false=>exact hb pins s1 σ H1 D I1 q1
def QG:TS:=λ_ _ _=>False
theorem Hi:PS X st QG:=λ_ _ _ _ _ _ h=>h.elim
end
abbrev TG:=V->St->Hp->(St->Hp->Prop)->Prop
abbrev TX:=List V->St->Hp->(St->Hp->Prop)->Prop
def PG (X:Cx) (target:Expr) (t:TG):Prop:=
 ∀ (pins:cq) (s:Shared) (σ:St) (H:Hp) (v:V) (u:Value) (Q:St->Hp->Prop),Inv X pins σ H s->RelV v u->t v σ H Q->
   wpAny (model X.prog X.w) X.A (assign target X.env u) (λ_ s'=>∃ dw H',Inv X pins dw H' s' /\ Q dw H') X.xe s
def Hj (X:Cx) (ts:List Expr) (t:TX):Prop:=
 ∀ (pins:cq) (s:Shared) (σ:St) (H:Hp) (vs:List V) (us:cc) (Q:St->Hp->Prop),Inv X pins σ H s->bg vs us->t vs σ H Q->
   wpAny (model X.prog X.w) X.A (assignInOrder ((assignEach ts X.env).map (·.2)) us) (λ_ s'=>∃ dw H',Inv X pins dw H' s' /\ Q dw H') X.xe s
abbrev US:=V->V->V->Hp->(Hp->Prop)->Prop
def UT (X:Cx) (t:US):Prop:=
 ∀ (pins:cq) (s:Shared) (σ:St) (H:Hp) (o i v:V) (ov iv u:Value) (Q:Hp->Prop),Inv X pins σ H s->RelV o ov->RelV i iv->RelV v u->t o i v H Q->
   wpAny (model X.prog X.w) X.A (setItem ov iv u) (λ_ s'=>∃ H',Inv X pins σ H' s' /\ Q H') X.xe s
abbrev Yo:=V->V->Hp->VK->Prop
def PIp (X:Cx) (op:Operator) (t:Yo):Prop:=
 ∀ (pins:cq) (s:Shared) (σ:St) (H:Hp) (x y:V) (v u:Value) (Q:VK),Inv X pins σ H s->RelV x v->RelV y u->t x y H Q->
   wpAny (model X.prog X.w) X.A (inplaceOp op v u) (EP X pins σ Q) X.xe s
section
variable {X:Cx} {pos:Pos}
def kL (i:Nat):TG:=λv σ H Q=>Q (σ.set i (some v)) H
theorem aR (hN:X.N.Nodup) (hi:X.N[i]?=some x) (hx:Loc X.env.scope x) (hf:X.fn x=true \/ X.env.scope.names.lookup x=some .local:=by first | exact .inl rfl | exact .inr rfl | assumption):PG X (.Name x pos) (kL i):=by
 intro pins s σ H v u Q I r h
 exact wpAny_assign_Name (mm I hN hi hx r (λs' I'=>⟨_,H,I',h⟩) hf)
def Yp:TX:=λvs σ H Q=>vs=[] /\ Q σ H
def UU (t:TG) (u:TX):TX:=λvs σ H Q=>∃ v r,vs=v :: r /\ t v σ H λdw H'=>u r dw H' Q
theorem LP:Hj X [] Yp:=by
 intro pins s σ H vs us Q I r h
 obtain ⟨e,h⟩:=h
 exact assignInOrder_nil ⟨σ,H,I,h⟩
theorem Hk (h1:PG X e t) (h2:Hj X es u)
  (hs:(assignEach (e :: es) X.env).map (·.2)=assign e X.env :: (assignEach es X.env).map (·.2):=by rfl):Hj X (e :: es) (UU t u):=by
 intro pins s σ H vs us Q I r h
 obtain ⟨v,vr,e1,h⟩:=h
 subst e1
 cases r with
 | cons r rr=>
   rw [hs]
   refine assignInOrder_cons (dj (h1 pins s σ H _ _ _ I r h) λ_ s1 ⟨QH,H1,I1,q1⟩=>?_)
   exact h2 pins s1 QH H1 _ _ Q I1 rr q1
def Yq (K:au) (n:Nat) (t:TX):TG:=λv σ H Q=>∃ a xs,v=.ref a /\ k7 K H a xs /\ xs.length=n /\ t xs σ H Q
theorem QI (hc:X.calm=true) (h:Hj X es t)
  (hn:(assignEach es X.env).length=n:=by rfl) (OM:(assignEach es X.env).findIdx? (·.1)=none:=by rfl):PG X (.Tuple es k pos) (Yq X.K n t):=by
 intro pins s σ H v u Q I r hw
 obtain ⟨a,xs,e1,hq,hl,hw⟩:=hw
 subst e1
 cases r
 obtain ⟨its,rv,ht,hz⟩:=I.tuple hq
 refine assign_Tuple_tuple (I.ok.hd hc) ht (by simp [hn,<- hl,rv.length]) OM λh' hx=>?_
 have I1:=I.kept (t':=s.toks) λb o e=>hx b o (aaR (aaB e)) e
 exact h pins _ σ H xs _ Q I1 (by simpa using rv) hw
def uv (te:TE) (g:TG):TS:=λD σ H=>te σ H λx H1=>g x σ H1 D.nx
theorem eL (hN:X.N.Nodup) (hi:X.N[i]?=some x) (hx:Loc X.env.scope x) (he:PE X e te) (hs:swapsWith e (some (.Name x pos')) pos.line X.env=pure false:=by rfl) (hf:X.fn x=true \/ X.env.scope.names.lookup x=some .local:=by first | exact .inl rfl | exact .inr rfl | assumption):
  PS X (.Assign [.Name x pos'] e pos) (uv te (kL i)):=by
 intro pins s σ H D I h
 refine wpAny_Assign_Name (dj (he pins s σ H _ I h) λv s1 ⟨y,H1,I1,r1,q1⟩=>?_) hs
 exact mm I1 hN hi hx r1 (λs2 I2=>⟨_,H1,I2,q1⟩) hf
def UW (i j:Nat) (ta:TA):TS:=λD σ H=>ta σ H λvs H1=>∃ v w,vs=[v,w] /\ D.nx ((σ.set i (some v)).set j (some w)) H1
theorem QJ (hc:X.calm=true) (hN:X.N.Nodup) (hi:X.N[i]?=some x) (hj:X.N[j]?=some y) (kK:i≠j)
  (hx:X.env.scope.names.lookup x=some .local) (hy:X.env.scope.names.lookup y=some .local) (ha:PA X [a,b] ta)
  (hw:swappedStores [.Tuple [.Name x px,.Name y py] kt pt] (.Tuple [a,b] k2 pt2) X.env=pure (some [x,y]))
  (hs:swapsWithSole [.Tuple [.Name x px,.Name y py] kt pt] (.Tuple [a,b] k2 pt2) pos.line X.env=pure false:=by rfl):
  PS X (.Assign [.Tuple [.Name x px,.Name y py] kt pt] (.Tuple [a,b] k2 pt2) pos) (UW i j ta):=by
 intro pins s σ H D I h
 refine aaa (adH ?_)
 refine aaa (aay ?_)
 refine aaa (Tuple_ (dj (ha _ pins s σ H _ I h) λus s1 ⟨vs,H1,I1,r1,q1⟩=>?_))
 obtain ⟨v,w,e1,q1⟩:=q1
 subst e1
 obtain ⟨u1,u2,rfl,rv,Ft⟩:∃ u1 u2,us=[u1,u2] /\ RelV v u1 /\ RelV w u2:=by
  cases r1 with
  | cons p q=>
    cases q with
    | cons p' q'=>
      cases q'
      exact ⟨_,_,rfl,p,p'⟩
 refine abR ?_ (by show 2<=sizeLine; decide)
 have I2:Inv X pins σ H1 { s1 with heap:=s1.heap.push { cls:=.type "tuple",data:=.seq [u1,u2].toArray } }:=I1.kept (t':=s1.toks) λb o e=>aab _ e
 rw [hw]
 refine aaa (aay ?_)
 refine aaa (acP (aaa (unpackItems_tuple (items:=#[u1,u2]) (I.ok.hd hc) (IsTup.new s1.heap _) λh' Yr=>?_)))
 have I3:=I2.kept (h':=h') (t':=s1.toks) λb o e=>Yr b o (aaR (aaB e)) e
 refine aaa (assignInOrder_cons (wpAny_bindName (mm I3 hN hj (.inl hy) Ft (λs2 I4=>?_) (.inr hy))))
 refine assignInOrder_cons (wpAny_bindName (mm I4 hN hi (.inl hx) rv (λs3 I5=>assignInOrder_nil (aay ?_)) (.inr hx)))
 rw [List.set_comm _ _ (acx kK)] at I5
 exact ⟨_,H1,I5,q1⟩
def ON (to ti te:TE) (QK:V->V->Hp->VK->Prop) (Ys:Yo) (QL:US):TS:=λD σ H=>to σ H λo H1=>ti σ H1 λi H2=>QK o i H2 λx H3=>te σ H3 λy H4=>Ys x y H4 λz H5=>QL o i z H5 λH6=>D.nx σ H6
def UX (X:Cx) (t:V->V->Hp->VK->Prop):Prop:=
 ∀ (pins:cq) (s:Shared) (σ:St) (H:Hp) (o i:V) (ov iv:Value) (Q:VK),Inv X pins σ H s->RelV o ov->RelV i iv->t o i H Q->
   wpAny (model X.prog X.w) X.A (getItem ov iv) (EP X pins σ Q) X.xe s
theorem LQ (ho:PE X o to) (hi:PE X i ti) (hg:UX X QK) (he:PE X e te) (hp:PIp X op Ys) (hs:UT X QL)
  (ha:∀ ov iv new,augStore i ov iv new=(do holding [new,ov,iv] (setItem ov iv new); release [new,ov,iv] []; pure .next):=by intros; rfl):PS X (.AugAssign (.Subscript o i ma) op e pos) (ON to ti te QK Ys QL):=by
 intro pins s σ H D I h
 refine wpAny_AugAssign_SubscriptAny (dj (ho pins s σ H _ I h) λov s1 ⟨x1,H1,I1,r1,q1⟩=>?_) ha
 refine dj (hi pins s1 σ H1 _ I1 q1) λiv s2 ⟨x2,H2,I2,r2,q2⟩=>?_
 refine dj (hg pins s2 σ H2 x1 x2 ov iv _ I2 r1 r2 q2) λold s3 ⟨x3,H3,I3,r3,q3⟩=>?_
 refine dj (he pins s3 σ H3 _ I3 q3) λv s4 ⟨x4,H4,I4,r4,q4⟩=>?_
 refine dj (hp pins s4 σ H4 x3 x4 old v _ I4 r3 r4 q4) λnew s5 ⟨x5,H5,I5,r5,q5⟩=>?_
 exact dj (hs pins s5 σ H5 x1 x2 x5 ov iv new _ I5 r1 r2 r5 q5) λ_ s6 ⟨H6,I6,q6⟩=>⟨σ,H6,I6,q6⟩
def ipI (f:Int->Int->Int):Yo:=λx y H Q=>∃ i j,x=.int i /\ y=.int j /\ Q (.int (f i j)) H
theorem QM:PIp X .Add (ipI λi j=>i + j):=by
 intro pins s σ H x y v u Q I r1 r2 h
 obtain ⟨i,j,e1,e2,q⟩:=h
 subst e1; subst e2
 obtain ⟨t,rfl⟩:=r1
 obtain ⟨t',rfl⟩:=r2
 exact iadd_int ⟨.int _,H,I.tok _,⟨_,rfl⟩,q⟩
end
section
variable {X:Cx} {pos:Pos}
def QN (c:TT) (tb:TS):TS:=λD σ H=>∃ W:Nat->St->Hp->Prop,(∃ m,W m σ H) /\ ∀ m σ H,W m σ H->
 c σ H λb H1=>if b=true then ∃ N:St->Hp->Prop,(∀ dw H',N dw H'->∃ m',m' < m /\ W m' dw H') /\ tb { D with nx:=N,ct:=N,bk:=D.nx } σ H1 else D.nx σ H1
theorem Hm (hp:PassesOwn (model X.prog X.w) X.A X.env X.xe) (hc:PT X c tc) (hb:mn X body tb):PS X (.While c body [] pos) (QN tc tb):=by
 intro pins s σ H D I h
 obtain ⟨W,⟨m0,w0⟩,turn⟩:=h
 refine wpAny_While (codeAny_whileLoop (λn s'=>∃ dw H',Inv X pins dw H' s' /\ W n dw H') ?_ m0 ⟨σ,H,I,w0⟩)
 rintro n s1 ⟨QH,H1,I1,w1⟩
 refine acw hp (dj (hc pins s1 QH H1 _ I1 (turn n QH H1 w1)) λb s2 ⟨H2,I2,q2⟩=>?_)
 cases b with
 | true=>
   obtain ⟨N,hN,q2⟩:=q2
   refine acw hp (dj (hb pins s2 QH H2 _ I2 q2) λf s3 q3=>?_)
   cases f with
   | next=>
     obtain ⟨Hn,H3,I3,n3⟩:=q3
     obtain ⟨m',hm,w3⟩:=hN Hn H3 n3
     exact ⟨m',hm,Hn,H3,I3,w3⟩
   | cont=>
     obtain ⟨Hn,H3,I3,n3⟩:=q3
     obtain ⟨m',hm,w3⟩:=hN Hn H3 n3
     exact ⟨m',hm,Hn,H3,I3,w3⟩
   | brk=>exact q3
   | ret v=>exact q3
 | false=>
   exact adf ⟨QH,H2,I2,q2⟩
end
structure It where
 go:Nat->Hp->Prop
 UY:Nat->Hp->V->Hp->Prop
 stop:Nat->Hp->Prop
def md (X:Cx) (pins:cq) (H:Hp) (b:Addr):Prop:=
 H b=none /\ b≠X.env.locals /\ b∉X.fs /\ (b∈X.ex \/ X.gQ.heap.objs.size<=b) /\ (∀ x c,X.env.cells.lookup x=some c->c≠b) /\ ∀ p∈X.pn ++ pins,p.1≠b
theorem Inv.pY (I:Inv X pins σ H s) (hb:s.heap.objs.size<=b) (hn:H' b=none):md X pins H' b:=by
 refine ⟨hn,acy (aaC I.lt hb),I.UK hb,.inr (aa6 I.sz hb),λx c e z=>?_,λp hp z=>?_⟩
 .obtain ⟨v,q⟩:=I.cell x c e
  exact absurd (aaC q.lt (by rw [z]; exact hb)) (abp _)
 .exact absurd (aaC (aaB (I.pin p hp).1) (by rw [z]; exact hb)) (abp _)
abbrev Ap (X:Cx):Prop:=X.calm=true
structure Ho (gd:Cx->Prop) (P:Program) (w:World) (K:au) (tg:Expr) (J:It) (fp:List Addr) (it:Addr) (tn:Nat->Heap->Prop):Prop where
 mem:it∈fp
 obj:∀ i h,tn i h->∀ b∈fp,∃ o,h.get? b=some o /\ ∀ v,o.data≠.cell v
 keep:∀ i h h',tn i h->(∀ b∈fp,∀ o,h.get? b=some o->h'.get? b=some o)->tn i h'
 item:∀ (X:Cx),X.prog=P->X.w=w->X.K=K->gd X->∀ (i:Nat) (pins:cq) (s:Shared) (σ:St) (H:Hp) (E:cW),Inv X pins σ H s->(∀ b∈fp,md X pins H b)->tn i s.heap->J.go i H->
  wpAny (model P w) X.A (pyNext (.ref it)) (λr s1=>∃ u,r=some u /\
   wpAny (model P w) X.A (letOwnedTupleGo tg (.ref it) u) (λ_ s2=>∃ x H',Inv X pins σ H' s2 /\ RelV x u /\ J.UY i H x H' /\ tn (i + 1) s2.heap /\ ∀ b∈fp,H' b=none) E s1) E s
 done:∀ (X:Cx),X.prog=P->X.w=w->X.K=K->gd X->∀ (i:Nat) (pins:cq) (s:Shared) (σ:St) (H:Hp) (E:cW),Inv X pins σ H s->(∀ b∈fp,md X pins H b)->tn i s.heap->J.stop i H->
  wpAny (model P w) X.A (pyNext (.ref it)) (λr s1=>r=none /\ Inv X pins σ H s1) E s
 self:∀ (A:Around) (i:Nat) (s:Shared) (Q:cW) (E:cW),tn i s.heap->Q (.ref it) s->wpAny (model P w) A (pyIter (.ref it)) Q E s
abbrev Turn:=Ho Ap
abbrev TI:=St->Hp->(It->Hp->Prop)->Prop
def LR (gd:Cx->Prop) (X:Cx) (pins:cq) (σ:St) (tg:Expr) (R:It->Hp->Prop) (OP:Value) (s2:Shared):Prop:=
 ∃ (it:Addr) (fp:List Addr) (tn:Nat->Heap->Prop) (J:It) (H':Hp),OP=.ref it /\ Inv X pins σ H' s2 /\ Ho gd X.prog X.w X.K tg J fp it tn /\ tn 0 s2.heap /\ (∀ b∈fp,md X pins H' b) /\ R J H'
abbrev PIE:=LR Ap
def Yt (gd:Cx->Prop) (X:Cx) (tg iter:Expr) (wi:TI):Prop:=
 ∀ (pins:cq) (s:Shared) (σ:St) (H:Hp) (R:It->Hp->Prop),Inv X pins σ H s->wi σ H R->
   wpAny (model X.prog X.w) X.A (eval iter X.env) (λv s1=>wpAny (model X.prog X.w) X.A (pyIter v) (LR gd X pins σ tg R) X.xe s1) X.xe s
abbrev PI:=Yt Ap
theorem Hq (ho:s.heap.get? it=some o) (hc:o.cls=.type n) (hd:o.data=.fields vs)
  (hn:["enumerate","zip","dict_itemiterator","dict_reverseitemiterator","odict_iterator","itertools.zip_longest","itertools.pairwise"].contains n=false) (hQ:Q () s):wpAny M A (letOwnedTupleGo tg (.ref it) u) Q E s:=by
 cases tg <;> first
  | exact aay hQ
  | (cases u <;> first
    | exact aay hQ
    | (refine aaa (wpAny_load ho ?_)
       rw [hc,hd]
       show wpAny M A (if (["enumerate","zip","dict_itemiterator","dict_reverseitemiterator","odict_iterator","itertools.zip_longest","itertools.pairwise"].contains n && vs[0]? == some (rawInt _))=true then _ else _) Q E s
       rw [aaO (by intro h; rw [hn,adZ] at h; cases h)]
       exact aay hQ))
def Itl (K:au) (a:Addr):It:=
 ⟨λi H=>∃ xs x,kB K H a xs /\ xs[i]?=some x,λi H x H'=>H'=H /\ ∀ xs,kB K H a xs->xs[i]?=some x,λi H=>∃ xs,kB K H a xs /\ xs.length<=i⟩
def Itt (K:au) (a:Addr):It:=
 ⟨λi H=>∃ xs x,k7 K H a xs /\ xs[i]?=some x,λi H x H'=>H'=H /\ ∀ xs,k7 K H a xs->xs[i]?=some x,λi H=>∃ xs,k7 K H a xs /\ xs.length<=i⟩
def UZ (lo:Int) (n:Nat):It:=⟨λi _=>i < n,λi H x H'=>H'=H /\ x=.int (lo + i),λi _=>n<=i⟩
theorem Fu {K:au} (a it:Addr):Turn P w K tg (Itl K a) [it] it (λi h=>h.IsListIter it a i) where
 mem:=by simp
 obj:=λi h st b hb=>by
  have e:b=it:=by simpa using hb
  subst e
  obtain ⟨o,e,c,d⟩:=st
  exact ⟨o,e,λv z=>by rw [d] at z; cases z⟩
 keep:=λi h h' st k=>st.at λo e=>k it (by simp) o e
 item:=by
  intro X hP hw hK hc i pins s σ H E I hf st hg
  subst hP hw hK
  obtain ⟨xs,x,hq,hx⟩:=hg
  obtain ⟨its,rv,p,hz⟩:=I.list hq
  obtain ⟨u,hu,ru⟩:=rv.get hx
  obtain ⟨f0,f1,f2,f3,f4,f5⟩:=hf it (by simp)
  refine wpAny_pyNext_list_item st p.isList (x:=u) (by simpa using hu) λh' cZ sb=>?_
  have I1:=I.turned (t':=s.toks) (λb o hb e=>(sb.2 b hb).trans e) f0 f1 f3 f4 f5
  obtain ⟨o,e,c,d⟩:=id cZ
  exact ⟨u,rfl,Hq (s:={ s with heap:=h' }) e c d (by decide) ⟨x,H,I1,ru,⟨rfl,λys hy=>by rw [I.pX hy hq]; exact hx⟩,cZ,λb hb=>(hf b hb).1⟩⟩
 done:=by
  intro X hP hw hK hc i pins s σ H E I hf st hg
  subst hP hw hK
  obtain ⟨xs,hq,hx⟩:=hg
  obtain ⟨its,rv,p,hz⟩:=I.list hq
  obtain ⟨f0,f1,f2,f3,f4,f5⟩:=hf it (by simp)
  have hl:=rv.length
  exact wpAny_pyNext_list_end (I.ok.hd hc) st p.isList (by simp; lia) λh' eb=>⟨rfl,I.turned (t':=s.toks) (λb o hb e=>eb b o hb e) f0 f1 f3 f4 f5⟩
 self:=λ_ _ _ _ _ st h=>wpAny_pyIter_listiter st h
theorem B3 {K:au} (a it:Addr):Turn P w K tg (Itt K a) [it] it (λi h=>h.IsTupleIter it a i) where
 mem:=by simp
 obj:=λi h st b hb=>by
  have e:b=it:=by simpa using hb
  subst e
  obtain ⟨o,e,c,d⟩:=st
  exact ⟨o,e,λv z=>by rw [d] at z; cases z⟩
 keep:=λi h h' st k=>st.at λo e=>k it (by simp) o e
 item:=by
  intro X hP hw hK hc i pins s σ H E I hf st hg
  subst hP hw hK
  obtain ⟨xs,x,hq,hx⟩:=hg
  obtain ⟨its,rv,p,hz⟩:=I.tuple hq
  obtain ⟨u,hu,ru⟩:=rv.get hx
  obtain ⟨f0,f1,f2,f3,f4,f5⟩:=hf it (by simp)
  refine wpAny_pyNext_tuple_item st (show s.heap.IsTuple a its.toArray from p) (x:=u) (by simpa using hu) λh' cZ sb=>?_
  have I1:=I.turned (t':=s.toks) (λb o hb e=>(sb.2 b hb).trans e) f0 f1 f3 f4 f5
  obtain ⟨o,e,c,d⟩:=id cZ
  exact ⟨u,rfl,Hq (s:={ s with heap:=h' }) e c d (by decide) ⟨x,H,I1,ru,⟨rfl,λys hy=>by rw [I.rf hy hq]; exact hx⟩,cZ,λb hb=>(hf b hb).1⟩⟩
 done:=by
  intro X hP hw hK hc i pins s σ H E I hf st hg
  subst hP hw hK
  obtain ⟨xs,hq,hx⟩:=hg
  obtain ⟨its,rv,p,hz⟩:=I.tuple hq
  obtain ⟨f0,f1,f2,f3,f4,f5⟩:=hf it (by simp)
  have hl:=rv.length
  exact wpAny_pyNext_tuple_end (I.ok.hd hc) st (show s.heap.IsTuple a its.toArray from p) (by simp; lia) λh' eb=>⟨rfl,I.turned (t':=s.toks) (λb o hb e=>eb b o hb e) f0 f1 f3 f4 f5⟩
 self:=λ_ _ _ _ _ st h=>wpAny_pyIter_tupleiter st h
theorem B4 {K:au} (it:Addr) (lo:Int) (n:Nat):Turn P w K tg (UZ lo n) [it] it (λi h=>IsRangeIter h it (lo + (i:Nat) * 1) ((n:Int) - (i:Nat)) 1) where
 mem:=by simp
 obj:=λi h st b hb=>by grind
 keep:=λi h h' st k=>k it (by simp) _ st
 item:=by
  intro X hP hw hK hc i pins s σ H E I hf st hg
  subst hP hw hK
  obtain ⟨f0,f1,f2,f3,f4,f5⟩:=hf it (by simp)
  have W:=Walks.range (prog:=X.prog) (w:=X.w) (I.ok.hd hc) it lo 1 n
  refine W.item i s _ _ hg st λv h' tk hv cZ kk=>?_
  obtain ⟨t,rfl⟩:=hv
  have I1:Inv X pins σ H { s with heap:=h',toks:=tk }:=I.turned (λb o hb e=>kk b o (by simpa using hb) e) f0 f1 f3 f4 f5
  refine ⟨_,rfl,Hq (s:={ s with heap:=h',toks:=tk }) (n:="range_iterator") cZ rfl rfl (by decide) ⟨.int (lo + i),H,I1,⟨t,?_⟩,⟨rfl,rfl⟩,cZ,λb hb=>(hf b hb).1⟩⟩
  rw [Int.mul_one]
 done:=by
  intro X hP hw hK hc i pins s σ H E I hf st hg
  obtain ⟨f0,f1,f2,f3,f4,f5⟩:=hf it (by simp)
  exact wpAny_pyNext_range_end (I.ok.hd hc) st (by have:n<=i:=hg; lia) λh' eb=>⟨rfl,I.turned (t':=s.toks) (λb o hb e=>eb b o hb e) f0 f1 f3 f4 f5⟩
 self:=λ_ _ _ _ _ st h=>wpAny_pyIter_rangeiter st h
section
variable {X:Cx} {tg:Expr}
theorem Aq {lo hi:Int} (I:Inv X pins σ H s) (h1: -(2 ^ 62)<=lo) (h2:lo < 2 ^ 62) (h3: -(2 ^ 62)<=hi) (h4:hi < 2 ^ 62)
  (q:R (UZ lo (hi - lo).toNat) H):wpAny (model X.prog X.w) X.A (pyIter (.ref s.heap.objs.size)) (PIE X pins σ tg R) E { s with heap:=s.heap.push { cls:=.type "range",data:=.fields #[.int lo t,.int hi u,.int 1 v] },toks:=tk }:=by
 refine wpAny_pyIter_range (IsRange.new ..) (small_one h1 h2 h3 h4) ?_
 have I1:Inv X pins σ H { s with heap:=s.heap.push { cls:=.type "range",data:=.fields #[.int lo t,.int hi u,.int 1 v] },toks:=tk }:=I.kept λb o e=>aab _ e
 refine ⟨(s.heap.push { cls:=.type "range",data:=.fields #[.int lo t,.int hi u,.int 1 v] }).objs.size,[(s.heap.push { cls:=.type "range",data:=.fields #[.int lo t,.int hi u,.int 1 v] }).objs.size],_,_,H,rfl,
  I1.kept (t':=tk) λb o e=>aab _ e,B4 _ lo (hi - lo).toNat,?_,λb hb=>?_,q⟩
 .have e1:lo + ((0:Nat):Int) * 1=lo:=by simp
  have e2:(((hi - lo).toNat:Nat):Int) - ((0:Nat):Int)=Builtin.Range.rangeSize lo hi 1:=by rw [rangeSize_one]; split <;> lia
  rw [e1,e2]
  exact aaH _ rfl
 .have e:b=(s.heap.push { cls:=.type "range",data:=.fields #[.int lo t,.int hi u,.int 1 v] }).objs.size:=by simpa using hb
  subst e
  exact I1.pY (aaF _) (I1.cm.fresh (aaF _))
def U0 (ta:TA):TI:=λσ H R=>ta σ H λvs H1=>∃ j:Int,vs=[.int j] /\ -(2 ^ 62)<=j /\ j < 2 ^ 62 /\ R (UZ 0 j.toNat) H1
def U1 (ta:TA):TI:=λσ H R=>ta σ H λvs H1=>∃ i j:Int,vs=[.int i,.int j] /\ (-(2 ^ 62)<=i /\ i < 2 ^ 62 /\ -(2 ^ 62)<=j /\ j < 2 ^ 62) /\ R (UZ i (j - i).toNat) H1
theorem Fv (hg:Gl X "range") (hm:X.mg "range"=none) (ha:PA X [a] ta) (hs:starEach [a] X.env=[(false,eval a X.env)]:=by rfl):PI X tg (.Call (.Name "range" p) [a] [] pos) (U0 ta):=by
 intro pins s σ H R I h
 refine Call_ (jI I hg hm boot_range (abv (dj (ha pos pins s σ H _ I h) λus s1 ⟨vs,H1,I1,r1,q1⟩=>?_) hs rfl))
 obtain ⟨j,e,q1,q2,q⟩:=q1
 subst e
 cases r1 with
 | cons r rr=>
   cases rr
   obtain ⟨t,rfl⟩:=r
   exact call_range_1 (Aq I1 (by lia) (by lia) q1 q2 (by simpa using q))
theorem Fw (hg:Gl X "range") (hm:X.mg "range"=none) (ha:PA X [a,b] ta) (hs:starEach [a,b] X.env=[(false,eval a X.env),(false,eval b X.env)]:=by rfl) (og:starEach [b] X.env=[(false,eval b X.env)]:=by rfl):
  PI X tg (.Call (.Name "range" p) [a,b] [] pos) (U1 ta):=by
 intro pins s σ H R I h
 refine Call_ (jI I hg hm boot_range (abv (dj (ha pos pins s σ H _ I h) λus s1 ⟨vs,H1,I1,r1,q1⟩=>?_) (by rw [hs,og]) (by rw [og]; rfl)))
 obtain ⟨i,j,e,⟨q1,q2,q3,q4⟩,q⟩:=q1
 subst e
 cases r1 with
 | cons r rr=>
   cases rr with
   | cons r' rr=>
     cases rr
     obtain ⟨t,rfl⟩:=r
     obtain ⟨t',rfl⟩:=r'
     exact call_range_2 (Aq I1 q1 q2 q3 q4 q)
def Yu (wi:TI) (g:TG) (tb:TS):TS:=λD σ H=>wi σ H λJ H1=>∃ W:Nat->Nat->St->Hp->Prop,(∃ m,W 0 m σ H1) /\ ∀ i m σ H,W i m σ H->
 (J.stop i H /\ D.nx σ H) \/ (J.go i H /\ ∃ N:St->Hp->Prop,(∀ dw H',N dw H'->∃ m',m' < m /\ W (i + 1) m' dw H') /\ ∀ x H',J.UY i H x H'->g x σ H' λσ2 H2=>tb { D with nx:=N,ct:=N,bk:=D.nx } σ2 H2)
def rg (fp:List Addr) (h:Heap):cq:=fp.filterMap λb=>(h.get? b).map λo=>(b,o)
theorem ij (hb:b∈fp) (e:h.get? b=some o):(b,o)∈rg fp h:=ad0.mpr ⟨b,hb,by rw [e]; rfl⟩
theorem xg (hp:p∈rg fp h):p.1∈fp /\ h.get? p.1=some p.2:=by
 obtain ⟨b,hb,e⟩:=ad0.mp hp
 cases q:h.get? b with
 | none=>rw [q] at e; cases e
 | some o=>grind
theorem Inv.pinned (I:Inv X pins σ H s) (hf:∀ b∈fp,md X pins H b) (ho:∀ b∈fp,∃ o,s.heap.get? b=some o /\ ∀ v,o.data≠.cell v):Inv X (pins ++ rg fp s.heap) σ H s:=
 I.nh λp hp=>(abd.mp hp).elim (λz=>I.pin p (aaN _ z)) λz=>by
  obtain ⟨hb,e⟩:=xg z
  obtain ⟨f0,f1,f2,_⟩:=hf p.1 hb
  obtain ⟨o,e',d⟩:=ho p.1 hb
  rw [e] at e'; cases e'
  exact ⟨e,f0,f1,f2,d⟩
theorem Inv.mq (I:Inv X (pins ++ pl) σ H s):Inv X pins σ H s:=I.nh λp hp=>I.pin p (aaN _ (abB _ hp))
theorem QO (hp:PassesOwn (model X.prog X.w) X.A X.env X.xe) (hc:X.calm=true) (hi:PI X tg iter wi) (hg:PG X tg g) (hb:mn X body tb)
  (hs:∀ x,foldedSetIterable iter X.env x=pure x:=by intro _; rfl):PS X (.For tg iter body [] pos) (Yu wi g tb):=by
 intro pins s σ H D I h
 refine wpAny_For (dj (hi pins s σ H _ I h) λv s1 h1=>dj h1 λOP s2 h2=>?_) hs
 obtain ⟨it,fp,tn,J,H2,e,I2,T,dW,f2,W,⟨m0,w0⟩,turn⟩:=h2
 subst e
 have B5:∀ {H':Hp},(∀ b∈fp,H' b=none)->∀ b∈fp,md X pins H' b:=λhn b hb=>⟨hn b hb,(f2 b hb).2⟩
 refine codeAny_forLoop_any (λn s'=>∃ i dw H',Inv X pins dw H' s' /\ tn i s'.heap /\ (∀ b∈fp,H' b=none) /\ W i n dw H') ?_ m0 ⟨0,σ,H2,I2,dW,λb hb=>(f2 b hb).1,w0⟩
 rintro n s3 ⟨i,Hn,H3,I3,Hr,fr3,w3⟩
 rcases turn i n Hn H3 w3 with ⟨stop,qn⟩ | ⟨go,N,hN,step⟩
 .refine acw hp (dj (T.done X rfl rfl rfl hc i pins s3 Hn H3 X.xe I3 (B5 fr3) Hr stop) λr s4 ⟨hr,I4⟩=>?_)
  subst hr
  exact adf ⟨Hn,H3,I4,qn⟩
 .refine acw hp (dj (T.item X rfl rfl rfl hc i pins s3 Hn H3 X.xe I3 (B5 fr3) Hr go) λr s4 ⟨u,hr,h4⟩=>?_)
  subst hr
  refine acw hp (dj h4 λ_ s5 ⟨x,H5,I5,r5,y5,OQ,Yv⟩=>?_)
  have Yw:=I5.pinned (B5 Yv) (T.obj _ _ OQ)
  refine acw hp (dj (hg _ s5 Hn H5 x u _ Yw r5 (step x H5 y5)) λ_ s6 ⟨σ6,H6,I6,q6⟩=>?_)
  refine acw hp (dj (hb _ s6 σ6 H6 _ I6 q6) λf s7 q7=>?_)
  have again:∀ {Hs:St} {H7:Hp},Inv X (pins ++ rg fp s5.heap) Hs H7 s7->N Hs H7->∃ m,m < n /\ ∃ i dw H',Inv X pins dw H' s7 /\ tn i s7.heap /\ (∀ b∈fp,H' b=none) /\ W i m dw H':=λ{Hs H7} I7 n7=>by
   obtain ⟨m',hm,w7⟩:=hN Hs H7 n7
   refine ⟨m',hm,i + 1,Hs,H7,I7.mq,T.keep _ _ _ OQ λb hb o e=>(I7.pin (b,o) (aaN _ (aaN _ (ij hb e)))).1,λb hb=>?_,w7⟩
   obtain ⟨o,e,d⟩:=T.obj _ _ OQ b hb
   exact (I7.pin (b,o) (aaN _ (aaN _ (ij hb e)))).2.1
  cases f with
  | next=>obtain ⟨Hs,H7,I7,n7⟩:=q7; exact again I7 n7
  | cont=>obtain ⟨Hs,H7,I7,n7⟩:=q7; exact again I7 n7
  | brk=>obtain ⟨Hs,H7,I7,q7⟩:=q7; exact ⟨Hs,H7,I7.mq,q7⟩
  | ret v=>obtain ⟨x7,Hs,H7,I7,r7,q7⟩:=q7; exact ⟨x7,Hs,H7,I7.mq,r7,q7⟩
end
abbrev R2:=V->V->Hp->VK->Prop
def gS (X:Cx) (f:Value->Value->Sem Value) (r:R2):Prop:=
 ∀ (pins:cq) (s:Shared) (σ:St) (H:Hp) (x y:V) (v u:Value) (Q:VK),Inv X pins σ H s->RelV x v->RelV y u->r x y H Q->
   wpAny (model X.prog X.w) X.A (f v u) (EP X pins σ Q) X.xe s
def Yx (X:Cx) (f:Value->Sem Value) (r:V->Hp->VK->Prop):Prop:=
 ∀ (pins:cq) (s:Shared) (σ:St) (H:Hp) (x:V) (v:Value) (Q:VK),Inv X pins σ H s->RelV x v->r x H Q->
   wpAny (model X.prog X.w) X.A (f v) (EP X pins σ Q) X.xe s
def fT (X:Cx) (f:Value) (r:List V->Hp->VK->Prop):Prop:=
 ∀ (pins:cq) (s:Shared) (σ:St) (H:Hp) (xs:List V) (us:cc) (Q:VK),Inv X pins σ H s->bg xs us->r xs H Q->
   wpAny (model X.prog X.w) X.A (call f us) (EP X pins σ Q) X.xe s
def Yy (X:Cx) (r:V->Hp->(Bool->Hp->Prop)->Prop):Prop:=
 ∀ (pins:cq) (s:Shared) (σ:St) (H:Hp) (x:V) (v:Value) (Q:Bool->Hp->Prop),Inv X pins σ H s->RelV x v->r x H Q->
   wpAny (model X.prog X.w) X.A (truthy v) (TP X pins σ Q) X.xe s
def TY (r:R2) (ta tb:TE):TE:=λσ H Q=>ta σ H λx H1=>tb σ H1 λy H2=>r x y H2 Q
def tUn (r:V->Hp->VK->Prop) (ta:TE):TE:=λσ H Q=>ta σ H λx H1=>r x H1 Q
def rI (C:Int->Int->Prop) (g:Int->Int->V):R2:=λx y H Q=>∃ i j,x=.int i /\ y=.int j /\ C i j /\ Q (g i j) H
def Ht (g:Int->Int->V):R2:=λx y H Q=>∃ i j,x=.int i /\ y=.int j /\ Q (g i j) H
def rU (g:Int->V):V->Hp->VK->Prop:=λx H Q=>∃ i,x=.int i /\ Q (g i) H
section
variable {X:Cx} {a b c:Expr} {ta tb tc:TE} {pos:Pos}
theorem QP (ha:PE X a ta) (hb:PE X b tb) {R:V->V->Hp->Prop} (I:Inv X pins σ H s)
  (h:ta σ H λx H1=>tb σ H1 λy H2=>R x y H2) {f:Value->Value->Sem Value}
  (hf:∀ v u s2 x y H2,Inv X pins σ H2 s2->RelV x v->RelV y u->R x y H2->wpAny (model X.prog X.w) X.A (f v u) Q X.xe s2):
  wpAny (model X.prog X.w) X.A (eval a X.env) (λv cu=>wpAny (model X.prog X.w) X.A (eval b X.env) (λu oD=>wpAny (model X.prog X.w) X.A (f v u) Q X.xe oD) X.xe cu) X.xe s:=by
 refine dj (ha pins s σ H _ I h) λv s1 ⟨x,H1,I1,r1,q1⟩=>?_
 refine dj (hb pins s1 σ H1 _ I1 q1) λu s2 ⟨y,H2,I2,r2,q2⟩=>?_
 exact hf v u s2 x y H2 I2 r1 r2 q2
theorem Hu (ho:gS X (binaryOp op) r) (ha:PE X a ta) (hb:PE X b tb):PE X (.BinOp a op b pos) (TY r ta tb):=by
 intro pins s σ H Q I h
 exact wpAny_BinOp (QP ha hb I h λv u s2 x y H2 I2 rx ry q=>ho pins s2 σ H2 x y v u Q I2 rx ry q)
theorem U3 (ho:Yx X (unaryOp op) r) (ha:PE X a ta):PE X (.UnaryOp op a pos) (tUn r ta):=by
 intro pins s σ H Q I h
 exact UnaryOp_ (dj (ha pins s σ H _ I h) λv s1 ⟨x,H1,I1,r1,q1⟩=>ho pins s1 σ H1 x v Q I1 r1 q1)
theorem U4 {g:Int->Int->Int}
  (rule:∀ (i j:Int) (t u:Tok) (s:Shared) (Q:cW) (E:cW),C i j->Q (.int (g i j) s.toks) { s with toks:=s.toks + 1 }->wpAny (model X.prog X.w) X.A (f (.int i t) (.int j u)) Q E s):
  gS X f (rI C λi j=>.int (g i j)):=by
 intro pins s σ H x y v u Q I rx ry h
 obtain ⟨i,j,rfl,rfl,hc,q⟩:=h
 obtain ⟨t,rfl⟩:=rx
 obtain ⟨t',rfl⟩:=ry
 exact rule i j t t' s _ _ hc ⟨.int (g i j),H,I.tok _,⟨_,rfl⟩,q⟩
theorem U5 {g:Int->Int->Int}
  (rule:∀ (i j:Int) (t u:Tok) (s:Shared) (Q:cW) (E:cW),Q (.int (g i j) s.toks) { s with toks:=s.toks + 1 }->wpAny (model X.prog X.w) X.A (f (.int i t) (.int j u)) Q E s):
  gS X f (Ht λi j=>.int (g i j)):=by
 intro pins s σ H x y v u Q I rx ry h
 obtain ⟨i,j,rfl,rfl,q⟩:=h
 obtain ⟨t,rfl⟩:=rx
 obtain ⟨t',rfl⟩:=ry
 exact rule i j t t' s _ _ ⟨.int (g i j),H,I.tok _,⟨_,rfl⟩,q⟩
theorem LU {g:Int->Int->Bool}
  (rule:∀ (i j:Int) (t u:Tok) (s:Shared) (Q:cW) (E:cW),Q (.bool (g i j)) s->wpAny (model X.prog X.w) X.A (f (.int i t) (.int j u)) Q E s):
  gS X f (Ht λi j=>.bl (g i j)):=by
 intro pins s σ H x y v u Q I rx ry h
 obtain ⟨i,j,rfl,rfl,q⟩:=h
 obtain ⟨t,rfl⟩:=rx
 obtain ⟨t',rfl⟩:=ry
 exact rule i j t t' s _ _ ⟨.bl (g i j),H,I,rfl,q⟩
def QR (i j:Int):Prop:=0<=j /\ j<=1000000 /\ i.natAbs < 2 ^ 64
theorem B6 (k:Nat):(0:Int)<=2 ^ k:=by lia
theorem QS:gS X (binaryOp .Add) (Ht λi j=>.int (i + j)):=U5 λ_ _ _ _ _ _ _ q=>add_int q
theorem d7:gS X (binaryOp .Sub) (Ht λi j=>.int (i - j)):=U5 λ_ _ _ _ _ _ _ q=>sub_int q
theorem bp:gS X (binaryOp .Mod) (rI (λ_ j=>j≠0) λi j=>.int (i.fmod j)):=U4 λ_ _ _ _ _ _ _ hc q=>mod_int' hc q
theorem yb:gS X (binaryOp .Pow) (rI QR λi j=>.int (i ^ j.toNat)):=U4 λ_ _ _ _ _ _ _ hc q=>pow_int_small hc.1 hc.2.1 hc.2.2 q
theorem B7:gS X (binaryOp .RShift) (rI (λ_ j=>0<=j) λi j=>.int (i / 2 ^ j.toNat)):=U4 λi j _ _ _ _ _ hc q=>
 rshift_int hc (by rw [Int.fdiv_eq_ediv_of_nonneg i (B6 _)]; exact q)
theorem unI {g:Int->Int}
  (rule:∀ (i:Int) (t:Tok) (s:Shared) (Q:cW) (E:cW),Q (.int (g i) s.toks) { s with toks:=s.toks + 1 }->wpAny (model X.prog X.w) X.A (f (.int i t)) Q E s):
  Yx X f (rU λi=>.int (g i)):=by
 intro pins s σ H x v Q I rx h
 obtain ⟨i,rfl,q⟩:=h
 obtain ⟨t,rfl⟩:=rx
 exact rule i t s _ _ ⟨.int (g i),H,I.tok _,⟨_,rfl⟩,q⟩
theorem QT:Yx X (unaryOp .USub) (rU λi=>.int (-i)):=unI λ_ _ _ _ _ q=>neg_int q
end
section
variable {X:Cx} {a b c:Expr} {ta tb tc:TE} {pos:Pos}
theorem lZ:gS X (compareOp .Lt) (Ht λi j=>.bl (decide (i < j))):=LU λ_ _ _ _ _ _ _ q=>lt_int q
theorem mr:gS X (compareOp .LtE) (Ht λi j=>.bl (decide (i<=j))):=LU λ_ _ _ _ _ _ _ q=>le_int q
theorem pZ:gS X (compareOp .Gt) (Ht λi j=>.bl (decide (j < i))):=LU λ_ _ _ _ _ _ _ q=>gt_int q
theorem OR:gS X (compareOp .GtE) (Ht λi j=>.bl (decide (j<=i))):=LU λ_ _ _ _ _ _ _ q=>ge_int q
theorem gS.or (h:gS X f r) (h':gS X f r'):gS X f (λx y H Q=>r x y H Q \/ r' x y H Q):=by
 intro pins s σ H x y v u Q I rx ry q
 rcases q with q | q
 .exact h pins s σ H x y v u Q I rx ry q
 .exact h' pins s σ H x y v u Q I rx ry q
theorem bC (b:Expr) (h:op≠.In:=by decide) (h2:op≠.NotIn:=by decide):behindInMarks op b=false:=by
 have e1:(op == CmpOp.In)=false:=by cases op <;> first | rfl | exact absurd rfl h
 have e2:(op == CmpOp.NotIn)=false:=by cases op <;> first | rfl | exact absurd rfl h2
 cases b <;> simp [behindInMarks,e1,e2]
theorem LV (ho:gS X (compareOp op) r) (ha:PE X a ta) (hb:PE X b tb) (hm:behindInMarks op b=false):PE X (.Compare a [op] [b] pos) (TY r ta tb):=by
 intro pins s σ H Q I h
 exact wpAny_Compare1 (QP ha hb I h λv u s2 x y H2 I2 rx ry q=>ho pins s2 σ H2 x y v u Q I2 rx ry q) hm
def Hv (t:TE):TT:=λσ H Q=>t σ H λx H'=>∃ k,x=.bl k /\ Q k H'
theorem LW (ho:gS X (compareOp op) r) (ha:PE X a ta) (hb:PE X b tb) (hm:behindInMarks op b=false):PT X (.Compare a [op] [b] pos) (Hv (TY r ta tb)):=by
 intro pins s σ H Q I h
 refine wpAny_isTrue_Compare1 (dj (ha pins s σ H _ I h) λv s1 ⟨x,H1,I1,r1,q1⟩=>dj (hb pins s1 σ H1 _ I1 q1) λu s2 ⟨y,H2,I2,r2,q2⟩=>
  dj (ho pins s2 σ H2 x y v u _ I2 r1 r2 q2) λc s3 ⟨z,H3,I3,r3,k,e,q3⟩=>?_) hm
 subst e
 cases r3
 exact abk ⟨H3,I3,q3⟩
def B8 (r r':R2) (ta tb tc:TE):TE:=λσ H Q=>ta σ H λx H1=>tb σ H1 λy H2=>r x y H2 λz H3=>∃ k,z=.bl k /\
 (if k=true then tc σ H3 λw' H4=>r' y w' H4 Q else Q (.bl false) H3)
theorem Hw (ho:gS X (compareOp op) r) (uq:gS X (compareOp tX) r') (ha:PE X a ta) (hb:PE X b tb) (hc:PE X c tc)
  (hm:lastMarks [op,tX] [b,c]=false:=by with_unfolding_all rfl):PE X (.Compare a [op,tX] [b,c] pos) (B8 r r' ta tb tc):=by
 intro pins s σ H Q I h
 refine Compare_chain (dj (ha pins s σ H _ I h) λv s1 ⟨x,H1,I1,r1,q1⟩=>chain_link (dj (hb pins s1 σ H1 _ I1 q1) λu s2 ⟨y,H2,I2,r2,q2⟩=>
  dj (ho pins s2 σ H2 x y v u _ I2 r1 r2 q2) λd s3 ⟨z,H3,I3,r3,k,e,q3⟩=>?_)) hm
 subst e
 cases r3
 refine abk ?_
 cases k with
 | false=>exact ite_ff ⟨.bl false,H3,I3,rfl,q3⟩
 | true=>exact ite_tt (chain_last (dj (hc pins s3 σ H3 _ I3 q3) λw' s4 ⟨z',H4,I4,r4,q4⟩=>uq pins s4 σ H4 y z' u w' Q I4 r2 r4 q4))
theorem Hx (ho:gS X (compareOp op) r) (uq:gS X (compareOp tX) r') (ha:PE X a ta) (hb:PE X b tb) (hc:PE X c tc)
  (hm:lastMarks [op,tX] [b,c]=false:=by with_unfolding_all rfl):PT X (.Compare a [op,tX] [b,c] pos) (Hv (B8 r r' ta tb tc)):=by
 intro pins s σ H Q I h
 refine isTrue_chain (dj (ha pins s σ H _ I h) λv s1 ⟨x,H1,I1,r1,q1⟩=>test_link (dj (hb pins s1 σ H1 _ I1 q1) λu s2 ⟨y,H2,I2,r2,q2⟩=>
  dj (ho pins s2 σ H2 x y v u _ I2 r1 r2 q2) λd s3 ⟨z,H3,I3,r3,k,e,q3⟩=>?_)) hm
 subst e
 cases r3
 refine abk ?_
 cases k with
 | false=>
   obtain ⟨k',e',q'⟩:=q3
   cases e'
   exact ite_ff ⟨H3,I3,q'⟩
 | true=>
   refine ite_tt (test_last (dj (hc pins s3 σ H3 _ I3 q3) λw' s4 ⟨z',H4,I4,r4,q4⟩=>dj (uq pins s4 σ H4 y z' u w' _ I4 r2 r4 q4) λd' s5 ⟨z2,H5,I5,r5,k2,e2,q5⟩=>?_))
   subst e2
   cases r5
   exact abk ⟨H5,I5,q5⟩
def U6 (K:au) (x:V) (H:Hp) (k:Bool):Prop:=
 match x with
 | .ia=>k=false
 | .bl b=>k=b
 | .int i=>k=(i != 0)
 | .str y=>y.length<=sizeLine /\ k=((y.length:Int) != 0)
 | .UH y=>y.size<=sizeLine /\ k=((y.size:Int) != 0)
 | .ref p=>(∃ xs,kB K H p xs /\ k= !xs.isEmpty) \/ (∃ xs,k7 K H p xs /\ k= !xs.isEmpty) \/ ∃ bf,H p=some (.dK bf) /\ k= !bf.isEmpty
 | _=>False
theorem B9 (r:KV bf vs):(!vs.isEmpty)= !bf.isEmpty:=by
 cases r <;> rfl
theorem uw (r:bg xs its):(!its.toArray.isEmpty)= !xs.isEmpty:=by
 cases r <;> simp
theorem oE:(sizeLine:Nat) < 2 ^ 63:=by rw [acU]; decide
theorem QU:Yy X (λx H Q=>∃ k,U6 X.K x H k /\ Q k H):=by
 intro pins s σ H x v Q I rx h
 obtain ⟨k,e,q⟩:=h
 have hs:=acU
 cases x with
 | ia=>
   cases rx
   have e':=e
   subst e'
   exact truthy_none ⟨H,I,q⟩
 | bl b=>
   cases rx
   have e':=e
   subst e'
   exact abk ⟨H,I,q⟩
 | int i=>
   obtain ⟨t,rfl⟩:=rx
   have e':=e
   subst e'
   exact PySem.P.truthy_int ⟨H,I,q⟩
 | str y=>
   obtain ⟨t,rfl⟩:=rx
   obtain ⟨hy,e'⟩:y.length<=sizeLine /\ k=((y.length:Int) != 0):=e
   subst e'
   exact PySem.P.truthy_str (by lia) ⟨H,I.tok _,q⟩
 | UH y=>
   obtain ⟨t,rfl⟩:=rx
   obtain ⟨hy,e'⟩:y.size<=sizeLine /\ k=((y.size:Int) != 0):=e
   subst e'
   exact PySem.W.truthy_bytes (by lia) ⟨H,I.tok _,q⟩
 | ref p=>
   cases rx
   have e':=e
   rcases e' with ⟨xs,hx,e'⟩ | ⟨xs,hx,e'⟩ | ⟨bf,hx,e'⟩
   .subst e'
    obtain ⟨its,r,pl,hz⟩:=I.list hx
    have hlen:=r.length
    exact wpAny_truthy_list pl.isList (by simp only [aaI]; lia) ⟨H,I.tok _,by rw [uw r]; exact q⟩
   .subst e'
    obtain ⟨its,r,pl,hz⟩:=I.tuple hx
    have hlen:=r.length
    exact truthy_tuple pl (by simp only [aaI]; lia) ⟨H,I.tok _,by rw [uw r]; exact q⟩
   .subst e'
    obtain ⟨hz,hS,vs,r,m⟩:bf.length<=sizeLine /\ (p == sysModules)=false /\ ∃ vs,KV bf vs /\ s.heap.DictOf (eA X.prog X.w) p vs:=I.cm p _ hx
    have hlen:=Paired.length r
    exact wpAny_truthy_dict hS m (by lia) ⟨H,I.tok _,by rw [B9 r]; exact q⟩
 | _=>exact (show False from e).elim
theorem Hy (ha:PE X a ta) (he:∀ whole,isTrue a X.env whole=(do let v <- whole; standAt a.pos; holding [v] (truthy v))):
  PT X a (λσ H Q=>ta σ H λx H'=>∃ k,U6 X.K x H' k /\ Q k H'):=by
 intro pins s σ H Q I h
 exact isTrue_plain (dj (ha pins s σ H _ I h) λv s1 ⟨x,H1,I1,r1,q1⟩=>QU pins s1 σ H1 x v Q I1 r1 q1) (he _)
theorem Ca:gS X (binaryOp .Add) (λx y H Q=>∃ i j,x=.str i /\ y=.str j /\ i.length + j.length<=sizeLine /\ Q (.str (i ++ j)) H):=by
 intro pins s σ H x y v u Q I rx ry h
 obtain ⟨i,j,rfl,rfl,hz,q⟩:=h
 obtain ⟨t,rfl⟩:=rx
 obtain ⟨t',rfl⟩:=ry
 exact add_str (λt' tk=>⟨.str (i ++ j),H,I.tok _,⟨_,rfl⟩,q⟩) hz
theorem vals1 (r:bg [x] us):∃ u,us=[u] /\ RelV x u:=by
 cases r with
 | cons r1 r2=>cases r2; exact ⟨_,rfl,r1⟩
theorem vals2 (r:bg [x,y] us):∃ u w',us=[u,w'] /\ RelV x u /\ RelV y w':=by
 cases r with
 | cons r1 r2=>
   cases r2 with
   | cons r3 r4=>cases r4; exact ⟨_,_,rfl,r1,r3⟩
theorem jJ:fT X (.builtin "abs") (λxs H Q=>∃ i,xs=[.int i] /\ Q (.int (if i < 0 then -i else i)) H):=by
 intro pins s σ H xs us Q I r h
 obtain ⟨i,rfl,q⟩:=h
 obtain ⟨u,rfl,t,rfl⟩:=vals1 r
 exact call_abs_int λu tk=>⟨.int (if i < 0 then -i else i),H,I.tok _,⟨_,rfl⟩,q⟩
theorem xh (hc:X.calm=true):fT X (.builtin "max") (λxs H Q=>∃ i j,xs=[.int i,.int j] /\ Q (.int (if j > i then j else i)) H):=by
 intro pins s σ H xs us Q I r h
 obtain ⟨i,j,rfl,q⟩:=h
 obtain ⟨u,w',rfl,⟨t,rfl⟩,⟨t',rfl⟩⟩:=vals2 r
 refine max_two_ints (I.ok.hd hc) λh' tk k=>⟨_,H,I.kept k,?_,q⟩
 by_cases hj:j > i
 .rw [aaL hj,aaL hj]; exact ⟨_,rfl⟩
 .rw [aaO hj,aaO hj]; exact ⟨_,rfl⟩
theorem Fy (hc:X.calm=true):fT X (.builtin "min") (λxs H Q=>∃ i j,xs=[.int i,.int j] /\ Q (.int (if j < i then j else i)) H):=by
 intro pins s σ H xs us Q I r h
 obtain ⟨i,j,rfl,q⟩:=h
 obtain ⟨u,w',rfl,⟨t,rfl⟩,⟨t',rfl⟩⟩:=vals2 r
 refine min_two_ints (I.ok.hd hc) λh' tk k=>⟨_,H,I.kept k,?_,q⟩
 by_cases hj:j < i
 .rw [aaL hj,aaL hj]; exact ⟨_,rfl⟩
 .rw [aaO hj,aaO hj]; exact ⟨_,rfl⟩
theorem jD:fT X (.type "int") (λxs H Q=>(∃ i,xs=[.int i] /\ Q (.int i) H) \/ ∃ k,xs=[.bl k] /\ Q (.int (if k then 1 else 0)) H):=by
 intro pins s σ H xs us Q I r h
 rcases h with ⟨i,rfl,q⟩ | ⟨k,rfl,q⟩
 .obtain ⟨u,rfl,t,rfl⟩:=vals1 r
  exact call_int_int ⟨.int i,H,I,⟨_,rfl⟩,q⟩
 .obtain ⟨u,rfl,r1⟩:=vals1 r
  cases r1
  exact call_int_bool ⟨.int (if k then 1 else 0),H,I.tok _,⟨_,rfl⟩,q⟩
end
structure QV (h:Heap) (x dx C:Addr) (mA:dG):Prop where
 obj:h.get? x=some (PySem.W.instObj C dx)
 ns:h.Ns1 dx mA
 ne:dx≠x
set_option tactic.hygienic true in
theorem Fz {h:Heap} (n:h.Ns1 dx mA):∃ od,h.get? dx=some od /\ ∀ name,PySem.W.lookIn name od=some (mA name):=by
 obtain ⟨o,es,ep,ho,hd,hk,_,hm⟩:=n
 refine ⟨o,ho,λname=>?_⟩
 have e:=hm name
 unfold nsFind findBy at e
 rw [<- Array.find?_toList] at e
 unfold PySem.W.lookIn
 rw [hd]
 dsimp only
 split
 .grind
 .rename_i q
  rw [q] at e
  have a:es.toList.any (·.refKey)=false:=by
   rw [List.any_eq_false]
   intro y hy
   obtain ⟨z,t,Yz⟩:=hk y (Array.mem_toList_iff.mp hy)
   simp [DictEntry.refKey,Yz]
  have a':¬ es.toList.any (·.refKey)=true:=by rw [a]; exact aaW
  rw [aaO a']
  exact abJ some e
theorem QV.look (I:QV h x dx C mA):∃ od,PySem.W.InstAt h x (PySem.W.instObj C dx) C (some od) /\ ∀ name,PySem.W.lookIn name od=some (mA name):=
 let ⟨od,ho,hl⟩:=Fz I.ns
 ⟨od,⟨I.obj,rfl,rfl,ho⟩,hl⟩
section
variable {prog:Program} {w:World} {A:Around} {E:cW} {s:Shared} {K:au} {x dx C f:Addr} {mA:dG} {name:Str} {v:Value}
end
theorem qZ.some_of (r:qZ (some v) o):∃ u,o=some u /\ RelV v u:=by
 cases o with
 | none=>exact (show False from r).elim
 | some u=>exact ⟨u,rfl,r⟩
section
variable {P:Program} {w:World} {H H':Hp} {h h':Heap} {a C dx:Addr} {fs fs':List (Str×V)}
theorem LX (cm:ml P w H h) (e:H a=some (.ins C dx fs)):∃ mA,QV h a dx C mA /\ (∀ f,qZ (fs.lookup f) (mA f)) /\ PySem.Within mA (fs.map (·.1)) /\ fs.length<=1000 /\ H dx=some (.own a):=by
 obtain ⟨d,z,ne,ob,mA,n,r,q⟩:=(show cN P w H h a (.ins C dx fs) from cm a _ e)
 exact ⟨mA,⟨ob,n,ne⟩,r,q,z,d⟩
end
structure YA (K:au) (C:Addr):Prop where
 pg:PySem.W.plainGet K C Str.empty=true
 hd:PySem.W.hasDictIn K C=true
 po:PySem.W.plainOver K C=true
 sa:PySem.W.findIn K (.ref C) "__setattr__"=some (some (.builtin "object.__setattr__"))
theorem YA.get {K:au} (c:YA K C) (f:Str):PySem.W.plainGet K C f=true:=c.pg
section
variable {X:Cx} {pins:cq} {σ:St} {H:Hp} {s:Shared} {a C dx:Addr} {fs:List (Str×V)} {f:Str} {v:V} {A:Around} {E:cW}
end
section
variable {X:Cx} {o e value:Expr} {f:Str} {pos pos' ma:Pos} {ta tv:TE}
end
section
variable {X:Cx} {pins:cq} {σ:St} {H:Hp} {s:Shared} {A:Around} {E:cW} {Q:cW} {c:Value} {b:Bool}
inductive rh (K:au) (H:Hp):V->Value->Prop where
 | ia:rh K H .ia (.type "NoneType")
 | bl (x:Bool):rh K H (.bl x) (.type "bool")
 | int (i:Int):rh K H (.int i) (.type "int")
 | str (x:Str):rh K H (.str x) (.type "str")
 | TR (x:UInt64):rh K H (.TR x) (.type "float")
 | lst {a:Addr} {xs:List V} (e:H a=some (.lst xs)):rh K H (.ref a) (.type "list")
 | wz {a:Addr} {o:Obj} {xs:List V} (e:H a=some (.wz o (.lst xs))):rh K H (.ref a) (.type "list")
 | tup {a:Addr} {xs:List V} (e:H a=some (.tup xs)):rh K H (.ref a) (.type "tuple")
 | dK {a:Addr} {bf:List (Key×V)} (e:H a=some (.dK bf)):rh K H (.ref a) (.type "dict")
 | dT {a:Addr} {bf:List (List Key×V)} (e:H a=some (.dT bf)):rh K H (.ref a) (.type "dict")
 | ins {a C dx:Addr} {fs:List (Str×V)} (e:H a=some (.ins C dx fs)) (cl:YA K C) (ha:PySem.W.findIn K (.ref C) "__class__"=some (some (.builtin "object.__class__")))
   (hn:PySem.W.specialIn K (.builtin "object.__class__") "__get__"=some (some (.builtin "getset_descriptor.__get__"))) (htk:PySem.W.takesIn K (.builtin "object.__class__")=some true)
   (hm:PySem.W.mroIn K C (.type "object")=some true):rh K H (.ref a) (.ref C)
theorem FA (I:Inv X pins σ H s) (rx:RelV x u) (ty:rh X.K H x t) (e:PySem.W.kitOne X.K t c=some b) (h:∀ tk,Q (.bool b) { s with toks:=tk }):
  wpAny (model X.prog X.w) A (call (.builtin "isinstance") [u,c]) Q E s:=by
 cases ty with
 | ia=>cases (show u=Value.none from rx); exact aby PySem.W.kitx_none I.oB True.intro e (λz=>nomatch z) h
 | bl y=>cases (show u=Value.bool y from rx); exact aby PySem.W.kitx_bool I.oB True.intro e (λz=>nomatch z) h
 | int i=>obtain ⟨t,q⟩:=(show ∃ t,u=Value.int i t from rx); cases q; exact aby PySem.W.kitx_int I.oB True.intro e (λz=>nomatch z) h
 | str y=>obtain ⟨t,q⟩:=(show ∃ t,u=Value.str y t from rx); cases q; exact aby PySem.W.kitx_str I.oB True.intro e (λz=>nomatch z) h
 | TR y=>obtain ⟨t,q⟩:=(show ∃ t,u=Value.float y t from rx); cases q; exact aby PySem.W.kitx_float I.oB True.intro e (λz=>nomatch z) h
 | @lst a xs ea=>
   cases (show u=Value.ref a from rx)
   obtain ⟨_,_,n,_,h1⟩:=(show cN X.prog X.w H s.heap a (.lst xs) from I.cm a _ ea)
   exact aby aei I.oB ⟨_,h1,rfl⟩ e (λz=>nomatch z) h
 | @wz a ob xs ea=>
   cases (show u=Value.ref a from rx)
   obtain ⟨_,_,_,n,_,h1⟩:=(show cN X.prog X.w H s.heap a (.wz ob (.lst xs)) from I.cm a _ ea)
   exact aby aei I.oB ⟨_,h1,rfl⟩ e (λz=>nomatch z) h
 | @tup a xs ea=>
   cases (show u=Value.ref a from rx)
   obtain ⟨_,_,_,p⟩:=(show cN X.prog X.w H s.heap a (.tup xs) from I.cm a _ ea)
   obtain ⟨o,h1,h2,_⟩:=p
   exact aby PySem.W.kitx_tuple I.oB ⟨o,h1,h2⟩ e (λz=>nomatch z) h
 | @dK a bf ea=>
   cases (show u=Value.ref a from rx)
   obtain ⟨_,_,vs,_,p⟩:=(show cN X.prog X.w H s.heap a (.dK bf) from I.cm a _ ea)
   obtain ⟨o,es,ep,h1,h2,_⟩:=p
   exact aby PySem.W.kitx_dict I.oB ⟨o,h1,h2.1⟩ e (λz=>nomatch z) h
 | @dT a bf ea=>
   cases (show u=Value.ref a from rx)
   obtain ⟨_,_,xs,_,o,es,ep,h1,h2,_⟩:=(show cN X.prog X.w H s.heap a (.dT bf) from I.cm a _ ea)
   exact aby PySem.W.kitx_dict I.oB ⟨o,h1,h2.1⟩ e (λz=>nomatch z) h
 | @ins a C dx fs ea cl ha hn htk hm=>
   cases (show u=Value.ref a from rx)
   obtain ⟨mA,O,_⟩:=LX I.cm ea
   obtain ⟨od,J,_⟩:=O.look
   exact aby (PySem.W.kitx_own (cl.get _) cl.hd ha hn htk hm) I.oB J e (λz=>nomatch z) h
end
structure dH (k:Nat) (A:Around):Prop where
 hd:A.handled=none
 dp:A.depth + 3 * k + 5 < recursionLimit
 un:A.units + 16 * k + 200 < cLine
theorem dH.mono (r:dH k A) (h:j<=k):dH j A:=⟨r.hd,by have:=r.dp; lia,by have:=r.un; lia⟩
theorem dH.deeper (r:dH (k + 1) A) (env:Env):dH k (A.deeper env):=
 ⟨r.hd,by have:=r.dp; show A.depth + 1 + 3 * k + 5 < _; lia,by have:=r.un; show A.units + 3 + 16 * k + 200 < _; lia⟩
theorem dH.in1 (r:dH (k + 1) A):dH k A.in1:=
 ⟨r.hd,by have:=r.dp; show A.depth + 3 * k + 5 < _; lia,by have:=r.un; show A.units + 1 + 16 * k + 200 < _; lia⟩
theorem dH.depth (r:dH k A):A.depth < recursionLimit:=by have:=r.dp; lia
theorem dH.units (r:dH k A):A.units + 64 < cLine:=by have:=r.un; lia
def LY:TA:=λ_ H Q=>Q [] H
def Ar (ta:TE) (tr:TA):TA:=λσ H Q=>ta σ H λx H1=>tr σ H1 λxs H2=>Q (x :: xs) H2
section
variable {X:Cx} {e:Expr} {es:List Expr} {te:TE} {t:TA} {pos:Pos}
theorem c6:PA X [] LY:=λ_ _ _ _ H Q I h=>Calls.spliced_nil ⟨[],H,I,.nil,h⟩
theorem bE (ha:PE X e te) (hr:PA X es t) (hs:starEach (e :: es) X.env=(false,eval e X.env) :: starEach es X.env:=by rfl):PA X (e :: es) (Ar te t):=by
 intro pos pins s σ H Q I h
 rw [hs]
 refine adh (dj (ha pins s σ H _ I h) λu s1 ⟨x,H1,I1,r1,q1⟩=>?_)
 exact dj (hr pos pins s1 σ H1 _ I1 q1) λus s2 ⟨xs,H2,I2,r2,q2⟩=>⟨x :: xs,H2,I2,.cons r1 r2,q2⟩
def YB (t:TA):TE:=λσ H Q=>t σ H λxs H1=>xs.length<=sizeLine /\ ∀ p,H1 p=none->Q (.ref p) (upd H1 p (.tup xs))
def YC (t:TA):TE:=λσ H Q=>t σ H λxs H1=>xs.length<=sizeLine /\ ∀ p,H1 p=none->Q (.ref p) (upd H1 p (.lst xs))
theorem Hz (h:PA X es t):PE X (.Tuple es x1 pos) (YB t):=by
 intro pins s σ H Q I hq
 refine wpAny_Tuple_spliced (dj (h pos pins s σ H _ I hq) λus s1 ⟨xs,H1,I1,r,z,q⟩=>⟨by rw [<- r.length]; exact z,?_⟩)
 have hf:=I1.cm.fresh (aaF _)
 refine ⟨.ref s1.heap.objs.size,upd H1 s1.heap.objs.size (.tup xs),I1.laid (t':=s1.toks) (λb u e=>aab _ e) (aaF _) ?_,rfl,q _ hf⟩
 exact ⟨z,us,r,⟨_,aaH _ rfl,rfl,_,rfl⟩⟩
theorem QW (h:PA X es t):PE X (.List es pos) (YC t):=by
 intro pins s σ H Q I hq
 refine wpAny_List_spliced (dj (h pos pins s σ H _ I hq) λus s1 ⟨xs,H1,I1,r,z,q⟩=>⟨by rw [<- r.length]; exact z,?_⟩)
 have hf:=I1.cm.fresh (aaF _)
 refine ⟨.ref s1.heap.objs.size,upd H1 s1.heap.objs.size (.lst xs),I1.laid (t':=s1.toks) (λb u e=>aab _ e) (aaF _) ?_,rfl,q _ hf⟩
 exact ⟨z,us,0,r,aaH _ rfl⟩
end
abbrev Sp:=List V->Hp->VK->XK->Prop
abbrev LZ:=List Env->Hp->Shared->XK->cW
structure Cb (P:Program) (w:World) (K:au) (mg:dG) (base:Heap) (A:Around) (outer:List Env) (s:Shared) (H:Hp):Prop where
 frames:A.frames=some outer
 mod:Mod K mg base
 bs:∀ b o,base.get? b=some o->s.heap.get? b=some o /\ H b=none
 xY:base.objs.size<=s.heap.objs.size
 jH:s.heap.FunFrames base outer
 B1:∀ b∈ke outer,H b=none
 cm:ml P w H s.heap
 bare:AllBare s.gens
def CE (outer:List Env) (P:Program) (w:World) (H:Hp) (s:Shared) (Q:VK) (u:Value) (s':Shared):Prop:=
 ∃ v H',s'.os=s.os /\ AllBare s'.gens /\ Un (ke outer) [] H H' s.heap s'.heap /\ ml P w H' s'.heap /\ RelV v u /\ Q v H'
def CR (CX:LZ) (outer:List Env) (P:Program) (w:World) (H:Hp) (s:Shared) (Q:VK) (E:XK) (r:Result) (s':Shared):Prop:=
 match r with
 | .ok (.ret u)=>CE outer P w H s Q u s'
 | .ok _=>False
 | .error e=>CX outer H s E e s'
structure nU (P:Program) (w:World) (K:au) (mg:dG) (base:Heap) (CX:LZ) (k:Nat) (f:Addr) (fd:FuncData) (ps:List Str) (sp:Sp):Prop where
 len:∀ vs H Q E,sp vs H Q E->vs.length=ps.length
 run:∀ (A:Around) (outer:List Env) (s:Shared) (H:Hp) (args:Args) (us:cc) (vs:List V) (Q:VK) (E:XK),dH k A->Cb P w K mg base A outer s H->BindsTo s fd args (ps.zip us)->bg vs us->sp vs H Q E->
  codeAny (model P w) A (.call (.ref f) args) (CR CX outer P w H s Q E) s
section
variable {X:Cx} {pins:cq} {σ:St} {H:Hp} {s s':Shared}
theorem Inv.U7 (I:Inv X pins σ H s):Cb X.prog X.w X.K X.mg X.base X.A X.stack s H:=
 ⟨I.ok.frames,I.ok.mod,I.bs,aa6 I.ok.xY I.sz,I.stack,I.tV,I.cm,I.bare⟩
theorem Inv.after (I:Inv X pins σ H s) (h:CE X.stack X.prog X.w H s Q u s'):EP X pins σ Q u s':=by
 obtain ⟨v,H',os,bare,un,cm,r,q⟩:=h
 obtain ⟨hh,g,d,t,YD⟩:=s'
 obtain rfl:YD=s.os:=os
 exact ⟨v,H',I.call (h':=hh) (g':=g) (d':=d) (t':=t) (ch:=[]) un cm bare (λb z=>absurd z (by simp)),r,q⟩
end
def xi (sp:Sp) (QX:List V) (E:XK) (t:TA):TE:=λσ H Q=>t σ H λvs H1=>sp (vs ++ QX) H1 Q E
def Binds (K:au) (fd:FuncData) (ps:List Str) (ds:cc):Prop:=
 ∀ (s:Shared) (us:cc),K.In s.heap->(us ++ ds).length=ps.length->BindsTo s fd ⟨us,[]⟩ (ps.zip (us ++ ds))
theorem Binds.all {K:au} (h:∀ us:cc,us.length=ps.length->bindArgs fd ⟨us,[]⟩=pure (ps.zip us)):Binds K fd ps []:=λs us _ hl=>by
 rw [abh] at hl ⊢
 exact .of_eq (h us hl)
def rj (CX:LZ) (X:Cx) (E:XK):Prop:=∀ (pins:cq) (σ:St) (H:Hp) (s:Shared) (e:Value) (s':Shared),Inv X pins σ H s->CX X.stack H s E e s'->X.xe e s'
section
variable {X:Cx} {CX:LZ} {k:Nat} {f C:Addr} {fd:FuncData} {ps:List Str} {sp:Sp} {QX:List V} {ds:cc} {E:XK} {x m:Str} {p pos apos:Pos} {e o:Expr} {es:List Expr} {ta:TE} {t:TA}
theorem QY (F:nU X.prog X.w X.K X.mg X.base CX k f fd ps sp) (hr:dH k X.A) (hb:Binds X.K fd ps ds) (hd:bg QX ds) (hx:rj CX X E)
  (I:Inv X pins σ H s) (r:bg vs us) (h:sp (vs ++ QX) H Q E):wpAny (model X.prog X.w) X.A (call (.ref f) us) (EP X pins σ Q) X.xe s:=by
 have r2:=r.append hd
 have hl:(us ++ ds).length=ps.length:=by rw [<- r2.length]; exact F.len _ _ _ _ h
 refine wpAny_call (ack (F.run X.A X.stack s H ⟨us,[]⟩ (us ++ ds) (vs ++ QX) Q E hr I.U7 (hb s us I.oB hl) r2 h) λr s' hq=>?_)
 cases r with
 | error e=>exact hx pins σ H s e s' I hq
 | ok fl=>
   cases fl with
   | ret u=>exact I.after hq
   | next=>exact False.elim hq
   | brk=>exact False.elim hq
   | cont=>exact False.elim hq
theorem D6 (F:nU X.prog X.w X.K X.mg X.base CX k f fd ps sp) (hr:dH k X.A) (hg:Gl X x) (hm:X.mg x=some (.ref f)) (hk:PySem.W.keepIn X.K (.ref f)=true) (hb:Binds X.K fd ps ds) (hd:bg QX ds) (hx:rj CX X E)
  (ha:PA X (e :: es) t) (tw:(x == ("__debug__":Str))=false:=by decide) (he:starEach (e :: es) X.env=(false,eval e X.env) :: starEach es X.env:=by rfl) (kf:(backTo pos (starEach es X.env)).any (·.1)=false:=by rfl):
  PE X (.Call (.Name x p) (e :: es) [] pos) (xi sp QX E t):=by
 intro pins s σ H Q I h
 refine acd (pW I hg hm ?_ tw)
 refine PySem.W.callWith_K (h₀:=X.base) I.ok.mod.TU hk (dj (ha pos pins s σ H _ I h) λus s1 ⟨vs,H1,I1,r,q⟩=>⟨I1.oB,?_⟩) he kf
 exact QY F hr hb hd hx I1 r q
end
section
variable {X:Cx} {CX:LZ} {k:Nat} {f C:Addr} {fd:FuncData} {ps ks:List Str} {sp:Sp} {E:XK} {x m:Str} {p pos apos aca:Pos} {e o:Expr} {es:List Expr} {kws:List Keyword} {te ta:TE} {t tk:TA} {nm:Option Str}
variable {g:List Value->List Value->cc} {gV:List V->List V->List V}
end
structure aA (N P:List Str) (sc:Scope):Prop where
 kind:sc.kind=.function
 co:sc.isCoroutine=false
 gen:sc.isGenerator=false
 nd:N.Nodup
 pre:N.take P.length=P
 par:∀ x∈P,sc.names.lookup x=some .local \/ sc.names.lookup x=some .cell
 QZ:∀ y∈sc.names,y.2≠.free
theorem xj {kindOf:Str->Option NameKind} :∀ {binds:List (Str×Value)} {m:dG},(∀ v,(x,v)∉binds)->bindL kindOf binds m x=m x
 | [],_,_=>rfl
 | (n,v) :: r,m,h=>by
   unfold bindL
   rw [xj λw hw=>h w (aaE _ hw)]
   split
   .have:x≠n:=by rintro rfl; exact h v aaD
    simp [this]
   .rfl
theorem xl {kindOf:Str->Option NameKind} :∀ {binds:List (Str×Value)} {m:dG},(∀ v,(x,v)∉binds)->bindC kindOf binds m x=m x
 | [],_,_=>rfl
 | (n,v) :: r,m,h=>by
   unfold bindC
   rw [xl λw hw=>h w (aaE _ hw)]
   split
   .rfl
   .have:x≠n:=by rintro rfl; exact h v aaD
    simp [this]
theorem xm {kindOf:Str->Option NameKind} :∀ {P:List Str} {vs:cc} {i:Nat} {m:dG},P.Nodup->P[i]?=some x->vs[i]?=some v->kindOf x=some .local->
  bindL kindOf (P.zip vs) m x=some v
 | [],_,_,_,_,h,_,_=>by simp at h
 | _ :: _,[],_,_,_,_,h,_=>by simp at h
 | p :: P,w :: vs,0,m,nd,h1,h2,hk=>by
   simp at h1 h2; subst h1; subst h2
   show bindL kindOf ((p,w) :: P.zip vs) m p=_
   unfold bindL
   rw [xj λv hv=>(adM.mp nd).1 (ab9 hv).1,aaL hk]
   simp
 | p :: P,w :: vs,i + 1,m,nd,h1,h2,hk=>by
   show bindL kindOf ((p,w) :: P.zip vs) m x=_
   exact xm (i:=i) (List.nodup_cons.mp nd).2 (by simpa using h1) (by simpa using h2) hk
theorem xn {kindOf:Str->Option NameKind} :∀ {P:List Str} {vs:cc} {i:Nat} {m:dG},P.Nodup->P[i]?=some x->vs[i]?=some v->kindOf x≠some .local->
  bindC kindOf (P.zip vs) m x=some v
 | [],_,_,_,_,h,_,_=>by simp at h
 | _ :: _,[],_,_,_,_,h,_=>by simp at h
 | p :: P,w :: vs,0,m,nd,h1,h2,hk=>by
   simp at h1 h2; subst h1; subst h2
   show bindC kindOf ((p,w) :: P.zip vs) m p=_
   unfold bindC
   rw [xl λv hv=>(adM.mp nd).1 (ab9 hv).1,aaO hk]
   simp
 | p :: P,w :: vs,i + 1,m,nd,h1,h2,hk=>by
   show bindC kindOf ((p,w) :: P.zip vs) m x=_
   exact xn (i:=i) (List.nodup_cons.mp nd).2 (by simpa using h1) (by simpa using h2) hk
def start (N:List Str) (vs:List V):St:=vs.map some ++ List.replicate (N.length - vs.length) none
def jk (CX:LZ) (P:Program) (w:World) (K:au) (mg:dG) (base:Heap) (N:List Str) (qual:Str) (scope:Scope) (f:Addr) (cd:Value) (A:Around) (outer:List Env) (s:Shared) (H:Hp) (E:XK):Cx where
 prog:=P
 w:=w
 K:=K
 mg:=mg
 base:=base
 A:=A.deeper (envOfC qual scope s.heap.objs.size f cd)
 N:=N
 gQ:=s
 Fs:=H
 env:=envOfC qual scope s.heap.objs.size f cd
 outer:=outer
 stack:=envOfC qual scope s.heap.objs.size f cd :: outer
 ex:=[]
 calm:=true
 fn:=λ_=>true
 pn:=[]
 xe:=λe s'=>wpAny (model P w) (A.deeper (envOfC qual scope s.heap.objs.size f cd)) (leaving (envOfC qual scope s.heap.objs.size f cd) e) (λ_ L3=>CX outer H s E e L3) (λe' L3=>CX outer H s E e' L3) s'
theorem As {sc:Scope} (h:sc.names.lookup x=some .cell):∃ c,(cellsFrom n sc.names []).lookup x=some c:=by
 have q:=PySem.W.cellsFrom_some sc.names n [] (.inl h)
 exact ac7.mp q
theorem xo {K:au} 
  (S:aA N ps scope) (hd:A.handled=none) (e0:Cb P w K mg base A outer s H) (hl:vs.length=ps.length) (r:bg vs us)
  (x:InCallC s s.heap.objs.size (bindL (envOfC qual scope s.heap.objs.size f cd).kindOf (ps.zip us) λ_=>none) (cellsFrom (s.heap.objs.size + 1) scope.names []) (bindC (envOfC qual scope s.heap.objs.size f cd).kindOf (ps.zip us) λ_=>none) s1):
  Inv (jk CX P w K mg base N qual scope f cd A outer s H E) [] (start N vs) H s1:=by
 have kf:ps.length<=N.length:=by have:=abJ List.length S.pre; rw [abn] at this; lia
 obtain ⟨h1,tk,rfl,hk⟩:=x.done
 have L4:∀ b:Addr,b∉(jk CX P w K mg base N qual scope f cd A outer s H E).ex:=λb z=>absurd (show b∈([]:List Addr) from z) (by simp)
 refine ⟨⟨e0.mod,S.kind,rfl,rfl,aaF _,λy z c h1 h2=>?_,λy hy=>?_,λy c _ h=>?_,λ_=>hd,adJ e0.frames,.inr ⟨rfl,rfl⟩,λb z=>absurd z (L4 b),e0.bs,e0.xY,λb _ _=>L4 b,λb z=>absurd z (L4 b),e0.jH,e0.B1⟩,
  rfl,e0.bare,Un.kept hk,⟨_,x.toInCall.ns,λi y v h1 h2 h3=>?_⟩,λy c h=>⟨_,x.cell y c h⟩,e0.cm.fresh (aaF _),λy c h=>?_,λp hp=>absurd (show p∈([]:cq) from hp) (by simp),e0.cm.kept hk,?_⟩
 .exact name_of_addr x.apart (abQ h1) (abQ h2)
 .have hy:scope.names.lookup y=some .cell \/ scope.names.lookup y=some .free:=hy
  rcases hy with hy | hy
  .exact As hy
  .exact absurd rfl (S.QZ _ (abQ hy))
 .exact abM (x.above y c (abQ h))
 .have hi:i < vs.length:=by
   unfold start at h2
   by_cases hi:i < vs.length
   .grind
   .grind
  have ha:vs[i]?=some v:=by
   unfold start at h2
   rw [List.getElem?_append_left (by simpa using hi),List.getElem?_map] at h2
   cases e:vs[i]? with
   | none=>rw [e] at h2; cases h2
   | some a=>rw [e] at h2; cases h2; rfl
  obtain ⟨u,hu,rv⟩:=r.get ha
  have hp:ps[i]?=some y:=by
   rw [<- S.pre,List.getElem?_take_of_lt (by lia)]; exact h1
  have ndP:ps.Nodup:=by rw [<- S.pre]; exact S.nd.sublist (aek _ _)
  refine ⟨u,rv,?_⟩
  rcases S.par y (aaP hp) with k | k
  .exact .inl ⟨k,xm ndP hp hu k⟩
  .obtain ⟨c,e⟩:=As (n:=s.heap.objs.size + 1) k
   refine .inr ⟨.inl k,c,e,?_⟩
   have q:=x.cell y c e
   rw [xn ndP hp hu (by show scope.names.lookup y≠_; rw [k]; decide)] at q
   exact q
 .exact e0.cm.fresh (abM (x.above y c (abQ h)))
 .unfold start
  show _=N.length
  rw [aa7,aax,acu]
  lia
theorem HA {K:au} {dV kV doc pm cx ct oc:Value} 
  (lk:K.lookup f=some ⟨oc,od,.func (PySem.W.fnOf name qual params body scope dV kV doc pm an cx ct),FC⟩) (qY:PySem.W.codeIn K cx qual=true) (S:aA N ps scope)
  (len:∀ vs H Q E,sp vs H Q E->vs.length=ps.length)
  (jK:∀ (A:Around) (outer:List Env) (s:Shared) (H:Hp) (vs:List V) (Q:VK) (E:XK),dH k (A.deeper (envOfC qual scope s.heap.objs.size f cx))->sp vs H Q E->
   ∃ t,mn (jk CX P w K mg base N qual scope f cx A outer s H E) body t /\ t { nx:=λ_ H'=>Q .ia H',rt:=Q } (start N vs) H):
  nU P w K mg base CX (k + 1) f (PySem.W.fnOf name qual params body scope dV kV doc pm an cx ct) ps sp:=by
 refine ⟨len,λA outer s H args us vs Q E hr e0 hb r Au=>?_⟩
 have hl:=len _ _ _ _ Au
 have KX:=e0.mod.TU.keeps λb o e=>(e0.bs b o e).1
 have lim:=e0.mod.nolimit.keeps λb o e=>(e0.bs b o e).1
 have HB:∀ y∈ps.zip us,scope.names.lookup y.1=some .local \/ (scope.names.lookup y.1=some .cell /\ ((cellsFrom (s.heap.objs.size + 1) scope.names []).lookup y.1).isSome=true):=λ⟨n,v⟩ hy=>by
  rcases S.par n (ab9 hy).1 with q | q
  .grind
  .exact .inr ⟨q,PySem.W.cellsFrom_some _ _ _ (.inl q)⟩
 refine codeAny_call_function hr.depth (KX _ _ lk) rfl S.co S.gen rfl (PySem.W.codeRec_of KX qY) (hb _ _ _ _ ?_)
 refine wpAny_newFunctionEnv_cells S.kind HB λenv he s1 x=>?_
 subst he
 refine ⟨lim.keeps x.toInCall.keep,codeAny_func ?_⟩
 obtain ⟨t,ht,hq⟩:=jK A outer s H vs Q E (hr.deeper _) Au
 have I:Inv (jk CX P w K mg base N qual scope f cx A outer s H E) [] (start N vs) H s1:=xo S hr.hd e0 hl r x
 refine aa5 (ht [] s1 (start N vs) H _ I hq) (λfl s' hs=>?_) λe s' hs=>hs
 have fin:∀ {dw:St} {H':Hp} {v:V} {u:Value},Inv (jk CX P w K mg base N qual scope f cx A outer s H E) [] dw H' s'->RelV v u->Q v H'->CE outer P w H s Q u s':=
  λ{dw H' v u} J rv q=>⟨v,H',J.os,J.bare,J.base,J.cm,rv,q⟩
 cases fl with
 | ret u=>
   obtain ⟨v,dw,H',J,rv,q⟩:=hs
   exact fin J rv q
 | next=>
   obtain ⟨dw,H',J,q⟩:=hs
   exact fin (v:=V.ia) (u:=Value.none) J rfl q
 | brk=>
   obtain ⟨_,_,_,q⟩:=hs
   exact False.elim q
 | cont=>
   obtain ⟨_,_,_,q⟩:=hs
   exact False.elim q
section
variable {X:Cx} {x:Str} {p pos:Pos} {e:Expr} {es:List Expr} {t:TA} {id T:String} {r:List V->Hp->VK->Prop}
def Xo (r:List V->Hp->VK->Prop) (t:TA):TE:=λσ H Q=>t σ H λvs H1=>r vs H1 Q
theorem mw (hc:fT X (.builtin id) r) (hg:Gl X x) (hm:X.mg x=none) (hv:bootBuiltins x=some (.builtin id)) (ha:PA X (e :: es) t) (hn:x≠"__name__":=by decide) (tw:(x == ("__debug__":Str))=false:=by decide)
  (he:starEach (e :: es) X.env=(false,eval e X.env) :: starEach es X.env:=by rfl) (kf:(backTo pos (starEach es X.env)).any (·.1)=false:=by rfl):PE X (.Call (.Name x p) (e :: es) [] pos) (Xo r t):=by
 intro pins s σ H Q I h
 refine acd (jI I hg hm hv ?_ hn tw)
 exact PyProof.Rows.callWith_builtin1 (dj (ha pos pins s σ H _ I h) λus s1 ⟨vs,H1,I1,r1,q1⟩=>hc pins s1 σ H1 vs us Q I1 r1 q1) he kf
theorem rm (hc:fT X (.type T) r) (hg:Gl X x) (hm:X.mg x=none) (hv:bootBuiltins x=some (.type T)) (ha:PA X (e :: es) t) (hn:x≠"__name__":=by decide) (tw:(x == ("__debug__":Str))=false:=by decide)
  (he:starEach (e :: es) X.env=(false,eval e X.env) :: starEach es X.env:=by rfl) (kf:(backTo pos (starEach es X.env)).any (·.1)=false:=by rfl):PE X (.Call (.Name x p) (e :: es) [] pos) (Xo r t):=by
 intro pins s σ H Q I h
 refine acd (jI I hg hm hv ?_ hn tw)
 exact abv (dj (ha pos pins s σ H _ I h) λus s1 ⟨vs,H1,I1,r1,q1⟩=>hc pins s1 σ H1 vs us Q I1 r1 q1) he kf
end
end L2
namespace HT
open PySem PyProof.Rows
section
open PySem.SeqAt
open PySem.AutoSeq1 (wpAny_loadPart')
open PySem.MeetsSeq PySem.MeetsSeq2 PySem.MeetsSeq3
end
section
variable {prog:Program} {w:World} {A:Around} {E:cW} {s:Shared}
theorem L5 (ht:IsTup s.heap t vs.toArray) (hb:IsTup s.heap b ws.toArray) (hv:vs≠[])
  (h1:ws=[]->Q (.ref t) s) (h2:ws≠[]->Q (.ref s.heap.objs.size) { s with heap:=s.heap.push { cls:=.type "tuple",data:=.seq (vs ++ ws).toArray } })
  (hsz:vs.length + ws.length<=sizeLine):wpAny (model prog w) A (binaryOp .Add (.ref t) (.ref b)) Q E s:=by
 obtain ⟨⟨cls,dd,data,sl⟩,ho,hc,n,hd⟩:=id ht
 obtain ⟨⟨acb,dd2,data2,Q0⟩,gP,U8,n2,hd2⟩:=id hb
 subst hc hd U8 hd2
 have e:vs.toArray ++ ws.toArray=(vs ++ ws).toArray:=by simp
 by_cases hw:ws=[]
 .exact concat_meets ⟨_,ho,rfl⟩ ⟨_,gP,rfl⟩ noFill_tuple_add seq_tuple_add adq adl (ac8 _ _)
   (tuple_addW1 t b vs.toArray ws.toArray n n2 dd dd2 sl Q0 (by simpa using hv) (by simp [hw])) ⟨ho,gP,h1 hw⟩
 .refine concat_meets ⟨_,ho,rfl⟩ ⟨_,gP,rfl⟩ noFill_tuple_add seq_tuple_add adq adl (ac8 _ _)
   (tuple_addW2 t b vs.toArray ws.toArray n n2 dd dd2 sl Q0 (by simpa using hv) (by simpa using hw) (by rw [List.size_toArray,List.size_toArray]; exact hsz)) ⟨ho,gP,?_⟩
  rw [e]
  exact h2 hw
def wF (n d:Nat):Option Int->Nat
 | none=>d
 | some v=>if v < 0 then (v + (n:Int)).toNat else min v.toNat n
end
end HT
namespace L2
open PySem PySem.Spec PyProof.Rows
abbrev TO:=St->Hp->(Option Int->Hp->Prop)->Prop
def PO (X:Cx) (e:Option Expr) (t:TO):Prop:=
 ∀ (pins:cq) (s:Shared) (σ:St) (H:Hp) (Q:Option Int->Hp->Prop),Inv X pins σ H s->t σ H Q->
   wpAny (model X.prog X.w) X.A (evalPart e X.env) (λu s'=>∃ o H',Inv X pins σ H' s' /\ IsPart u o /\ Q o H') X.xe s
def U9 (t:TE):TO:=λσ H Q=>t σ H λx H1=>∃ i,x=.int i /\ Q (some i) H1
theorem intsAre_of:∀ {us:cc},bg (ns.map V.int) us->IntsAre us ns:=by
 induction ns with
 | nil=>intro us r; rw [aeK] at r; cases r; exact .nil
 | cons n ns ih=>
   intro us r
   cases r with
   | cons r1 r2=>
     obtain ⟨t,e⟩:=r1
     subst e
     exact .cons n t (ih r2)
section
variable {X:Cx} {e:Expr} {te:TE} {lo hi:Option Expr} {tl th:TO} {pos p2:Pos}
theorem L6 (h:PE X e te):PO X (some e) (U9 te):=by
 intro pins s σ H Q I hw
 refine dj (h pins s σ H _ I hw) λu s1 ⟨x,H1,I1,r1,q1⟩=>?_
 obtain ⟨i,rfl,q⟩:=q1
 obtain ⟨t,rfl⟩:=r1
 exact ⟨some i,H1,I1,.int i t,q⟩
def SlR (X:Cx) (r:V->Option Int->Option Int->Hp->VK->Prop):Prop:=
 ∀ (pins:cq) (s:Shared) (σ:St) (H:Hp) (x:V) (v vl vu:Value) (lo hi:Option Int) (sl:Addr) (Q:VK),Inv X pins σ H s->RelV x v->s.heap.IsSliceOf sl vl vu .none->IsPart vl lo->IsPart vu hi->r x lo hi H Q->
   ∃ T id,typeLookup (.type T) "__getitem__"=pure (some (.builtin id)) /\ s.TypeIs v T /\ wpAny (model X.prog X.w) X.A (getItem v (.ref sl)) (EP X pins σ Q) X.xe s
def tSl (r:V->Option Int->Option Int->Hp->VK->Prop) (te:TE) (tl th:TO):TE:=λσ H Q=>te σ H λx H1=>tl σ H1 λl H2=>th σ H2 λu H3=>r x l u H3 Q
theorem HC (hr:SlR X r) (he:PE X e te) (hl:PO X lo tl) (hu:PO X hi th):PE X (.Subscript e (.Slice lo hi none p2) pos) (tSl r te tl th):=by
 intro pins s σ H Q I h
 refine Subscript_ (dj (he pins s σ H _ I h) λv s1 ⟨x,H1,I1,r1,q1⟩=>?_)
 refine wpAny_Slice (dj (hl pins s1 σ H1 _ I1 q1) λvl s2 ⟨l,H2,I2,pl,q2⟩=>dj (hu pins s2 σ H2 _ I2 q2) λvu s3 ⟨u,H3,I3,pu,q3⟩=>?_)
 refine aay ?_
 have I4:Inv X pins σ H3 { s3 with heap:=s3.heap.push { cls:=.type "slice",data:=.fields #[vl,vu,.none] } }:=I3.kept (t':=s3.toks) λb ob q=>aab _ q
 obtain ⟨T,id,hT,ht,hg⟩:=hr pins { s3 with heap:=s3.heap.push { cls:=.type "slice",data:=.fields #[vl,vu,.none] } } σ H3 x v vl vu l u s3.heap.objs.size Q I4 r1 (Heap.IsSliceOf.new ..) pl pu q3
 exact tail_any (ops:=[.ref s3.heap.objs.size,v]) ht hT hg (by with_unfolding_all rfl)
def HE (xs:List V) (lo hi:Option Int):List V:=(xs.drop (HT.wF xs.length 0 lo)).take (HT.wF xs.length xs.length hi - HT.wF xs.length 0 lo)
theorem Av (xs:List V) (lo hi:Option Int):(HE xs lo hi).length<=xs.length:=by
 unfold HE
 rw [abn,List.length_drop]
 lia
def OS (K:au):R2:=λx y H Q=>∃ a b xs ys,x=.ref a /\ y=.ref b /\ k7 K H a xs /\ k7 K H b ys /\ xs≠[] /\ xs.length + ys.length<=sizeLine /\
 (ys=[]->Q (.ref a) H) /\ (ys≠[]->∀ p,H p=none->Q (.ref p) (upd H p (.tup (xs ++ ys))))
theorem bg.tY (r:bg xs us):us=[]↔xs=[]:=by
 cases r with
 | nil=>simp
 | cons _ _=>simp
theorem L7:gS X (binaryOp .Add) (OS X.K):=by
 intro pins s σ H x y v u Q I rx ry h
 obtain ⟨a,b,xs,ys,rfl,rfl,ha,hb,hx,hz,q1,q2⟩:=h
 cases rx
 cases ry
 obtain ⟨its,r1,p1,_⟩:=I.tuple ha
 obtain ⟨wG,r2,p2,_⟩:=I.tuple hb
 refine HT.L5 p1 p2 (λz=>hx (r1.tY.mp z)) (λz=>⟨.ref a,H,I,rfl,q1 (r2.tY.mp z)⟩) (λz=>?_) (by rw [<- r1.length,<- r2.length]; exact hz)
 refine ⟨.ref s.heap.objs.size,_,I.laid (t':=s.toks) (o:=.tup (xs ++ ys)) (λb ob q=>aab _ q) (aaF _) ?_,rfl,q2 (λw=>z (r2.tY.mpr w)) _ (I.cm.fresh (aaF _))⟩
 exact ⟨by rw [aa7]; exact hz,_,r1.append r2,IsTup.new _ _⟩
end
def D7 (n:Nat) (i:Int):Option Nat:=if 0<=i then (if i < n then some i.toNat else none) else if -(n:Int)<=i then some (i + n).toNat else none
def p0 {α:Type} (xs:List α) (i:Int):Option α:=(D7 xs.length i).bind λj=>xs[j]?
theorem D8 (h:D7 n i=some j):seqIndex? i n=some j /\ j < n /\ -(n:Int)<=i /\ i < n:=by
 unfold D7 at h
 by_cases h0:0<=i
 .rw [aaL h0] at h
  by_cases h1:i < n
  .rw [aaL h1] at h
   have e:=abe h
   exact ⟨by rw [seqIndex_of h0 h1,e],by lia,by lia,h1⟩
  .grind
 .rw [aaO h0] at h
  by_cases h1: -(n:Int)<=i
  .rw [aaL h1] at h
   have e:=abe h
   exact ⟨by rw [seqIndex_neg (by lia) h1,e],by lia,h1,by lia⟩
  .grind
theorem tZ (h:p0 xs i=some v):∃ j,seqIndex? i xs.length=some j /\ xs[j]?=some v /\ j < xs.length /\ -(xs.length:Int)<=i /\ i < xs.length:=by
 unfold p0 at h
 cases e:D7 xs.length i with
 | none=>rw [e] at h; cases h
 | some j=>
   rw [e] at h
   obtain ⟨h1,h2,h3,h4⟩:=D8 e
   exact ⟨j,h1,h,h2,h3,h4⟩
theorem eM {j:Nat} (h:xs[j]?=some v):p0 xs (j:Int)=some v:=by
 have hj:=(aaK.mp h).1
 have e:D7 xs.length (j:Int)=some j:=by
  unfold D7
  rw [aaL (by lia),aaL (by lia)]; simp
 unfold p0; rw [e]; exact h
def D9 (b:Expr):Prop:=∀ o i,subscripted b false o i=operate [o,i] (getItem o i)
def L8 (X:Cx) (r:R2):Prop:=
 ∀ (value slice:Expr) (pins:cq) (s:Shared) (σ:St) (H:Hp) (x y:V) (v u:Value) (Q:VK),Inv X pins σ H s->RelV x v->RelV y u->r x y H Q->
   subscripted slice false v u=operate [v,u] (getItem v u)->wpAny (model X.prog X.w) X.A (subscriptTail value slice v u) (EP X pins σ Q) X.xe s
def Xp (X:Cx) (id:String) (r:V->List V->Hp->VK->Prop):Prop:=
 ∀ (pins:cq) (s:Shared) (σ:St) (H:Hp) (x:V) (xs:List V) (v:Value) (us:cc) (Q:VK),Inv X pins σ H s->RelV x v->bg xs us->r x xs H Q->
   wpAny (model X.prog X.w) X.A (call (.builtin id) (v :: us)) (EP X pins σ Q) X.xe s
section
variable {X:Cx} {a b:Expr} {ta tb:TE} {pos:Pos}
theorem L8.or (h:L8 X r) (h':L8 X r'):L8 X (λx y H Q=>r x y H Q \/ r' x y H Q):=by
 intro value slice pins s σ H x y v u Q I rx ry q hs
 rcases q with q | q
 .exact h value slice pins s σ H x y v u Q I rx ry q hs
 .exact h' value slice pins s σ H x y v u Q I rx ry q hs
theorem Va (hr:L8 X r) (ha:PE X a ta) (hb:PE X b tb) (hs:D9 b):PE X (.Subscript a b pos) (TY r ta tb):=by
 intro pins s σ H Q I h
 exact Subscript_ (QP ha hb I h λv u s2 x y H2 I2 rx ry q=>hr a b pins s2 σ H2 x y v u Q I2 rx ry q (hs _ _))
def Vb (K:au):R2:=λx y H Q=>∃ p xs i v,x=.ref p /\ y=.int i /\ kB K H p xs /\ p0 xs i=some v /\ Q v H
def Vc (K:au):R2:=λx y H Q=>∃ p xs i v,x=.ref p /\ y=.int i /\ k7 K H p xs /\ p0 xs i=some v /\ Q v H
def Vd:R2:=λx y H Q=>∃ z i c,x=.str z /\ y=.int i /\ z.length<=sizeLine /\ p0 z.cps.toList i=some c /\ Q (.str ⟨#[c]⟩) H
theorem L9:L8 X (Vb X.K):=by
 intro value slice pins s σ H x y v u Q I rx ry h hs
 obtain ⟨p,xs,i,z,rfl,rfl,hq,he,q⟩:=h
 cases rx
 obtain ⟨t,rfl⟩:=ry
 obtain ⟨its,r,pl,hz⟩:=I.list hq
 obtain ⟨j,h1,h2,h3,h4,h5⟩:=tZ he
 obtain ⟨w,ew,Ft⟩:=r.get h2
 have hl:=r.length
 have hn:=oE
 have fin:EP X pins σ Q w s:=⟨z,H,I,Ft,q⟩
 by_cases h0:0<=i
 .have hj:i.toNat=j:=by
   rw [seqIndex_of h0 h5] at h1
   exact abe h1
  exact item_listR pl.isList h0 (by lia) (by rw [hj]; simpa using ew) fin hs
 .have hj:(i + (its.toArray.size:Int)).toNat=j:=by
   rw [seqIndex_neg (by lia) h4] at h1
   rw [aaI,<- hl]
   exact abe h1
  exact subscriptTail_builtinR (x:=w) pl.isList.typeIs slot_list_getitem.lookup
   (wpAny_getItem_list_neg (Q:=λr s'=>r=w /\ EP X pins σ Q r s') pl.isList (by lia) (by rw [List.size_toArray] <;> lia) (by lia) (by rw [hj]; simpa using ew) ⟨rfl,fin⟩) hs
theorem Q2:L8 X (Vc X.K):=by
 intro value slice pins s σ H x y v u Q I rx ry h hs
 obtain ⟨p,xs,i,z,rfl,rfl,hq,he,q⟩:=h
 cases rx
 obtain ⟨t,rfl⟩:=ry
 obtain ⟨its,r,pl,hz⟩:=I.tuple hq
 obtain ⟨j,h1,h2,h3,h4,h5⟩:=tZ he
 obtain ⟨w,ew,Ft⟩:=r.get h2
 have hl:=r.length
 have hn:=oE
 have fin:EP X pins σ Q w s:=⟨z,H,I,Ft,q⟩
 exact subscriptTail_builtinR (x:=w) pl.typeIs slot_tuple_getitem.lookup
  (getItem_tuple (j:=j) (Q:=λr s'=>r=w /\ EP X pins σ Q r s') pl (by lia) (by lia) (by rw [List.size_toArray,<- hl]; exact h1) (by simpa using ew) ⟨rfl,fin⟩) hs
theorem Q3:L8 X Vd:=by
 intro value slice pins s σ H x y v u Q I rx ry h hs
 obtain ⟨z,i,c,rfl,rfl,hz,he,q⟩:=h
 obtain ⟨t,rfl⟩:=rx
 obtain ⟨t',rfl⟩:=ry
 obtain ⟨j,h1,h2,h3,h4,h5⟩:=tZ he
 have hl:z.cps.toList.length=z.length:=by simp [Str.length]
 rw [hl] at h1 h4 h5
 have hn:=oE
 exact tail_any (typeIs_str s z t) slot_str_getitem.lookup (getItem_str (c:=c) (by
  have e1:decide (i < -(2 ^ 63:Int))=false:=aaX (by lia)
  have e2:decide (i >=2 ^ 63)=false:=aaX (by lia)
  rw [e1,e2,Bool.or_false]) (by rw [h1]; simpa using h2) ⟨.str ⟨#[c]⟩,H,I.tok _,⟨_,rfl⟩,q⟩) hs
def rIx (K:au):R2:=λx y H Q=>Vb K x y H Q \/ Vc K x y H Q \/ Vd x y H Q
theorem Q4:L8 X (rIx X.K):=L9.or (Q2.or Q3)
theorem Cc (its:cc) (n j:Nat) (u:Value):Obj.mapSeq (·.setIfInBounds j u) { cls:=.type "list",data:=.seq its.toArray n }={ cls:=.type "list",data:=.seq (its.set j u).toArray n }:=by
 simp [Obj.mapSeq]
theorem Inv.lst {pins:cq} {σ:St} {H:Hp} {s:Shared} {p:Addr} {xs:List V} (I:Inv X pins σ H s) (h:H p=some (.lst xs)):
  ∃ (its:cc) (n:Nat),bg xs its /\ s.heap.get? p=some { cls:=.type "list",data:=.seq its.toArray n } /\ xs.length<=sizeLine:=by
 obtain ⟨z,its,n,r,e⟩:=I.cm p _ h
 exact ⟨its,n,r,e,z⟩
theorem Inv.Q5 {its its':cc} (I:Inv X pins σ H s) (h:H p=some (.lst xs))
  (ho:s.heap.get? p=some { cls:=.type "list",data:=.seq its.toArray n }) (hf:f { cls:=.type "list",data:=.seq its.toArray n }={ cls:=.type "list",data:=.seq its'.toArray n' }) (r:bg ys its') (hz:ys.length<=sizeLine) (t:Nat):
  Inv X pins σ (upd H p (.lst ys)) { s with heap:=s.heap.update p f,toks:=t }:=by
 have e:(s.heap.update p f).get? p=some { cls:=.type "list",data:=.seq its'.toArray n' }:=by
  rw [abx f ho (by rw [hf] <;> rfl),hf]
 refine I.write (x:=p) (e:=p) (by rw [h]; trivial) (.inl rfl) (λb u hb q=>(abN _ _ (acx hb)).trans q) ⟨_,e⟩ ?_
 exact ⟨hz,its',n',r,e⟩
def OT:V->V->V->Hp->(Hp->Prop)->Prop:=λo i v H Q=>∃ p xs k j,o=.ref p /\ i=.int k /\ H p=some (.lst xs) /\ D7 xs.length k=some j /\ Q (upd H p (.lst (xs.set j v)))
theorem set_list:UT X OT:=by
 intro pins s σ H o i v ov iv u Q I ro ri rv h
 obtain ⟨p,xs,k,j,rfl,rfl,hp,hj,q⟩:=h
 cases ro
 obtain ⟨t,rfl⟩:=ri
 obtain ⟨its,n,r,ho,hz⟩:=I.lst hp
 obtain ⟨h1,h2,h3,h4⟩:=D8 hj
 have hl:=r.length
 have hn:=oE
 have I':Inv X pins σ (upd H p (.lst (xs.set j v))) { s with heap:=s.heap.update p (Obj.mapSeq (·.setIfInBounds j u)) }:=
  I.Q5 hp ho (Cc its n j u) (r.set rv j) (by rw [abK]; exact hz) s.toks
 by_cases h0:0<=k
 .have hk:k.toNat=j:=by
   rw [seqIndex_of h0 h4] at h1
   exact abe h1
  exact PySem.W.ki_setAt ho h0 (by lia) (by rw [aaI,<- hl]; exact h4) (by rw [hk]; exact ⟨_,I',q⟩)
 .have hk:(k + (its.toArray.size:Int)).toNat=j:=by
   rw [seqIndex_neg (by lia) h3] at h1
   rw [aaI,<- hl]
   exact abe h1
  exact PySem.W.ki_setBack ho (by lia) (by rw [aaI,<- hl]; exact h3) (by lia) (by rw [hk]; exact ⟨_,I',q⟩)
theorem yc (lo hi:Option Int) (n:Nat):(sliceBounds lo hi none n).1=((HT.wF n 0 lo:Nat):Int) /\ (sliceBounds lo hi none n).2.1=((HT.wF n n hi:Nat):Int) /\ (sliceBounds lo hi none n).2.2=1:=by
 refine ⟨?_,?_,rfl⟩
 .cases lo with
  | none=>simp [sliceBounds,HT.wF]
  | some i=>
    simp only [sliceBounds,HT.wF]
    by_cases h:i < 0
    .grind
    .grind
 .cases hi with
  | none=>simp [sliceBounds,HT.wF]
  | some i=>
    simp only [sliceBounds,HT.wF]
    by_cases h:i < 0
    .grind
    .grind
theorem wH (its:cc) (lo hi:Option Int):slicePick its.toArray lo hi none=((its.drop (HT.wF its.length 0 lo)).take (HT.wF its.length its.length hi - HT.wF its.length 0 lo)).toArray:=by
 obtain ⟨h1,h2,h3⟩:=yc lo hi its.toArray.size
 unfold slicePick
 rw [h1,h2,h3]
 simp only [sliceRange_one,pick_run] <;> rfl
def YE (K:au):V->Option Int->Option Int->Hp->VK->Prop:=λx lo hi H Q=>∃ a xs,x=.ref a /\ kB K H a xs /\ ∀ p,H p=none->Q (.ref p) (upd H p (.lst (HE xs lo hi)))
theorem Ma:SlR X (YE X.K):=by
 intro pins s σ H x v vl vu lo hi sl Q I rx hs pl pu h
 obtain ⟨a,xs,rfl,hx,q⟩:=h
 cases rx
 obtain ⟨its,r,ht,hz⟩:=I.list hx
 have hlen:=r.length
 refine ⟨"list",_,slot_list_getitem.lookup,ht.isList.typeIs,?_⟩
 refine wpAny_getItem_list_slice ht.isList hs pl pu .none (by simp) ?_ (by rw [aaI] <;> lia)
 rw [wH,<- hlen]
 refine ⟨.ref s.heap.objs.size,_,I.laid (t':=s.toks) (o:=.lst (HE xs lo hi)) (λb ob q=>aab _ q) (aaF _) ?_,rfl,q _ (I.cm.fresh (aaF _))⟩
 exact ⟨aa6 (Av xs lo hi) hz,_,0,(r.drop (HT.wF xs.length 0 lo)).take (HT.wF xs.length xs.length hi - HT.wF xs.length 0 lo),aaH _ rfl⟩
def l5:V->Bool
 | .ia=>true
 | .bl _=>true
 | .int _=>true
 | .str _=>true
 | _=>false
def Mb:V->V->Bool
 | .ia,.ia=>true
 | .bl a,.bl b=>a == b
 | .bl a,.int b=>(if a then 1 else 0) == b
 | .int a,.bl b=>a == (if b then 1 else 0)
 | .int a,.int b=>a == b
 | .str a,.str b=>a == b
 | _,_=>false
theorem Q6 (ry:RelV y u) (rx:RelV x v) (fy:l5 y=true) (fx:l5 x=true):SeqAt.EqAt A s u v (Mb y x):=by
 cases y with
 | ia=>
   cases ry
   cases x with
   | ia=>cases rx; exact SeqAt.EqAt.same _
   | bl b=>cases rx; exact SeqAt.EqAt.none_bool b
   | int b=>obtain ⟨t,rfl⟩:=rx; exact SeqAt.EqAt.none_int b t
   | str b=>obtain ⟨t,rfl⟩:=rx; exact SeqAt.EqAt.none_str b t
   | _=>exact absurd (show false=true from fx) aaW
 | bl a=>
   cases ry
   cases x with
   | ia=>cases rx; exact SeqAt.EqAt.bool_none a
   | bl b=>cases rx; exact SeqAt.EqAt.bool_bool a b
   | int b=>obtain ⟨t,rfl⟩:=rx; exact SeqAt.EqAt.bool_int a b t
   | str b=>obtain ⟨t,rfl⟩:=rx; exact SeqAt.EqAt.bool_str a b t
   | _=>exact absurd (show false=true from fx) aaW
 | int a=>
   obtain ⟨t',rfl⟩:=ry
   cases x with
   | ia=>cases rx; exact SeqAt.EqAt.int_none a t'
   | bl b=>cases rx; exact SeqAt.EqAt.int_bool a t' b
   | int b=>obtain ⟨t,rfl⟩:=rx; exact SeqAt.EqAt.int_int a t' b t
   | str b=>obtain ⟨t,rfl⟩:=rx; exact SeqAt.EqAt.int_str a t' b t
   | _=>exact absurd (show false=true from fx) aaW
 | str a=>
   obtain ⟨t',rfl⟩:=ry
   cases x with
   | ia=>cases rx; exact SeqAt.EqAt.str_none a t'
   | bl b=>cases rx; exact SeqAt.EqAt.str_bool a t' b
   | int b=>obtain ⟨t,rfl⟩:=rx; exact SeqAt.EqAt.str_int a t' b t
   | str b=>obtain ⟨t,rfl⟩:=rx; exact SeqAt.EqAt.str_str a t' b t
   | _=>exact absurd (show false=true from fx) aaW
 | _=>exact absurd (show false=true from fy) aaW
def Cd (x:V) (u:Value):Bool:=match u with
 | .none=>Mb .ia x
 | .bool b=>Mb (.bl b) x
 | .int i _=>Mb (.int i) x
 | .str z _=>Mb (.str z) x
 | _=>false
theorem HF (r:RelV y u) (f:l5 y=true):Cd x u=Mb y x:=by
 cases y with
 | ia=>cases r; rfl
 | bl b=>cases r; rfl
 | int i=>obtain ⟨t,rfl⟩:=r; rfl
 | str z=>obtain ⟨t,rfl⟩:=r; rfl
 | _=>exact absurd (show false=true from f) aaW
theorem p5:∀ {xs:List V} {us:cc},bg xs us->xs.all l5=true->us.any (Cd x)=xs.any λy=>Mb y x
 | _,_,.nil,_=>rfl
 | y :: xs,u :: us,.cons r t,f=>by
   rw [ac9,aaS] at f
   rw [ada,ada,HF r f.1,p5 t f.2]
theorem mx (rx:RelV x v) (fx:l5 x=true):∀ {xs:List V} {us:cc},bg xs us->xs.all l5=true->∀ u∈us,SeqAt.EqAt A s u v (Cd x u)
 | _,_,.nil,_=>λu hu=>by cases hu
 | y :: xs,u :: us,.cons r t,f=>λu' hu=>by
   rw [ac9,aaS] at f
   rcases aaG.mp hu with rfl | hu
   .rw [HF r f.1]; exact Q6 r rx f.1 fx
   .exact mx rx fx t f.2 u' hu
def Ve (x:V) (xs:List V):Bool:=xs.any λy=>Mb y x
def TZ (K:au) (neg:Bool):R2:=λx y H Q=>∃ p xs,y=.ref p /\ (kB K H p xs \/ k7 K H p xs) /\ l5 x=true /\ xs.all l5=true /\ Q (.bl (if neg then !Ve x xs else Ve x xs)) H
theorem FD:gS X (compareOp .In) (TZ X.K false):=by
 intro pins s σ H x y v u Q I rx ry h
 obtain ⟨p,xs,rfl,hq,fx,fs,q⟩:=h
 cases ry
 rcases hq with hq | hq
 .obtain ⟨its,r,pl,hz⟩:=I.list hq
  refine SeqAt.in_listAt (Cd x) pl.isList (λw hw=>mx rx fx r fs w (by simpa using hw)) ⟨.bl _,H,I,rfl,?_⟩
  rw [show its.toArray.any (Cd x)=its.any (Cd x) by simp,p5 r fs]
  exact q
 .obtain ⟨its,r,pl,hz⟩:=I.tuple hq
  refine SeqAt.in_tupleAt (Cd x) pl (λw hw=>mx rx fx r fs w (by simpa using hw)) ⟨.bl _,H,I,rfl,?_⟩
  rw [show its.toArray.any (Cd x)=its.any (Cd x) by simp,p5 r fs]
  exact q
theorem yd:gS X (compareOp .NotIn) (TZ X.K true):=by
 intro pins s σ H x y v u Q I rx ry h
 obtain ⟨p,xs,rfl,hq,fx,fs,q⟩:=h
 cases ry
 rcases hq with hq | hq
 .obtain ⟨its,r,pl,hz⟩:=I.list hq
  refine SeqAt.notIn_listAt (Cd x) pl.isList (λw hw=>mx rx fx r fs w (by simpa using hw)) ⟨.bl _,H,I,rfl,?_⟩
  rw [show its.toArray.any (Cd x)=its.any (Cd x) by simp,p5 r fs]
  exact q
 .obtain ⟨its,r,pl,hz⟩:=I.tuple hq
  refine SeqAt.notIn_tupleAt (Cd x) pl (λw hw=>mx rx fx r fs w (by simpa using hw)) ⟨.bl _,H,I,rfl,?_⟩
  rw [show its.toArray.any (Cd x)=its.any (Cd x) by simp,p5 r fs]
  exact q
theorem ye:fT X (.builtin "len") (λxs H Q=>∃ p ys,xs=[.ref p] /\ (kB X.K H p ys \/ k7 X.K H p ys) /\ Q (.int ys.length) H):=by
 intro pins s σ H xs us Q I r h
 obtain ⟨p,ys,rfl,hq,q⟩:=h
 obtain ⟨u,rfl,rx⟩:=vals1 r
 cases rx
 have hn:=oE
 rcases hq with hq | hq
 .obtain ⟨its,r',pl,hz⟩:=I.list hq
  have hlen:=r'.length
  exact Calls.call_len_list pl.isList (by simp only [aaI] <;> lia) ⟨.int ys.length,H,I.tok _,⟨s.toks + 1,by rw [aaI,hlen]⟩,q⟩
 .obtain ⟨its,r',pl,hz⟩:=I.tuple hq
  have hlen:=r'.length
  exact len_tuple pl (by simp only [aaI] <;> lia) ⟨.int ys.length,H,I.tok _,⟨s.toks + 1,by rw [aaI,hlen]⟩,q⟩
theorem yf:fT X (.builtin "len") (λxs H Q=>∃ z,xs=[.str z] /\ z.length<=sizeLine /\ Q (.int z.length) H):=by
 intro pins s σ H xs us Q I r h
 obtain ⟨z,rfl,hz,q⟩:=h
 obtain ⟨u,rfl,t,rfl⟩:=vals1 r
 have hn:=oE
 exact len_str (by lia) ⟨.int z.length,H,I.tok _,⟨_,rfl⟩,q⟩
theorem fT.or (h:fT X f r) (h':fT X f r'):fT X f (λxs H Q=>r xs H Q \/ r' xs H Q):=by
 intro pins s σ H xs us Q I rs q
 rcases q with q | q
 .exact h pins s σ H xs us Q I rs q
 .exact h' pins s σ H xs us Q I rs q
theorem jl:fT X (.type "list") (λxs H Q=>∃ p ys,xs=[.ref p] /\ (kB X.K H p ys \/ k7 X.K H p ys) /\ ∀ l,H l=none->Q (.ref l) (upd H l (.lst ys))):=by
 intro pins s σ H xs us Q I r h
 obtain ⟨p,ys,rfl,hq,q⟩:=h
 obtain ⟨u,rfl,rx⟩:=vals1 r
 cases rx
 have fin:∀ (its:cc),bg ys its->ys.length<=sizeLine->∀ (h':Heap) (c':Nat),(∀ b o',s.heap.get? b=some o'->h'.get? b=some o')->
   h'.get? s.heap.objs.size=some { cls:=.type "list",dict:=none,data:=.seq its.toArray c',slots:=#[] }->EP X pins σ Q (.ref s.heap.objs.size) { s with heap:=h' }:=λits r' hz h' c' kp e=>
  ⟨.ref s.heap.objs.size,_,I.laid (t':=s.toks) kp (aaF _) (show cN X.prog X.w _ h' _ (.lst ys) from ⟨hz,its,c',r',e⟩),rfl,q _ (I.cm.fresh (aaF _))⟩
 rcases hq with hq | hq
 .obtain ⟨its,r',pl,hz⟩:=I.list hq
  have hlen:=r'.length
  obtain ⟨o,ho,hc,n,hd⟩:=pl.isList
  exact call_list_seq p (.inl rfl) ho hc hd (λh' c' kp e=>fin its r' hz h' c' kp e) (by simp only [aaI] <;> lia)
 .obtain ⟨its,r',pl,hz⟩:=I.tuple hq
  have hlen:=r'.length
  obtain ⟨o,ho,hc,n,hd⟩:=pl
  exact call_list_seq p (.inr rfl) ho hc hd (λh' c' kp e=>fin its r' hz h' c' kp e) (by simp only [aaI] <;> lia)
theorem oh:fT X (.type "tuple") (λxs H Q=>∃ p ys,xs=[.ref p] /\ ((kB X.K H p ys /\ ∀ l,H l=none->Q (.ref l) (upd H l (.tup ys))) \/ (k7 X.K H p ys /\ Q (.ref p) H))):=by
 intro pins s σ H xs us Q I r h
 obtain ⟨p,ys,rfl,h⟩:=h
 obtain ⟨u,rfl,rx⟩:=vals1 r
 cases rx
 rcases h with ⟨hq,q⟩ | ⟨hq,q⟩
 .obtain ⟨its,r',pl,hz⟩:=I.list hq
  have hlen:=r'.length
  refine call_tuple_list pl.isList (λh' kp=>?_) (by simp only [aaI] <;> lia)
  have I1:=I.kept (t':=s.toks) kp
  have I2:Inv X pins σ (upd H h'.objs.size (.tup ys)) { s with heap:=h'.push { cls:=.type "tuple",data:=.seq its.toArray } }:=
   I1.laid (t':=s.toks) (λb o e=>aab _ e) (aaF _) (show cN X.prog X.w _ _ _ (.tup ys) from ⟨hz,its,r',IsTup.new _ _⟩)
  exact ⟨.ref h'.objs.size,_,I2,rfl,q _ (I1.cm.fresh (aaF _))⟩
 .obtain ⟨its,r',pl,hz⟩:=I.tuple hq
  exact call_tuple_same pl ⟨.ref p,H,I,rfl,q⟩
def YF (K:au) (T:String) (x:V) (H:Hp):Prop:=match x with
 | .str _=>T="str"
 | .int _=>T="int"
 | .ref p=>(T="list" /\ ∃ xs,kB K H p xs) \/ (T="tuple" /\ ∃ o,K.lookup p=some o /\ o.cls=.type "tuple" /\ o.dict=none) \/
   (T="dict" /\ ((∃ bf,H p=some (.dK bf)) \/ ∃ bf,H p=some (.dT bf))) \/ (T="set" /\ ∃ S n,H p=some (.set S n))
 | _=>False
theorem HG (I:Inv X pins σ H s) (r:RelV x v) (ty:YF X.K T x H):
  s.TypeIs v T /\ ∀ a,v=.ref a->∃ ob,s.heap.get? a=some ob /\ ob.dict=none:=by
 cases x with
 | str z=>
   obtain ⟨t,rfl⟩:=r
   cases (show T="str" from ty)
   exact ⟨typeIs_str s z t,λ_ e=>nomatch e⟩
 | int i=>
   obtain ⟨t,rfl⟩:=r
   cases (show T="int" from ty)
   exact ⟨typeIs_int s i t,λ_ e=>nomatch e⟩
 | ref p=>
   cases r
   rcases ty with ⟨rfl,xs,hq⟩ | ⟨rfl,o,hk,hc,hd⟩ | ⟨rfl,hk⟩ | ⟨rfl,S,n,hk⟩
   .obtain ⟨its,_,pl,_⟩:=I.list hq
    refine ⟨pl.isList.typeIs,λa e=>?_⟩
    cases e
    obtain ⟨o,n,e,c,hd,_⟩:=pl
    exact ⟨o,e,hd⟩
   .refine ⟨⟨o,I.oB p o hk,hc⟩,λa e=>?_⟩
    cases e
    exact ⟨o,I.oB _ o hk,hd⟩
   .have z:∃ o,s.heap.get? p=some o /\ o.ExactDict:=by
     rcases hk with ⟨bf,hk⟩ | ⟨bf,hk⟩
     .obtain ⟨_,_,_,_,o,_,_,e,ex,_⟩:=I.cm p _ hk
      exact ⟨o,e,ex⟩
     .obtain ⟨_,_,_,_,o,_,_,e,ex,_⟩:=I.cm p _ hk
      exact ⟨o,e,ex⟩
    obtain ⟨o,e,ex⟩:=z
    refine ⟨⟨o,e,ex.1⟩,λa e2=>?_⟩
    cases e2
    exact ⟨o,e,ex.2.1⟩
   .obtain ⟨o,_,_,_,e,ex,_⟩:=I.cm p _ hk
    refine ⟨⟨o,e,ex.1⟩,λa e2=>?_⟩
    cases e2
    exact ⟨o,e,ex.2.1⟩
 | _=>exact False.elim ty
def Q7 (K:au) (T:String) (r:V->List V->Hp->VK->Prop) (to:TE):TE:=λσ H Q=>to σ H λx H1=>YF K T x H1 /\ r x [] H1 Q
def Xq (K:au) (T:String) (r:V->List V->Hp->VK->Prop) (to:TE) (t:TA):TE:=λσ H Q=>to σ H λx H1=>YF K T x H1 /\ t σ H1 λxs H2=>r x xs H2 Q
variable {o e:Expr} {es:List Expr} {to:TE} {t:TA} {name:Str} {apos fI:Pos} {T id:String} {r:V->List V->Hp->VK->Prop}
theorem HH (pa:PlainAttrs T) (slot:Slot T name id) (YG:typeOf (.builtin id)=pure (.type "method_descriptor")) (hm:Xp X id r) (ho:PE X o to)
  (ux:attributeBase o name X.env (eval o X.env)=eval o X.env:=by rfl) (uy:(apos.endLine == fI.line)=true:=by rfl):PE X (.Call (.Attribute o name apos) [] [] fI) (Q7 X.K T r to):=by
 intro pins s σ H Q I h
 refine wpAny_Call_method0_late ux uy (dj (ho pins s σ H _ I h) λv s1 ⟨x,H1,I1,r1,ty,q1⟩=>?_)
 obtain ⟨h1,h2⟩:=HG I1 r1 ty
 exact ⟨T,id,pa,slot,YG,h1,h2,ads rfl (PySem.evalArgs_none (hm pins s1 σ H1 x [] v [] Q I1 r1 .nil q1))⟩
theorem l6 (pa:PlainAttrs T) (slot:Slot T name id) (YG:typeOf (.builtin id)=pure (.type "method_descriptor")) (hm:Xp X id r) (ho:PE X o to) (ha:PA X (e :: es) t)
  (ux:attributeBase o name X.env (eval o X.env)=eval o X.env:=by rfl)
  (YH:((backTo fI (starEach (e :: es) X.env)).all (λx=> !x.1) && (backToKw fI (keywordEach [] X.env)).all (λx=>x.1.isSome)
   && decide ((e :: es).length + ([]:List Keyword).length + (if ([]:List Keyword).isEmpty then 0 else 1) < 30))=true:=by rfl)
  (uy:(apos.endLine == fI.line)=true:=by rfl) (hs:starEach (e :: es) X.env=(false,eval e X.env) :: starEach es X.env:=by rfl) (Ce:(backTo fI (starEach es X.env)).any (·.1)=false:=by rfl):
  PE X (.Call (.Attribute o name apos) (e :: es) [] fI) (Xq X.K T r to t):=by
 intro pins s σ H Q I h
 refine wpAny_Call_method_late ux YH uy rfl (dj (ho pins s σ H _ I h) λv s1 ⟨x,H1,I1,r1,ty,q1⟩=>?_)
 obtain ⟨h1,h2⟩:=HG I1 r1 ty
 refine ⟨T,id,pa,slot,YG,h1,h2,?_⟩
 have hA:=ha fI pins s1 σ H1 _ I1 q1
 rw [hs] at hA ⊢
 refine ads (by show (false || (backTo fI (starEach es X.env)).any (·.1))=false; rw [Ce] <;> rfl) (adK ?_)
 exact dj hA λus s2 ⟨vs,H2,I2,r2,q2⟩=>hm pins s2 σ H2 x vs v us Q I2 r1 r2 q2
/- xs.append(e),list.index on a module's tuple .. are Xp facts of 06m -/
end
def Xr (X:Cx) (id:String) (r:V->List V->Hp->VK->Prop):Prop:=
 ∀ (pins:cq) (s:Shared) (σ:St) (H:Hp) (x:V) (xs:List V) (v:Value) (us:cc) (Q:VK),Inv X pins σ H s->RelV x v->bg xs us->r x xs H Q->
   wpAny (model X.prog X.w) X.A (call (.builtin id) (v :: us)) (EP X pins σ Q) X.xe s
theorem bg.one:∀ {x:V} {us:cc},bg [x] us->∃ u,us=[u] /\ RelV x u
 | _,_,.cons r .nil=>⟨_,rfl,r⟩
theorem bg.zero:∀ {us:cc},bg [] us->us=[]
 | _,.nil=>rfl
theorem bg.dropLast (h:bg xs us):bg xs.dropLast us.dropLast:=by
 induction h with
 | nil=>exact .nil
 | cons r t ih=>
   cases t with
   | nil=>exact .nil
   | cons q t'=>exact .cons r ih
theorem bg.rep (h:bg xs us):∀ k:Nat,bg (List.replicate k xs).flatten (List.replicate k us).flatten
 | 0=>.nil
 | k + 1=>by
   exact bg.append h (bg.rep h k)
theorem Q8 {α:Type} (l:List α):l.eraseIdx (l.length - 1)=l.dropLast:=by simp
theorem foldl_rep (its:cc):∀ (k:Nat) (acc:cc),
  List.foldl (λx1 x2=>x1 ++ x2) acc.toArray (List.replicate k its.toArray)=(acc ++ (List.replicate k its).flatten).toArray
 | 0,acc=>by simp
 | k + 1,acc=>by
   have e:acc.toArray ++ its.toArray=(acc ++ its).toArray:=by simp
   have e2:(acc ++ its) ++ (List.replicate k its).flatten=acc ++ (List.replicate (k + 1) its).flatten:=by grind
   rw [<- e2,<- foldl_rep its k (acc ++ its),<- e,adO,List.foldl_cons]
section
variable {X:Cx} {pins:cq} {σ:St} {H:Hp} {s:Shared} {l b:Addr} {xs ys zs:List V}
theorem Inv.Mc {its its':cc} (I:Inv X pins σ H s) (hH:H l=some (.lst xs))
  (e:s.heap.get? l=some { cls:=.type "list",data:=.seq its.toArray n }) (hf:f its.toArray=its'.toArray) (hv:bg ys its') (hz:ys.length<=sizeLine):
  Inv X pins σ (upd H l (.lst ys)) { s with heap:=s.heap.update l (Obj.mapSeq f),toks:=t' }:=by
 have q:=PySem.IsL.update e f
 rw [hf] at q
 refine I.write (x:=l) (e:=l) (by rw [hH]; exact trivial) (.inl rfl) (λb' u hb hu=>(abN s.heap (Obj.mapSeq f) (acx hb)).trans hu) ⟨_,q⟩ ?_
 exact ⟨hz,its',_,hv,q⟩
theorem Inv.Vf (I:Inv X pins σ H s) (hv:bg ys its) (hz:ys.length<=sizeLine):
  Inv X pins σ (upd H s.heap.objs.size (.lst ys)) { s with heap:=s.heap.push { cls:=.type "list",data:=.seq its.toArray },toks:=t' }:=
 I.laid (λ_ _ q=>aab _ q) (aaF _) ⟨hz,its,0,hv,aaH _ rfl⟩
theorem Inv.fresh (I:Inv X pins σ H s):H s.heap.objs.size=none:=I.cm.fresh (aaF _)
theorem Inv.FE (I:Inv X pins σ H s) (hH:H l=some (.lst xs)):xs.length<=sizeLine /\ ∃ (its:cc) (n:Nat),bg xs its /\ xs.length=its.length /\ s.heap.get? l=some { cls:=.type "list",data:=.seq its.toArray n }:=by
 obtain ⟨z,its,n,r,e⟩:=I.cm l _ hH
 exact ⟨z,its,n,r,r.length,e⟩
theorem Aw (h:n<=sizeLine):Builtin.List.listTooLong n=false:=by
 exact aaX (by lia)
end
section
variable {X:Cx}
def Ea:V->List V->Hp->VK->Prop:=λx vs H Q=>∃ l xs y,x=.ref l /\ vs=[y] /\ H l=some (.lst xs) /\ xs.length < sizeLine /\ Q .ia (upd H l (.lst (xs ++ [y])))
theorem gH:Xr X "list.append" Ea:=by
 intro pins s σ H x vs v us Q I rx rv h
 obtain ⟨l,xs,y,rfl,rfl,hH,hz,q⟩:=h
 cases rx
 obtain ⟨u,rfl,ru⟩:=rv.one
 obtain ⟨z,its,n,r,hl,e⟩:=I.FE hH
 refine adB abi ⟨_,e,rfl⟩ F.entry_list_append (F.args_list_append_2 _ _) (PySem.list_append l its.toArray n u (by rw [aaI]; lia)) ⟨e,?_⟩
 refine ⟨.ia,_,I.Mc (its':=its ++ [u]) hH e (by simp) (r.append (.cons ru .nil)) ?_,rfl,q⟩
 rw [aa7,List.length_singleton]
 lia
def Eb:V->List V->Hp->VK->Prop:=λx vs H Q=>∃ l b xs zs,x=.ref l /\ vs=[.ref b] /\ H l=some (.lst xs) /\ H b=some (.lst zs) /\ xs.length + zs.length<=sizeLine /\ Q .ia (upd H l (.lst (xs ++ zs)))
theorem rn:Xr X "list.extend" Eb:=by
 intro pins s σ H x vs v us Q I rx rv h
 obtain ⟨l,b,xs,zs,rfl,rfl,hH,hB,hz,q⟩:=h
 cases rx
 obtain ⟨u,rfl,ru⟩:=rv.one
 cases ru
 obtain ⟨z,its,n,r,hl,e⟩:=I.FE hH
 obtain ⟨z2,wG,n2,r2,FF,e2⟩:=I.FE hB
 have hsz:its.toArray.size + wG.toArray.size<=sizeLine:=by rw [aaI,aaI]; lia
 have HI:¬ (!its.toArray.isEmpty && Builtin.List.listTooLong (its.toArray.size + wG.toArray.size))=true:=by
  rw [Aw hsz,Bool.and_false]
  exact aaW
 refine adB adt ⟨_,e,rfl⟩ F.entry_list_extend (F.args_list_extend_2 _ _)
  (AutoSeq1.list_extend_list_list_0 l its.toArray n b wG.toArray n2 HI (by rw [aaI]; lia) (by lia)) ⟨e,e2,?_⟩
 refine ⟨.ia,_,I.Mc (its':=its ++ wG) hH e (by simp) (r.append r2) ?_,rfl,q⟩
 rw [aa7]
 lia
def Vg:V->List V->Hp->VK->Prop:=λx vs H Q=>∃ l xs y,x=.ref l /\ vs=[] /\ H l=some (.lst xs) /\ xs[xs.length - 1]?=some y /\ Q y (upd H l (.lst xs.dropLast))
theorem Q9:Xr X "list.pop" Vg:=by
 intro pins s σ H x vs v us Q I rx rv h
 obtain ⟨l,xs,y,rfl,rfl,hH,hy,q⟩:=h
 cases rx
 have hus:=rv.zero
 subst hus
 obtain ⟨z,its,n,r,hl,e⟩:=I.FE hH
 obtain ⟨u,hu,ru⟩:=r.get hy
 have hy':its.toArray[its.toArray.size - 1]?=some u:=by grind
 refine adB F.slot_list_pop ⟨_,e,rfl⟩ F.entry_list_pop (F.args_list_pop_1 _) (MeetsSeq.list_pop_last l its.toArray n u hy' (by rw [aaI]; lia)) ⟨e,?_⟩
 refine ⟨y,_,I.Mc (its':=its.dropLast) hH e ?_ r.dropLast ?_,ru,q⟩
 .grind
 .rw [List.length_dropLast]
  lia
def YI:R2:=λx y H Q=>∃ l k xs,x=.ref l /\ y=.int k /\ H l=some (.lst xs) /\ -(2 ^ 63)<=k /\ k < 2 ^ 63 /\ xs.length * k.toNat<=sizeLine /\
 ∀ p,H p=none->Q (.ref p) (upd H p (.lst (List.replicate k.toNat xs).flatten))
theorem len_rep {α:Type} (xs:List α) (k:Nat):(List.replicate k xs).flatten.length=k * xs.length:=by simp
theorem Ra:gS X (binaryOp .Mult) YI:=by
 intro pins s σ H x y v u Q I rx ry h
 obtain ⟨l,k,xs,rfl,rfl,hH,h1,h2,hz,q⟩:=h
 cases rx
 obtain ⟨t,rfl⟩:=ry
 obtain ⟨z,its,n,r,hl,e⟩:=I.FE hH
 have hlen:its.toArray.size * k.toNat<=sizeLine:=by rw [aaI,<- hl]; exact hz
 have Rb:¬ its.toArray.size * k.toNat > (2 ^ 63 - 1) / 8:=by
  have:(sizeLine:Nat)<=(2 ^ 63 - 1) / 8:=by decide
  lia
 have Rc:¬ (!Builtin.List.listFitsIndex k)=true:=by
  rw [fitsIndex_both h1 h2]
  exact aaW
 have HI:¬ Builtin.List.listTooLong (its.toArray.size * k.toNat)=true:=by
  rw [Aw hlen]
  exact aaW
 have Md:List.foldl (λx1 x2=>x1 ++ x2) #[] (List.replicate (if its.toArray.isEmpty=true then 0 else k.toNat) its.toArray)=(List.replicate k.toNat its).flatten.toArray:=by
  have f0:∀ m:Nat,List.foldl (λx1 x2=>x1 ++ x2) #[] (List.replicate m its.toArray)=(List.replicate m its).flatten.toArray:=λm=>by
   have:=foldl_rep its m []
   exact this
  rw [f0]
  cases its with
  | nil=>simp
  | cons a r'=>rw [aaO (by simp)]
 refine wpAny_binaryOp_repeat_ref (T:="list") (U:="int") (by decide) ⟨_,e,rfl⟩ (λs'=>typeIs_int s' k t) noFill_list_mul F.fills_int_mul F.slot_int_rmul repeat_list F.slot_int_index.lookup
  (adB F.slot_int_rmul (typeIs_int s k t) F.entry_int_rmul (F.args_int_rmul_2 _ _) (int___rmul___int_list k t l its.toArray n)
   ⟨e,rfl,⟨_,e,rfl⟩,adB F.slot_list_mul ⟨_,e,rfl⟩ F.entry_list_mul (F.args_list_mul_2 _ _) (AutoListH.list___mul___list_int_3 l its.toArray n k t Rc Rb HI) ⟨e,?_⟩⟩)
 rw [Md]
 exact ⟨.ref _,_,I.Vf (t':=s.toks) (r.rep k.toNat) (by rw [len_rep,Nat.mul_comm]; exact hz),rfl,q _ I.fresh⟩
end
section
variable {prog:Program} {w:World} {A:Around} {E:cW} {s:Shared}
end
section
variable {X:Cx}
end
end L2
namespace Att
open PySem PySem.W PySem.Calls PyProof.Rows
theorem tz:∀ (ns:List Int) (vs:cc),WellAll P h vs (ns.map WData.int)->IntsAre vs ns:=by
 intro ns
 induction ns with
 | nil=>
   intro vs w
   cases w
   exact .nil
 | cons n ns ih=>
   intro vs w
   cases w with
   | cons a b=>
     cases a
     exact .cons _ _ (ih _ b)
theorem FG {l:OpenLaw} (hn:l.most=some n) 
  (Me:l.row.toRowW.claim.pre args=true) (YJ:WellAll P h vals args):
  ∃ a vs ns,vals=[Value.ref a] /\ args=[WData.list (ns.map WData.int)] /\ h.get? a=some { cls:=.type "list",data:=.seq vs.toArray } /\ IntsAre vs ns /\ ns.length<=n:=by
 have hsh:=(pre_splitW Me).1
 have hc:=(pre_splitW Me).2
 obtain ⟨d,r,rfl,h1,h2⟩:=hasAllW_cons hsh
 obtain rfl:=hasAllW_nil h2
 obtain ⟨xs,rfl,h3⟩:=hasW_list h1
 obtain ⟨ns,rfl⟩:=items_int h3
 have hlen:ns.length<=n:=by
  have h4:(WTm.not (.lt (.lit (.int (n:Int))) (.len (.arg 0)))).holds [] { args:=[.list (ns.map .int)] }=true:=by
   have h4:=(holds_andW hc).1
   rw [hn] at h4
   exact h4
  have h5:=condW_of h4 (w_not (w_lt w_lit (w_len_list (w_arg rfl))))
  first
   | (rw [aaQ q'] at h5; exact absurd h5 (by decide))
   | (simp at h5; lia)
 cases YJ with
 | cons w1 w2=>
   cases w2
   cases w1 with
   | list ho Vh=>exact ⟨_,_,ns,rfl,rfl,ho,tz ns _ Vh,hlen⟩
theorem FH (l:OpenLaw) (args:List WData):l.row.toRowW.claim.post args (.bool true) args=true:=
 postW_of (r:=l.row.toRowW) (X:=(true == true))
  (show WShape.has [] (.bool true) .bool=true by first | rfl | decide | simp [WShape.has])
  (show (WTm.eq .res (.lit (.bool true))).value [] { args:=args,res:=some (.bool true),after:=args }=some (.bool (true == true)) from w_eq_bool (w_res rfl) w_lit) rfl
theorem Ax {l:OpenLaw} 
  (hn:l.most=some n) (Vi:d.params.defaults=[])
  (call:∀ (w:World) (gQ cu:Shared) (mg mb:dG) (fa:Addr) (o:Obj) (pm cd doc:Value) (a:Addr) (vs:cc) (ns:List Int),
   Ground q loose [] XP w gQ mg mb cu.heap->YP w cu.heap->
   cu.heap.get? fa=some o->o.data=.func (docDef d.name d.params d.body d.scope pm cd doc)->cu.heap.CodeRec cd d.name->mg d.name=some (.ref fa)->
   cu.heap.get? a=some { cls:=.type "list",data:=.seq vs.toArray }->IntsAre vs ns->ns.length<=n->cu.gens=#[]->
   codeAny (model l.prog w) callerA (.call (.ref fa) ⟨[.ref a],[]⟩) (λr s'=>r=.ok (.ret (.bool true)) /\ OldK cu.heap s'.heap /\ s'.os=cu.os /\ AllBare s'.gens) cu):
  WalkO q loose XP YP l.row.toRowW d [] (λf vs=>PySem.call f vs):=by
 intro w gQ cu mg mb G Y fa o pm cd doc dV kV ho hd qY hD Vj hg args vals as Me acg hrd YJ Rf
 obtain rfl:dV=.none:=Dflts.none hD Vi
 obtain rfl:kV=.none:=Dflts.noKw hD
 obtain ⟨a,vs,ns,rfl,rfl,HJ,hints,hlen⟩:=FG hn Me YJ
 refine enter_call (ack (call w gQ cu mg mb fa o pm cd doc a vs ns G Y ho (fd_plain hd) qY Vj HJ hints hlen hg) λr s' hq=>?_)
 obtain ⟨rfl,h2,h3,h4⟩:=hq
 exact ⟨.inl ⟨.bool true,.bool true,[],rfl,λ_=>rfl,.bool true,FH l _,λ_=>⟨List.Pairwise.nil,λ_ hm=>(nomatch hm)⟩⟩,h2,h3,h4⟩
section
variable {prog:Program} {w:World} {A:Around} {E:cW} {s:Shared} {K:Frag}
end
end Att
namespace L2
open PySem PySem.Spec PyProof.Rows
theorem xp:∀ {vs:cc} {ns:List Int},IntsAre vs ns->bg (ns.map V.int) vs
 | _,_,.nil=>.nil
 | _,_,.cons n t h=>.cons ⟨t,rfl⟩ (xp h)
def BX (K:au) (H:Hp) (a:Addr) (xs:List V):Prop:=
 Rd H a (.lst xs) \/ ∃ (its:cc) (n:Nat),K.lookup a=some { cls:=.type "list",data:=.seq its.toArray n } /\ its.length<=sizeLine /\ bg xs its
abbrev rp:LZ:=λ_ _ _ _ _ _=>False
abbrev E0:XK:=λ_ _ _=>False
theorem Vk {X:Cx}:rj rp X E0:=λ_ _ _ _ _ _ _ h=>h.elim
structure HK (K:au) (x qual:Str) (st:Stmt) (f:Addr) (fd:FuncData):Prop where
 ex:∃ (oc:Value) (od:Option Addr) (kV doc pm:Value) (an:Option Addr) (cx ct:Value) (FC:Array (Option Value)),
  fd=PySem.W.fnOf x qual (gj st) (cU st) (aj st) .none kV doc pm an cx ct /\ K.lookup f=some ⟨oc,od,.func fd,FC⟩ /\ PySem.W.codeIn K cx qual=true
 kp:PySem.W.keepIn K (.ref f)=true
section
variable {P:Program} {w:World} {K:au} {mg:dG} {base:Heap}
theorem HK.ok {st:Stmt} (F:HK K x qual st f fd) (S:aA N ps (aj st)) (len:∀ vs H Q E,sp vs H Q E->vs.length=ps.length)
  (jK:∀ (cx:Value) (A:Around) (outer:List Env) (s:Shared) (H:Hp) (vs:List V) (Q:VK) (E:XK),dH k (A.deeper (envOfC qual (aj st) s.heap.objs.size f cx))->sp vs H Q E->
   ∃ t,mn (jk rp P w K mg base N qual (aj st) f cx A outer s H E).Lm (cU st) t /\ t { nx:=λ_ H'=>Q .ia H',rt:=Q } (start N vs) H):nU P w K mg base rp (k + 1) f fd ps sp:=by
 obtain ⟨oc,od,kV,doc,pm,an,cx,ct,FC,rfl,lk,qY⟩:=F.ex
 refine HA lk qY S len λA outer s H vs Q E hr Au=>?_
 obtain ⟨t,h,q⟩:=jK cx A outer s H vs Q E hr Au
 exact ⟨t,h.Lm,q⟩
theorem HK.binds {st:Stmt} (F:HK K x qual st f fd)
  (h:∀ (kV doc pm:Value) (an:Option Addr) (cx ct:Value) (us:cc),us.length=ps.length->bindArgs (PySem.W.fnOf x qual (gj st) (cU st) (aj st) .none kV doc pm an cx ct) ⟨us,[]⟩=pure (ps.zip us)):Binds K fd ps []:=by
 obtain ⟨oc,od,kV,doc,pm,an,cx,ct,FC,rfl,lk,qY⟩:=F.ex
 exact .all (h kV doc pm an cx ct)
theorem fm {st:Stmt} {kV doc pm cx ct:Value} (l:K.lookup f=some ⟨oc,od,.func (PySem.W.fnOf x qual (gj st) (cU st) (aj st) .none kV doc pm an cx ct),FC⟩)
  (c:PySem.W.codeIn K cx qual=true) (k:PySem.W.keepIn K (.ref f)=true):HK K x qual st f (PySem.W.fnOf x qual (gj st) (cU st) (aj st) .none kV doc pm an cx ct):=⟨⟨oc,od,kV,doc,pm,an,cx,ct,FC,rfl,l,c⟩,k⟩
end
def Mf:Option NameKind->Bool
 | some .local=>true
 | some .cell=>true
 | some .free=>true
 | _=>false
theorem Rg (h:Mf (sc.names.lookup x)=true):UJ sc x:=by
 unfold UJ
 cases e:sc.names.lookup x with
 | none=>rw [e] at h; cases h
 | some k=>
   rw [e] at h
   cases k <;> first | exact .inl rfl | exact .inr (.inl rfl) | exact .inr (.inr rfl) | cases h
section
variable {X:Cx}
theorem pv (i:Nat) (hN:X.N[i]?=some x:=by rfl) (hv:Mf (X.env.scope.names.lookup x)=true:=by rfl) (hd:(x == ("__debug__":Str))=false:=by decide)
  (qY:(x == ("__classdict__":Str))=false:=by decide):PE X (.Name x pos) (ur i):=QA hN (Rg hv) hd qY
end
def aG (H H':Hp):Prop:=∀ b o,H b=some o->H' b=some o
theorem aG.refl (H:Hp):aG H H:=λ_ _ h=>h
theorem aG.trans (a:aG H H1) (b:aG H1 H2):aG H H2:=λc o h=>b c o (a c o h)
theorem aG.free (e:aG H H') (h:H' l=Option.none):H l=Option.none:=by
 cases q:H l with
 | none=>rfl
 | some o=>
   rw [e l o q] at h
   cases h
section
variable {κ:Type} [DecidableEq κ]
def p6 (bf:List (κ×V)) (k:κ):Option V:=(bf.find? λkv=>decide (kv.1=k)).map (·.2)
def putK (bf:List (κ×V)) (k:κ) (v:V):List (κ×V):=
 if (bf.any λkv=>decide (kv.1=k))=true then bf.map (λkv=>if kv.1=k then (kv.1,v) else kv) else bf ++ [(k,v)]
theorem p8 {k:κ} (e:p.1=k):p6 (p :: r) k=some p.2:=by simp [p6,e]
theorem p9 {k:κ} (e:¬ p.1=k):p6 (p :: r) k=p6 r k:=by simp [p6,e]
theorem uz (k:κ):∀ bf:List (κ×V),(bf.any λkv=>decide (kv.1=k))=(p6 bf k).isSome
 | []=>rfl
 | p :: r=>by
   rw [ada]
   by_cases e:p.1=k
   .simp only [p8 e,aaQ e,Bool.true_or,Option.isSome_some]
   .rw [p9 e,aaX e,Bool.false_or]; exact uz k r
theorem sR (bf:List (κ×V)) (k:κ) (v:V):(putK bf k v).length<=bf.length + 1:=by
 unfold putK
 split
 .grind
 .grind
theorem qZ.FI (r:qZ o u):o.isSome=u.isSome:=by
 cases o with
 | none=>cases u with
   | none=>rfl
   | some _=>exact (show False from r).elim
 | some _=>cases u with
   | none=>exact (show False from r).elim
   | some _=>rfl
theorem qZ.getD (r:qZ o u) (rd:RelV d d'):RelV (o.getD d) (u.getD d'):=by
 cases o with
 | none=>cases u with
   | none=>exact rd
   | some _=>exact (show False from r).elim
 | some _=>cases u with
   | none=>exact (show False from r).elim
   | some _=>exact r
theorem KV.val (r:KV bf vs) (k:κ):qZ (p6 bf k) (valueAt vs k):=by
 induction r with
 | nil=>exact True.intro
 | @cons p q ps qs h t ih=>
   obtain ⟨h1,h2⟩:=h
   by_cases e:p.1=k
   .have e':q.1=k:=h1.symm.trans e
    have b:valueAt (q :: qs) k=some q.2:=by simp [valueAt,e']
    rw [p8 e,b]; exact h2
   .have e':¬ q.1=k:=λz=>e (h1.trans z)
    have b:valueAt (q :: qs) k=valueAt qs k:=by simp [valueAt,e']
    rw [p9 e,b]; exact ih
theorem KV.any (r:KV bf vs) (k:κ):(bf.any λkv=>decide (kv.1=k))=vs.any λkv=>decide (kv.1=k):=by
 induction r with
 | nil=>rfl
 | cons h t ih=>rw [ada,ada,ih,h.1]
theorem KV.Rh (r:KV bf vs) (k:κ) (ry:RelV y u):
  KV (bf.map λkv=>if kv.1=k then (kv.1,y) else kv) (vs.map λkv=>if kv.1=k then (kv.1,u) else kv):=by
 induction r with
 | nil=>exact .nil
 | @cons p q ps qs h t ih=>
   refine .cons ?_ ih
   by_cases e:p.1=k
   .grind
   .grind
theorem KV.put (r:KV bf vs) (k:κ) (ry:RelV y u):KV (putK bf k y) (stored vs k u):=by
 unfold putK stored
 rw [r.any k]
 by_cases e:(vs.any λkv=>decide (kv.1=k))=true
 .rw [aaL e,aaL e]; exact r.Rh k ry
 .rw [aaO e,aaO e]; exact Paired.snoc r ⟨rfl,ry⟩
theorem KV.length {vs:List (κ×Value)} (r:KV bf vs):bf.length=vs.length:=Paired.length r
end
theorem Ec (r:RelV (kV k) u):(eA P w).is k u=true:=by
 cases k with
 | inl i=>obtain ⟨t,e⟩:=(show ∃ t,u=Value.int i t from r); subst e; exact Al P w i t
 | inr x=>obtain ⟨t,e⟩:=(show ∃ t,u=Value.str x t from r); subst e; exact Am P w x t
theorem xq:∀ {ks:List Key} {us:cc},bg (ks.map kV) us->ItemsAre (eA P w) ks us
 | [],_,r=>by rw [aeK] at r; cases r; exact .nil
 | k :: ks,_,r=>by
   cases r with
   | cons h t=>exact .cons (Ec h) (xq t)
abbrev KT (H:Hp):List (List Key×V)->List (List Key×Addr×Value)->Prop:=Paired λp q=>p.1=q.1 /\ eK H q.2.1 (p.1.map kV) /\ RelV p.2 q.2.2
theorem KT.val (r:KT H bf xs) (k:List Key):qZ (p6 bf k) ((atKey xs k).map (·.2)):=by
 induction r with
 | nil=>exact True.intro
 | @cons p q ps qs h t ih=>
   obtain ⟨h1,_,h2⟩:=h
   by_cases e:p.1=k
   .have e':q.1=k:=h1.symm.trans e
    have b:atKey (q :: qs) k=some q.2:=by simp [atKey,e']
    rw [p8 e,b]; exact h2
   .have e':¬ q.1=k:=λz=>e (h1.trans z)
    have b:atKey (q :: qs) k=atKey qs k:=by simp [atKey,e']
    rw [p9 e,b]; exact ih
theorem KT.Rh (r:KT H bf xs) (k:List Key) (ry:RelV y u):
  KT H (bf.map λkv=>if kv.1=k then (kv.1,y) else kv) (xs.map (putAt k u)):=by
 induction r with
 | nil=>exact .nil
 | @cons p q ps qs h t ih=>
   refine .cons ?_ ih
   unfold putAt
   by_cases e:p.1=k
   .grind
   .grind
theorem KT.put (r:KT H bf xs) (k:List Key) (hb:eK H b (k.map kV)) (ry:RelV y u):
  KT H (putK bf k y) (storedH xs k b u):=by
 have e:(bf.any λkv=>decide (kv.1=k))=(atKey xs k).isSome:=by
  rw [uz,(r.val k).FI,Option.isSome_map]
 unfold putK storedH
 rw [e]
 by_cases q:(atKey xs k).isSome=true
 .rw [aaL q,aaL q]; exact r.Rh k ry
 .rw [aaO q,aaO q]; exact Paired.snoc r ⟨rfl,hb,ry⟩
theorem KT.keeps (r:KT H bf xs) (ht:∀ b ys,eK H b ys->eK H' b ys):KT H' bf xs:=
 Paired.Qv r λ_ _ z=>⟨z.1,ht _ _ z.2.1,z.2.2⟩
section
variable {P:Program} {w:World} {H:Hp} {h:Heap} {a:Addr}
theorem OU (ok:ml P w H h) (e:Rd H a u):cN P w H h a u:=e.ok ok
theorem Ay (ok:ml P w H h) (e:Rd H a (.dK bf)):bf.length<=sizeLine /\ (a == sysModules)=false /\ ∃ vs,KV bf vs /\ h.DictOf (eA P w) a vs:=
 show cN P w H h a (.dK bf) from OU ok e
theorem Vl (ok:ml P w H h) (e:H a=some (.dK bf)):bf.length<=sizeLine /\ (a == sysModules)=false /\ ∃ vs,KV bf vs /\ h.DictOf (eA P w) a vs:=Ay ok (.inl e)
theorem uA (ok:ml P w H h) (e:eK H a (ks.map kV)):(tupleKind (eA P w)).is h ks a:=by
 obtain ⟨_,its,r,o,h1,h2,n,h3⟩:=(show cN P w H h a (.tup (ks.map kV)) from Rd.ok e ok)
 exact ⟨o,its.toArray,n,h1,h2,h3,by simpa using xq r⟩
theorem Az (ok:ml P w H h) (e:Rd H a (.dT bf)):bf.length<=sizeLine /\ (a == sysModules)=false /\
  ∃ xs,KT H bf xs /\ h.DictOfH (tupleKind (eA P w)) a xs:=by
 obtain ⟨z,y,xs,r,o,es,ep,h1,h2,h3,h4,h5⟩:=(show cN P w H h a (.dT bf) from OU ok e)
 refine ⟨z,y,xs,r,o,es,ep,h1,h2,h3,h4,λx hx=>?_,h5⟩
 have all:∀ {l:List (List Key×V)} {m:List (List Key×Addr×Value)},KT H l m->∀ x∈m,(tupleKind (eA P w)).is h x.1 x.2.1:=by
  intro l m q
  induction q with
  | nil=>intro x hx; exact nomatch hx
  | @cons p q ps qs hq t ih=>
    intro x hx
    rcases aaG.mp hx with e | hx
    .subst e
     exact uA ok (by rw [<- hq.1]; exact hq.2.1)
    .grind
 exact all r x hx
theorem OV (ok:ml P w H h) (e:H a=some (.dT bf)):bf.length<=sizeLine /\ (a == sysModules)=false /\
  ∃ xs,KT H bf xs /\ h.DictOfH (tupleKind (eA P w)) a xs:=Az ok (.inl e)
end
def yg (H:Hp) (a:Addr) (y:V) (r:Option V):Prop:=
 (∃ bf k,Rd H a (.dK bf) /\ y=kV k /\ r=p6 bf k) \/ ∃ bf k b,Rd H a (.dT bf) /\ y=.ref b /\ eK H b (k.map kV) /\ r=p6 bf k
def HL (H:Hp) (a:Addr) (y v:V) (H':Hp):Prop:=
 (∃ bf k,H a=some (.dK bf) /\ y=kV k /\ bf.length < sizeLine /\ H'=upd H a (.dK (putK bf k v))) \/
 ∃ bf k b,H a=some (.dT bf) /\ y=.ref b /\ eK H b (k.map kV) /\ bf.length < sizeLine /\ H'=upd H a (.dT (putK bf k v))
theorem yg.t (e:H a=some (.dT bf)) (eb:eK H b (k.map kV)):yg H a (.ref b) (p6 bf k):=.inr ⟨bf,k,b,.inl e,rfl,eb,rfl⟩
theorem HL.t (e:H a=some (.dT bf)) (eb:eK H b (k.map kV)) (hl:bf.length < sizeLine):
  HL H a (.ref b) v (upd H a (.dT (putK bf k v))):=.inr ⟨bf,k,b,e,rfl,eb,hl,rfl⟩
section
variable {X:Cx} {pins:cq} {σ:St} {H:Hp} {s:Shared} {a:Addr} {y v:V} {u r:Value} {o:Option V} {A:Around} {E:cW}
theorem Inv.big (I:Inv X pins σ H s):sysModules < s.heap.objs.size:=by
 have h:=(I.mod.glob.keeps I.bk).lt
 exact aeL (by decide) h
theorem FJ (hu:A.units + 1 < cLine) (I:Inv X pins σ H s) (g:yg H a y (some v)) (ry:RelV y u) (h:∀ w' s',Inv X pins σ H s'->RelV v w'->Q w' s'):
  wpAny (model X.prog X.w) A (getItem (.ref a) u) Q E s:=by
 rcases g with ⟨bf,k,e,ey,l⟩ | ⟨bf,k,b,e,ey,eb,l⟩
 .subst ey
  obtain ⟨z,hd,vs,rel,dd⟩:=Ay I.cm e
  obtain ⟨w',hw,Ft⟩:=qZ.some_of (v:=v) (o:=valueAt vs k) (by rw [l]; exact rel.val k)
  exact wpAny_getItem_of (Ec ry) dd.mapOf hw (h w' _ (I.tok _) Ft)
 .subst ey
  cases (show u=Value.ref b from ry)
  obtain ⟨z,hd,xs,rel,dd⟩:=Az I.cm e
  obtain ⟨w',hw,Ft⟩:=qZ.some_of (v:=v) (o:=(atKey xs k).map (·.2)) (by rw [l]; exact rel.val k)
  obtain ⟨p,hp,Xs⟩:=adn.mp hw
  refine wpAny_getItem_heap (tupleKind_room_in1 hu) (uA I.cm eb) dd hp ?_
  rw [Xs]
  exact h w' _ (I.tok _) Ft
theorem yh (I:Inv X pins σ H s) (mu:UI (H a)) (hs:Heap.SameBut a s.heap h') (he:∃ q,h'.get? a=some q) (new:cN X.prog X.w (upd H a ob) h' a ob):
  Inv X pins σ (upd H a ob) { s with heap:=h',toks:=t' }:=
 I.write (x:=a) (e:=a) mu (.inl rfl) (λb q hb z=>(hs.2 b hb).trans z) he new
theorem Ri (z:bf.length<=sizeLine) (hd:(a == sysModules)=false) (rel:KV bf vs) (dd:h'.DictOf (eA P w) a vs):
  cN P w H' h' a (.dK bf):=⟨z,hd,vs,rel,dd⟩
theorem FK (hu:A.units + 1 < cLine) (I:Inv X pins σ H s) (g:HL H a y v H') (ry:RelV y u) (rv:RelV v r) (h:∀ s',Inv X pins σ H' s'->Q () s'):
  wpAny (model X.prog X.w) A (setItem (.ref a) u r) Q E s:=by
 rcases g with ⟨bf,k,e,ey,l,eH⟩ | ⟨bf,k,b,e,ey,eb,l,eH⟩
 .subst ey eH
  obtain ⟨z,hd,vs,rel,dd⟩:=Vl I.cm e
  have hz:vs.length<=sizeLine:=by rw [<- rel.length]; exact z
  have hl:(putK bf k v).length<=sizeLine:=by have:=sR bf k v; lia
  refine wpAny_setItem_pairs (hsz:=hz) (Ec ry) dd λh' T4 hs=>h _ ?_
  have he:∃ q,h'.get? a=some q:=let ⟨q,_,_,hq,_⟩:=T4; ⟨q,hq⟩
  exact yh I (by rw [e]; exact True.intro) hs he (Ri hl hd (rel.put k rv) T4)
 .subst ey eH
  cases (show u=Value.ref b from ry)
  obtain ⟨z,hd,xs,rel,dd⟩:=OV I.cm e
  have hz:xs.length<=sizeLine:=by rw [<- Paired.length rel]; exact z
  have hl:(putK bf k v).length<=sizeLine:=by have:=sR bf k v; lia
  refine wpAny_setItem_heap (hsz:=hz) (tupleKind_room_in1 hu) (uA I.cm eb) dd λh' T4 hs=>h _ ?_
  obtain ⟨q,es,ep,hq,h2,h3,h4,_,h5⟩:=T4
  refine yh I (by rw [e]; exact True.intro) hs ⟨q,hq⟩ ⟨hl,hd,_,(rel.put k eb rv).keeps λc ys ec=>?_,q,es,ep,hq,h2,h3,h4,h5⟩
  exact ec.dT e
end
section
variable {X:Cx} {pins:cq} {σ:St} {H:Hp} {s:Shared} {a:Addr} {bf:List (Key×V)} {k:Key} {u:Value} {A:Around} {E:cW}
end
def Rj (i:Expr):Prop:=∀ ov iv,subscripted i false ov iv=operate [ov,iv] (getItem ov iv)
theorem Mg {T id:String} 
  (hl:typeLookup (.type T) "__getitem__"=pure (some (.builtin id))) (hs:Rj slice)
  (h:wpAny (model prog w) A (eval value env) (λo cu=>wpAny (model prog w) A (eval slice env) (λi oD=>oD.TypeIs o T /\ wpAny (model prog w) A (getItem o i) Q E oD) E cu) E s):
  wpAny (model prog w) A (eval (.Subscript value slice pos) env) Q E s:=by
 refine Subscript_ (aa5 h (λo cu uB=>aa5 uB (λi oD yi=>?_) λ_ _ x=>x) λ_ _ x=>x)
 obtain ⟨hT,yi⟩:=yi
 refine aaa ?_
 refine aaa (wpAny_specialOf hT hl ?_)
 have fin:wpAny (model prog w) A (subscripted slice false o i) (λr rq=>wpAny (model prog w) A (letTemporaryGo value o r >>= λ_=>pure r) Q E rq) E oD:=by
  rw [hs o i]
  exact wpAny_operating (aa5 yi (λr rq Rk=>aaa (wpAny_letTemporaryGo (aay Rk))) λ_ _ x=>x)
 first
  | exact aay (aaa fin)
  | exact aaa (aay (aaa fin))
  | exact aaa fin
theorem AA (I:Inv X pins σ H s) (g:yg H a y o):s.TypeIs (.ref a) "dict":=by
 rcases g with ⟨bf,k,e,_,_⟩ | ⟨bf,k,b,e,_,_,_⟩
 .obtain ⟨_,_,vs,_,dd⟩:=Ay I.cm e
  exact dd.typeIs
 .obtain ⟨_,_,xs,_,dd⟩:=Az I.cm e
  exact dd.typeIs
def Vm (td ty:TE):TE:=λσ H Q=>td σ H λx H1=>ty σ H1 λy H2=>∃ a v,x=.ref a /\ yg H2 a y (some v) /\ Q v H2
def OW (td ty tv:TE):TS:=λD σ H=>tv σ H λv H1=>td σ H1 λx H2=>ty σ H2 λy H3=>∃ a H4,x=.ref a /\ HL H3 a y v H4 /\ D.nx σ H4
section
variable {X:Cx} {o i e value:Expr} {pos pos' ma:Pos} {td ty tv:TE}
theorem Mh (hu:X.A.units + 1 < cLine) (ho:PE X o td) (hi:PE X i ty) (hs:Rj i):PE X (.Subscript o i pos) (Vm td ty):=by
 intro pins s σ H Q I h
 refine Mg PySem.F.slot_dict_getitem.lookup hs (dj (ho pins s σ H _ I h) λu s1 ⟨x,H1,I1,rx,q1⟩=>dj (hi pins s1 σ H1 _ I1 q1) λiv s2 ⟨y,H2,I2,ry,a,v,ex,g,q2⟩=>?_)
 subst ex
 obtain rfl:u=Value.ref a:=rx
 exact ⟨AA I2 g,FJ hu I2 g ry λw' s3 I3 Ft=>⟨v,H2,I3,Ft,q2⟩⟩
theorem Mi (hu:X.A.units + 1 < cLine) (ho:PE X o td) (hi:PE X i ty) (hv:PE X value tv) (hs:swapsWith value (some (.Subscript o i pos')) pos.line X.env=pure false):
  PS X (.Assign [.Subscript o i pos'] value pos) (OW td ty tv):=by
 intro pins s σ H D I h
 refine wpAny_Assign_Subscript (dj (hv pins s σ H _ I h) λr s1 ⟨v,H1,I1,rv,q1⟩=>dj (ho pins s1 σ H1 _ I1 q1) λu s2 ⟨x,H2,I2,rx,q2⟩=>dj (hi pins s2 σ H2 _ I2 q2) λiv s3 ⟨y,H3,I3,ry,a,H4,ex,g,q3⟩=>?_) hs
 subst ex
 obtain rfl:u=Value.ref a:=rx
 exact FK hu I3 g ry rv λs4 I4=>⟨σ,H4,I4,q3⟩
end
theorem HM (h:Heap) (hb:sysModules < h.objs.size):cN P w H (h.push { cls:=.type "dict",data:=.dict #[] }) h.objs.size (.dT []):=
 ⟨abS _,ac3.mpr (acx (aaR hb)),[],.nil,_,#[],0,aaH _ rfl,⟨rfl,rfl,rfl⟩,rfl,rfl,List.nodup_nil⟩
section
variable {X:Cx} {pos:Pos}
end
def Cf:List (TE×TE)->St->Hp->(List (V×V)->Hp->Prop)->Prop
 | [],_,H,Q=>Q [] H
 | (tk,tv) :: r,σ,H,Q=>tk σ H λx H1=>tv σ H1 λy H2=>Cf r σ H2 λps H3=>Q ((x,y) :: ps) H3
abbrev VV:List (V×V)->List (Value×Value)->Prop:=Paired λp q=>RelV p.1 q.1 /\ RelV p.2 q.2
def Xu (X:Cx) (pos:Pos) (keys:List (Option Expr)) (values:List Expr) (YK:List (TE×TE)):Prop:=
 ∀ (pins:cq) (s:Shared) (σ:St) (H:Hp) (Q:List (V×V)->Hp->Prop),Inv X pins σ H s->Cf YK σ H Q->
   wpAny (model X.prog X.w) X.A (evalPairs (pairTrees keys values X.env pos)) (λvs s'=>∃ ps H',Inv X pins σ H' s' /\ VV ps vs /\ Q ps H') X.xe s
theorem Mj:Xu X pos [] [] []:=λpins s σ H Q I h=>pairTrees_nil_walk ⟨[],H,I,.nil,h⟩
theorem HN (hk:PE X k tk) (hv:PE X v tv) (hr:Xu X pos ks vs YK):
  Xu X pos (some k :: ks) (v :: vs) ((tk,tv) :: YK):=λpins s σ H Q I h=>
 pairTrees_cons_walk (dj (hk pins s σ H _ I h) λu s1 ⟨x,H1,I1,rx,q1⟩=>dj (hv pins s1 σ H1 _ I1 q1) λw2 s2 ⟨y,H2,I2,ry,q2⟩=>
  dj (hr pins s2 σ H2 _ I2 q2) λws s3 ⟨ps,H3,I3,rel,q3⟩=>⟨(x,y) :: ps,H3,I3,.cons ⟨rx,ry⟩ rel,q3⟩)
structure M2 (X:Cx) (o:Expr) (m:Str) (apos:Pos) (e f:Expr) (fI:Pos):Prop where
 base:attributeBase o m X.env (eval o X.env)=eval o X.env
 few:((backTo fI (starEach [e,f] X.env)).all (λx=> !x.1) && (backToKw fI (keywordEach [] X.env)).all (λx=>x.1.isSome)
  && decide (([e,f]:List Expr).length + ([]:List Keyword).length + (if ([]:List Keyword).isEmpty then 0 else 1) < 30))=true
 line:(apos.endLine == fI.line)=true
 trees:backTo fI (starEach [e,f] X.env)=[(false,eval e X.env),(false,eval f X.env)]
def OX (H:Hp) (a:Addr):Prop:=(∃ bf,Rd H a (.dK bf)) \/ ∃ bf,Rd H a (.dT bf)
theorem Rl (I:Inv X pins σ H s) (d:OX H a):
  s.TypeIs (.ref a) "dict" /\ (∀ b,Value.ref a=.ref b->∃ ob,s.heap.get? b=some ob /\ ob.dict=none) /\ (a == sysModules)=false:=by
 rcases d with ⟨bf,e⟩ | ⟨bf,e⟩
 .obtain ⟨_,hd,vs,_,dd⟩:=Ay I.cm e
  refine ⟨dd.typeIs,λb q=>?_,hd⟩
  cases q
  obtain ⟨ob,_,_,h1,h2,_⟩:=dd
  exact ⟨ob,h1,h2.2.1⟩
 .obtain ⟨_,hd,xs,_,dd⟩:=Az I.cm e
  refine ⟨dd.typeIs,λb q=>?_,hd⟩
  cases q
  obtain ⟨ob,_,_,h1,h2,_⟩:=dd
  exact ⟨ob,h1,h2.2.1⟩
section
variable {X:Cx} {pins:cq} {σ:St} {H:Hp} {s:Shared} {a:Addr} {y d:V} {u r:Value} {o:Option V} {A:Around} {E:cW}
theorem Rm (hu:A.units + 1 < cLine) (I:Inv X pins σ H s) (g:yg H a y o) (ry:RelV y u) (rd:RelV d r) (h:∀ w' s',Inv X pins σ H s'->RelV (o.getD d) w'->Q w' s'):
  wpAny (model X.prog X.w) A (call (.builtin "dict.get") [.ref a,u,r]) Q E s:=by
 rcases g with ⟨bf,k,e,ey,l⟩ | ⟨bf,k,b,e,ey,eb,l⟩
 .subst ey
  obtain ⟨z,hd,vs,rel,dd⟩:=Ay I.cm e
  refine call_meetsIn adz dd.typeIs PySem.F.entry_dict_get (PySem.F.args_dict_get_3 _ _ _) (meets_dict_get_default (eA X.prog X.w) a (Ec ry) hd r) ⟨_,dd.mapOf,h _ _ (I.tok _) ?_⟩
  rw [l]
  exact (rel.val k).getD rd
 .subst ey
  cases (show u=Value.ref b from ry)
  obtain ⟨z,hd,xs,rel,dd⟩:=Az I.cm e
  refine call_meetsIn adz dd.typeIs PySem.F.entry_dict_get (PySem.F.args_dict_get_3 _ _ _) (meetsH_dict_get_default (tupleKind (eA X.prog X.w)) a b hd r) ⟨tupleKind_room_in1 hu,k,xs,uA I.cm eb,dd,h _ _ (I.tok _) ?_⟩
  rw [l]
  exact (rel.val k).getD rd
end
def Rn (td ty tx:TE):TE:=λσ H Q=>td σ H λx H1=>∃ a,x=.ref a /\ OX H1 a /\ ty σ H1 λy H2=>tx σ H2 λz H3=>∃ o,yg H3 a y o /\ Q (o.getD z) H3
section
variable {X:Cx} {o e f:Expr} {apos fI:Pos} {td ty tx:TE}
theorem HP (hu:X.A.units + 1 < cLine) (ho:PE X o td) (he:PE X e ty) (hf:PE X f tx) (m:M2 X o "get" apos e f fI):PE X (.Call (.Attribute o "get" apos) [e,f] [] fI) (Rn td ty tx):=by
 intro pins s σ H Q I h
 refine wpAny_Call_method m.base m.few m.line PySem.F.plainAttrs_dict adz PySem.F.type_dict_get (dj (ho pins s σ H _ I h) λu s1 ⟨x,H1,I1,rx,a,ex,d,q1⟩=>?_)
 subst ex
 obtain rfl:u=Value.ref a:=rx
 obtain ⟨t1,t2,_⟩:=Rl I1 d
 refine ⟨t1,t2,?_⟩
 rw [m.trees]
 refine ads rfl (adK (adh (dj (he pins s1 σ H1 _ I1 q1) λiv s2 ⟨y,H2,I2,ry,q2⟩=>
  adh (dj (hf pins s2 σ H2 _ I2 q2) λfv s3 ⟨z,H3,I3,rz,ov,g,q3⟩=>Calls.spliced_nil ?_))))
 exact Rm hu I3 g ry rz λw' s4 I4 Ft=>⟨_,H3,I4,Ft,q3⟩
end
end L2
set_option maxHeartbeats 4000000
namespace L2
open PySem PySem.Spec PyProof.Rows
section
variable {X:Cx}
theorem bq:gS X (binaryOp .Mult) (rI IntMulOk λi j=>.int (i * j)):=U4 λ_ _ _ _ _ _ _ hc q=>mul_int q hc
def Ed (i j:Int):Prop:=j≠0 /\ Builtin.divisionGoesByPylong i j=false
theorem br:gS X (binaryOp .FloorDiv) (rI Ed λi j=>.int (i.fdiv j)):=U4 λ_ _ _ _ _ _ _ hc q=>floordiv_int hc.1 q (.inl hc.2)
theorem xr (h:Builtin.Int.intBits j<=9000):Builtin.divisionGoesByPylong i j=false:=by
 refine PyProof.noPylong_of_log2 ?_
 unfold Builtin.Int.intBits at h
 by_cases hj:j=0
 .simp_all
 .rw [if_neg (by simpa using hj)] at h
  lia
theorem mul_right (h1: -(2 ^ 64) < j) (h2:j < 2 ^ 64):IntMulOk i j:=.of_right (intBits_le_64 h1 h2)
theorem mul_left (h1: -(2 ^ 64) < i) (h2:i < 2 ^ 64):IntMulOk i j:=.of_left (intBits_le_64 h1 h2)
def TyW (K:au) (H:Hp) (x:V) (t:String):Prop:=
 rh K H x (.type t) \/ (∃ a xs,x=.ref a /\ k7 K H a xs /\ t="tuple") \/ (∃ a xs,x=.ref a /\ kB K H a xs /\ t="list")
def YL (K:au):List V->Hp->VK->Prop:=λxs H Q=>∃ x n t b,xs=[x,.ty n] /\ TyW K H x t /\ PySem.W.kitOne K (.type t) (.type n)=some b /\ Q (.bl b) H
theorem HQ:fT X (.builtin "isinstance") (YL X.K):=by
 intro pins s σ H xs us Q I r h
 obtain ⟨x,n,t,b,rfl,ty,e,q⟩:=h
 obtain ⟨u1,u2,rfl,r1,r2⟩:∃ u1 u2,us=[u1,u2] /\ RelV x u1 /\ RelV (.ty n) u2:=by
  cases r with
  | cons p q=>cases q with
    | cons p' q'=>cases q'; exact ⟨_,_,rfl,p,p'⟩
 cases (show u2=Value.type n from r2)
 have fin:∀ tk,EP X pins σ Q (.bool b) { s with toks:=tk }:=λtk=>⟨.bl b,H,I.tok _,rfl,q⟩
 rcases ty with ty | ⟨a,ys,rfl,hq,rfl⟩ | ⟨a,ys,rfl,hq,rfl⟩
 .exact FA I r1 ty e fin
 .cases (show u1=Value.ref a from r1)
  obtain ⟨its,_,p,_⟩:=I.tuple hq
  obtain ⟨o,h1,h2,_⟩:=p
  exact aby PySem.W.kitx_tuple I.oB ⟨o,h1,h2⟩ e (λz=>nomatch z) fin
 .cases (show u1=Value.ref a from r1)
  obtain ⟨its,_,p,_⟩:=I.list hq
  obtain ⟨o,n,h1,h2,_⟩:=p
  exact aby aei I.oB ⟨o,h1,h2⟩ e (λz=>nomatch z) fin
theorem HR {K:au} :PySem.W.kitOne K (.type t) (.type t)=some true:=by
 unfold PySem.W.kitOne
 rw [aaL (by simp)]
def Dn (P:Program) (w:World) (K:au) (mg:dG) (base:Heap) (k:Nat) (x:Str) (ps:List Str) (sp:Sp):Prop:=
 ∃ f fd,nU P w K mg base rp k f fd ps sp /\ mg x=some (.ref f) /\ PySem.W.keepIn K (.ref f)=true /\ Binds K fd ps []
theorem HS (D:Dn X.prog X.w X.K X.mg X.base k x ps sp) (hr:dH kk X.A) (hk:k<=kk) (ha:PA X (e :: es) t) (hg:Gl X x:=by rfl)
  (tw:(x == ("__debug__":Str))=false:=by decide) (he:starEach (e :: es) X.env=(false,eval e X.env) :: starEach es X.env:=by rfl) (kf:(backTo pos (starEach es X.env)).any (·.1)=false:=by rfl):
  PE X (.Call (.Name x p) (e :: es) [] pos) (xi sp [] E0 t):=by
 obtain ⟨f,fd,F,m,kp,b⟩:=D
 exact D6 F (hr.mono hk) hg m kp b .nil Vk ha tw he kf
structure Bs (mg:dG):Prop where
 len:mg "len"=none
 range:mg "range"=none
 isinstance:mg "isinstance"=none
 max:mg "max"=none
 min:mg "min"=none
 int:mg "int"=none
 bool:mg "bool"=none
 tuple:mg "tuple"=none
 list:mg "list"=none
 abs:mg "abs"=none
 str:mg "str"=none
 sum:mg "sum"=none
 sorted:mg "sorted"=none
 reversed:mg "reversed"=none
 enumerate:mg "enumerate"=none
 set:mg "set"=none
 all:mg "all"=none
 zip:mg "zip"=none
 any:mg "any"=none
def Df (K:au) (mg:dG) (x:Str) (st:Stmt) (ps:List Str):Prop:=∃ f fd,HK K x x st f fd /\ mg x=some (.ref f) /\ Binds K fd ps []
theorem Df.ok {K:au} {st:Stmt} (F:Df K mg x st ps) (S:aA N ps (aj st)) (len:∀ vs H Q E,sp vs H Q E->vs.length=ps.length)
  (jK:∀ (f:Addr) (cx:Value) (A:Around) (outer:List Env) (s:Shared) (H:Hp) (vs:List V) (Q:VK) (E:XK),dH k (A.deeper (envOfC x (aj st) s.heap.objs.size f cx))->sp vs H Q E->
   ∃ t,mn (jk rp P w K mg base N x (aj st) f cx A outer s H E).Lm (cU st) t /\ t { nx:=λ_ H'=>Q .ia H',rt:=Q } (start N vs) H):Dn P w K mg base (k + 1) x ps sp:=by
 obtain ⟨f,fd,F,m,b⟩:=F
 exact ⟨f,fd,F.ok S len (jK f),m,F.kp,b⟩
def Cn (mg:dG) (x:Str) (v:V):Prop:=∃ u,mg x=some u /\ RelV v u
theorem eh (c:Cn X.mg x v) (hg:Gl X x:=by rfl) (hd:(x == ("__debug__":Str))=false:=by decide):PE X (.Name x pos) (tC v):=by
 obtain ⟨u,m,r⟩:=c
 exact LL hg m r hd
end
theorem cF (h:H p=none) (o:HO):aG H (upd H p o):=λb u q=>by rw [aN (bo q h)]; exact q
theorem aG.tup {K:au} {H H':Hp} {a:Addr} {xs:List V} (e:aG H H') (h:k7 K H a xs):k7 K H' a xs:=by
 rcases h with (h | ⟨o,h⟩) | h
 .exact .inl (.inl (e _ _ h))
 .exact .inl (.inr ⟨o,e _ _ h⟩)
 .exact .inr h
theorem small (h:n<=100000):n<=sizeLine:=aa6 h (by decide)
theorem HU (h:n<=100000):n < sizeLine:=abq h (by decide)
section
variable {X:Cx}
def OY:V->List V->Hp->VK->Prop:=λx vs H Q=>∃ i:Int,x=.int i /\ vs=[] /\ Q (.int (Builtin.Int.intBits i:Nat)) H
theorem Mk:Xp X "int.bit_length" OY:=by
 intro pins s σ H x vs v us Q I rx rv h
 obtain ⟨i,rfl,rfl,q⟩:=h
 obtain ⟨t,rfl⟩:=rx
 cases rv
 exact call_int_bit_length ⟨.int _,H,I.tok _,⟨_,rfl⟩,q⟩
theorem Ml (ho:PE X o to) (ux:attributeBase o "bit_length" X.env (eval o X.env)=eval o X.env:=by rfl) (uy:(apos.endLine == fI.line)=true:=by rfl):
  PE X (.Call (.Attribute o "bit_length" apos) [] [] fI) (Q7 X.K "int" OY to):=HH PySem.F.plainAttrs_int PySem.F.slot_int_bit_length PySem.F.type_int_bit_length Mk ho ux uy
end
theorem aG.upd (s:aG H H') (h:H l=none) (o:HO):aG H (upd H' l o):=λb u q=>by rw [aN (bo q h)]; exact s b u q
theorem rA:bootBuiltins "int"=some (.type "int"):=by decide +kernel
theorem uC:bootBuiltins "tuple"=some (.type "tuple"):=by decide +kernel
theorem qa:bootBuiltins "list"=some (.type "list"):=by decide +kernel
theorem cP:bootBuiltins "len"=some (.builtin "len"):=by decide +kernel
theorem oF:bootBuiltins "abs"=some (.builtin "abs"):=by decide +kernel
theorem HV:bootBuiltins "max"=some (.builtin "max"):=by decide +kernel
theorem Ro:bootBuiltins "min"=some (.builtin "min"):=by decide +kernel
theorem kC:bootBuiltins "isinstance"=some (.builtin "isinstance"):=by decide +kernel
section
variable {X:Cx}
end
section
variable {X:Cx}
end
section
variable {X:Cx}
theorem oG (h:∀ y∈scope.names,y.2=.free->∃ c,env.cells.lookup y.1=some c):
  ∃ cl:List (Str×Addr),closureFor scope env=pure cl /\ (∀ n c,cl.lookup n=some c->env.cells.lookup n=some c) /\ ∀ n,(n,NameKind.free)∈scope.names->∃ c,cl.lookup n=some c:=by
 have go:∀ (l:List (Str×NameKind)) (cs:List (Str×Addr)),(∀ y∈l,y.2=.free->∃ c,env.cells.lookup y.1=some c)->(∀ n c,cs.lookup n=some c->env.cells.lookup n=some c)->
   ∃ cl:List (Str×Addr),(forIn l cs λx r=>(match x with | (name,kind)=>if (kind == NameKind.free)=true then (do let a <- cellOf env name; pure (ForInStep.yield ((name,a) :: r))) else pure (ForInStep.yield r):Sem (ForInStep (List (Str×Addr)))))=(pure cl:Sem _) /\
     (∀ n c,cl.lookup n=some c->env.cells.lookup n=some c) /\ (∀ n,(n,NameKind.free)∈l->∃ c,cl.lookup n=some c) /\ ∀ n c,cs.lookup n=some c->∃ c',cl.lookup n=some c':=by
  intro l
  induction l with
  | nil=>intro cs _ hc; exact ⟨cs,rfl,hc,λn hn=>by simp at hn,λn c e=>⟨c,e⟩⟩
  | cons y r ih=>
    intro cs hl hc
    obtain ⟨name,kind⟩:=y
    by_cases hk:kind=.free
    .subst hk
     obtain ⟨c,e⟩:=hl (name,.free) aaD rfl
     have Lk:∀ n d,((name,c) :: cs).lookup n=some d->env.cells.lookup n=some d:=by grind
     obtain ⟨cl,h1,h2,h3,h4⟩:=ih ((name,c) :: cs) (λy hy=>hl y (aaE _ hy)) Lk
     refine ⟨cl,?_,h2,λn hn=>?_,λn d q=>?_⟩
     .rw [List.forIn_cons]
      have ec:cellOf env name=pure c:=by unfold cellOf; rw [e]
      simp only [ec]
      exact h1
     .grind
     .grind
    .obtain ⟨cl,h1,h2,h3,h4⟩:=ih cs (λy hy=>hl y (aaE _ hy)) hc
     refine ⟨cl,?_,h2,λn hn=>?_,h4⟩
     .grind
     .grind
 obtain ⟨cl,h1,h2,h3,_⟩:=go scope.names [] h (λn c e=>by simp at e)
 refine ⟨cl,?_,h2,h3⟩
 simp only [closureFor]
 rw [h1]
 rfl
def cQ (X:Cx) (scope:Scope) (N':List Str) (cl:List (Str×Addr)) (C:Addr) (s2:Shared) (H2:Hp) (fp:List Addr) (pins:cq):Cx:=
 { X with N:=N',gQ:=s2,Fs:=H2,env:=compEnvC scope cl C X.env,outer:=X.stack,stack:=X.stack,ex:=fp,fn:=λ_=>false,pn:=X.pn ++ pins,xe:=λ_ _=>False }
def wI (ix:List Nat) (σ:St):St:=ix.map λj=>(σ[j]?).join
section
variable {scope:Scope} {x:Str} {ix:List Nat} {N':List Str} {cl:List (Str×Addr)} {C:Addr} {s2 s3:Shared} {H2:Hp} {fp:List Addr} {pins:cq} {σ:St}
theorem HW {j:Nat} (h:(wI ix σ)[j]?=some (some v)):∃ i,ix[j]?=some i /\ σ[i]?=some (some v):=by
 unfold wI at h
 rw [aaU] at h
 cases e:ix[j]? with
 | none=>rw [e] at h; cases h
 | some i=>grind
abbrev Ln (its:cc) (n:Nat):Obj:={ cls:=.type "list",data:=.seq its.toArray n }
theorem Inv.OZ (I:Inv X pins σ H s) (hD:H D=none) (hs:X.gQ.heap.objs.size<=D) (hl:D≠X.env.locals) (hc:∀ x c,X.env.cells.lookup x=some c->c≠D)
  (hp:∀ p∈X.pn ++ pins,p.1≠D) (e:s.heap.get? D=some (Ln its n)) (r:bg ys its) (hz:ys.length<=sizeLine):Inv X pins σ (upd H D (.lst ys)) s:=by
 have h:=I.step (H':=upd H D (.lst ys)) (h':=s.heap) (g':=s.gens) (t':=s.toks) (d':=s.drawn) (ch:=[D]) (λb hb=>by
   have e:b=D:=by simpa using hb
   subst e
   exact ⟨.inr hs,hl,hc,hp⟩)
  (λb o _ _ _ q _=>q) (λb o _ _ _ q _=>⟨o.slots,q⟩) (λb o hb _ q=>by rw [aN (by simpa using hb)]; exact q) (λb o _ q=>⟨o,q⟩)
  (λb xs q=>by rw [aN (bo q hD)]; exact q) (λb o u q=>by rw [aN (bo q hD)]; exact q) (λb ps q=>⟨#[],by rw [aN (bo q hD),ad3]; exact q⟩) (λm hm=>hm) (λb u q=>?_) I.bare
 .exact h
 .by_cases hb:b=D
  .subst hb
   rw [cf] at q; cases q
   exact ⟨hz,its,n,r,e⟩
  .rw [aN hb] at q
   exact (I.cm b u q).ra (λ_ _ _ z=>z) (λc z=>by rw [aN (bo z hD)]; exact z) λc xs z=>z.new hD
theorem FL (I0:Inv X pins σ H2 s2) (hC:s2.heap.objs.size<=C) (hD:s2.heap.objs.size<=D) (hf:∀ b∈fp,md X pins H2 b) 
  (I:Inv (cQ X scope N' cl C s2 H2 fp pins) ((D,Ln its n) :: more) dw H s1) (r:bg ys its) (hz:ys.length<=sizeLine) (hs:Heap.SameBut C s1.heap h') (Rp:D≠C):
  Inv X pins σ (upd H D (.lst ys)) { s1 with heap:=h' }:=by
 have nC:∀ b o,s2.heap.get? b=some o->b≠C:=λb o e=>aaR (aaC (aaB e) hC)
 have B:=I.base
 have fC:H C=none:=I.free
 have pD:=I.pin (D,Ln its n) (aaN _ aaD)
 have u:Un (ke X.stack) fp H2 H s2.heap h':=⟨λb o e n hb hx=>(hs.2 b (nC b o e)).trans (B.keep b o e n hb hx),λb o e n hb hx=>by
   obtain ⟨sl,q⟩:=B.slot b o e n hb hx
   exact ⟨sl,(hs.2 b (nC b o e)).trans q⟩,B.free,λb o e hx=>by
   obtain ⟨o',q⟩:=B.there b o e hx
   exact ⟨o',(hs.2 b (nC b o e)).trans q⟩,B.oA,B.pT,B.rb⟩
 have cm:ml X.prog X.w H h':=λb o e=>(I.cm b o e).ra (λc v hc q=>(hs.2 c (by
   rintro rfl
   rcases hc with z | z
   .grind
   .rw [fC] at z; cases z)).trans q) (λ_ q=>q) λ_ _ q=>q
 have I1:=I0.He (s':={ s1 with heap:=h' }) (ch:=fp) I.os u cm I.bare λb hb=>⟨(hf b hb).2.2.2.1,(hf b hb).2.1,(hf b hb).2.2.2.2.1,(hf b hb).2.2.2.2.2⟩
 refine I1.OZ (its:=its) (n:=n) pD.2.1 (aa6 I0.sz hD) (acy (aaC I0.lt hD)) (λa c e z=>?_) (λp hp z=>?_) ((hs.2 D Rp).trans pD.1) r hz
 .obtain ⟨v,q⟩:=I0.cell a c e
  exact absurd (aaC q.lt (by rw [z]; exact hD)) (abp _)
 .exact absurd (aaC (aaB (I0.pin p hp).1) (by rw [z]; exact hD)) (abp _)
end
section
variable {scope:Scope} {x:Str} {ix:List Nat} {N':List Str} {elt iter:Expr} {px pos:Pos} {wi:TI} {te:TE}
end
def Mm (sc scope:Scope):List (Str×NameKind):=scope.names.map λ(n,k)=>if (k == .free && sc.kind == .function && sc.names.lookup n == some .cell) then (n,.cell) else (n,k)
theorem lookup_mem:∀ {l:List (Str×NameKind)},l.lookup n=some k->(n,k)∈l
 | [],h=>by simp at h
 | (a,b) :: r,h=>by
   rw [acJ] at h
   cases e:n == a with
   | true=>rw [e] at h; cases h; rw [eq_of_beq e]; exact aaD
   | false=>rw [e] at h; exact aaE _ (lookup_mem h)
section
variable {scope:Scope} {x:Str} {elt iter:Expr} {px pos:Pos} {wi:TI} {te:TE}
end
end
section
variable {X:Cx} {pins:cq} {σ:St} {H:Hp} {s:Shared}
end
section
variable {X:Cx}
end
abbrev eZ:=Int×Int
def dF (q:eZ):PyData:=.tuple [.int q.1,.int q.2]
def dP (l:List eZ):PyData:=.list (l.map dF)
theorem Rq (a b:eZ):PyData.eqv (dF a) (dF b)=decide (a=b):=by
 obtain ⟨a1,a2⟩:=a
 obtain ⟨b1,b2⟩:=b
 simp only [dF,PyData.eqv,PyData.eqvAll]
 rw [Bool.eq_iff_iff]; simp
theorem YM (q:eZ):(dF q).canLay0=true /\ (dF q).depth<=3:=⟨by simp [dF,PyData.canLay0,PyData.canLayAll0],by simp [dF,PyData.depth,PyData.depthAll]⟩
theorem O0 (q:eZ):SeqAt.shaped (dF q)=true:=rfl
theorem HX (h:xs[xs.length - 1]?=some v):p0 xs (-1)=some v:=by
 have hl:0 < xs.length:=by grind
 have e:D7 xs.length (-1)=some (xs.length - 1):=by
  unfold D7
  rw [aaO (by decide),aaL (by lia)]
  congr 1
  lia
 unfold p0
 rw [e]
 exact h
abbrev D:=PyData
abbrev DS:=List (Option D)
def bV:List (Addr×List V):=[(204,[.int (0),.int (1)]),(257,[.int (1),.int (1)])]
def cK:List (Addr×Pos×Str):=[(299,⟨173,44,173,70⟩,"by_falling_ratio.<locals>.<lambda>"),(311,⟨188,28,188,65⟩,"in_order.<locals>.<lambda>")]
theorem aG.oH (s:aG H H') (h:eK H a xs):eK H' a xs:=by
 rcases h with h | ⟨ob,h⟩
 .exact .inl (s _ _ h)
 .exact .inr ⟨ob,s _ _ h⟩
def wo (H:Hp) (A:List Addr):Hp:=λa=>if a∈A then none else H a
section
variable {K:au} {H H':Hp} {A A':List Addr} {a l p r:Addr} {o:HO}
theorem cG (h:a∉A):wo H A a=H a:=by unfold wo; rw [if_neg h]
theorem my (h:a∈A):wo H A a=none:=by unfold wo; rw [if_pos h]
theorem k9 (h:wo H A a=some o):a∉A /\ H a=some o:=by
 unfold wo at h
 split at h
 .cases h
 .grind
theorem cM:aG (wo H A) H:=λ_ _ h=>(k9 h).2
theorem cB (s:aG H H'):aG (wo H A) (wo H' A):=λb u h=>by
 obtain ⟨h1,h2⟩:=k9 h
 rw [cG h1]; exact s b u h2
theorem mz (h:∀ a∈A',a∈A):aG (wo H A) (wo H A'):=λb u q=>by
 obtain ⟨h1,h2⟩:=k9 q
 rw [cG λz=>h1 (h b z)]; exact h2
theorem Cg:wo H []=H:=by funext a; exact cG (by simp)
theorem HY (h:p∉A):wo (upd H p o) A=upd (wo H A) p o:=by
 funext a
 by_cases e:a=p
 .subst e; rw [cG h,cf,cf]
 .rw [aN e]
  by_cases z:a∈A
  .rw [my z,my z]
  .rw [cG z,cG z,aN e]
theorem HZ (h:l∈A):wo (upd H l o) A=wo H A:=by
 funext a
 by_cases z:a∈A
 .rw [my z,my z]
 .rw [cG z,cG z,aN]
  intro e; subst e; exact z h
theorem AB (h:H r=none):wo (upd H r o) (r :: A)=wo H A:=by
 funext a
 by_cases e:a=r
 .subst e
  rw [my (by simp)]
  by_cases z:a∈A
  .rw [my z]
  .rw [cG z,h]
 .by_cases z:a∈A
  .rw [my (by simp [z]),my z]
  .rw [cG (by simp [e,z]),cG z,aN e]
theorem Ee (s:aG H H') (h:H r=none):aG (wo H A) (wo H' (r :: A)):=λb u q=>by
 obtain ⟨h1,h2⟩:=k9 q
 rw [cG (by simp only [aaG,not_or]; exact ⟨bo h2 h,h1⟩)]
 exact s b u h2
def Mn:HO->Prop
 | .lst _=>True
 | .dT _=>True
 | _=>False
def Ls (A:List Addr) (H:Hp):Prop:=(∀ a∈A,∃ o,H a=some o /\ Mn o) /\ (∀ p xs,(p,xs)∈bV->eK H p xs) /\ ∀ p y q,(p,y,q)∈cK->H p=some (.lam y q)
theorem Ls.same (h:Ls A H) (s:aG H H'):Ls A H':=⟨λa ha=>let ⟨o,e,q⟩:=h.1 a ha; ⟨o,s _ _ e,q⟩,λp xs m=>s.oH (h.2.1 p xs m),λp y q m=>s _ _ (h.2.2 p y q m)⟩
theorem eK.apart (t:eK H p xs) (e:H l=some o) (w:Mn o):p≠l:=λz=>by
 subst z
 rcases t with t | ⟨ob,t⟩ <;> rw [e] at t <;> cases t <;> exact w
theorem eK.wo (t:eK H p xs) (n:p∉A):eK (L2.wo H A) p xs:=by
 rcases t with t | ⟨ob,t⟩
 .exact .inl (by rw [cG n]; exact t)
 .exact .inr ⟨ob,by rw [cG n]; exact t⟩
theorem Ls.free (h:Ls A H) (n:H p=none):p∉A:=λz=>by
 obtain ⟨ys,e,_⟩:=h.1 p z
 rw [n] at e; cases e
end
def sS (_:Heap) (_:Addr):Prop:=True
def T5 (a C:Addr):HO:=.ext λh=>(∃ o,h.get? a=some o /\ o.cls=.ref C) /\ sS h a
def nV:Key->D:=Sum.elim .int .str
mutual
inductive HD (K:au) (H:Hp):V->D->Prop
 | ia:HD K H .ia .none
 | bl (b:Bool):HD K H (.bl b) (.bool b)
 | int (i:Int):HD K H (.int i) (.int i)
 | str (x:Str):HD K H (.str x) (.str x)
 | lst {a:Addr} {xs:List V} {ds:List D}:BX K H a xs->cO K H xs ds->HD K H (.ref a) (.list ds)
 | tup {a:Addr} {xs:List V} {ds:List D}:eK H a xs->cO K H xs ds->HD K H (.ref a) (.tuple ds)
 | sT {a:Addr} {bf:List (List Key×V)} {kds:List (D×D)}:H a=some (.dT bf)->kds.map (·.1)=bf.map (λp=>PyData.tuple (p.1.map nV))->cO K H (bf.map (·.2)) (kds.map (·.2))->HD K H (.ref a) (.dict kds)
 | fn {f c:Addr} {q:Str}:H c=some (.code q)->HD K H (.ref f) (.dict [(.list [],.tuple [.int (f:Nat),.int (c:Nat),.str q])])
 | exc {a C:Addr} {c:Str}:PySem.W.nsIn K mainGlobals c=some (some (.ref C))->H a=some (T5 a C)->HD K H (.ref a) (.dict [(.list [],.tuple [.int (a:Nat),.str c])])
inductive cO (K:au) (H:Hp):List V->List D->Prop
 | nil:cO K H [] []
 | cons {x:V} {xs:List V} {d:D} {ds:List D}:HD K H x d->cO K H xs ds->cO K H (x :: xs) (d :: ds)
end
theorem aG.rd (s:aG H H') (h:Rd H a u):Rd H' a u:=by
 rcases h with h | ⟨o,h⟩
 .exact .inl (s _ _ h)
 .exact .inr ⟨o,s _ _ h⟩
theorem BX.of {K:au} (h:H a=some (.lst xs)):BX K H a xs:=.inl (.inl h)
theorem BX.sq {K:au} (h:BX K H a xs):kB K H a xs:=by
 rcases h with h | ⟨its,n,h1,h2,h3⟩
 .exact .inl h
 .exact .inr ⟨_,its.toArray,n,h1,rfl,rfl,rfl,by rw [List.size_toArray]; exact h2,by simpa using h3⟩
theorem BX.same {K:au} (s:aG H H') (h:BX K H a xs):BX K H' a xs:=by
 rcases h with h | h
 .exact .inl (s.rd h)
 .exact .inr h
theorem Inv.lsd (I:Inv X pins σ H s) (h:BX X.K H a xs):xs.length<=sizeLine /\ ∃ (its:cc) (n:Nat),bg xs its /\ s.heap.get? a=some { cls:=.type "list",data:=.seq its.toArray n }:=by
 rcases h with h | ⟨its,n,h1,h2,h3⟩
 .exact h.ok I.cm
 .exact ⟨by rw [h3.length]; exact h2,its,n,h3,I.oB a _ h1⟩
theorem HD.same {K:au} (e:aG H H') (h:HD K H x d):HD K H' x d:=
 HD.rec (motive_1:=λx d _=>HD K H' x d) (motive_2:=λx d _=>cO K H' x d) .ia .bl .int .str (λhq _ i=>.lst (hq.same e) i) (λhq _ i=>.tup (e.oH hq) i) (λhq k _ i=>.sT (e _ _ hq) k i) (λh=>.fn (e _ _ h)) (λk h=>.exc k (e _ _ h)) .nil (λ_ _ i j=>.cons i j) h
theorem cO.same {K:au} (e:aG H H') (h:cO K H x d):cO K H' x d:=
 cO.rec (motive_1:=λx d _=>HD K H' x d) (motive_2:=λx d _=>cO K H' x d) .ia .bl .int .str (λhq _ i=>.lst (hq.same e) i) (λhq _ i=>.tup (e.oH hq) i) (λhq k _ i=>.sT (e _ _ hq) k i) (λh=>.fn (e _ _ h)) (λk h=>.exc k (e _ _ h)) .nil (λ_ _ i j=>.cons i j) h
section
variable {X:Cx} {pins:cq} {σ:St} {H:Hp} {s:Shared}
theorem d8 (h:SeqAt.shaped d=true):d.canLay0=true:=by
 unfold SeqAt.shaped at h
 rw [aaS] at h
 exact h.1
theorem Rr (I:Inv X pins σ H s) (hq:BX X.K H a xs) (r:RelV (.ref a) u) (h:∀ {us},bg xs us->∃ as,ReadsAll s.heap us ds as):∃ as,Reads s.heap u (.list ds) as:=by
 cases (show u=Value.ref a from r)
 obtain ⟨its,rv,⟨o,n,h1,h2,_,h3⟩,_⟩:=I.list hq.sq
 obtain ⟨as,q⟩:=h rv
 exact ⟨_,.list h1 h2 h3 (by simpa using q)⟩
theorem Rt (I:Inv X pins σ H s) (hq:eK H a xs) (r:RelV (.ref a) u) (h:∀ {us},bg xs us->∃ as,ReadsAll s.heap us ds as):∃ as,Reads s.heap u (.tuple ds) as:=by
 cases (show u=Value.ref a from r)
 obtain ⟨its,rv,⟨o,h1,h2,n,h3⟩,_⟩:=I.tuple (.inl hq)
 obtain ⟨as,q⟩:=h rv
 exact ⟨_,.tuple h1 h2 h3 (by simpa using q)⟩
theorem HD.reads (I:Inv X pins σ H s) (h:HD X.K H x d):∀ {u:Value},RelV x u->PyData.canLay0 d=true->∃ as,Reads s.heap u d as:=
 HD.rec (motive_1:=λx d _=>∀ {u},RelV x u->d.canLay0=true->∃ as,Reads s.heap u d as) (motive_2:=λx d _=>∀ {u},bg x u->PyData.canLayAll0 d=true->∃ as,ReadsAll s.heap u d as)
  (λ{u} r _=>by cases (show u=Value.none from r); exact ⟨_,.none⟩) (λb {u} r _=>by cases (show u=Value.bool b from r); exact ⟨_,.bool b⟩) (λi {u} r _=>by obtain ⟨t,rfl⟩:=r; exact ⟨_,.int i t⟩) (λi {u} r _=>by obtain ⟨t,rfl⟩:=r; exact ⟨_,.str i t⟩)
  (λ{_ _ _} hq _ i {_} r c=>Rr I hq r λrv=>i rv (by rw [PyData.canLay0] at c; exact c)) (λ{_ _ _} hq _ i {_} r c=>Rt I hq r λrv=>i rv (by rw [PyData.canLay0] at c; exact c)) (λ{_ _ _} _ _ _ _ {_} _ c=>by rw [PyData.canLay0] at c; cases c) (λ{_ _ _} _ {_} _ c=>by rw [PyData.canLay0] at c; cases c) (λ{_ _ _} _ _ {_} _ c=>by rw [PyData.canLay0] at c; cases c)
  (λ{_} r _=>by cases r; exact ⟨_,.nil⟩) (λ{_ _ _ _} _ _ i j {_} r c=>by
   rw [PyData.canLayAll0,aaS] at c
   cases r with
   | cons r rs=>
     obtain ⟨as,q⟩:=i r c.1
     obtain ⟨bs,qs⟩:=j rs c.2
     exact ⟨_,.cons q qs⟩) h
end
theorem cO.len {K:au} :∀ {xs:List V} {ds:List D},cO K H xs ds->xs.length=ds.length
 | _,_,.nil=>rfl
 | _,_,.cons _ t=>by rw [aa0,aa0,cO.len t]
theorem cO.get {K:au} :∀ {xs:List V} {ds:List D} {i:Nat} {d:D},cO K H xs ds->ds[i]?=some d->∃ x,xs[i]?=some x /\ HD K H x d
 | _,_,_,_,.nil,e=>by simp at e
 | _,_,0,_,.cons r _,e=>by simp at e; subst e; exact ⟨_,rfl,r⟩
 | _,_,i + 1,y,.cons _ t,e=>by
   obtain ⟨u,h1,h2⟩:=cO.get (i:=i) (d:=y) t (by simpa using e)
   exact ⟨u,by simpa using h1,h2⟩
theorem cO.app {K:au} :∀ {xs xs':List V} {ds YN:List D},cO K H xs ds->cO K H xs' YN->cO K H (xs ++ xs') (ds ++ YN)
 | _,_,_,_,.nil,s=>s
 | _,_,_,_,.cons r t,s=>.cons r (cO.app t s)
theorem cO.Ef {K:au} :∀ {xs:List V} {ds:List D} (n:Nat),cO K H xs ds->cO K H (xs.take n) (ds.take n)
 | _,_,0,_=>.nil
 | _,_,_ + 1,.nil=>.nil
 | _,_,n + 1,.cons r t=>.cons r (cO.Ef n t)
theorem cO.H8 {K:au} :∀ {xs:List V} {ds:List D} (n:Nat),cO K H xs ds->cO K H (xs.drop n) (ds.drop n)
 | _,_,0,r=>r
 | _,_,_ + 1,.nil=>.nil
 | _,_,n + 1,.cons _ t=>cO.H8 n t
theorem cO.Vn {K:au} (r:HD K H x d):∀ {xs:List V} {ds:List D} (i:Nat),cO K H xs ds->cO K H (xs.set i x) (ds.set i d)
 | _,_,_,.nil=>.nil
 | _,_,0,.cons _ t=>.cons r t
 | _,_,i + 1,.cons q t=>.cons q (cO.Vn r i t)
theorem cO.rep {K:au} (h:cO K H xs ds):∀ k:Nat,cO K H (List.replicate k xs).flatten (List.replicate k ds).flatten
 | 0=>.nil
 | k + 1=>by rw [adO,adO,List.flatten_cons,List.flatten_cons]; exact h.app (cO.rep h k)
theorem cO.FN {K:au} (h:cO K H xs ds):cO K H xs.dropLast ds.dropLast:=by
 rw [List.dropLast_eq_take,List.dropLast_eq_take,h.len]; exact h.Ef _
theorem cO.ints {K:au} :∀ ns:List Int,cO K H (ns.map V.int) (ns.map PyData.int)
 | []=>.nil
 | n :: ns=>.cons (.int n) (cO.ints ns)
theorem Eg (h:eK H a xs) (al:Ls A H):eK (wo H A) a xs:=by
 rcases h with h | ⟨ob,h⟩
 .refine .inl ?_
  rw [cG λz=>?_]; exact h
  obtain ⟨o,e,q⟩:=al.1 a z
  rw [h] at e; cases e; exact q
 .refine .inr ⟨ob,?_⟩
  rw [cG λz=>?_]; exact h
  obtain ⟨o,e,q⟩:=al.1 a z
  rw [h] at e; cases e; exact q
mutual
def Mo:D->Bool
 | .list _=>false
 | .dict _=>false
 | .tuple ds=>uD ds
 | _=>true
def uD:List D->Bool
 | []=>true
 | d :: ds=>Mo d && uD ds
end
theorem cO.off {K:au} (al:Ls A H) (h:cO K H x d):uD d=true->cO K (wo H A) x d:=
 cO.rec (motive_1:=λx d _=>Mo d=true->HD K (wo H A) x d) (motive_2:=λx d _=>uD d=true->cO K (wo H A) x d) (λ_=>.ia) (λb _=>.bl b) (λb _=>.int b) (λb _=>.str b) (λ_ _ _ f=>by rw [Mo] at f; cases f) (λhq _ i f=>.tup (Eg hq al) (i (by rw [Mo] at f; exact f))) (λ_ _ _ _ f=>by rw [Mo] at f; cases f) (λ_ f=>by rw [Mo] at f; cases f) (λ_ _ f=>by rw [Mo] at f; cases f) (λ_=>.nil) (λ_ _ i j f=>by rw [uD,aaS] at f; exact .cons (i f.1) (j f.2)) h
inductive Ci (K:au) (H:Hp):HO->D->Prop
 | lst {ys:List V} {ds:List D}:cO K H ys ds->Ci K H (.lst ys) (.list ds)
 | sT {bf:List (List Key×V)} {kds:List (D×D)}:kds.map (·.1)=bf.map (λp=>PyData.tuple (p.1.map nV))->cO K H (bf.map (·.2)) (kds.map (·.2))->Ci K H (.dT bf) (.dict kds)
theorem Ci.same {K:au} (s:aG H H') (h:Ci K H o d):Ci K H' o d:=by
 cases h with
 | lst q=>exact .lst (q.same s)
 | sT k q=>exact .sT k (q.same s)
theorem Ci.own {K:au} (h:Ci K H o d):Mn o:=by cases h <;> trivial
theorem Ci.hd {K:au} (h:Ci K H o d) (e:H l=some o):HD K H (.ref l) d:=by
 cases h with
 | lst q=>exact .lst (.of e) q
 | sT k q=>exact .sT e k q
def FO:List (D×D)->Bool
 | (.list [],_) :: _=>true
 | _=>false
def i8 (K:au) (A:List Addr) (H:Hp) (v:V) (d:D):Prop:=HD K (wo H A) v d \/ ∃ l o,v=.ref l /\ H l=some o /\ Ci K (wo H A) o d
section
variable {K:au} {H H':Hp} {A A':List Addr} {v:V} {d:D}
theorem i8.of (h:HD K (wo H A) v d):i8 K A H v d:=.inl h
theorem i8.same (s:aG H H') (h:i8 K A H v d):i8 K A H' v d:=by
 rcases h with h | ⟨l,o,rfl,e,q⟩
 .exact .inl (h.same (cB s))
 .exact .inr ⟨l,o,rfl,s _ _ e,q.same (cB s)⟩
theorem i8.Mp (h:i8 K A H v d):HD K H v d:=by
 rcases h with h | ⟨l,o,rfl,e,q⟩
 .exact h.same cM
 .exact (q.same cM).hd e
theorem i8.list (h:i8 K A H v (.list ds)):∃ l ys,v=.ref l /\ BX K H l ys /\ cO K (wo H A) ys ds:=by
 rcases h with h | ⟨l,o,rfl,e,q⟩
 .cases h with
  | lst hq h=>exact ⟨_,_,rfl,hq.same cM,h⟩
 .cases q with
  | lst q=>exact ⟨l,_,rfl,.of e,q⟩
theorem i8.Vo (h:i8 K A H v (.tuple ds)):∃ l ys,v=.ref l /\ eK H l ys /\ cO K (wo H A) ys ds:=by
 rcases h with h | ⟨l,o,rfl,e,q⟩
 .cases h with
  | tup hq h=>exact ⟨_,_,rfl,cM.oH hq,h⟩
 .cases q
theorem i8.tuple (h:i8 K A H v (.tuple ds)):∃ l ys,v=.ref l /\ k7 K H l ys /\ cO K (wo H A) ys ds:=
 let ⟨l,ys,a,b,c⟩:=h.Vo; ⟨l,ys,a,.inl b,c⟩
theorem i8.dict (h:i8 K A H v (.dict kds)) (hf:FO kds=false):∃ l bf,v=.ref l /\ H l=some (.dT bf) /\ kds.map (·.1)=bf.map (λp=>PyData.tuple (p.1.map nV)) /\ cO K (wo H A) (bf.map (·.2)) (kds.map (·.2)):=by
 rcases h with h | ⟨l,o,rfl,e,q⟩
 .cases h with
  | sT hq k h=>exact ⟨_,_,rfl,cM _ _ hq,k,h⟩
  | exc _ _=>cases hf
  | fn hq=>cases hf
 .cases q with
  | sT k q=>exact ⟨l,_,rfl,e,k,q⟩
theorem i8.fz (h:i8 K A H v (.tuple ds)):HD K (wo H A) v (.tuple ds):=by
 rcases h with h | ⟨l,o,rfl,e,q⟩
 .exact h
 .cases q
theorem i8.int (h:i8 K A H v (.int i)):v=.int i:=by
 rcases h with h | ⟨l,o,rfl,e,q⟩
 .cases h; rfl
 .cases q
theorem i8.bool (h:i8 K A H v (.bool b)):v=.bl b:=by
 rcases h with h | ⟨l,o,rfl,e,q⟩
 .cases h; rfl
 .cases q
theorem i8.str (h:i8 K A H v (.str b)):v=.str b:=by
 rcases h with h | ⟨l,o,rfl,e,q⟩
 .cases h; rfl
 .cases q
theorem i8.ia (h:i8 K A H v .none):v=.ia:=by
 rcases h with h | ⟨l,o,rfl,e,q⟩
 .cases h; rfl
 .cases q
end
structure Rel (K:au) (O:List Nat) (U A0:List Addr) (σ:St) (δ:DS) (H:Hp):Prop where
 len:σ.length=δ.length
 fz:∀ (i:Nat) d,i∉O->δ[i]?=some (some d)->∃ v,σ[i]?=some (some v) /\ HD K (wo H (U ++ A0)) v d
 ow:∀ (i:Nat) d,i∈O->δ[i]?=some (some d)->∃ l o,σ[i]?=some (some (.ref l)) /\ l∈U /\ H l=some o /\ Ci K (wo H (U ++ A0)) o d
 inj:∀ (i j:Nat) d e l,i∈O->j∈O->i≠j->δ[i]?=some (some d)->δ[j]?=some (some e)->σ[i]?=some (some (.ref l))->σ[j]?=some (some (.ref l))->False
 al:Ls (U ++ A0) H
section
variable {K:au} {O:List Nat} {U A0:List Addr} {σ:St} {δ:DS} {H H':Hp}
theorem Rel.same (R:Rel K O U A0 σ δ H) (s:aG H H'):Rel K O U A0 σ δ H' where
 len:=R.len
 fz:=λi d hi e=>let ⟨v,a,b⟩:=R.fz i d hi e; ⟨v,a,b.same (cB s)⟩
 ow:=λi d hi e=>let ⟨l,o,a,c,f,g⟩:=R.ow i d hi e; ⟨l,o,a,c,s _ _ f,g.same (cB s)⟩
 inj:=R.inj
 al:=R.al.same s
theorem Rel.Vp (R:Rel K O U A0 σ δ H) (i:Nat) (d:D) (hi:i∈O) (e:δ[i]?=some (some d)):(∃ l ys ds,σ[i]?=some (some (.ref l)) /\ d=.list ds /\ l∈U /\ H l=some (.lst ys) /\ cO K (wo H (U ++ A0)) ys ds) \/ ∃ kds,d=.dict kds:=by
 obtain ⟨l,o,a,c,f,g⟩:=R.ow i d hi e
 cases g with
 | lst q=>exact .inl ⟨l,_,_,a,rfl,c,f,q⟩
 | sT k q=>exact .inr ⟨_,rfl⟩
theorem Rel.at (R:Rel K O U A0 σ δ H) {i:Nat} (e:δ[i]?=some (some d)):∃ v,σ[i]?=some (some v) /\ i8 K (U ++ A0) H v d:=by
 by_cases hi:i∈O
 .obtain ⟨l,o,a,c,f,g⟩:=R.ow i d hi e
  exact ⟨_,a,.inr ⟨l,o,rfl,f,g⟩⟩
 .obtain ⟨v,a,b⟩:=R.fz i d hi e
  exact ⟨v,a,.inl b⟩
theorem Rel.set (R:Rel K O U A0 σ δ H) (hi:i∉O) (h:HD K (wo H (U ++ A0)) v d):Rel K O U A0 (σ.set i (some v)) (δ.set i (some d)) H where
 len:=by rw [abK,abK]; exact R.len
 fz:=λj e hj q=>by
  by_cases kK:i=j
  .subst kK
   have hl:i < δ.length:=by have:=(aaK.mp q).1; rwa [abK] at this
   rw [abj hl] at q
   cases q
   exact ⟨v,abj (by rw [R.len]; exact hl),h⟩
  .rw [aa8 kK] at q ⊢
   exact R.fz j e hj q
 ow:=λj e hj q=>by
  have kK:i≠j:=λz=>hi (z ▸ hj)
  rw [aa8 kK] at q ⊢
  exact R.ow j e hj q
 inj:=λj k d e l hj hk T6 q1 q2 e1 e2=>by
  have kK:i≠j:=λz=>hi (z ▸ hj)
  have Ru:i≠k:=λz=>hi (z ▸ hk)
  rw [aa8 kK] at q1 e1
  rw [aa8 Ru] at q2 e2
  exact R.inj j k d e l hj hk T6 q1 q2 e1 e2
 al:=R.al
theorem Rel.Vq (R:Rel K O U A0 σ δ H) (s:aG H H') (hr:H r=none) (h:H' r=some ob) (q:Ci K (wo H' (r :: (U ++ A0))) ob db) (hi:i∈O):
  Rel K O (r :: U) A0 (σ.set i (some (.ref r))) (δ.set i (some db)) H' where
 len:=by rw [abK,abK]; exact R.len
 fz:=λj e hj q=>by
  have kK:i≠j:=λz=>hj (z ▸ hi)
  rw [aa8 kK] at q ⊢
  obtain ⟨v,a,b⟩:=R.fz j e hj q
  exact ⟨v,a,b.same (Ee s hr)⟩
 ow:=λj e hj w=>by
  by_cases kK:i=j
  .subst kK
   have hl:i < δ.length:=by have:=(aaK.mp w).1; rwa [abK] at this
   rw [abj hl] at w
   cases w
   exact ⟨r,ob,abj (by rw [R.len]; exact hl),by simp,h,q⟩
  .rw [aa8 kK] at w ⊢
   obtain ⟨l,o,a,c,f,g⟩:=R.ow j e hj w
   exact ⟨l,o,a,by simp [c],s _ _ f,g.same (Ee s hr)⟩
 inj:=λj k d e l hj hk T6 q1 q2 e1 e2=>by
  have Vr:∀ {x:D},(δ.set i (some db))[i]?=some (some x)->i < δ.length:=λw=>by have:=(aaK.mp w).1; rwa [abK] at this
  by_cases kK:i=j
  .subst kK
   have Ru:=T6
   rw [abj (by rw [R.len]; exact Vr q1)] at e1
   rw [aa8 Ru] at q2 e2
   cases e1
   obtain ⟨l,o,a,c,f,g⟩:=R.ow k e hk q2
   rw [a] at e2; cases e2
   rw [hr] at f; cases f
  .by_cases Ru:i=k
   .subst Ru
    rw [abj (by rw [R.len]; exact Vr q2)] at e2
    rw [aa8 kK] at q1 e1
    cases e2
    obtain ⟨l,o,a,c,f,g⟩:=R.ow j d hj q1
    rw [a] at e1; cases e1
    rw [hr] at f; cases f
   .rw [aa8 kK] at q1 e1
    rw [aa8 Ru] at q2 e2
    exact R.inj j k d e l hj hk T6 q1 q2 e1 e2
 al:=⟨λa ha=>by
  rcases abd.mp ha with z | z
  .rcases aaG.mp z with z | z
   .subst z; exact ⟨ob,h,q.own⟩
   .exact (R.al.same s).1 a (abB _ z)
  .exact (R.al.same s).1 a (aaN _ z),(R.al.same s).2⟩
theorem Rel.YO (R:Rel K O U A0 σ δ H) (s:aG H H') (hr:H r=none) (h:H' r=some (.lst ys)) (q:cO K (wo H' (r :: (U ++ A0))) ys ds) (hi:i∈O):
  Rel K O (r :: U) A0 (σ.set i (some (.ref r))) (δ.set i (some (.list ds))) H':=R.Vq s hr h (.lst q) hi
theorem Rel.Vs (R:Rel K O U A0 σ δ H) (hi:i∈O) (hl:σ[i]?=some (some (.ref l))) (hU:l∈U) (q:Ci K (wo H (U ++ A0)) ob db) (hd:∃ d,δ[i]?=some (some d)):
  Rel K O U A0 σ (δ.set i (some db)) (upd H l ob):=by
 have hw:wo (upd H l ob) (U ++ A0)=wo H (U ++ A0):=HZ (abB _ hU)
 obtain ⟨d0,hd⟩:=hd
 have hlen:=(aaK.mp hd).1
 exact {
  len:=by rw [abK]; exact R.len
  fz:=λj e hj w=>by
   have kK:i≠j:=λz=>hj (z ▸ hi)
   rw [aa8 kK] at w
   rw [hw]
   exact R.fz j e hj w
  ow:=λj e hj w=>by
   rw [hw]
   by_cases kK:i=j
   .subst kK
    rw [abj hlen] at w
    cases w
    exact ⟨l,ob,hl,hU,cf,q⟩
   .rw [aa8 kK] at w
    obtain ⟨l',o',a,c,f,g⟩:=R.ow j e hj w
    have jE:l'≠l:=by
     intro z; subst z
     exact R.inj i j d0 e _ hi hj kK hd w hl a
    exact ⟨l',o',a,c,by rw [aN jE]; exact f,g⟩
  inj:=λj k d e l hj hk T6 q1 q2 e1 e2=>by
   have f:∀ {m:Nat} {x:D},(δ.set i (some db))[m]?=some (some x)->∃ y,δ[m]?=some (some y):=by grind
   obtain ⟨y1,w1⟩:=f q1
   obtain ⟨y2,w2⟩:=f q2
   exact R.inj j k y1 y2 l hj hk T6 w1 w2 e1 e2
  al:=⟨λa ha=>by
   by_cases e:a=l
   .subst e; exact ⟨ob,cf,q.own⟩
   .rw [aN e]; exact R.al.1 a ha,λp xs m=>
    let ⟨_,e,w⟩:=R.al.1 l (abB _ hU)
    (R.al.2.1 p xs m).ne ((R.al.2.1 p xs m).apart e w),λp y q m=>by
    obtain ⟨_,e,w⟩:=R.al.1 l (abB _ hU)
    rw [aN λz=>?_]
    .exact R.al.2.2 p y q m
    .have t:=R.al.2.2 p y q m
     rw [z,e] at t; cases t; exact w⟩ }
theorem Rel.put (R:Rel K O U A0 σ δ H) (hi:i∈O) (hl:σ[i]?=some (some (.ref l))) (hU:l∈U) (q:cO K (wo H (U ++ A0)) ys ds) (hd:∃ d,δ[i]?=some (some d)):
  Rel K O U A0 σ (δ.set i (some (.list ds))) (upd H l (.lst ys)):=R.Vs hi hl hU (.lst q) hd
end
structure Fx (H0:Hp) (A0 U:List Addr) (H:Hp):Prop where
 same:aG H0 H
 new:∀ a∈U,H0 a=none
 old:Ls A0 H0
section
variable {K:au} {O:List Nat} {U U' A0:List Addr} {σ:St} {δ:DS} {H0 H H':Hp}
theorem Fx.grow (F:Fx H0 A0 U H) (s:aG H H'):Fx H0 A0 U H':=⟨F.same.trans s,F.new,F.old⟩
theorem Fx.more (F:Fx H0 A0 U H) (s:aG H H') (hr:H r=none):Fx H0 A0 (r :: U) H':=⟨F.same.trans s,λa ha=>by
 rcases aaG.mp ha with z | z
 .subst z; exact F.same.free hr
 .exact F.new a z,F.old⟩
theorem Fx.put (F:Fx H0 A0 U H) (hl:l∈U) (o:HO):Fx H0 A0 U (upd H l o):=⟨F.same.upd (F.new l hl) o,F.new,F.old⟩
theorem Fx.out (F:Fx H0 A0 U H) (hl:l∈U):l∉A0:=λz=>by
 obtain ⟨ys,e,_⟩:=F.old.1 l z
 rw [F.new l hl] at e; cases e
theorem Fx.here (F:Fx H0 A0 U H):Fx (wo H U) A0 U H:=⟨cM,λ_ h=>my h,λa ha=>by
 obtain ⟨ys,e,q⟩:=F.old.1 a ha
 refine ⟨ys,?_,q⟩
 rw [cG λz=>?_]
 .exact F.same _ _ e
 .exact F.out z ha,λp xs m=>(F.same.oH (F.old.2.1 p xs m)).wo λz=>(by
 rcases F.old.2.1 p xs m with t | ⟨ob,t⟩ <;> rw [F.new p z] at t <;> cases t),λp y q m=>by
 rw [cG λz=>?_]
 .exact F.same _ _ (F.old.2.2 p y q m)
 .have t:=F.old.2.2 p y q m
  rw [F.new p z] at t; cases t⟩
theorem Fx.trans (F:Fx H0 A0 U H) (G:Fx (wo H U) A0 U' H'):Fx H0 A0 U' H':=by
 have k:∀ a o,H0 a=some o->wo H U a=some o:=λa o e=>by
  rw [cG λz=>?_]
  .exact F.same _ _ e
  .rw [F.new a z] at e; cases e
 refine ⟨λa o e=>G.same _ _ (k a o e),λa ha=>?_,F.old⟩
 cases e:H0 a with
 | none=>rfl
 | some o=>
   have:=G.new a ha
   rw [k a o e] at this; cases this
theorem Fx.keeps (G:Fx (wo H U) A0 U' H'):aG (wo H (U ++ A0)) (wo H' (U' ++ A0)):=λb o e=>by
 obtain ⟨h1,h2⟩:=k9 e
 simp only [abd,not_or] at h1
 have h3:wo H U b=some o:=by rw [cG h1.1]; exact h2
 rw [cG]
 .exact G.same _ _ h3
 .simp only [abd,not_or]
  refine ⟨λz=>?_,h1.2⟩
  rw [G.new b z] at h3; cases h3
end
def tE (K:au) (O:List Nat) (g:DS->Option D):TE:=λσ H Q=>∃ U A0 δ d,Rel K O U A0 σ δ H /\ g δ=some d /\ ∀ v H',aG H H'->HD K (wo H' (U ++ A0)) v d->Q v H'
theorem tE.e {K:au}  {GG:Prop} (hh:tE K O g σ H Q) (kk:∀ U A0 δ d,(Rel K O U A0 σ δ H)->(g δ=some d)->(∀ v H',aG H H'->HD K (wo H' (U ++ A0)) v d->Q v H')->GG):GG:=by obtain ⟨U,A0,δ,d,x0,x1,x2⟩:=hh; exact kk U A0 δ d x0 x1 x2
def gm (K:au) (O:List Nat) (g:DS->Option D):TE:=λσ H Q=>∃ U A0 δ d,Rel K O U A0 σ δ H /\ g δ=some d /\ ∀ v H',aG H H'->i8 K (U ++ A0) H' v d->Q v H'
theorem gm.e {K:au}  {GG:Prop} (hh:gm K O g σ H Q) (kk:∀ U A0 δ d,(Rel K O U A0 σ δ H)->(g δ=some d)->(∀ v H',aG H H'->i8 K (U ++ A0) H' v d->Q v H')->GG):GG:=by obtain ⟨U,A0,δ,d,x0,x1,x2⟩:=hh; exact kk U A0 δ d x0 x1 x2
def tN (K:au) (O:List Nat) (g:DS->Option (List D)):TE:=λσ H Q=>∃ U A0 δ ds,Rel K O U A0 σ δ H /\ g δ=some ds /\
 ∀ r ys H',aG H H'->H r=none->H' r=some (.lst ys)->cO K (wo H' (r :: (U ++ A0))) ys ds->Q (.ref r) H'
theorem tN.e {K:au}  {GG:Prop} (hh:tN K O g σ H Q) (kk:∀ U A0 δ ds,(Rel K O U A0 σ δ H)->(g δ=some ds)->(∀ r ys H',aG H H'->H r=none->H' r=some (.lst ys)->cO K (wo H' (r :: (U ++ A0))) ys ds->Q (.ref r) H')->GG):GG:=by obtain ⟨U,A0,δ,ds,x0,x1,x2⟩:=hh; exact kk U A0 δ ds x0 x1 x2
def tT (K:au) (O:List Nat) (g:DS->Option Bool):TT:=λσ H Q=>∃ U A0 δ b,Rel K O U A0 σ δ H /\ g δ=some b /\ ∀ H',aG H H'->Q b H'
theorem tT.e {K:au}  {GG:Prop} (hh:tT K O g σ H Q) (kk:∀ U A0 δ b,(Rel K O U A0 σ δ H)->(g δ=some b)->(∀ H',aG H H'->Q b H')->GG):GG:=by obtain ⟨U,A0,δ,b,x0,x1,x2⟩:=hh; exact kk U A0 δ b x0 x1 x2
def xt (K:au) (O:List Nat) (g:DS->Option (List D)):TA:=λσ H Q=>∃ U A0 δ ds,Rel K O U A0 σ δ H /\ g δ=some ds /\ ∀ vs H',aG H H'->cO K (wo H' (U ++ A0)) vs ds->Q vs H'
theorem xt.e {K:au}  {GG:Prop} (hh:xt K O g σ H Q) (kk:∀ U A0 δ ds,(Rel K O U A0 σ δ H)->(g δ=some ds)->(∀ vs H',aG H H'->cO K (wo H' (U ++ A0)) vs ds->Q vs H')->GG):GG:=by obtain ⟨U,A0,δ,ds,x0,x1,x2⟩:=hh; exact kk U A0 δ ds x0 x1 x2
def yj (K:au) (A:List Addr) (H:Hp):List V->List D->Prop:=Paired (i8 K A H)
def uE (K:au) (O:List Nat) (g:DS->Option (List D)):TA:=λσ H Q=>∃ U A0 δ ds,Rel K O U A0 σ δ H /\ g δ=some ds /\ ∀ vs H',aG H H'->yj K (U ++ A0) H' vs ds->Q vs H'
theorem uE.e {K:au}  {GG:Prop} (hh:uE K O g σ H Q) (kk:∀ U A0 δ ds,(Rel K O U A0 σ δ H)->(g δ=some ds)->(∀ vs H',aG H H'->yj K (U ++ A0) H' vs ds->Q vs H')->GG):GG:=by obtain ⟨U,A0,δ,ds,x0,x1,x2⟩:=hh; exact kk U A0 δ ds x0 x1 x2
inductive Res where
 | nx (δ:DS) | rt (d:D) | bk (δ:DS) | ct (δ:DS)
abbrev cg:=DS->Option (List D)
abbrev aK:=DS->Option Res
abbrev me:=DS->Option Bool
abbrev aF:=DS->Option D
abbrev dJ:=Option (List D)
abbrev fq:=List (D×D)
def tB (K:au) (fr:Bool) (H0:Hp) (A0:List Addr) (v:V) (d:D) (H':Hp):Prop:=
 if fr=true then ∃ r o,v=.ref r /\ aG H0 H' /\ H0 r=none /\ H' r=some o /\ Ci K (wo H' (r :: A0)) o d else aG H0 H' /\ HD K (wo H' A0) v d
def mh (c:Str):D:=.dict [(.none,.str c)]
abbrev Fr:=Bool×(Str->Hp->Prop)
def Vt (K:au) (O:List Nat) (fr:Fr) (H0:Hp) (A0:List Addr) (E:Ends):Res->Prop
 | .nx δ=>∀ U σ H,Rel K O U A0 σ δ H->Fx H0 A0 U H->E.nx σ H
 | .bk δ=>∀ U σ H,Rel K O U A0 σ δ H->Fx H0 A0 U H->E.bk σ H
 | .ct δ=>∀ U σ H,Rel K O U A0 σ δ H->Fx H0 A0 U H->E.ct σ H
 | .rt d=>(∀ v H,tB K fr.1 H0 A0 v d H->E.rt v H) /\ ∀ c H,d=mh c->aG H0 H->fr.2 c H
def tS (K:au) (O:List Nat) (fr:Fr) (g:aK):TS:=λE σ H=>∃ H0 U A0 δ r,Rel K O U A0 σ δ H /\ Fx H0 A0 U H /\ g δ=some r /\ Vt K O fr H0 A0 E r
theorem tS.e {K:au}  {GG:Prop} (hh:tS K O fr g E σ H) (kk:∀ H0 U A0 δ r,(Rel K O U A0 σ δ H)->(Fx H0 A0 U H)->(g δ=some r)->(Vt K O fr H0 A0 E r)->GG):GG:=by obtain ⟨H0,U,A0,δ,r,x0,x1,x2,x3⟩:=hh; exact kk H0 U A0 δ r x0 x1 x2 x3
def Walks (K:au) (A:List Addr) (H1:Hp) (J:It) (ds:List D):Prop:=∀ (A':List Addr) (i:Nat) (H:Hp),aG (wo H1 A) (wo H A')->Ls A' H->
 (∀ d,ds[i]?=some d->J.go i H /\ ∀ x H2,J.UY i H x H2->aG H H2 /\ HD K (wo H2 A') x d) /\ (i=ds.length->J.stop i H)
def tI (K:au) (O:List Nat) (g:cg):TI:=λσ H R=>∃ U A0 δ ds,Rel K O U A0 σ δ H /\ g δ=some ds /\ ∀ J H1,aG H H1->Walks K (U ++ A0) H1 J ds->R J H1
theorem tI.e {K:au}  {GG:Prop} (hh:tI K O g σ H R) (kk:∀ U A0 δ ds,(Rel K O U A0 σ δ H)->(g δ=some ds)->(∀ J H1,aG H H1->Walks K (U ++ A0) H1 J ds->R J H1)->GG):GG:=by obtain ⟨U,A0,δ,ds,x0,x1,x2⟩:=hh; exact kk U A0 δ ds x0 x1 x2
def tG (K:au) (O:List Nat) (g:D->DS->Option DS):TG:=λv σ H Q=>∃ U A0 δ d δ',Rel K O U A0 σ δ H /\ HD K (wo H (U ++ A0)) v d /\ g d δ=some δ' /\ ∀ dw,Rel K O U A0 dw δ' H->Q dw H
theorem tG.e {K:au}  {GG:Prop} (hh:tG K O g v σ H Q) (kk:∀ U A0 δ d δ',(Rel K O U A0 σ δ H)->(HD K (wo H (U ++ A0)) v d)->(g d δ=some δ')->(∀ dw,Rel K O U A0 dw δ' H->Q dw H)->GG):GG:=by obtain ⟨U,A0,δ,d,δ',x0,x1,x2,x3⟩:=hh; exact kk U A0 δ d δ' x0 x1 x2 x3
section
variable {X:Cx}
theorem PE.mono (h:PE X e t) (m:∀ σ H Q,t' σ H Q->t σ H Q):PE X e t':=λpins s σ H Q I q=>h pins s σ H Q I (m σ H Q q)
theorem PT.mono (h:PT X e t) (m:∀ σ H Q,t' σ H Q->t σ H Q):PT X e t':=λpins s σ H Q I q=>h pins s σ H Q I (m σ H Q q)
theorem PW.mono (h:PW X e t) (m:∀ σ H Q,t' σ H Q->t σ H Q):PW X e t':=λw pins s σ H Q I q=>h w pins s σ H Q I (m σ H Q q)
theorem PA.mono (h:PA X e t) (m:∀ σ H Q,t' σ H Q->t σ H Q):PA X e t':=λpos pins s σ H Q I q=>h pos pins s σ H Q I (m σ H Q q)
theorem PS.mono (h:PS X e t) (m:∀ E σ H,t' E σ H->t E σ H):PS X e t':=λpins s σ H E I q=>h pins s σ H E I (m E σ H q)
theorem mn.mono (h:mn X e t) (m:∀ E σ H,t' E σ H->t E σ H):mn X e t':=λpins s σ H E I q=>h pins s σ H E I (m E σ H q)
theorem PI.mono (h:PI X tg e t) (m:∀ σ H R,t' σ H R->t σ H R):PI X tg e t':=λpins s σ H R I q=>h pins s σ H R I (m σ H R q)
theorem PG.mono (h:PG X e t) (m:∀ v σ H Q,t' v σ H Q->t v σ H Q):PG X e t':=λpins s σ H v u Q I r q=>h pins s σ H v u Q I r (m v σ H Q q)
theorem PO.mono (h:PO X e t) (m:∀ σ H Q,t' σ H Q->t σ H Q):PO X e t':=λpins s σ H Q I q=>h pins s σ H Q I (m σ H Q q)
end
def af (i:Nat):aF:=λδ=>(δ[i]?).join
def gC (d:D):aF:=λ_=>some d
def bj (g:cg):aF:=λδ=>(g δ).map .list
theorem join_some {α:Type} {o:Option (Option α)} {d:α} (h:o.join=some d):o=some (some d):=by
 cases o with
 | none=>cases h
 | some p=>cases p with
   | none=>cases h
   | some q=>cases h; rfl
section
variable {X:Cx} {O:List Nat} {e:Expr} {g:aF}
theorem Rv (h:PE X e (ur i)) (hi:i∉O:=by decide):PE X e (tE X.K O (af i)):=h.mono λσ H Q hh=>hh.e λU A0 δ d R ed q=>by
 obtain ⟨v,hv,hd⟩:=R.fz i d hi (join_some ed)
 exact ⟨v,hv,q v H (aG.refl H) hd⟩
theorem Rw (h:PE X e (ur i)):PE X e (gm X.K O (af i)):=h.mono λσ H Q hh=>hh.e λU A0 δ d R ed q=>by
 obtain ⟨v,hv,hd⟩:=R.at (join_some ed)
 exact ⟨v,hv,q v H (aG.refl H) hd⟩
theorem Rx (h:PE X e (tC v)) (hd:∀ H,HD X.K H v d):PE X e (tE X.K O (gC d)):=h.mono λσ H Q hh=>hh.e λU A0 δ d' R ed q=>by
 cases ed
 exact q v H (aG.refl H) (hd _)
theorem aO (h:PE X e (tC (.int i))):PE X e (tE X.K O (gC (.int i))):=Rx h λ_=>.int i
theorem O1 (h:PE X e (tC (.bl i))):PE X e (tE X.K O (gC (.bool i))):=Rx h λ_=>.bl i
theorem eO (h:PE X e (tC (.str i))):PE X e (tE X.K O (gC (.str i))):=Rx h λ_=>.str i
theorem PE.sh (h:PE X e (tE X.K O g)):PE X e (gm X.K O g):=h.mono λσ H Q hh=>hh.e λU A0 δ d R ed q=>⟨U,A0,δ,d,R,ed,λv H' s z=>q v H' s (.inl z)⟩
theorem O2 {K:au} {g:cg} :tE K O (bj g) σ H Q->tN K O g σ H Q:=λ⟨U,A0,δ,d,R,ed,q⟩=>by
 unfold bj at ed
 cases eg:g δ with
 | none=>rw [eg] at ed; cases ed
 | some ds=>
   rw [eg] at ed; cases ed
   refine ⟨U,A0,δ,ds,R,eg,λr ys H' s hr h1 h2=>q _ H' s ?_⟩
   have hn:=R.al.free hr
   exact .lst (.of (by rw [cG hn]; exact h1)) (h2.same (mz λa ha=>aaE _ ha))
theorem PE.nE {g:cg} (h:PE X e (tN X.K O g)):PE X e (tE X.K O (bj g)):=h.mono λ_ _ _=>O2
end
def g2 (f:D->D->Option D) (a b:aF):aF:=λδ=>(a δ).bind λx=>(b δ).bind λy=>f x y
def Lo (f:D->D->dJ) (a b:aF):cg:=λδ=>(a δ).bind λx=>(b δ).bind λy=>f x y
def gR (K:au) (r:R2) (f:D->D->Option D):Prop:=∀ (A:List Addr) (H:Hp) (x y:V) (dx dy d:D) (Q:VK),Ls A H->i8 K A H x dx->i8 K A H y dy->f dx dy=some d->(∀ v H',aG H H'->HD K (wo H' A) v d->Q v H')->r x y H Q
def Ia (K:au) (r:R2) (f:D->D->dJ):Prop:=∀ (A:List Addr) (H:Hp) (x y:V) (dx dy:D) (ds:List D) (Q:VK),Ls A H->i8 K A H x dx->i8 K A H y dy->f dx dy=some ds->
 (∀ p ys,H p=none->cO K (wo H A) ys ds->Q (.ref p) (upd H p (.lst ys)))->r x y H Q
theorem AD {α β γ:Type} {a:Option α} {b:Option β} {f:α->β->Option γ} {d:γ} (h:(a.bind λx=>b.bind λy=>f x y)=some d):∃ x y,a=some x /\ b=some y /\ f x y=some d:=by
 cases a with
 | none=>cases h
 | some x=>cases b with
   | none=>cases h
   | some y=>exact ⟨x,y,rfl,rfl,h⟩
theorem bind1 {α β:Type} {a:Option α} {f:α->Option β} {d:β} (h:a.bind f=some d):∃ x,a=some x /\ f x=some d:=by
 cases a with
 | none=>cases h
 | some x=>exact ⟨x,rfl,h⟩
section
variable {X:Cx} {O:List Nat} {a b:Expr} {ga gb:aF} {pos:Pos} {r:R2}
theorem Eh {K:au} (imp:gR K r f) :tE K O (g2 f ga gb) σ H Q->TY r (gm K O ga) (gm K O gb) σ H Q:=λ⟨U,A0,δ,d,R,ed,q⟩=>by
 obtain ⟨x,y,ex,ey,ef⟩:=AD ed
 exact ⟨U,A0,δ,x,R,ex,λv1 H1 s1 h1=>⟨U,A0,δ,y,R.same s1,ey,λv2 H2 s2 h2=>imp _ H2 v1 v2 x y d Q (R.same (s1.trans s2)).al (h1.same s2) h2 ef λv H' s h=>q v H' ((s1.trans s2).trans s) h⟩⟩
theorem uF {K:au} {Q:VK} (s:aG H H2) (q:∀ r ys H',aG H H'->H r=none->H' r=some (.lst ys)->cO K (wo H' (r :: A)) ys ds->Q (.ref r) H'):∀ p ys,H2 p=none->cO K (wo H2 A) ys ds->Q (.ref p) (upd H2 p (.lst ys)):=
 λp ys hp h=>q p ys _ (s.trans (cF hp _)) (s.free hp) cf (by rw [AB hp]; exact h)
theorem Vu {K:au} (imp:Ia K r f) :tN K O (Lo f ga gb) σ H Q->TY r (gm K O ga) (gm K O gb) σ H Q:=λ⟨U,A0,δ,d,R,ed,q⟩=>by
 obtain ⟨x,y,ex,ey,ef⟩:=AD ed
 exact ⟨U,A0,δ,x,R,ex,λv1 H1 s1 h1=>⟨U,A0,δ,y,R.same s1,ey,λv2 H2 s2 h2=>imp _ H2 v1 v2 x y d Q (R.same (s1.trans s2)).al (h1.same s2) h2 ef (uF (s1.trans s2) q)⟩⟩
theorem aq (ho:gS X (binaryOp op) r) (imp:gR X.K r f) (ha:PE X a (gm X.K O ga)) (hb:PE X b (gm X.K O gb)):PE X (.BinOp a op b pos) (tE X.K O (g2 f ga gb)):=(Hu ho ha hb).mono λ_ _ _=>Eh imp
theorem yk (ho:gS X (binaryOp op) r) (imp:Ia X.K r f) (ha:PE X a (gm X.K O ga)) (hb:PE X b (gm X.K O gb)):PE X (.BinOp a op b pos) (tN X.K O (Lo f ga gb)):=(Hu ho ha hb).mono λ_ _ _=>Vu imp
theorem oJ (ho:gS X (compareOp op) r) (imp:gR X.K r f) (ha:PE X a (gm X.K O ga)) (hb:PE X b (gm X.K O gb)) (hm:behindInMarks op b=false):PE X (.Compare a [op] [b] pos) (tE X.K O (g2 f ga gb)):=(LV ho ha hb hm).mono λ_ _ _=>Eh imp
def gB (g:aF):me:=λδ=>(g δ).bind λ| .bool b=>some b | _=>none
theorem Ib {K:au} {te:TE} (m:∀ σ H Q,tE K O g σ H Q->te σ H Q) :tT K O (gB g) σ H Q->te σ H λx H'=>∃ k,x=.bl k /\ Q k H':=λ⟨U,A0,δ,b,R,ed,q⟩=>by
 obtain ⟨d,e1,e2⟩:=bind1 ed
 cases d with
 | bool c=>
   cases e2
   exact m σ H _ ⟨U,A0,δ,_,R,e1,λv H' s h=>by cases h; exact ⟨_,rfl,q H' s⟩⟩
 | _=>cases e2
theorem aW (ho:gS X (compareOp op) r) (imp:gR X.K r f) (ha:PE X a (gm X.K O ga)) (hb:PE X b (gm X.K O gb)) (hm:behindInMarks op b=false):PT X (.Compare a [op] [b] pos) (tT X.K O (gB (g2 f ga gb))):=(LW ho ha hb hm).mono λ_ _ _=>Ib λ_ _ _=>Eh imp
end
def dI (g:Int->Int->D):D->D->Option D
 | .int a,.int b=>some (g a b)
 | _,_=>none
open Classical in
def O3 (C:Int->Int->Prop) (g:Int->Int->D):D->D->Option D
 | .int a,.int b=>if C a b then some (g a b) else none
 | _,_=>none
open Classical in
theorem uG {C:Int->Int->Prop} {g:Int->Int->D} {a b:Int} (h:C a b):O3 C g (.int a) (.int b)=some (g a b):=by
 show (if C a b then some (g a b) else none)=_
 rw [aaL h]
theorem xu:dI g (.int a) (.int b)=some (g a b):=rfl
theorem fX {K:au} {g:Int->Int->Int}:gR K (Ht λi j=>.int (g i j)) (dI λi j=>.int (g i j)):=by
 intro A H x y dx dy d Q al hx hy e q
 unfold dI at e
 split at e
 .cases e
  exact ⟨_,_,hx.int,hy.int,q _ H (aG.refl H) (.int _)⟩
 .cases e
theorem b8 {K:au} {g:Int->Int->Bool}:gR K (Ht λi j=>.bl (g i j)) (dI λi j=>.bool (g i j)):=by
 intro A H x y dx dy d Q al hx hy e q
 unfold dI at e
 split at e
 .cases e
  exact ⟨_,_,hx.int,hy.int,q _ H (aG.refl H) (.bl _)⟩
 .cases e
set_option tactic.hygienic true in
theorem ar {K:au} {g:Int->Int->Int}:gR K (rI C λi j=>.int (g i j)) (O3 C λi j=>.int (g i j)):=by
 intro A H x y dx dy d Q al hx hy e q
 unfold O3 at e
 split at e
 .split at e
  .rename_i c
   cases e
   exact ⟨_,_,hx.int,hy.int,c,q _ H (aG.refl H) (.int _)⟩
  .cases e
 .cases e
abbrev gz:D->D->Option D:=dI λi j=>.int (i - j)
abbrev cw:D->D->Option D:=O3 IntMulOk λi j=>.int (i * j)
abbrev fY:D->D->Option D:=O3 Ed λi j=>.int (i.fdiv j)
abbrev da:D->D->Option D:=O3 (λ_ j=>j≠0) λi j=>.int (i.fmod j)
abbrev uH:D->D->Option D:=O3 QR λi j=>.int (i ^ j.toNat)
abbrev uI:D->D->Option D:=dI λi j=>.bool (decide (i < j))
abbrev ym:D->D->Option D:=dI λi j=>.bool (decide (i<=j))
abbrev AE:D->D->Option D:=dI λi j=>.bool (decide (j < i))
abbrev Xv:D->D->Option D:=dI λi j=>.bool (decide (j<=i))
def oK:D->D->Option D
 | .int a,.int b=>some (.bool (decide (a=b)))
 | a,b=>if (SeqAt.shaped a && SeqAt.shaped b)=true then some (.bool (PyData.eqv a b)) else none
def AF:D->D->Option D:=λa b=>(oK a b).bind λ| .bool c=>some (.bool (!c)) | _=>none
set_option tactic.hygienic true in
theorem Ei (h:oK a b=some d):SeqAt.shaped a=true /\ SeqAt.shaped b=true /\ d=.bool (PyData.eqv a b):=by
 unfold oK at h
 split at h
 .cases h
  refine ⟨by simp [SeqAt.shaped,PyData.canLay0,PyData.depth],by simp [SeqAt.shaped,PyData.canLay0,PyData.depth],?_⟩
  rfl
 .grind
def Mq (K:au) (neg:Bool):R2:=λx y H Q=>∃ d e,HD K H x d /\ HD K H y e /\ SeqAt.shaped d=true /\ SeqAt.shaped e=true /\ Q (.bl (if neg=true then !PyData.eqv d e else PyData.eqv d e)) H
section
variable {X:Cx}
theorem ik (hr:dH k X.A):gS X (compareOp .Eq) (Mq X.K false):=by
 intro pins s σ H x y v u Q I rx ry h
 obtain ⟨d,e,h1,h2,s1,s2,q⟩:=h
 obtain ⟨as,r1⟩:=h1.reads I rx (d8 s1)
 obtain ⟨bs,r2⟩:=h2.reads I ry (d8 s2)
 exact eq_dataH r1 r2 s1 s2 hr.units ⟨.bl _,H,I,rfl,q⟩
theorem mB (hr:dH k X.A):gS X (compareOp .NotEq) (Mq X.K true):=by
 intro pins s σ H x y v u Q I rx ry h
 obtain ⟨d,e,h1,h2,s1,s2,q⟩:=h
 obtain ⟨as,r1⟩:=h1.reads I rx (d8 s1)
 obtain ⟨bs,r2⟩:=h2.reads I ry (d8 s2)
 exact ne_dataH r1 r2 s1 s2 hr.units ⟨.bl _,H,I,rfl,q⟩
end
theorem imp_eq {K:au}:gR K (Mq K false) oK:=by
 intro A H x y dx dy d Q al hx hy e q
 obtain ⟨a,b,rfl⟩:=Ei e
 exact ⟨dx,dy,hx.Mp,hy.Mp,a,b,q _ H (aG.refl H) (.bl _)⟩
theorem mC {K:au}:gR K (Mq K true) AF:=by
 intro A H x y dx dy d Q al hx hy e q
 obtain ⟨c,e1,e2⟩:=bind1 e
 obtain ⟨a,b,rfl⟩:=Ei e1
 cases e2
 exact ⟨dx,dy,hx.Mp,hy.Mp,a,b,q _ H (aG.refl H) (.bl _)⟩
def Ic (K:au):R2:=λx y H Q=>∃ l b xs zs,x=.ref l /\ y=.ref b /\ BX K H l xs /\ BX K H b zs /\ xs.length + zs.length<=sizeLine /\ ∀ p,H p=none->Q (.ref p) (upd H p (.lst (xs ++ zs)))
theorem qb:gS X (binaryOp .Add) (Ic X.K):=by
 intro pins s σ H x y v u Q I rx ry h
 obtain ⟨l,b,xs,zs,rfl,rfl,hH,hB,hz,q⟩:=h
 cases rx
 cases ry
 obtain ⟨z,its,n,r,e⟩:=I.lsd hH
 obtain ⟨z2,wG,n2,r2,e2⟩:=I.lsd hB
 have hl:=r.length
 have FF:=r2.length
 refine PySem.P.add_list e e2 ?_ (by rw [aaI,aaI]; lia)
 have ea:its.toArray ++ wG.toArray=(its ++ wG).toArray:=by simp
 rw [ea]
 exact ⟨.ref _,_,I.Vf (t':=s.toks) (r.append r2) (by rw [aa7]; lia),rfl,q _ I.fresh⟩
def yn:D->D->dJ
 | .list a,.list b=>if a.length + b.length<=100000 then some (a ++ b) else none
 | _,_=>none
set_option tactic.hygienic true in
theorem qd {K:au}:Ia K (Ic K) yn:=by
 intro A H x y dx dy ds Q al hx hy e q
 unfold yn at e
 split at e
 .split at e
  .rename_i hz
   cases e
   obtain ⟨l,xs,rfl,h1,h2⟩:=hx.list
   obtain ⟨b,zs,rfl,h3,h4⟩:=hy.list
   have:=h2.len
   have:=h4.len
   exact ⟨l,b,xs,zs,rfl,rfl,h1,h3,small (by lia),λp hp=>q p _ hp (h2.app h4)⟩
  .cases e
 .cases e
def Ie:D->D->Option D
 | .int a,.int b=>some (.int (a + b))
 | .str a,.str b=>if a.length + b.length<=100000 then some (.str (a ++ b)) else none
 | .list a,.list b=>if a.length + b.length<=100000 then some (.list (a ++ b)) else none
 | .tuple a,.tuple b=>if a.length + b.length<=100000 /\ a≠[] then some (.tuple (a ++ b)) else none
 | _,_=>none
def Ej (K:au):R2:=λx y H Q=>Ht (λi j=>.int (i + j)) x y H Q \/ (∃ i j,x=.str i /\ y=.str j /\ i.length + j.length<=sizeLine /\ Q (.str (i ++ j)) H) \/ Ic K x y H Q \/ OS K x y H Q
theorem Mr:gS X (binaryOp .Add) (Ej X.K):=QS.or (Ca.or (qb.or L7))
theorem HD.YQ {K:au} (al:Ls A H) (hp:H p=none) (h:cO K (wo H A) ys ds):HD K (wo (upd H p (.lst ys)) A) (.ref p) (.list ds):=by
 rw [HY (al.free hp)]
 have hn:wo H A p=none:=by
  by_cases z:p∈A
  .exact my z
  .rw [cG z]; exact hp
 exact .lst (.of cf) (h.same (cF hn _))
theorem HD.yo {K:au} (al:Ls A H) (hp:H p=none) (h:cO K (wo H A) ys ds):HD K (wo (upd H p (.tup ys)) A) (.ref p) (.tuple ds):=by
 rw [HY (al.free hp)]
 have hn:wo H A p=none:=by
  by_cases z:p∈A
  .exact my z
  .rw [cG z]; exact hp
 exact .tup (.inl cf) (h.same (cF hn _))
set_option tactic.hygienic true in
theorem Ms {K:au}:gR K (Ej K) Ie:=by
 intro A H x y dx dy d Q al hx hy e q
 unfold Ie at e
 split at e
 .cases e
  exact .inl ⟨_,_,hx.int,hy.int,q _ H (aG.refl H) (.int _)⟩
 .split at e
  .cases e
   exact .inr (.inl ⟨_,_,hx.str,hy.str,small (by assumption),q _ H (aG.refl H) (.str _)⟩)
  .cases e
 .split at e
  .rename_i hz
   cases e
   refine .inr (.inr (.inl (qd (K:=K) A H x y _ _ _ Q al hx hy (show (if _ then some _ else none)=some _ from aaL hz) λp ys hp h=>?_)))
   exact q _ _ (cF hp _) (HD.YQ al hp h)
  .cases e
 .split at e
  .rename_i hz
   cases e
   have Yr:=hx.fz
   obtain ⟨a,xs,rfl,h1,h2⟩:=hx.tuple
   obtain ⟨b,zs,rfl,h3,h4⟩:=hy.tuple
   have l2:=h2.len
   have l4:=h4.len
   refine .inr (.inr (.inr ⟨a,b,xs,zs,rfl,rfl,h1,h3,?_,small (by lia),λz=>?_,λz p hp=>?_⟩))
   .grind
   .subst z; cases h4
    rw [abh] at q
    exact q _ H (aG.refl H) Yr
   .exact q _ _ (cF hp _) (HD.yo al hp (h2.app h4))
  .cases e
 .cases e
def AG (a:cg) (b:aF):cg:=λδ=>(a δ).bind λds=>(b δ).bind λy=>match y with
 | .int k=>if k < 2 ^ 62 /\ -(2 ^ 62) < k /\ ds.length * k.toNat<=100000 then some (List.replicate k.toNat ds).flatten else none
 | _=>none
set_option tactic.hygienic true in
theorem Ek (ha:PE X a (tN X.K O ga)) (hb:PE X b (gm X.K O gb)):PE X (.BinOp a .Mult b pos) (tN X.K O (AG ga gb)):=(Hu Ra ha hb).mono λσ H Q hh=>hh.e λU A0 δ d R ed q=>by
 obtain ⟨x,y,ex,ey,ef⟩:=AD ed
 cases y with
 | int k=>
   simp only at ef
   split at ef
   .rename_i hz
    cases ef
    refine ⟨U,A0,δ,x,R,ex,λr ys H1 s1 hr h1 h2=>⟨U,A0,δ,_,R.same s1,ey,λv2 H2 s2 h3=>?_⟩⟩
    have hl:=h2.len
    refine ⟨r,k,ys,rfl,h3.int,s2 _ _ h1,by lia,by lia,small (by rw [hl]; exact hz.2.2),λp hp=>uF (s1.trans s2) q p _ hp ?_⟩
    exact cO.rep (h2.same ((mz λa ha=>aaE _ ha).trans (cB s2))) _
   .grind
 | _=>cases ef
def a9:D->D->Option D
 | .list ds,.int i=>p0 ds i
 | .tuple ds,.int i=>p0 ds i
 | .str z,.int i=>if z.length<=100000 then (p0 z.cps.toList i).map λc=>.str ⟨#[c]⟩ else none
 | _,_=>none
theorem cO.p0 {K:au} (h:cO K H xs ds) (e:p0 ds i=some d):∃ v,L2.p0 xs i=some v /\ HD K H v d:=by
 unfold L2.p0 at e ⊢
 obtain ⟨j,e1,e2⟩:=bind1 e
 rw [h.len,e1]
 obtain ⟨x,hx,q⟩:=h.get e2
 exact ⟨x,hx,q⟩
set_option tactic.hygienic true in
theorem Ry {K:au}:gR K (rIx K) a9:=by
 intro A H x y dx dy d Q al hx hy e q
 unfold a9 at e
 split at e
 .obtain ⟨l,xs,rfl,h1,h2⟩:=hx.list
  obtain ⟨v,e1,e2⟩:=h2.p0 e
  exact .inl ⟨l,xs,_,v,rfl,hy.int,h1.sq,e1,q _ H (aG.refl H) e2⟩
 .obtain ⟨l,xs,rfl,h1,h2⟩:=hx.tuple
  obtain ⟨v,e1,e2⟩:=h2.p0 e
  exact .inr (.inl ⟨l,xs,_,v,rfl,hy.int,h1,e1,q _ H (aG.refl H) e2⟩)
 .split at e
  .rename_i z i hz
   cases ec:L2.p0 z.cps.toList i with
   | none=>rw [ec] at e; cases e
   | some c=>
     rw [ec] at e; cases e
     exact .inr (.inr ⟨z,i,c,hx.str,hy.int,small hz,ec,q _ H (aG.refl H) (.str _)⟩)
  .cases e
 .cases e
section
variable {X:Cx} {O:List Nat} {a b:Expr} {ga gb:aF} {pos:Pos}
theorem aw (ha:PE X a (gm X.K O ga)) (hb:PE X b (gm X.K O gb)) (hs:D9 b:=by exact λ_ _=>rfl):PE X (.Subscript a b pos) (tE X.K O (g2 a9 ga gb)):=(Va Q4 ha hb hs).mono λ_ _ _=>Eh Ry
end
def g1 (f:D->Option D) (a:aF):aF:=λδ=>(a δ).bind f
def wJ:D->Option D
 | .int a=>some (.int (-a))
 | _=>none
def Mt:D->Option D
 | .bool a=>some (.bool (!a))
 | _=>none
section
variable {X:Cx} {O:List Nat} {a b c:Expr} {ga gb:aF} {pos:Pos}
theorem rB (ha:PE X a (gm X.K O ga)):PE X (.UnaryOp .USub a pos) (tE X.K O (g1 wJ ga)):=(U3 QT ha).mono λσ H Q hh=>hh.e λU A0 δ d R ed q=>by
 obtain ⟨x,e1,e2⟩:=bind1 ed
 cases x with
 | int i=>cases e2; exact ⟨U,A0,δ,_,R,e1,λv H' s h=>⟨i,h.int,q _ H' s (.int _)⟩⟩
 | _=>cases e2
theorem Ig (ha:PE X a (gm X.K O ga)):PE X (.UnaryOp .Not a pos) (tE X.K O (g1 Mt ga)):=(QD ha).mono λσ H Q hh=>hh.e λU A0 δ d R ed q=>by
 obtain ⟨x,e1,e2⟩:=bind1 ed
 cases x with
 | bool i=>cases e2; exact ⟨U,A0,δ,_,R,e1,λv H' s h=>⟨i,h.bool,q _ H' s (.bl _)⟩⟩
 | _=>cases e2
def kg (a b:aF):aF:=λδ=>(gB a δ).bind λx=>if x=true then b δ else some (.bool false)
def Ih (a b:aF):aF:=λδ=>(gB a δ).bind λx=>if x=true then some (.bool true) else b δ
theorem El {b:Bool} (h:gB g δ=some b):g δ=some (.bool b):=by
 obtain ⟨d,e1,e2⟩:=bind1 h
 cases d with
 | bool c=>cases e2; exact e1
 | _=>cases e2
theorem oM {rest:List Expr} (ha:PE X a (tE X.K O ga)) (hb:PE X (.BoolOp .And (b :: rest) pos) (tE X.K O gb)):PE X (.BoolOp .And (a :: b :: rest) pos) (tE X.K O (kg ga gb)):=(QC ha hb).mono λσ H Q hh=>hh.e λU A0 δ d R ed q=>by
 obtain ⟨x,e1,e2⟩:=bind1 ed
 refine ⟨U,A0,δ,_,R,El e1,λv H' s h=>?_⟩
 cases h
 refine ⟨x,rfl,?_⟩
 cases x with
 | true=>rw [aaL rfl] at e2 ⊢; exact ⟨U,A0,δ,d,R.same s,e2,λv H2 s2 h2=>q v H2 (s.trans s2) h2⟩
 | false=>rw [aaO aaW] at e2 ⊢; cases e2; exact q _ H' s (.bl _)
theorem Vv {rest:List Expr} (ha:PE X a (tE X.K O ga)) (hb:PE X (.BoolOp .Or (b :: rest) pos) (tE X.K O gb)):PE X (.BoolOp .Or (a :: b :: rest) pos) (tE X.K O (Ih ga gb)):=(UP ha hb).mono λσ H Q hh=>hh.e λU A0 δ d R ed q=>by
 obtain ⟨x,e1,e2⟩:=bind1 ed
 refine ⟨U,A0,δ,_,R,El e1,λv H' s h=>?_⟩
 cases h
 refine ⟨x,rfl,?_⟩
 cases x with
 | true=>rw [aaL rfl] at e2 ⊢; cases e2; exact q _ H' s (.bl _)
 | false=>rw [aaO aaW] at e2 ⊢; exact ⟨U,A0,δ,d,R.same s,e2,λv H2 s2 h2=>q v H2 (s.trans s2) h2⟩
def nW (a b:me):me:=λδ=>(a δ).bind λx=>if x=true then b δ else some false
def O4 (a b:me):me:=λδ=>(a δ).bind λx=>if x=true then some true else b δ
def nX (a:me):me:=λδ=>(a δ).map λx=> !x
variable {ta tb:me} {rest:List Expr}
theorem ni (ha:PT X a (tT X.K O ta)) (hb:PW X (.BoolOp .And (b :: rest) pos) (tT X.K O tb)):PW X (.BoolOp .And (a :: b :: rest) pos) (tT X.K O (nW ta tb)):=(pw_and ha hb).mono λσ H Q hh=>hh.e λU A0 δ d R ed q=>by
 obtain ⟨x,e1,e2⟩:=bind1 ed
 refine ⟨U,A0,δ,_,R,e1,λH' s=>?_⟩
 cases x with
 | true=>rw [aaL rfl] at e2 ⊢; exact ⟨U,A0,δ,d,R.same s,e2,λH2 s2=>q H2 (s.trans s2)⟩
 | false=>rw [aaO aaW] at e2 ⊢; cases e2; exact q H' s
theorem yp (ha:PT X a (tT X.K O ta)) (hb:PW X (.BoolOp .Or (b :: rest) pos) (tT X.K O tb)):PW X (.BoolOp .Or (a :: b :: rest) pos) (tT X.K O (O4 ta tb)):=(pw_or ha hb).mono λσ H Q hh=>hh.e λU A0 δ d R ed q=>by
 obtain ⟨x,e1,e2⟩:=bind1 ed
 refine ⟨U,A0,δ,_,R,e1,λH' s=>?_⟩
 cases x with
 | true=>rw [aaL rfl] at e2 ⊢; cases e2; exact q H' s
 | false=>rw [aaO aaW] at e2 ⊢; exact ⟨U,A0,δ,d,R.same s,e2,λH2 s2=>q H2 (s.trans s2)⟩
theorem kh (ha:PT X a (tT X.K O ta)):PT X (.UnaryOp .Not a pos) (tT X.K O (nX ta)):=(QB ha).mono λσ H Q hh=>hh.e λU A0 δ d R ed q=>by
 unfold nX at ed
 cases e:ta δ with
 | none=>rw [e] at ed; cases ed
 | some x=>rw [e] at ed; cases ed; exact ⟨U,A0,δ,x,R,e,λH' s=>q H' s⟩
def Vw:D->Option Bool
 | .none=>some false
 | .bool b=>some b
 | .int i=>some (i != 0)
 | .str x=>if x.length<=100000 then some ((x.length:Int) != 0) else none
 | .list l=>some (!l.isEmpty)
 | .tuple l=>some (!l.isEmpty)
 | _=>none
def ka (g:aF):me:=λδ=>(g δ).bind Vw
theorem uJ {K:au} (h:cO K H xs ds):xs.isEmpty=ds.isEmpty:=by cases h <;> rfl
theorem cX (ha:PE X a (gm X.K O ga)) (he:∀ whole,isTrue a X.env whole=(do let v <- whole; standAt a.pos; holding [v] (truthy v)):=by exact λ_=>rfl):PT X a (tT X.K O (ka ga)):=(Hy ha he).mono λσ H Q hh=>hh.e λU A0 δ k R ed q=>by
 obtain ⟨d,e1,e2⟩:=bind1 ed
 refine ⟨U,A0,δ,d,R,e1,λv H' s h=>⟨k,?_,q H' s⟩⟩
 cases d with
 | none=>cases e2; rw [h.ia]; exact rfl
 | bool b=>cases e2; rw [h.bool]; exact rfl
 | int i=>cases e2; rw [h.int]; exact rfl
 | str x=>
   rw [h.str]
   have e3:(if x.length<=100000 then some ((x.length:Int) != 0) else none)=some k:=e2
   split at e3
   .cases e3; exact ⟨small (by assumption),rfl⟩
   .grind
 | list l=>
   cases e2
   obtain ⟨p,xs,rfl,h1,h2⟩:=h.list
   exact .inl ⟨xs,h1.sq,by rw [uJ h2]⟩
 | tuple l=>
   cases e2
   obtain ⟨p,xs,rfl,h1,h2⟩:=h.tuple
   exact .inr (.inl ⟨xs,h1,by rw [uJ h2]⟩)
 | dict _=>cases e2
def Ii (c:me) (a b:aF):aF:=λδ=>(c δ).bind λx=>if x=true then a δ else b δ
theorem Rz (hc:PT X c (tT X.K O ta)) (ha:PE X a (tE X.K O ga)) (hb:PE X b (tE X.K O gb)):PE X (.IfExp c a b pos) (tE X.K O (Ii ta ga gb)):=(Hg hc ha hb).mono λσ H Q hh=>hh.e λU A0 δ d R ed q=>by
 obtain ⟨x,e1,e2⟩:=bind1 ed
 refine ⟨U,A0,δ,_,R,e1,λH' s=>?_⟩
 cases x with
 | true=>rw [aaL rfl] at e2 ⊢; exact ⟨U,A0,δ,d,R.same s,e2,λv H2 s2 h2=>q v H2 (s.trans s2) h2⟩
 | false=>rw [aaO aaW] at e2 ⊢; exact ⟨U,A0,δ,d,R.same s,e2,λv H2 s2 h2=>q v H2 (s.trans s2) h2⟩
end
def ag:cg:=λ_=>some []
def ae (a:aF) (r:cg):cg:=λδ=>(a δ).bind λx=>(r δ).bind λxs=>some (x :: xs)
def bG (r:cg):aF:=λδ=>(r δ).bind λxs=>if xs.length<=100000 then some (.tuple xs) else none
def c7 (r:cg):cg:=λδ=>(r δ).bind λxs=>if xs.length<=100000 then some xs else none
section
variable {X:Cx} {O:List Nat} {e:Expr} {es:List Expr} {ga:aF} {gr:cg} {pos:Pos}
theorem ah:PA X [] (xt X.K O ag):=c6.mono λσ H Q hh=>hh.e λU A0 δ d R ed q=>by cases ed; exact q [] H (aG.refl H) .nil
theorem aa (ha:PE X e (tE X.K O ga)) (hr:PA X es (xt X.K O gr)) (hs:starEach (e :: es) X.env=(false,eval e X.env) :: starEach es X.env:=by rfl):PA X (e :: es) (xt X.K O (ae ga gr)):=(bE ha hr hs).mono λσ H Q hh=>hh.e λU A0 δ ds R ed q=>by
 obtain ⟨x,xs,e1,e2,e3⟩:=AD ed
 cases e3
 exact ⟨U,A0,δ,x,R,e1,λv H1 s1 h1=>⟨U,A0,δ,xs,R.same s1,e2,λvs H2 s2 h2=>q _ H2 (s1.trans s2) (.cons (h1.same (cB s2)) h2)⟩⟩
theorem aB:PA X [] (uE X.K O ag):=c6.mono λσ H Q hh=>hh.e λU A0 δ d R ed q=>by cases ed; exact q [] H (aG.refl H) .nil
theorem av (ha:PE X e (gm X.K O ga)) (hr:PA X es (uE X.K O gr)) (hs:starEach (e :: es) X.env=(false,eval e X.env) :: starEach es X.env:=by rfl):PA X (e :: es) (uE X.K O (ae ga gr)):=(bE ha hr hs).mono λσ H Q hh=>hh.e λU A0 δ ds R ed q=>by
 obtain ⟨x,xs,e1,e2,e3⟩:=AD ed
 cases e3
 exact ⟨U,A0,δ,x,R,e1,λv H1 s1 h1=>⟨U,A0,δ,xs,R.same s1,e2,λvs H2 s2 h2=>q _ H2 (s1.trans s2) (.cons (h1.same s2) h2)⟩⟩
set_option tactic.hygienic true in
theorem bI (h:PA X es (xt X.K O gr)):PE X (.Tuple es x1 pos) (tE X.K O (bG gr)):=(Hz h).mono λσ H Q hh=>hh.e λU A0 δ d R ed q=>by
 obtain ⟨xs,e1,e2⟩:=bind1 ed
 split at e2
 .rename_i hz
  cases e2
  refine ⟨U,A0,δ,xs,R,e1,λvs H' s h=>⟨by have:=h.len; exact small (by lia),λp hp=>q _ _ (s.trans (cF hp _)) (HD.yo (R.same s).al hp h)⟩⟩
 .grind
set_option tactic.hygienic true in
theorem de (h:PA X es (xt X.K O gr)):PE X (.List es pos) (tN X.K O (c7 gr)):=(QW h).mono λσ H Q hh=>hh.e λU A0 δ d R ed q=>by
 obtain ⟨xs,e1,e2⟩:=bind1 ed
 split at e2
 .rename_i hz
  cases e2
  refine ⟨U,A0,δ,d,R,e1,λvs H' s h=>⟨by have:=h.len; exact small (by lia),λp hp=>uF s q p vs hp h⟩⟩
 .grind
end
def jL (K:au) (n:Nat) (G:List D->Option D):Sp:=λvs H Q _=>vs.length=n /\ ∃ A ds d,Ls A H /\ cO K (wo H A) vs ds /\ G ds=some d /\ ∀ v H',aG H H'->HD K (wo H' A) v d->Q v H'
def xw (K:au) (n:Nat) (G:List D->dJ):Sp:=λvs H Q _=>vs.length=n /\ ∃ A ds d,Ls A H /\ cO K (wo H A) vs ds /\ G ds=some d /\
 ∀ r ys H',aG H H'->H r=none->H' r=some (.lst ys)->cO K (wo H' (r :: A)) ys d->Q (.ref r) H'
def ay (G:List D->Option D) (n:Nat) (g:cg):aF:=λδ=>(g δ).bind λds=>if ds.length=n then G ds else none
def bW (G:List D->dJ) (n:Nat) (g:cg):cg:=λδ=>(g δ).bind λds=>if ds.length=n then G ds else none
def Mu (G:List D->Option D) (n:Nat) (g:cg):aF:=λδ=>(g δ).bind λds=>if ds.length=n then (G ds).bind λd=>if Mo d=true then some d else none else none
section
variable {X:Cx} {O:List Nat} {e:Expr} {es:List Expr} {gr:cg} {pos p:Pos} {n k kk:Nat} {x:Str} {ps:List Str}
theorem yj.Vx {K:au} :∀ {vs:List V} {ds:List D},yj K A H vs ds->cO K H vs ds
 | _,_,.nil=>.nil
 | _,_,.cons h t=>.cons h.Mp (yj.Vx t)
set_option tactic.hygienic true in
theorem Mv (F:Dn X.prog X.w X.K X.mg X.base k x ps (jL X.K n G)) (hr:dH kk X.A) (hk:k<=kk) (ha:PA X (e :: es) (xt X.K O gr)) (hg:Gl X x:=by rfl)
  (tw:(x == ("__debug__":Str))=false:=by decide) (he:starEach (e :: es) X.env=(false,eval e X.env) :: starEach es X.env:=by rfl) (kf:(backTo pos (starEach es X.env)).any (·.1)=false:=by rfl):
  PE X (.Call (.Name x p) (e :: es) [] pos) (tE X.K O (ay G n gr)):=(HS F hr hk ha hg tw he kf).mono λσ H Q hh=>hh.e λU A0 δ d R ed q=>by
 obtain ⟨ds,e1,e2⟩:=bind1 ed
 split at e2
 .rename_i hn
  refine ⟨U,A0,δ,ds,R,e1,λvs H' s h=>?_⟩
  show jL X.K n G (vs ++ []) H' Q E0
  rw [abh]
  exact ⟨by rw [h.len]; exact hn,U ++ A0,ds,d,(R.same s).al,h,e2,λv H2 s2 h2=>q v H2 (s.trans s2) h2⟩
 .grind
set_option tactic.hygienic true in
theorem bX (F:Dn X.prog X.w X.K X.mg X.base k x ps (xw X.K n G)) (hr:dH kk X.A) (hk:k<=kk) (ha:PA X (e :: es) (xt X.K O gr)) (hg:Gl X x:=by rfl)
  (tw:(x == ("__debug__":Str))=false:=by decide) (he:starEach (e :: es) X.env=(false,eval e X.env) :: starEach es X.env:=by rfl) (kf:(backTo pos (starEach es X.env)).any (·.1)=false:=by rfl):
  PE X (.Call (.Name x p) (e :: es) [] pos) (tN X.K O (bW G n gr)):=(HS F hr hk ha hg tw he kf).mono λσ H Q hh=>hh.e λU A0 δ d R ed q=>by
 obtain ⟨ds,e1,e2⟩:=bind1 ed
 split at e2
 .rename_i hn
  refine ⟨U,A0,δ,ds,R,e1,λvs H' s h=>?_⟩
  show xw X.K n G (vs ++ []) H' Q E0
  rw [abh]
  exact ⟨by rw [h.len]; exact hn,U ++ A0,ds,d,(R.same s).al,h,e2,λr ys H2 s2 h0 h1 h2=>q r ys H2 (s.trans s2) (s.free h0) h1 h2⟩
 .grind
end
def yq (K:au) (r:List V->Hp->VK->Prop) (f:List D->Option D):Prop:=∀ (A:List Addr) (H:Hp) (vs:List V) (ds:List D) (d:D) (Q:VK),Ls A H->yj K A H vs ds->f ds=some d->(∀ v H',aG H H'->HD K (wo H' A) v d->Q v H')->r vs H Q
def Ij (K:au) (r:List V->Hp->VK->Prop) (f:List D->dJ):Prop:=∀ (A:List Addr) (H:Hp) (vs:List V) (ds:List D) (d:List D) (Q:VK),Ls A H->yj K A H vs ds->f ds=some d->
 (∀ p ys,H p=none->cO K (wo H A) ys d->Q (.ref p) (upd H p (.lst ys)))->r vs H Q
def eQ (f:List D->Option D) (g:cg):aF:=λδ=>(g δ).bind f
def tD (f:List D->dJ) (g:cg):cg:=λδ=>(g δ).bind f
section
variable {X:Cx} {O:List Nat} {e:Expr} {es:List Expr} {gr:cg} {pos p:Pos} {x:Str} {r:List V->Hp->VK->Prop} {id T:String}
theorem O5 {K:au} (imp:yq K r f) :tE K O (eQ f gr) σ H Q->Xo r (uE K O gr) σ H Q:=λ⟨U,A0,δ,d,R,ed,q⟩=>by
 obtain ⟨ds,e1,e2⟩:=bind1 ed
 exact ⟨U,A0,δ,ds,R,e1,λvs H' s h=>imp _ H' vs ds d Q (R.same s).al h e2 λv H2 s2 h2=>q v H2 (s.trans s2) h2⟩
theorem Vy {K:au} (imp:Ij K r f) :tN K O (tD f gr) σ H Q->Xo r (uE K O gr) σ H Q:=λ⟨U,A0,δ,d,R,ed,q⟩=>by
 obtain ⟨ds,e1,e2⟩:=bind1 ed
 exact ⟨U,A0,δ,ds,R,e1,λvs H' s h=>imp _ H' vs ds d Q (R.same s).al h e2 (uF s q)⟩
theorem aQ (hc:fT X (.builtin id) r) (imp:yq X.K r f) (hg:Gl X x) (hm:X.mg x=none) (hv:bootBuiltins x=some (.builtin id)) (ha:PA X (e :: es) (uE X.K O gr)) (hn:x≠"__name__":=by decide) (tw:(x == ("__debug__":Str))=false:=by decide)
  (he:starEach (e :: es) X.env=(false,eval e X.env) :: starEach es X.env:=by rfl) (kf:(backTo pos (starEach es X.env)).any (·.1)=false:=by rfl):PE X (.Call (.Name x p) (e :: es) [] pos) (tE X.K O (eQ f gr)):=
 (mw hc hg hm hv ha hn tw he kf).mono λ_ _ _=>O5 imp
theorem gI (hc:fT X (.type T) r) (imp:yq X.K r f) (hg:Gl X x) (hm:X.mg x=none) (hv:bootBuiltins x=some (.type T)) (ha:PA X (e :: es) (uE X.K O gr)) (hn:x≠"__name__":=by decide) (tw:(x == ("__debug__":Str))=false:=by decide)
  (he:starEach (e :: es) X.env=(false,eval e X.env) :: starEach es X.env:=by rfl) (kf:(backTo pos (starEach es X.env)).any (·.1)=false:=by rfl):PE X (.Call (.Name x p) (e :: es) [] pos) (tE X.K O (eQ f gr)):=
 (rm hc hg hm hv ha hn tw he kf).mono λ_ _ _=>O5 imp
theorem la (hc:fT X (.type T) r) (imp:Ij X.K r f) (hg:Gl X x) (hm:X.mg x=none) (hv:bootBuiltins x=some (.type T)) (ha:PA X (e :: es) (uE X.K O gr)) (hn:x≠"__name__":=by decide) (tw:(x == ("__debug__":Str))=false:=by decide)
  (he:starEach (e :: es) X.env=(false,eval e X.env) :: starEach es X.env:=by rfl) (kf:(backTo pos (starEach es X.env)).any (·.1)=false:=by rfl):PE X (.Call (.Name x p) (e :: es) [] pos) (tN X.K O (tD f gr)):=
 (rm hc hg hm hv ha hn tw he kf).mono λ_ _ _=>Vy imp
end
theorem Lp {K:au} (h:yj K A H vs [d]):∃ v,vs=[v] /\ i8 K A H v d:=by
 cases h with
 | cons a t=>cases t; exact ⟨_,rfl,a⟩
theorem sh2 {K:au} (h:yj K A H vs [d,e]):∃ v u,vs=[v,u] /\ i8 K A H v d /\ i8 K A H u e:=by
 cases h with
 | cons a t=>cases t with
   | cons b t=>cases t; exact ⟨_,_,rfl,a,b⟩
def dX:List D->Option D
 | [.list l]=>some (.int l.length)
 | [.tuple l]=>some (.int l.length)
 | [.str z]=>if z.length<=100000 then some (.int z.length) else none
 | _=>none
theorem aZ:fT X (.builtin "len") (λxs H Q=>(∃ p ys,xs=[.ref p] /\ (kB X.K H p ys \/ k7 X.K H p ys) /\ Q (.int ys.length) H) \/ ∃ z,xs=[.str z] /\ z.length<=sizeLine /\ Q (.int z.length) H):=ye.or yf
theorem b9 {K:au}:yq K (λxs H Q=>(∃ p ys,xs=[.ref p] /\ (kB K H p ys \/ k7 K H p ys) /\ Q (.int ys.length) H) \/ ∃ z,xs=[.str z] /\ z.length<=sizeLine /\ Q (.int z.length) H) dX:=by
 intro A H vs ds d Q al h e q
 unfold dX at e
 split at e
 .cases e
  obtain ⟨v,rfl,h1⟩:=Lp h
  have h:=h1
  obtain ⟨p,xs,rfl,h1,h2⟩:=h.list
  refine .inl ⟨p,xs,rfl,.inl h1.sq,?_⟩
  rw [h2.len]
  exact q _ H (aG.refl H) (.int _)
 .cases e
  obtain ⟨v,rfl,h1⟩:=Lp h
  have h:=h1
  obtain ⟨p,xs,rfl,h1,h2⟩:=h.tuple
  refine .inl ⟨p,xs,rfl,.inr h1,?_⟩
  rw [h2.len]
  exact q _ H (aG.refl H) (.int _)
 .split at e
  .cases e
   obtain ⟨v,rfl,h1⟩:=Lp h
   exact .inr ⟨_,by rw [h1.str],small (by assumption),q _ H (aG.refl H) (.int _)⟩
  .cases e
 .cases e
def oN:List D->Option D
 | [.int i]=>some (.int (if i < 0 then -i else i))
 | _=>none
theorem lb {K:au}:yq K (λxs H Q=>∃ i,xs=[.int i] /\ Q (.int (if i < 0 then -i else i)) H) oN:=by
 intro A H vs ds d Q al h e q
 unfold oN at e
 split at e
 .cases e
  obtain ⟨v,rfl,h1⟩:=Lp h
  have h:=h1
  exact ⟨_,by rw [h.int],q _ H (aG.refl H) (.int _)⟩
 .cases e
def uK:List D->Option D
 | [.int i,.int j]=>some (.int (if j > i then j else i))
 | _=>none
def Em:List D->Option D
 | [.int i,.int j]=>some (.int (if j < i then j else i))
 | _=>none
theorem En {K:au}:yq K (λxs H Q=>∃ i j,xs=[.int i,.int j] /\ Q (.int (if j > i then j else i)) H) uK:=by
 intro A H vs ds d Q al h e q
 unfold uK at e
 split at e
 .cases e
  obtain ⟨v,u,rfl,h1,h'⟩:=sh2 h
  have h:=h1
  exact ⟨_,_,by rw [h.int,h'.int],q _ H (aG.refl H) (.int _)⟩
 .cases e
theorem Mw {K:au}:yq K (λxs H Q=>∃ i j,xs=[.int i,.int j] /\ Q (.int (if j < i then j else i)) H) Em:=by
 intro A H vs ds d Q al h e q
 unfold Em at e
 split at e
 .cases e
  obtain ⟨v,u,rfl,h1,h'⟩:=sh2 h
  have h:=h1
  exact ⟨_,_,by rw [h.int,h'.int],q _ H (aG.refl H) (.int _)⟩
 .cases e
def qe:List D->Option D
 | [.int i]=>some (.int i)
 | [.bool k]=>some (.int (if k then 1 else 0))
 | _=>none
theorem nj {K:au}:yq K (λxs H Q=>(∃ i,xs=[.int i] /\ Q (.int i) H) \/ ∃ k,xs=[.bl k] /\ Q (.int (if k then 1 else 0)) H) qe:=by
 intro A H vs ds d Q al h e q
 unfold qe at e
 split at e
 .cases e
  obtain ⟨v,rfl,h1⟩:=Lp h
  have h:=h1
  exact .inl ⟨_,by rw [h.int],q _ H (aG.refl H) (.int _)⟩
 .cases e
  obtain ⟨v,rfl,h1⟩:=Lp h
  have h:=h1
  exact .inr ⟨_,by rw [h.bool],q _ H (aG.refl H) (.int _)⟩
 .cases e
def kD:List D->dJ
 | [.list l]=>some l
 | [.tuple l]=>some l
 | _=>none
theorem qf {K:au}:Ij K (λxs H Q=>∃ p ys,xs=[.ref p] /\ (kB K H p ys \/ k7 K H p ys) /\ ∀ l,H l=none->Q (.ref l) (upd H l (.lst ys))) kD:=by
 intro A H vs ds d Q al h e q
 unfold kD at e
 split at e
 .cases e
  obtain ⟨v,rfl,h1⟩:=Lp h
  have h:=h1
  obtain ⟨p,xs,rfl,h1,h2⟩:=h.list
  exact ⟨p,xs,rfl,.inl h1.sq,λl hl=>q l xs hl h2⟩
 .cases e
  obtain ⟨v,rfl,h1⟩:=Lp h
  have h:=h1
  obtain ⟨p,xs,rfl,h1,h2⟩:=h.tuple
  exact ⟨p,xs,rfl,.inr h1,λl hl=>q l xs hl h2⟩
 .cases e
def mD:List D->Option D
 | [.list l]=>some (.tuple l)
 | [.tuple l]=>some (.tuple l)
 | _=>none
theorem xx {K:au}:yq K (λxs H Q=>∃ p ys,xs=[.ref p] /\ ((kB K H p ys /\ ∀ l,H l=none->Q (.ref l) (upd H l (.tup ys))) \/ (k7 K H p ys /\ Q (.ref p) H))) mD:=by
 intro A H vs ds d Q al h e q
 unfold mD at e
 split at e
 .cases e
  obtain ⟨v,rfl,h1⟩:=Lp h
  have h:=h1
  obtain ⟨p,xs,rfl,h1,h2⟩:=h.list
  exact ⟨p,xs,rfl,.inl ⟨h1.sq,λl hl=>q _ _ (cF hl _) (HD.yo al hl h2)⟩⟩
 .cases e
  obtain ⟨v,rfl,h1⟩:=Lp h
  have h:=h1
  have h':=h.fz
  obtain ⟨p,xs,rfl,h1,h2⟩:=h.tuple
  exact ⟨p,xs,rfl,.inr ⟨h1,q _ H (aG.refl H) h'⟩⟩
 .cases e
def tyName:D->String
 | .none=>"NoneType"
 | .bool _=>"bool"
 | .int _=>"int"
 | .str _=>"str"
 | .list _=>"list"
 | .tuple _=>"tuple"
 | .dict _=>"dict"
theorem RA {K:au} (h:(Value.type t == Value.type n)=false) (h2:PySem.W.kitMeta n=true) (h3:(fastBuiltinMro t).map (·.contains (Value.type n))=some b):PySem.W.kitOne K (.type t) (.type n)=some b:=by
 unfold PySem.W.kitOne PySem.W.kitCls
 rw [h,aaO (by decide)]
 show (if PySem.W.kitMeta n=true then PySem.W.subIn K (.type t) (.type n) else none)=some b
 rw [aaL h2]
 exact h3
def fZ:List String:=["int","bool","str","list","tuple","NoneType"]
def Cj (n:String):List D->Option D
 | [d]=>if tyName d∈fZ /\ n∈fZ then some (.bool (decide (tyName d=n) || (decide (tyName d="bool") && decide (n="int")))) else none
 | _=>none
theorem Mx {K:au} (ht:t∈fZ) (hn:n∈fZ):PySem.W.kitOne K (.type t) (.type n)=some (decide (t=n) || (decide (t="bool") && decide (n="int"))):=by
 by_cases h:t=n
 .subst h
  rw [HR]; simp
 .have all:∀ t∈fZ,∀ n∈fZ,t≠n->(Value.type t == Value.type n)=false /\ PySem.W.kitMeta n=true /\ (fastBuiltinMro t).map (·.contains (Value.type n))=some (decide (t=n) || (decide (t="bool") && decide (n="int"))):=by decide +kernel
  obtain ⟨h1,h2,h3⟩:=all t ht n hn h
  exact RA h1 h2 h3
theorem i8.ty {K:au} (h:i8 K A H v d) (hn:tyName d∈fZ):TyW K H v (tyName d):=by
 cases d with
 | none=>rw [h.ia]; exact .inl .ia
 | bool b=>rw [h.bool]; exact .inl (.bl b)
 | int i=>rw [h.int]; exact .inl (.int i)
 | str x=>rw [h.str]; exact .inl (.str x)
 | list l=>obtain ⟨p,xs,rfl,h1,_⟩:=h.list; exact .inr (.inr ⟨p,xs,rfl,h1.sq,rfl⟩)
 | tuple l=>obtain ⟨p,xs,rfl,h1,_⟩:=h.tuple; exact .inr (.inl ⟨p,xs,rfl,h1,rfl⟩)
 | dict l=>simp [tyName,fZ] at hn
section
variable {X:Cx} {O:List Nat} {e:Expr} {ga:aF} {pos p p2:Pos}
def yr (n:String) (g:aF):aF:=λδ=>(g δ).bind λd=>Cj n [d]
set_option tactic.hygienic true in
theorem Ik (T:String) (hB:X.mg "isinstance"=none) (ha:PE X e (gm X.K O ga)) (ht:PE X (.Name n p2) (tC (.ty T))) (hg:Gl X "isinstance":=by rfl)
  (he:starEach [e,.Name n p2] X.env=(false,eval e X.env) :: starEach [.Name n p2] X.env:=by rfl) (Il:starEach [.Name n p2] X.env=(false,eval (.Name n p2) X.env) :: starEach [] X.env:=by rfl) (kf:(backTo pos (starEach [.Name n p2] X.env)).any (·.1)=false:=by rfl):
  PE X (.Call (.Name "isinstance" p) [e,.Name n p2] [] pos) (tE X.K O (yr T ga)):=
 (mw HQ hg hB kC (bE ha (bE ht c6 Il) he) (by decide) (by decide) he kf).mono λσ H Q hh=>hh.e λU A0 δ d R ed q=>by
  obtain ⟨x,e1,e2⟩:=bind1 ed
  have e3:(if tyName x∈fZ /\ T∈fZ then some (PyData.bool (decide (tyName x=T) || (decide (tyName x="bool") && decide (T="int")))) else none)=some d:=e2
  split at e3
  .rename_i hz
   cases e3
   refine ⟨U,A0,δ,x,R,e1,λv H' s h=>?_⟩
   exact ⟨v,T,tyName x,_,rfl,h.ty hz.1,Mx hz.1 hz.2,q _ H' s (.bl _)⟩
  .grind
end
def oi (g:aF):DS->Option (Option Int):=λδ=>(g δ).bind λ| .int i=>some (some i) | _=>none
def My:DS->Option (Option Int):=λ_=>some none
def Vz (K:au) (O:List Nat) (g:DS->Option (Option Int)):TO:=λσ H Q=>∃ U A0 δ d,Rel K O U A0 σ δ H /\ g δ=some d /\ ∀ H',aG H H'->Q d H'
theorem Vz.e {K:au}  {GG:Prop} (hh:Vz K O g σ H Q) (kk:∀ U A0 δ d,(Rel K O U A0 σ δ H)->(g δ=some d)->(∀ H',aG H H'->Q d H')->GG):GG:=by obtain ⟨U,A0,δ,d,x0,x1,x2⟩:=hh; exact kk U A0 δ d x0 x1 x2
def cutD (xs:List D) (lo hi:Option Int):List D:=(xs.drop (HT.wF xs.length 0 lo)).take (HT.wF xs.length xs.length hi - HT.wF xs.length 0 lo)
def Im (a:aF) (lo hi:DS->Option (Option Int)):cg:=λδ=>(a δ).bind λx=>(lo δ).bind λl=>(hi δ).bind λh=>match x with
 | .list ds=>some (cutD ds l h)
 | _=>none
section
variable {X:Cx} {O:List Nat} {e:Expr} {lo hi:Option Expr} {ga:aF} {gl gh:DS->Option (Option Int)} {pos p2:Pos}
theorem AH (h:PE X e (gm X.K O ga)):PO X (some e) (Vz X.K O (oi ga)):=(L6 h).mono λσ H Q hh=>hh.e λU A0 δ d R ed q=>by
 obtain ⟨x,e1,e2⟩:=bind1 ed
 cases x with
 | int i=>cases e2; exact ⟨U,A0,δ,_,R,e1,λv H' s h=>⟨i,h.int,q H' s⟩⟩
 | _=>cases e2
theorem RB (ha:PE X e (gm X.K O ga)) (hl:PO X lo (Vz X.K O gl)) (hh:PO X hi (Vz X.K O gh)):PE X (.Subscript e (.Slice lo hi none p2) pos) (tN X.K O (Im ga gl gh)):=(HC Ma ha hl hh).mono λσ H Q hh=>hh.e λU A0 δ d R ed q=>by
 obtain ⟨x,e1,e2⟩:=bind1 ed
 obtain ⟨l,e3,e4⟩:=bind1 e2
 obtain ⟨h,e5,e6⟩:=bind1 e4
 cases x with
 | list ds=>
   cases e6
   refine ⟨U,A0,δ,_,R,e1,λv H1 s1 h1=>⟨U,A0,δ,l,R.same s1,e3,λH2 s2=>⟨U,A0,δ,h,R.same (s1.trans s2),e5,λH3 s3=>?_⟩⟩⟩
   obtain ⟨p,xs,rfl,r1,r2⟩:=(h1.same (s2.trans s3)).list
   refine ⟨p,xs,rfl,r1.sq,λr hr=>uF ((s1.trans s2).trans s3) q r _ hr ?_⟩
   unfold HE cutD
   rw [r2.len]
   exact (r2.H8 _).Ef _
 | _=>cases e6
end
def ax (a b:aK):aK:=λδ=>(a δ).bind λ| .nx δ'=>b δ' | r=>some r
def bP:aK:=λδ=>some (.nx δ)
def fW (c:me) (a b:aK):aK:=λδ=>(c δ).bind λx=>if x=true then a δ else b δ
def aT (i:Nat) (g:aF):aK:=λδ=>(g δ).bind λd=>some (.nx (δ.set i (some d)))
def ib (i:Nat) (g:cg):aK:=λδ=>(g δ).bind λd=>some (.nx (δ.set i (some (.list d))))
def bQ (g:aF):aK:=λδ=>(g δ).bind λd=>some (.rt d)
def qg (g:aF):aK:=λδ=>(g δ).bind λ_=>some (.nx δ)
def YR (g:aF) (t:D->DS->Option DS):aK:=λδ=>(g δ).bind λd=>(t d δ).bind λδ'=>some (.nx δ')
section
variable {X:Cx} {O:List Nat} {fr:Fr} {xk:Str->Hp->Prop} {st:Stmt} {rest a b:List Stmt} {ga gb:aK} {gc:me} {ge:aF} {gl:cg} {e c:Expr} {pos:Pos}
theorem ak (h1:PS X st (tS X.K O fr ga)) (h2:mn X rest (tS X.K O fr gb)):mn X (st :: rest) (tS X.K O fr (ax ga gb)):=(Hh h1 h2).mono λE σ H hh=>hh.e λH0 U A0 δ r R F ed P=>by
 obtain ⟨r1,e1,e2⟩:=bind1 ed
 cases r1 with
 | nx δ'=>exact ⟨H0,U,A0,δ,.nx δ',R,F,e1,λU' dw H' R' F'=>⟨H0,U',A0,δ',r,R',F',e2,P⟩⟩
 | rt d=>cases e2; exact ⟨H0,U,A0,δ,_,R,F,e1,P⟩
 | bk d=>cases e2; exact ⟨H0,U,A0,δ,_,R,F,e1,P⟩
 | ct d=>cases e2; exact ⟨H0,U,A0,δ,_,R,F,e1,P⟩
theorem ao (h1:PS X st (tS X.K O fr ga)):mn X [st] (tS X.K O fr ga):=LN h1
theorem bR:mn X [] (tS X.K O fr bP):=LM.mono λE σ H hh=>hh.e λH0 U A0 δ r R F ed P=>by cases ed; exact P U σ H R F
theorem iQ:PS X st (tS X.K O fr λ_=>none):=Hi.mono λE σ H hh=>hh.e λH0 U A0 δ r R F ed P=>by cases ed
theorem cE (hc:PT X c (tT X.K O gc)) (ha:mn X a (tS X.K O fr ga)) (hb:mn X b (tS X.K O fr gb)):PS X (.If c a b pos) (tS X.K O fr (fW gc ga gb)):=(UR hc ha hb).mono λE σ H hh=>hh.e λH0 U A0 δ r R F ed P=>by
 obtain ⟨x,e1,e2⟩:=bind1 ed
 refine ⟨U,A0,δ,x,R,e1,λH' s=>?_⟩
 cases x with
 | true=>rw [aaL rfl] at e2 ⊢; exact ⟨H0,U,A0,δ,r,R.same s,F.grow s,e2,P⟩
 | false=>rw [aaO aaW] at e2 ⊢; exact ⟨H0,U,A0,δ,r,R.same s,F.grow s,e2,P⟩
theorem Ck (h:PS X st (uv (tE X.K O ge) (kL i))) (hi:i∉O:=by decide):PS X st (tS X.K O fr (aT i ge)):=h.mono λE σ H hh=>hh.e λH0 U A0 δ r R F ed P=>by
 obtain ⟨d,e1,e2⟩:=bind1 ed
 cases e2
 exact ⟨U,A0,δ,d,R,e1,λv H' s hv=>P U _ H' ((R.same s).set hi hv) (F.grow s)⟩
theorem fe (h:PS X st (uv (tN X.K O gl) (kL i))) (hi:i∈O:=by decide):PS X st (tS X.K O fr (ib i gl)):=h.mono λE σ H hh=>hh.e λH0 U A0 δ r R F ed P=>by
 obtain ⟨d,e1,e2⟩:=bind1 ed
 cases e2
 exact ⟨U,A0,δ,d,R,e1,λr ys H' s hr h1 h2=>P (r :: U) _ H' (R.YO s hr h1 h2 hi) (F.more s hr)⟩
theorem qh (h:PS X st (uu (tE X.K O ge))):PS X st (tS X.K O fr (qg ge)):=h.mono λE σ H hh=>hh.e λH0 U A0 δ r R F ed P=>by
 obtain ⟨d,e1,e2⟩:=bind1 ed
 cases e2
 exact ⟨U,A0,δ,d,R,e1,λv H' s hv=>P U σ H' (R.same s) (F.grow s)⟩
theorem bx (h:PE X e (tE X.K O ge)):PS X (.Return (some e) pos) (tS X.K O (false,xk) (bQ ge)):=(B2 h).mono λE σ H hh=>hh.e λH0 U A0 δ r R F ed P=>by
 obtain ⟨d,e1,e2⟩:=bind1 ed
 cases e2
 refine ⟨U,A0,δ,d,R,e1,λv H' s hv=>P.1 v H' ?_⟩
 exact ⟨F.same.trans s,hv.same (mz λa ha=>aaN _ ha)⟩
theorem nq (h:PE X e (tN X.K O gl)):PS X (.Return (some e) pos) (tS X.K O (true,xk) (bQ (bj gl))):=(B2 h).mono λE σ H hh=>hh.e λH0 U A0 δ r R F ed P=>by
 obtain ⟨d,e1,e2⟩:=bind1 ed
 cases e2
 unfold bj at e1
 cases eg:gl δ with
 | none=>rw [eg] at e1; cases e1
 | some l=>
   rw [eg] at e1; cases e1
   refine ⟨U,A0,δ,l,R,eg,λr ys H' s hr h1 h2=>P.1 (.ref r) H' ?_⟩
   refine ⟨r,_,rfl,F.same.trans s,F.same.free hr,h1,.lst (h2.same (mz λa ha=>?_))⟩
   rcases aaG.mp ha with z | z
   .grind
   .grind
theorem fJ (h:PE X e (ur i)) (hi:i∈O:=by decide):PS X (.Return (some e) pos) (tS X.K O fr (bQ (af i))):=(B2 h).mono λE σ H hh=>hh.e λH0 U A0 δ r R F ed P=>by
 obtain ⟨d,e1,e2⟩:=bind1 ed
 cases e2
 obtain ⟨l,o,hl,hU,h1,h2⟩:=R.ow i d hi (join_some e1)
 refine ⟨.ref l,hl,P.1 (.ref l) H ?_⟩
 unfold tB
 split
 .refine ⟨l,o,rfl,F.same,F.new l hU,h1,h2.same (mz λa ha=>?_)⟩
  rcases aaG.mp ha with z | z
  .grind
  .grind
 .refine ⟨F.same,(h2.same (mz λa ha=>aaN _ ha)).hd ?_⟩
  rw [cG (F.out hU)]; exact h1
def tF (i:Nat) (g:aF):aK:=λδ=>(af i δ).bind λx=>(g δ).bind λd=>match x with
 | .list ds=>if ds.length < 100000 then some (.nx (δ.set i (some (.list (ds ++ [d]))))) else none
 | _=>none
set_option tactic.hygienic true in
theorem gJ (h:PS X st (uu (Xq X.K "list" Ea (ur i) (Ar (tE X.K O ge) LY)))) (hi:i∈O:=by decide):PS X st (tS X.K O fr (tF i ge)):=h.mono λE σ H hh=>hh.e λH0 U A0 δ r R F ed P=>by
 obtain ⟨x,e1,e2⟩:=bind1 ed
 obtain ⟨d,e3,e4⟩:=bind1 e2
 rcases R.Vp i x hi (join_some e1) with ⟨l,ys,ds,hl,rfl,hU,h1,h2⟩ | ⟨kds,rfl⟩
 rotate_left
 .grind
 simp only at e4
 split at e4
 .rename_i hz
  cases e4
  refine ⟨.ref l,hl,.inl ⟨rfl,ys,kB.of h1⟩,U,A0,δ,d,R,e3,λv H' s hv=>?_⟩
  have Lq:=s _ _ h1
  have yt:=h2.same (cB (A:=U ++ A0) s)
  have hlen:=h2.len
  refine ⟨l,ys,v,rfl,rfl,Lq,HU (by lia),?_⟩
  exact P U σ _ ((R.same s).put hi hl hU (yt.app (.cons hv .nil)) ⟨_,join_some e1⟩) ((F.grow s).put hU _)
 .grind
def Mz (i:Nat):aK:=λδ=>(af i δ).bind λx=>match x with
 | .list ds=>if ds=[] then none else some (.nx (δ.set i (some (.list ds.dropLast))))
 | _=>none
set_option tactic.hygienic true in
theorem RC (h:PS X st (uu (Q7 X.K "list" Vg (ur i)))) (hi:i∈O:=by decide):PS X st (tS X.K O fr (Mz i)):=h.mono λE σ H hh=>hh.e λH0 U A0 δ r R F ed P=>by
 obtain ⟨x,e1,e2⟩:=bind1 ed
 rcases R.Vp i x hi (join_some e1) with ⟨l,ys,ds,hl,rfl,hU,h1,h2⟩ | ⟨kds,rfl⟩
 rotate_left
 .grind
 simp only at e2
 split at e2
 .grind
 .rename_i hz
  cases e2
  have hlen:=h2.len
  have yu:=adP.mpr hz
  obtain ⟨y,hy⟩:∃ y,ys[ys.length - 1]?=some y:=⟨_,aad (by lia)⟩
  refine ⟨.ref l,hl,.inl ⟨rfl,ys,kB.of h1⟩,l,ys,y,rfl,rfl,h1,hy,?_⟩
  exact P U σ _ (R.put hi hl hU h2.FN ⟨_,join_some e1⟩) (F.put hU _)
def RD (i:Nat) (gx ge:aF):aK:=λδ=>(ge δ).bind λd=>(af i δ).bind λx=>(gx δ).bind λk=>match x,k with
 | .list ds,.int n=>(D7 ds.length n).bind λj=>some (.nx (δ.set i (some (.list (ds.set j d)))))
 | _,_=>none
def VA (i:Nat) (f:Int->Int->Int) (ge:aF):aK:=λδ=>(af i δ).bind λx=>(ge δ).bind λy=>match x,y with
 | .int a,.int b=>some (.nx (δ.set i (some (.int (f a b)))))
 | _,_=>none
end
def Ah (c:me) (b:aK):Nat->aK
 | 0,_=>none
 | n + 1,δ=>(c δ).bind λx=>if x=true then (b δ).bind (λ| .nx δ'=>Ah c b n δ' | .ct δ'=>Ah c b n δ' | .bk δ'=>some (.nx δ') | .rt d=>some (.rt d)) else some (.nx δ)
theorem Cm:∀ {n:Nat} {δ:DS} {r:Res},Ah c b n δ=some r->Ah c b (n + 1) δ=some r
 | 0,_,_,h=>by cases h
 | n + 1,δ,r,h=>by
   rw [Ah] at h ⊢
   obtain ⟨x,e1,e2⟩:=bind1 h
   rw [e1,aac]
   cases x with
   | false=>exact e2
   | true=>
     obtain ⟨q,e3,e4⟩:=bind1 e2
     rw [e3,aac]
     cases q with
     | nx δ'=>exact Cm e4
     | ct δ'=>exact Cm e4
     | bk _=>exact e4
     | rt _=>exact e4
theorem Io (h:Ah c b n δ=some r) (hm:n<=m):Ah c b m δ=some r:=by
 induction hm with
 | refl=>exact h
 | step _ ih=>exact Cm ih
open Classical in
def il (c:me) (b:aK):aK:=λδ=>if h:∃ p:Nat×Res,Ah c b p.1 δ=some p.2 then some (choose h).2 else none
set_option tactic.hygienic true in
theorem AI (h:il c b δ=some r):∃ n,Ah c b n δ=some r:=by
 unfold il at h
 split at h
 .grind
 .cases h
theorem FP (h:Ah c b n δ=some r):il c b δ=some r:=by
 have hp:∃ p:Nat×Res,Ah c b p.1 δ=some p.2:=⟨(n,r),h⟩
 unfold il
 rw [dif_pos hp]
 have h2:=Classical.choose_spec hp
 have a1:=Io h (Nat.le_max_left n (Classical.choose hp).1)
 have a2:=Io h2 (Nat.le_max_right n (Classical.choose hp).1)
 rw [a1] at a2
 exact a2.symm
theorem FQ (W:Nat->DS->Prop) (r:DS->Res->Prop) (m:Nat) (δ:DS) (h:W m δ)
  (hs:∀ m δ,W m δ->(c δ=some false /\ r δ (.nx δ)) \/ (c δ=some true /\ ((∃ δ' m',(b δ=some (.nx δ') \/ b δ=some (.ct δ')) /\ m' < m /\ W m' δ' /\ ∀ q,r δ' q->r δ q) \/ (∃ δ',b δ=some (.bk δ') /\ r δ (.nx δ')) \/ ∃ d,b δ=some (.rt d) /\ r δ (.rt d)))):
  ∃ q,il c b δ=some q /\ r δ q:=by
 suffices hh:∀ k m δ,m < k->W m δ->∃ n q,Ah c b n δ=some q /\ r δ q by
  obtain ⟨n,q,e,hq⟩:=hh (m + 1) m δ (acn m) h
  exact ⟨q,FP e,hq⟩
 intro k
 induction k with
 | zero=>intro m δ hm; lia
 | succ k ih=>
   intro m δ hm hW
   rcases hs m δ hW with ⟨hc,hr⟩ | ⟨hc,⟨δ',m',hb,i9,hW',imp⟩ | ⟨δ',hb,hr⟩ | ⟨d,hb,hr⟩⟩
   .exact ⟨1,_,by rw [Ah,hc]; rfl,hr⟩
   .obtain ⟨n,q,e,hq⟩:=ih m' δ' (by lia) hW'
    refine ⟨n + 1,q,?_,imp q hq⟩
    rw [Ah,hc,aac,aaL rfl]
    rcases hb with hb | hb <;> rw [hb,aac] <;> exact e
   .exact ⟨1,_,by rw [Ah,hc,aac,aaL rfl,hb]; rfl,hr⟩
   .exact ⟨1,_,by rw [Ah,hc,aac,aaL rfl,hb]; rfl,hr⟩
section
variable {X:Cx} {O:List Nat} {fr:Fr} {body:List Stmt} {gb:aK} {gc:me} {c:Expr} {pos:Pos}
theorem mE (hp:PassesOwn (model X.prog X.w) X.A X.env X.xe) (hc:PT X c (tT X.K O gc)) (hb:mn X body (tS X.K O fr gb)):PS X (.While c body [] pos) (tS X.K O fr (il gc gb)):=(Hm hp hc hb).mono λE σ H hh=>hh.e λH0 U A0 δ r R F ed P=>by
 obtain ⟨n,en⟩:=AI ed
 refine ⟨λm σ H=>∃ U δ,Rel X.K O U A0 σ δ H /\ Fx H0 A0 U H /\ Ah gc gb m δ=some r,⟨n,U,δ,R,F,en⟩,?_⟩
 rintro m σ H ⟨U,δ,R,F,em⟩
 cases m with
 | zero=>cases em
 | succ m=>
   obtain ⟨x,e1,e2⟩:=bind1 em
   refine ⟨U,A0,δ,x,R,e1,λH' s=>?_⟩
   cases x with
   | false=>rw [aaO aaW] at e2 ⊢; cases e2; exact P U σ H' (R.same s) (F.grow s)
   | true=>
     obtain ⟨q,e3,e4⟩:=bind1 e2
     refine ⟨λdw H'=>∃ m',m' < m + 1 /\ ∃ U δ,Rel X.K O U A0 dw δ H' /\ Fx H0 A0 U H' /\ Ah gc gb m' δ=some r,λ_ _ h=>h,H0,U,A0,δ,q,R.same s,F.grow s,e3,?_⟩
     cases q with
     | nx δ'=>exact λU' dw H' R' F'=>⟨m,acn m,U',δ',R',F',e4⟩
     | ct δ'=>exact λU' dw H' R' F'=>⟨m,acn m,U',δ',R',F',e4⟩
     | bk δ'=>cases e4; exact P
     | rt d=>cases e4; exact P
end
def aP (i:Nat):D->DS->Option DS:=λd δ=>some (δ.set i (some d))
def iR (n:Nat) (g:List D->DS->Option DS):D->DS->Option DS:=λd δ=>match d with
 | .tuple ds=>if ds.length=n then g ds δ else none
 | _=>none
def jf:List D->DS->Option DS:=λds δ=>if ds=[] then some δ else none
def cD (t:D->DS->Option DS) (u:List D->DS->Option DS):List D->DS->Option DS:=λds δ=>match ds with
 | d :: r=>(t d δ).bind λδ'=>u r δ'
 | []=>none
def T7 (K:au) (O:List Nat) (g:List D->DS->Option DS):TX:=λvs σ H Q=>∃ U A0 δ ds δ',Rel K O U A0 σ δ H /\ cO K (wo H (U ++ A0)) vs ds /\ g ds δ=some δ' /\ ∀ dw,Rel K O U A0 dw δ' H->Q dw H
theorem T7.e {K:au}  {GG:Prop} (hh:T7 K O g vs σ H Q) (kk:∀ U A0 δ ds δ',(Rel K O U A0 σ δ H)->(cO K (wo H (U ++ A0)) vs ds)->(g ds δ=some δ')->(∀ dw,Rel K O U A0 dw δ' H->Q dw H)->GG):GG:=by obtain ⟨U,A0,δ,ds,δ',x0,x1,x2,x3⟩:=hh; exact kk U A0 δ ds δ' x0 x1 x2 x3
section
variable {X:Cx} {O:List Nat} {e:Expr} {es:List Expr} {pos:Pos}
theorem Hj.mono (h:Hj X es t) (m:∀ v σ H Q,t' v σ H Q->t v σ H Q):Hj X es t':=λpins s σ H v u Q I r q=>h pins s σ H v u Q I r (m v σ H Q q)
theorem aH (h:PG X e (kL i)) (hi:i∉O:=by decide):PG X e (tG X.K O (aP i)):=h.mono λv σ H Q hh=>hh.e λU A0 δ d δ' R hd e1 q=>by
 cases e1
 exact q _ (R.set hi hd)
set_option tactic.hygienic true in
theorem lg:Hj X [] (T7 X.K O jf):=LP.mono λvs σ H Q hh=>hh.e λU A0 δ ds δ' R hd e1 q=>by
 unfold jf at e1
 split at e1
 .rename_i hz
  cases e1
  subst hz
  cases hd
  exact ⟨rfl,q σ R⟩
 .grind
theorem c8 (h1:PG X e (tG X.K O t)) (h2:Hj X es (T7 X.K O u)) (hs:(assignEach (e :: es) X.env).map (·.2)=assign e X.env :: (assignEach es X.env).map (·.2):=by rfl):Hj X (e :: es) (T7 X.K O (cD t u)):=
 (Hk h1 h2 hs).mono λvs σ H Q hh=>hh.e λU A0 δ ds δ' R hd e1 q=>by
  cases hd with
  | nil=>cases e1
  | cons hx hr=>
    obtain ⟨fG,e2,e3⟩:=bind1 e1
    exact ⟨_,_,rfl,U,A0,δ,_,fG,R,hx,e2,λQH R1=>⟨U,A0,fG,_,δ',R1,hr,e3,q⟩⟩
set_option tactic.hygienic true in
theorem lh (hc:X.calm=true) (h:Hj X es (T7 X.K O t)) (hn:(assignEach es X.env).length=n:=by rfl) (OM:(assignEach es X.env).findIdx? (·.1)=none:=by rfl):PG X (.Tuple es k pos) (tG X.K O (iR n t)):=
 (QI hc h hn OM).mono λv σ H Q hh=>hh.e λU A0 δ d δ' R hd e1 q=>by
  unfold iR at e1
  split at e1
  .split at e1
   .rename_i hz
    obtain ⟨a,xs,rfl,h1,h2⟩:=(i8.of hd).tuple
    exact ⟨a,xs,rfl,h1,by rw [h2.len]; exact hz,U,A0,δ,_,δ',R,h2,e1,q⟩
   .grind
  .grind
end
def kE (t:D->DS->Option DS) (b:aK):List D->aK
 | [],δ=>some (.nx δ)
 | d :: ds,δ=>(t d δ).bind λfG=>(b fG).bind λ| .nx δ'=>kE t b ds δ' | .ct δ'=>kE t b ds δ' | .bk δ'=>some (.nx δ') | .rt d=>some (.rt d)
def fu (gi:cg) (t:D->DS->Option DS) (b:aK):aK:=λδ=>(gi δ).bind λds=>kE t b ds δ
theorem Fx.VB (F:Fx H0 A0 U H) (s:aG (wo H U) H'):aG H0 H':=λa o e=>s a o (by
 rw [cG λz=>?_]
 .exact F.same _ _ e
 .rw [F.new a z] at e; cases e)
set_option tactic.hygienic true in
theorem tB.trans {K:au} (F:Fx H0 A0 U H) (h:tB K fr (wo H U) A0 v d H'):tB K fr H0 A0 v d H':=by
 have k:∀ a o,H0 a=some o->wo H U a=some o:=λa o e=>by
  rw [cG λz=>?_]
  .exact F.same _ _ e
  .rw [F.new a z] at e; cases e
 unfold tB at h ⊢
 split
 .rename_i hf
  rw [aaL hf] at h
  obtain ⟨r,ob,a,c,e,f,g⟩:=h
  refine ⟨r,ob,a,λx o q=>c _ _ (k x o q),?_,f,g⟩
  cases q:H0 r with
  | none=>rfl
  | some o=>rw [k r o q] at e; cases e
 .rename_i hf
  rw [aaO hf] at h
  exact ⟨λx o q=>h.1 _ _ (k x o q),h.2⟩
section
variable {X:Cx} {O:List Nat} {fr:Fr} {body:List Stmt} {gb:aK} {gi:cg} {tg iter:Expr} {gt:D->DS->Option DS} {pos:Pos}
theorem eE (hp:PassesOwn (model X.prog X.w) X.A X.env X.xe) (hc:X.calm=true) (hi:PI X tg iter (tI X.K O gi)) (hg:PG X tg (tG X.K O gt)) (hb:mn X body (tS X.K O fr gb))
  (hs:∀ x,foldedSetIterable iter X.env x=pure x:=by intro _; rfl):PS X (.For tg iter body [] pos) (tS X.K O fr (fu gi gt gb)):=(QO hp hc hi hg hb hs).mono λE σ H hh=>hh.e λH0 U A0 δ r R F ed P=>by
 obtain ⟨ds,e1,e2⟩:=bind1 ed
 refine ⟨U,A0,δ,ds,R,e1,λJ H1 s hw=>?_⟩
 have F1:=F.grow s
 refine ⟨λi m σ H=>m=ds.length - i /\ i<=ds.length /\ ∃ U2 δ,Rel X.K O U2 A0 σ δ H /\ Fx H0 A0 U2 H /\ Fx (wo H1 U) A0 U2 H /\ kE gt gb (ds.drop i) δ=some r,⟨ds.length,by simp,Nat.zero_le _,U,δ,R.same s,F1,F1.here,by simpa using e2⟩,?_⟩
 rintro i m σ H ⟨rfl,hle,U2,δ,R2,F2,G2,ef⟩
 obtain ⟨YS,Ip⟩:=hw (U2 ++ A0) i H G2.keeps R2.al
 by_cases i9:i < ds.length
 .obtain ⟨d,hd⟩:∃ d,ds[i]?=some d:=⟨_,aad i9⟩
  have VC:ds.drop i=d :: ds.drop (i + 1):=by
   rw [acY i9]
   rw [aad i9] at hd
   cases hd; rfl
  obtain ⟨go,hy⟩:=YS d hd
  rw [VC,kE] at ef
  obtain ⟨fG,e3,e4⟩:=bind1 ef
  obtain ⟨q,e5,e6⟩:=bind1 e4
  refine .inr ⟨go,λdw H'=>∃ m',m' < ds.length - i /\ (m'=ds.length - (i + 1) /\ i + 1<=ds.length /\ ∃ U2 δ,Rel X.K O U2 A0 dw δ H' /\ Fx H0 A0 U2 H' /\ Fx (wo H1 U) A0 U2 H' /\ kE gt gb (ds.drop (i + 1)) δ=some r),λ_ _ h=>h,λx H2 y=>?_⟩
  obtain ⟨s2,hx⟩:=hy x H2 y
  refine ⟨U2,A0,δ,d,fG,R2.same s2,hx,e3,λdw R'=>?_⟩
  have F3:=F2.grow s2
  have G3:=G2.grow s2
  refine ⟨wo H2 U2,U2,A0,fG,q,R',F3.here,e5,?_⟩
  cases q with
  | nx δ'=>exact λU' dw H' R' F'=>⟨_,by lia,rfl,i9,U',δ',R',F3.trans F',G3.trans F',e6⟩
  | ct δ'=>exact λU' dw H' R' F'=>⟨_,by lia,rfl,i9,U',δ',R',F3.trans F',G3.trans F',e6⟩
  | bk δ'=>cases e6; exact λU' dw H' R' F'=>P U' dw H' R' (F3.trans F')
  | rt d=>cases e6; exact ⟨λv H' h=>P.1 v H' (h.trans F3),λc H' e s=>P.2 c H' e (F3.VB s)⟩
 .have hi:i=ds.length:=by lia
  subst hi
  rw [List.drop_length,kE] at ef
  cases ef
  exact .inl ⟨Ip rfl,P U2 σ H R2 F2⟩
end
def ip (lo:Int) (n:Nat):List D:=(List.range n).map λk:Nat=>PyData.int (lo + k)
theorem Co {lo:Int} (h:(ip lo n)[i]?=some d):i < n /\ d=.int (lo + i):=by
 unfold ip at h
 rw [aaU] at h
 cases e:(List.range n)[i]? with
 | none=>rw [e] at h; cases h
 | some k=>grind
theorem Cp {lo:Int} :(ip lo n).length=n:=by unfold ip; simp
theorem sU {K:au} {lo:Int} :Walks K A H1 (UZ lo n) (ip lo n):=by
 intro A' i H _ _
 refine ⟨λd hd=>?_,λhi=>?_⟩
 .obtain ⟨hi,rfl⟩:=Co hd
  refine ⟨hi,λx H2 y=>?_⟩
  obtain ⟨rfl,rfl⟩:=y
  exact ⟨aG.refl _,.int _⟩
 .rw [Cp] at hi
  subst hi
  exact aaF _
def iI (g:cg):cg:=λδ=>(g δ).bind λ| [.int j]=>if -(2 ^ 62)<=j /\ j < 2 ^ 62 then some (ip 0 j.toNat) else none | _=>none
def t4 (g:cg):cg:=λδ=>(g δ).bind λ| [.int i,.int j]=>if -(2 ^ 62)<=i /\ i < 2 ^ 62 /\ -(2 ^ 62)<=j /\ j < 2 ^ 62 then some (ip i (j - i).toNat) else none | _=>none
def bz (g:aF):cg:=λδ=>(g δ).bind λ| .list l=>some l | .tuple l=>some l | _=>none
section
variable {X:Cx} {O:List Nat} {tg a b e:Expr} {gr:cg} {ge:aF} {pos p:Pos}
set_option tactic.hygienic true in
theorem iq (hm:X.mg "range"=none) (ha:PA X [a] (xt X.K O gr)) (hg:Gl X "range":=by rfl) (hs:starEach [a] X.env=[(false,eval a X.env)]:=by rfl):PI X tg (.Call (.Name "range" p) [a] [] pos) (tI X.K O (iI gr)):=(Fv hg hm ha hs).mono λσ H Q hh=>hh.e λU A0 δ ds R ed q=>by
 obtain ⟨x,e1,e2⟩:=bind1 ed
 refine ⟨U,A0,δ,x,R,e1,λvs H' s h=>?_⟩
 split at e2
 .split at e2
  .rename_i hz
   cases e2
   cases h with
   | cons h1 h2=>
     cases h2
     cases h1
     exact ⟨_,rfl,hz.1,hz.2,q _ H' s sU⟩
  .grind
 .grind
set_option tactic.hygienic true in
theorem FR (hm:X.mg "range"=none) (ha:PA X [a,b] (xt X.K O gr)) (hg:Gl X "range":=by rfl) (hs:starEach [a,b] X.env=[(false,eval a X.env),(false,eval b X.env)]:=by rfl) (og:starEach [b] X.env=[(false,eval b X.env)]:=by rfl):PI X tg (.Call (.Name "range" p) [a,b] [] pos) (tI X.K O (t4 gr)):=(Fw hg hm ha hs og).mono λσ H Q hh=>hh.e λU A0 δ ds R ed q=>by
 obtain ⟨x,e1,e2⟩:=bind1 ed
 refine ⟨U,A0,δ,x,R,e1,λvs H' s h=>?_⟩
 split at e2
 .split at e2
  .rename_i hz
   cases e2
   cases h with
   | cons h1 h2=>cases h2 with
     | cons h2 h3=>
       cases h3
       cases h1
       cases h2
       exact ⟨_,_,rfl,hz,q _ H' s sU⟩
  .grind
 .grind
def YT (K:au) (tl:TE):TI:=λσ H R=>tl σ H λx H1=>(∃ a,x=.ref a /\ (∃ xs,kB K H1 a xs) /\ R (Itl K a) H1) \/ ∃ a,x=.ref a /\ (∃ xs,k7 K H1 a xs) /\ R (Itt K a) H1
theorem Iq (hl:PE X l tl):PI X tg l (YT X.K tl):=by
 intro pins s σ H R I h
 refine dj (hl pins s σ H _ I h) λv s1 ⟨x,H1,I1,r1,q1⟩=>?_
 rcases q1 with ⟨a,e,⟨xs,hq⟩,q⟩ | ⟨a,e,⟨xs,hq⟩,q⟩
 .subst e
  cases r1
  obtain ⟨its,rv,p,hz⟩:=I1.list hq
  refine wpAny_pyIter_list p.isList ?_
  refine ⟨s1.heap.objs.size,[s1.heap.objs.size],_,_,H1,rfl,I1.kept (t':=s1.toks) λb o e=>aab _ e,Fu a _,⟨_,aaH _ rfl,rfl,rfl⟩,λb hb=>?_,q⟩
  have e:b=s1.heap.objs.size:=by simpa using hb
  subst e
  exact I1.pY (aaF _) (I1.cm.fresh (aaF _))
 .subst e
  cases r1
  obtain ⟨its,rv,p,hz⟩:=I1.tuple hq
  refine wpAny_pyIter_tuple (show s1.heap.IsTuple a its.toArray from p) ?_
  refine ⟨s1.heap.objs.size,[s1.heap.objs.size],_,_,H1,rfl,I1.kept (t':=s1.toks) λb o e=>aab _ e,B3 a _,⟨_,aaH _ rfl,rfl,rfl⟩,λb hb=>?_,q⟩
  have e:b=s1.heap.objs.size:=by simpa using hb
  subst e
  exact I1.pY (aaF _) (I1.cm.fresh (aaF _))
theorem c5 (h:PE X e (tE X.K O ge)):PI X tg e (tI X.K O (bz ge)):=(Iq h).mono λσ H Q hh=>hh.e λU A0 δ ds R ed q=>by
 obtain ⟨x,e1,e2⟩:=bind1 ed
 cases x with
 | list l=>
   cases e2
   refine ⟨U,A0,δ,_,R,e1,λv H' s h=>?_⟩
   cases h with
   | lst hq h=>
     refine .inl ⟨_,rfl,⟨_,(hq.same cM).sq⟩,q _ H' s ?_⟩
     intro A' i H2 s2 _
     have FT:=hq.same s2
     have h2:=h.same s2
     have hL:=(FT.same cM).sq
     refine ⟨λd hd=>?_,λhi=>⟨_,hL,by rw [h2.len]; lia⟩⟩
     obtain ⟨x,hx,MA⟩:=h2.get hd
     refine ⟨⟨_,x,hL,hx⟩,λy H3 hy=>?_⟩
     obtain ⟨rfl,hy⟩:=hy
     have:=hy _ hL
     rw [hx] at this
     cases this
     exact ⟨aG.refl _,MA⟩
 | tuple l=>
   cases e2
   refine ⟨U,A0,δ,_,R,e1,λv H' s h=>?_⟩
   cases h with
   | tup hq h=>
     refine .inr ⟨_,rfl,⟨_,(.inl (cM.oH hq))⟩,q _ H' s ?_⟩
     intro A' i H2 s2 _
     have FT:=s2.oH hq
     have h2:=h.same s2
     have hL:k7 X.K H2 _ _:=.inl (cM.oH FT)
     refine ⟨λd hd=>?_,λhi=>⟨_,hL,by rw [h2.len]; lia⟩⟩
     obtain ⟨x,hx,MA⟩:=h2.get hd
     refine ⟨⟨_,x,hL,hx⟩,λy H3 hy=>?_⟩
     obtain ⟨rfl,hy⟩:=hy
     have:=hy _ hL
     rw [hx] at this
     cases this
     exact ⟨aG.refl _,MA⟩
 | _=>cases e2
end
def gU (ix:List Nat) (δ:DS):DS:=ix.map λj=>(δ[j]?).join
def Ir (f:D->Option D):List D->dJ
 | []=>some []
 | d :: ds=>(f d).bind λx=>(Ir f ds).bind λxs=>some (x :: xs)
def f9 (gi:cg) (ix:List Nat) (ge:aF):cg:=λδ=>(gi δ).bind λds=>if ds.length<=100000 then Ir (λd=>ge (some d :: gU ix δ)) ds else none
section
variable {X:Cx} {O:List Nat} {fr:Fr} {scope:Scope} {x:Str} {elt iter:Expr} {px pos:Pos} {gi:cg} {ge:aF}
theorem PS.nE {st:Stmt} (h:PS X st (uv (tN X.K O g) (kL i))):PS X st (uv (tE X.K O (bj g)) (kL i)):=h.mono λ_ _ _ h=>O2 h
end
def du:Res->Option D
 | .rt d=>some d
 | .nx _=>some .none
 | _=>none
def jg:Res->dJ
 | .rt (.list l)=>some l
 | _=>none
def df (n:Nat) (g:aK):List D->Option D:=λds=>(g (ds.map some ++ List.replicate (n - ds.length) none)).bind du
def jh (n:Nat) (g:aK):List D->dJ:=λds=>(g (ds.map some ++ List.replicate (n - ds.length) none)).bind jg
theorem Rel.start {K:au} (al:Ls A H) (h:cO K (wo H A) vs ds) (hO:∀ i∈O,ds.length<=i):Rel K O [] A (start N vs) (ds.map some ++ List.replicate (N.length - ds.length) none) H:=by
 have hl:=h.len
 have none_of:∀ (i:Nat) d,ds.length<=i->(ds.map some ++ List.replicate (N.length - ds.length) none)[i]?=some (some d)->False:=by grind
 exact {
  len:=by unfold L2.start; simp [hl]
  fz:=λi d _ q=>by
   by_cases hi:i < ds.length
   .rw [List.getElem?_append_left (by simpa using hi),List.getElem?_map,List.getElem?_eq_getElem hi] at q
    obtain ⟨v,e,hv⟩:=h.get (aad hi)
    refine ⟨v,?_,?_⟩
    .unfold L2.start
     rw [acZ (by rw [aax]; lia),aaU,e]; rfl
    .grind
   .grind
  ow:=λi d hi q=>(none_of i d (hO i hi) q).elim
  inj:=λi j d e l hi _ _ q=>(none_of i d (hO i hi) q).elim
  al:=al }
theorem Fx.start (al:Ls A H):Fx H A [] H:=⟨aG.refl H,λ_ h=>by simp at h,al⟩
section
variable {P:Program} {w:World} {K:au} {mg:dG} {base:Heap} {x:Str} {st:Stmt} {N ps:List Str} {k:Nat}
theorem cb (O:List Nat) (g:aK) (F:Df K mg x st ps) (S:aA N ps (aj st))
  (body:∀ (f:Addr) (cx:Value) (A:Around) (outer:List Env) (s:Shared) (H:Hp) (E:XK),dH k (A.deeper (envOfC x (aj st) s.heap.objs.size f cx))->mn (jk rp P w K mg base N x (aj st) f cx A outer s H E).Lm (cU st) (tS K O (false,λ_ _=>True) g))
  (hO:∀ i∈O,ps.length<=i:=by decide) (hN:N.length=n:=by rfl) (hP:ps.length=m:=by rfl):Dn P w K mg base (k + 1) x ps (jL K m (df n g)):=by
 subst hN hP
 refine F.ok S (λvs H Q E h=>h.1) (λf cx A outer s H vs Q E hr h=>⟨_,body f cx A outer s H E hr,?_⟩)
 obtain ⟨hn,A',ds,d,al,hd,e,q⟩:=h
 obtain ⟨r,e1,e2⟩:=bind1 e
 refine ⟨H,[],A',_,r,Rel.start al hd (λi hi=>by have:=hO i hi; rw [<- hd.len,hn]; exact this),Fx.start al,e1,?_⟩
 cases r with
 | nx δ=>cases e2; exact λU σ H' R F'=>q .ia H' F'.same .ia
 | rt d=>cases e2; exact ⟨λv H' h=>by unfold tB at h; rw [if_neg Bool.false_ne_true] at h; exact q v H' h.1 h.2,λ_ _ _ _=>trivial⟩
 | bk _=>cases e2
 | ct _=>cases e2
theorem VD (O:List Nat) (g:aK) (F:HK K x x st f fd) (S:aA N ps (aj st))
  (body:∀ (f:Addr) (cx:Value) (A:Around) (outer:List Env) (s:Shared) (H:Hp) (E:XK),dH k (A.deeper (envOfC x (aj st) s.heap.objs.size f cx))->mn (jk rp P w K mg base N x (aj st) f cx A outer s H E).Lm (cU st) (tS K O (false,λ_ _=>True) g))
  (hO:∀ i∈O,ps.length<=i:=by decide) (hN:N.length=n:=by rfl) (hP:ps.length=m:=by rfl):nU P w K mg base rp (k + 1) f fd ps (jL K m (df n g)):=by
 subst hN hP
 refine F.ok S (λvs H Q E h=>h.1) (λcx A outer s H vs Q E hr h=>⟨_,body f cx A outer s H E hr,?_⟩)
 obtain ⟨hn,A',ds,d,al,hd,e,q⟩:=h
 obtain ⟨r,e1,e2⟩:=bind1 e
 refine ⟨H,[],A',_,r,Rel.start al hd (λi hi=>by have:=hO i hi; rw [<- hd.len,hn]; exact this),Fx.start al,e1,?_⟩
 cases r with
 | nx δ=>cases e2; exact λU σ H' R F'=>q .ia H' F'.same .ia
 | rt d=>cases e2; exact ⟨λv H' h=>by unfold tB at h; rw [if_neg Bool.false_ne_true] at h; exact q v H' h.1 h.2,λ_ _ _ _=>trivial⟩
 | bk _=>cases e2
 | ct _=>cases e2
theorem gn (O:List Nat) (g:aK) (F:Df K mg x st ps) (S:aA N ps (aj st))
  (body:∀ (f:Addr) (cx:Value) (A:Around) (outer:List Env) (s:Shared) (H:Hp) (E:XK),dH k (A.deeper (envOfC x (aj st) s.heap.objs.size f cx))->mn (jk rp P w K mg base N x (aj st) f cx A outer s H E).Lm (cU st) (tS K O (true,λ_ _=>True) g))
  (hO:∀ i∈O,ps.length<=i:=by decide) (hN:N.length=n:=by rfl) (hP:ps.length=m:=by rfl):Dn P w K mg base (k + 1) x ps (xw K m (jh n g)):=by
 subst hN hP
 refine F.ok S (λvs H Q E h=>h.1) (λf cx A outer s H vs Q E hr h=>⟨_,body f cx A outer s H E hr,?_⟩)
 obtain ⟨hn,A',ds,d,al,hd,e,q⟩:=h
 obtain ⟨r,e1,e2⟩:=bind1 e
 refine ⟨H,[],A',_,r,Rel.start al hd (λi hi=>by have:=hO i hi; rw [<- hd.len,hn]; exact this),Fx.start al,e1,?_⟩
 cases r with
 | rt d'=>
   refine ⟨λv H' h=>?_,λ_ _ _ _=>trivial⟩
   obtain ⟨r,ob,rfl,a,b,c,f⟩:=h
   cases f with
   | lst f=>cases e2; exact q r _ H' a b c f
   | sT _ _=>cases e2
 | nx δ=>cases e2
 | bk _=>cases e2
 | ct _=>cases e2
end
def ir (f f':D->D->Option D) (a b c:aF):aF:=λδ=>(a δ).bind λx=>(b δ).bind λy=>(f x y).bind λz=>match z with
 | .bool true=>(c δ).bind λw=>f' y w
 | .bool false=>some (.bool false)
 | _=>none
section
variable {X:Cx} {O:List Nat} {a b c:Expr} {ga gb gc:aF} {pos:Pos} {r r':R2}
theorem AJ {K:au} (imp:gR K r f) (imp':gR K r' f') :tE K O (ir f f' ga gb gc) σ H Q->B8 r r' (gm K O ga) (gm K O gb) (gm K O gc) σ H Q:=λ⟨U,A0,δ,d,R,ed,q⟩=>by
 obtain ⟨x,e1,ed⟩:=bind1 ed
 obtain ⟨y,e2,ed⟩:=bind1 ed
 obtain ⟨z,e3,ed⟩:=bind1 ed
 refine ⟨U,A0,δ,x,R,e1,λv1 H1 s1 h1=>⟨U,A0,δ,y,R.same s1,e2,λv2 H2 s2 h2=>imp _ H2 v1 v2 x y z _ (R.same (s1.trans s2)).al (h1.same s2) h2 e3 λv3 H3 s3 h3=>?_⟩⟩
 cases z with
 | bool k=>
   cases h3
   refine ⟨k,rfl,?_⟩
   cases k with
   | true=>
     obtain ⟨w,e4,e5⟩:=bind1 ed
     exact ⟨U,A0,δ,w,R.same ((s1.trans s2).trans s3),e4,λv4 H4 s4 h4=>imp' _ H4 v2 v4 y w d Q (R.same (((s1.trans s2).trans s3).trans s4)).al (h2.same (s3.trans s4)) h4 e5 λv H' s h=>q v H' ((((s1.trans s2).trans s3).trans s4).trans s) h⟩
   | false=>
     cases ed
     exact q _ H3 ((s1.trans s2).trans s3) (.bl _)
 | _=>cases ed
theorem Iu (ho:gS X (compareOp op) r) (imp:gR X.K r f) (uq:gS X (compareOp tX) r') (imp':gR X.K r' f') (ha:PE X a (gm X.K O ga)) (hb:PE X b (gm X.K O gb)) (hc:PE X c (gm X.K O gc)) (hm:lastMarks [op,tX] [b,c]=false:=by with_unfolding_all rfl):PE X (.Compare a [op,tX] [b,c] pos) (tE X.K O (ir f f' ga gb gc)):=(Hw ho uq ha hb hc hm).mono λ_ _ _=>AJ imp imp'
theorem rC (ho:gS X (compareOp op) r) (imp:gR X.K r f) (uq:gS X (compareOp tX) r') (imp':gR X.K r' f') (ha:PE X a (gm X.K O ga)) (hb:PE X b (gm X.K O gb)) (hc:PE X c (gm X.K O gc)) (hm:lastMarks [op,tX] [b,c]=false:=by with_unfolding_all rfl):PT X (.Compare a [op,tX] [b,c] pos) (tT X.K O (gB (ir f f' ga gb gc))):=(Hx ho uq ha hb hc hm).mono λ_ _ _=>Ib λ_ _ _=>AJ imp imp'
end
def MB (i j:Nat) (g:cg):aK:=λδ=>(g δ).bind λ| [x,y]=>some (.nx ((δ.set i (some x)).set j (some y))) | _=>none
section
variable {X:Cx} {O:List Nat} {fr:Fr} {st:Stmt} {gr:cg} {i j:Nat}
theorem RE (h:PS X st (UW i j (xt X.K O gr))) (hi:i∉O:=by decide) (hj:j∉O:=by decide):PS X st (tS X.K O fr (MB i j gr)):=h.mono λE σ H hh=>hh.e λH0 U A0 δ r R F ed P=>by
 obtain ⟨ds,e1,e2⟩:=bind1 ed
 split at e2
 .cases e2
  refine ⟨U,A0,δ,_,R,e1,λvs H' s hv=>?_⟩
  cases hv with
  | cons h1 h2=>cases h2 with
    | cons h2 h3=>
      cases h3
      exact ⟨_,_,rfl,P U _ H' (((R.same s).set hi h1).set hj h2) (F.grow s)⟩
 .grind
end
def AK:D->Option D
 | .int i=>some (.int (Builtin.Int.intBits i:Nat))
 | _=>none
theorem Eo (ho:PE X o (gm X.K O ga)) (ux:attributeBase o "bit_length" X.env (eval o X.env)=eval o X.env:=by rfl) (uy:(apos.endLine == fI.line)=true:=by rfl):
  PE X (.Call (.Attribute o "bit_length" apos) [] [] fI) (tE X.K O (g1 AK ga)):=(Ml ho ux uy).mono λσ H Q hh=>hh.e λU A0 δ d R ed q=>by
 obtain ⟨x,e1,e2⟩:=bind1 ed
 cases x with
 | int i=>
   cases e2
   refine ⟨U,A0,δ,_,R,e1,λv H' s h=>?_⟩
   rw [h.int]
   exact ⟨rfl,i,rfl,rfl,q _ H' s (.int _)⟩
 | _=>cases e2
abbrev RF:D->D->Option D:=O3 (λ_ j=>0<=j) λi j=>.int (i / 2 ^ j.toNat)
def mF:D->Bool
 | .none | .bool _ | .int _ | .str _=>true
 | _=>false
def dV:D->V
 | .none=>.ia
 | .bool b=>.bl b
 | .int i=>.int i
 | .str x=>.str x
 | _=>.ia
def T8 (a b:D):Bool:=Mb (dV a) (dV b)
def RG:D->D->Option D:=λx y=>match y with
 | .list l=>if (mF x && l.all mF)=true then some (.bool (l.any λz=>T8 z x)) else none
 | .tuple l=>if (mF x && l.all mF)=true then some (.bool (l.any λz=>T8 z x)) else none
 | _=>none
def yw:D->D->Option D:=λx y=>(RG x y).bind λ| .bool c=>some (.bool (!c)) | _=>none
theorem i8.flat {K:au} (h:i8 K A H v d) (f:mF d=true):v=dV d /\ l5 v=true:=by
 cases d with
 | none=>rw [h.ia]; exact ⟨rfl,rfl⟩
 | bool b=>rw [h.bool]; exact ⟨rfl,rfl⟩
 | int i=>rw [h.int]; exact ⟨rfl,rfl⟩
 | str x=>rw [h.str]; exact ⟨rfl,rfl⟩
 | _=>cases f
theorem cO.flat {K:au} :∀ {xs:List V} {ds:List D},cO K H xs ds->ds.all mF=true->xs=ds.map dV /\ xs.all l5=true
 | _,_,.nil,_=>⟨rfl,rfl⟩
 | _,_,.cons h t,f=>by
   rw [ac9,aaS] at f
   obtain ⟨e1,e2⟩:=cO.flat t f.2
   obtain ⟨e3,e4⟩:=(i8.of (A:=[]) (by rw [Cg]; exact h)).flat f.1
   exact ⟨by rw [aaY,<- e1,<- e3],by rw [ac9,e4,e2]; rfl⟩
theorem O6 (x:D) (l:List D):Ve (dV x) (l.map dV)=l.any λz=>T8 z x:=by
 unfold Ve T8
 rw [List.any_map]; rfl
section
variable {X:Cx}
theorem RH:gS X (compareOp .In) (TZ X.K false):=FD
theorem FU:gS X (compareOp .NotIn) (TZ X.K true):=yd
end
set_option tactic.hygienic true in
theorem Ep {K:au} (hx:i8 K A H x dx) (hy:i8 K A H y dy) (e:RG dx dy=some d):∃ p xs b,y=.ref p /\ (kB K H p xs \/ k7 K H p xs) /\ l5 x=true /\ xs.all l5=true /\ d=.bool b /\ Ve x xs=b:=by
 unfold RG at e
 split at e
 .split at e
  .rename_i hf
   rw [aaS] at hf
   cases e
   obtain ⟨p,xs,rfl,h1,h2⟩:=hy.list
   obtain ⟨e1,e2⟩:=h2.flat hf.2
   obtain ⟨e3,e4⟩:=hx.flat hf.1
   exact ⟨p,xs,_,rfl,.inl h1.sq,e4,e2,rfl,by rw [e1,e3,O6]⟩
  .cases e
 .split at e
  .rename_i hf
   rw [aaS] at hf
   cases e
   obtain ⟨p,xs,rfl,h1,h2⟩:=hy.tuple
   obtain ⟨e1,e2⟩:=h2.flat hf.2
   obtain ⟨e3,e4⟩:=hx.flat hf.1
   exact ⟨p,xs,_,rfl,.inr h1,e4,e2,rfl,by rw [e1,e3,O6]⟩
  .cases e
 .cases e
theorem RI {K:au}:gR K (TZ K false) RG:=by
 intro A H x y dx dy d Q al hx hy e q
 obtain ⟨p,xs,b,h1,h2,h3,h4,rfl,h5⟩:=Ep hx hy e
 refine ⟨p,xs,h1,h2,h3,h4,?_⟩
 rw [h5]
 exact q _ H (aG.refl H) (.bl _)
theorem FV {K:au}:gR K (TZ K true) yw:=by
 intro A H x y dx dy d Q al hx hy e q
 obtain ⟨c,e1,e2⟩:=bind1 e
 obtain ⟨p,xs,b,h1,h2,h3,h4,rfl,h5⟩:=Ep hx hy e1
 cases e2
 refine ⟨p,xs,h1,h2,h3,h4,?_⟩
 rw [h5]
 exact q _ H (aG.refl H) (.bl _)
theorem Er (a b:Int):T8 (.int a) (.int b)=decide (a=b):=rfl
def iS (G:List D->dJ) (n:Nat) (g:cg):cg:=λδ=>(g δ).bind λds=>if ds.length=n then (G ds).bind λd=>if uD d=true then some d else none else none
set_option tactic.hygienic true in
theorem lj (F:Dn X.prog X.w X.K X.mg X.base k x ps (xw X.K n G)) (hr:dH kk X.A) (hk:k<=kk) (ha:PA X (e :: es) (uE X.K O gr)) (hg:Gl X x:=by rfl)
  (tw:(x == ("__debug__":Str))=false:=by decide) (he:starEach (e :: es) X.env=(false,eval e X.env) :: starEach es X.env:=by rfl) (kf:(backTo pos (starEach es X.env)).any (·.1)=false:=by rfl):
  PE X (.Call (.Name x p) (e :: es) [] pos) (tN X.K O (iS G n gr)):=(HS F hr hk ha hg tw he kf).mono λσ H Q hh=>hh.e λU A0 δ d R ed q=>by
 obtain ⟨ds,e1,e2⟩:=bind1 ed
 split at e2
 .rename_i hn
  obtain ⟨d',e3,e4⟩:=bind1 e2
  split at e4
  .rename_i hL
   cases e4
   refine ⟨U,A0,δ,ds,R,e1,λvs H' s h=>?_⟩
   show xw X.K n G (vs ++ []) H' Q E0
   rw [abh]
   have h':=h.Vx
   refine ⟨by rw [h'.len]; exact hn,[],ds,d,⟨λ_ z=>by simp at z,(R.same s).al.2⟩,by rw [Cg]; exact h',e3,λr ys H2 s2 h0 h1 h2=>q r ys H2 (s.trans s2) (s.free h0) h1 ?_⟩
   have h3:=h2.same cM
   refine cO.off ⟨λa ha=>?_,(R.same (s.trans s2)).al.2⟩ h3 hL
   rcases aaG.mp ha with z | z
   .subst z; exact ⟨_,h1,trivial⟩
   .exact (R.same (s.trans s2)).al.1 a z
  .grind
 .grind
section
variable {X:Cx} {O:List Nat} {fr:Fr} {st:Stmt} {ge gx:aF} {gl:cg} {i:Nat}
def FW (i:Nat) (g:cg):aK:=λδ=>(af i δ).bind λx=>(g δ).bind λzs=>match x with
 | .list ds=>if ds.length + zs.length<=100000 then some (.nx (δ.set i (some (.list (ds ++ zs))))) else none
 | _=>none
set_option tactic.hygienic true in
theorem rD (h:PS X st (uu (Xq X.K "list" Eb (ur i) (Ar (tN X.K O gl) LY)))) (hi:i∈O:=by decide):PS X st (tS X.K O fr (FW i gl)):=h.mono λE σ H hh=>hh.e λH0 U A0 δ r R F ed P=>by
 obtain ⟨x,e1,e2⟩:=bind1 ed
 obtain ⟨zs,e3,e4⟩:=bind1 e2
 rcases R.Vp i x hi (join_some e1) with ⟨l,ys,ds,hl,rfl,hU,h1,h2⟩ | ⟨kds,rfl⟩
 rotate_left
 .grind
 simp only at e4
 split at e4
 .rename_i hz
  cases e4
  refine ⟨.ref l,hl,.inl ⟨rfl,ys,kB.of h1⟩,U,A0,δ,zs,R,e3,λp ws H' s hp hp1 Xs=>?_⟩
  have Lq:=s _ _ h1
  have yt:=h2.same (cB (A:=U ++ A0) s)
  have hp3:=Xs.same (mz (A':=U ++ A0) λa ha=>aaE _ ha)
  have hlen:=h2.len
  have aaV:=Xs.len
  refine ⟨l,p,ys,ws,rfl,rfl,Lq,hp1,small (by lia),?_⟩
  exact P U σ _ ((R.same s).put hi hl hU (yt.app hp3) ⟨_,join_some e1⟩) ((F.grow s).put hU _)
 .grind
end
section
variable {X:Cx} {O:List Nat} {tg a:Expr} {ge:aF} {p pos:Pos}
def FX (g:aF):cg:=λδ=>(g δ).bind λ| .list l=>some l.reverse | _=>none
end
section
variable {X:Cx} {pins:cq} {σ:St} {H:Hp} {s:Shared} {h':Heap}
theorem Inv.gW {ch:List Addr} (I:Inv X pins σ H s) (k:∀ b o,b∉ch->s.heap.get? b=some o->h'.get? b=some o) (hf:∀ b∈ch,md X pins H b):Inv X pins σ H { s with heap:=h',toks:=t' }:=by
 have nit:∀ b u,H b=some u->b∉ch:=λb u e z=>by rw [(hf b z).1] at e; cases e
 refine I.step (g':=s.gens) (d':=s.drawn) (ch:=ch) (λb hb=>?_) (λb o _ _ hc e _=>k b o hc e) (λb o _ _ hc e _=>⟨o.slots,k b o hc e⟩) (λ_ _ _ _ n=>n)
  (λb o hc e=>⟨o,k b o hc e⟩) (λ_ _ e=>e) (λ_ _ _ e=>e) (λb ps e=>⟨#[],by rw [e]; simp⟩) (λm hm=>?_) (λb u e=>?_) I.bare
 .obtain ⟨_,a,_,b',c,d⟩:=hf b hb
  exact ⟨b',a,c,d⟩
 .obtain ⟨o,es,ep,ho,r⟩:=hm
  exact ⟨o,es,ep,k _ o (λz=>(hf _ z).2.1 rfl) ho,r⟩
 .refine (I.cm b u e).ra (λc v hc q=>k c v ?_ q) (λ_ q=>q) λ_ _ q=>q
  rcases hc with z | z
  .grind
  .grind
theorem Inv.yx {D:Addr} (I:Inv X pins σ H s) (hD:H D=none) (hs:X.gQ.heap.objs.size<=D) (hl:D≠X.env.locals) (hc:∀ x c,X.env.cells.lookup x=some c->c≠D)
  (hp:∀ p∈X.pn ++ pins,p.1≠D) (e:IsTup s.heap D its.toArray) (r:bg ys its) (hz:ys.length<=sizeLine):Inv X pins σ (upd H D (.tup ys)) s:=by
 have h:=I.step (H':=upd H D (.tup ys)) (h':=s.heap) (g':=s.gens) (t':=s.toks) (d':=s.drawn) (ch:=[D]) (λb hb=>by
   have e:b=D:=by simpa using hb
   subst e
   exact ⟨.inr hs,hl,hc,hp⟩)
  (λb o _ _ _ q _=>q) (λb o _ _ _ q _=>⟨o.slots,q⟩) (λb o hb _ q=>by rw [aN (by simpa using hb)]; exact q) (λb o _ q=>⟨o,q⟩)
  (λb xs q=>by rw [aN (bo q hD)]; exact q) (λb o u q=>by rw [aN (bo q hD)]; exact q) (λb ps q=>⟨#[],by rw [aN (bo q hD),ad3]; exact q⟩) (λm hm=>hm) (λb u q=>?_) I.bare
 .exact h
 .by_cases hb:b=D
  .subst hb
   rw [cf] at q; cases q
   exact ⟨hz,its,r,e⟩
  .rw [aN hb] at q
   exact (I.cm b u q).ra (λ_ _ _ z=>z) (λc z=>by rw [aN (bo z hD)]; exact z) λc xs z=>z.new hD
end
def Ite (K:au) (a:Addr):It:=
 ⟨λi H=>∃ xs x,kB K H a xs /\ xs[i]?=some x,λi H x H'=>∃ p v,H p=none /\ x=.ref p /\ H'=upd H p (.tup [.int i,v]) /\ ∀ xs,kB K H a xs->xs[i]?=some v,λi H=>∃ xs,kB K H a xs /\ xs.length<=i⟩
theorem FY {K:au} (a e it:Addr) (jE:e≠it):Turn P w K (.Tuple es kk ma) (Ite K a) [e,it] e (λi h=>(∃ old,IsEnum h e it i old) /\ h.IsListIter it a i) where
 mem:=by simp
 obj:=λi h st b hb=>by
  obtain ⟨⟨old,he⟩,o,ho,c,d⟩:=st
  rcases aaG.mp hb with z | z
  .grind
  .grind
 keep:=λi h h' st k=>by
  obtain ⟨⟨old,he⟩,dW⟩:=st
  exact ⟨⟨old,k e (by simp) _ he⟩,dW.at λo eo=>k it (by simp) o eo⟩
 item:=by
  intro X hP hw hK hc i pins s σ H E I hf st hg
  subst hP hw hK
  obtain ⟨xs,x,hq,hx⟩:=hg
  obtain ⟨its,rv,p,hz⟩:=I.list hq
  obtain ⟨u,hu,ru⟩:=rv.get hx
  obtain ⟨⟨old,he⟩,dW⟩:=st
  refine wpAny_pyNext_enum_item he dW p.isList (x:=u) (by simpa using hu) jE λh1 G9 YU VF RJ Lr=>?_
  refine ⟨_,rfl,acV G9 λh2 Il og=>?_⟩
  have VG:=aaB he
  have I1:Inv X pins σ H { s with heap:=h2,toks:=s.toks + 1 }:=I.gW (t':=s.toks + 1) (ch:=[e,it]) (λb o hb eo=>by
   simp at hb
   exact (og.2 b hb.1).trans (Lr b o hb.1 hb.2 eo)) hf
  have MC:IsTup h2 s.heap.objs.size [Value.int i s.toks,u].toArray:=⟨_,(og.2 _ (acy VG)).trans VF,rfl,_,rfl⟩
  have nY:=I.cm.fresh (aaF _)
  have fo:=I.pY (H':=H) (aaF _) nY
  have I2:Inv X pins σ (upd H s.heap.objs.size (.tup [.int i,x])) { s with heap:=h2,toks:=s.toks + 1 }:=I1.yx nY (aa6 I.sz (aaF _)) fo.2.1 fo.2.2.2.2.1 fo.2.2.2.2.2 MC (.cons ⟨_,rfl⟩ (.cons ru .nil)) (by show 2<=sizeLine; decide)
  refine ⟨.ref s.heap.objs.size,_,I2,rfl,⟨_,x,nY,rfl,rfl,λys hy=>by rw [I.pX hy hq]; exact hx⟩,⟨⟨u,Il⟩,YU.extBut og.extBut (acx jE)⟩,λb hb=>?_⟩
  have i9:b < s.heap.objs.size:=by
   rcases aaG.mp hb with z | z
   .grind
   .have z:b=it:=by simpa using z
    subst z
    obtain ⟨o,ho,_⟩:=dW
    exact aaB ho
  rw [aN (aaR i9)]
  exact (hf b hb).1
 done:=by
  intro X hP hw hK hc i pins s σ H E I hf st hg
  subst hP hw hK
  obtain ⟨xs,hq,hx⟩:=hg
  obtain ⟨its,rv,p,hz⟩:=I.list hq
  obtain ⟨⟨old,he⟩,dW⟩:=st
  have hl:=rv.length
  refine wpAny_pyNext_enum_end (I.ok.hd hc) he dW p.isList (by simp; lia) λh1 eb=>⟨rfl,?_⟩
  exact I.gW (t':=s.toks) (ch:=[e,it]) (λb o hb eo=>eb b o (λz=>hb (by simp [z])) eo) hf
 self:=λ_ _ _ _ _ st h=>by
  obtain ⟨⟨old,he⟩,_⟩:=st
  exact acz he h
theorem ll:bootBuiltins "enumerate"=some (.type "enumerate"):=by decide +kernel
def ki (l:List D):List D:=l.zipIdx.map λp=>.tuple [.int (p.2:Nat),p.1]
theorem xy {d:D} (h:(ki l)[i]?=some d):∃ x,l[i]?=some x /\ d=.tuple [.int (i:Nat),x]:=by
 unfold ki at h
 rw [aaU,acA] at h
 cases e:l[i]? with
 | none=>rw [e] at h; cases h
 | some x=>rw [e] at h; simp at h; exact ⟨x,rfl,h.symm⟩
theorem nu:(ki l).length=l.length:=by unfold ki; simp
section
variable {X:Cx} {O:List Nat} {a:Expr} {ge:aF} {p pos:Pos} {es:List Expr} {kk} {ma:Pos}
def VH (K:au) (ta:TA):TI:=λσ H R=>ta σ H λvs H1=>∃ a xs,vs=[.ref a] /\ kB K H1 a xs /\ R (Ite K a) H1
theorem MD (hg:Gl X "enumerate") (hm:X.mg "enumerate"=none) (ha:PA X [a] ta) (hs:starEach [a] X.env=[(false,eval a X.env)]:=by rfl):PI X (.Tuple es kk ma) (.Call (.Name "enumerate" p) [a] [] pos) (VH X.K ta):=by
 intro pins s σ H R I h
 refine Call_ (jI I hg hm ll (abv (dj (ha pos pins s σ H _ I h) λus s1 ⟨vs,H1,I1,r1,q1⟩=>?_) hs rfl))
 obtain ⟨b,xs,e,hq,q⟩:=q1
 subst e
 obtain ⟨u,rfl,ru⟩:=vals1 r1
 cases ru
 obtain ⟨its,rv,pl,hz⟩:=I1.list hq
 refine call_enumerate_list pl.isList λh' he hit hsz hk=>?_
 refine acz he ?_
 refine ⟨s1.heap.objs.size + 1,[s1.heap.objs.size + 1,s1.heap.objs.size],_,_,H1,rfl,I1.kept (t':=s1.toks) hk,FY b _ s1.heap.objs.size (aez _),⟨⟨_,he⟩,hit⟩,λb hb=>?_,q⟩
 have hle:s1.heap.objs.size<=b:=by grind
 exact I1.pY hle (I1.cm.fresh hle)
def dz (g:aF):cg:=λδ=>(g δ).bind λ| .list l=>some (ki l) | _=>none
theorem lp (hm:X.mg "enumerate"=none) (ha:PE X a (tE X.K O ge)) (hg:Gl X "enumerate":=by rfl) (hs:starEach [a] X.env=[(false,eval a X.env)]:=by rfl) (VI:starEach ([]:List Expr) X.env=[]:=by rfl):PI X (.Tuple es kk ma) (.Call (.Name "enumerate" p) [a] [] pos) (tI X.K O (dz ge)):=
 (MD hg hm (bE ha c6 (by rw [hs,VI])) hs).mono λσ H Q hh=>hh.e λU A0 δ ds R ed q=>by
  obtain ⟨x,e1,e2⟩:=bind1 ed
  cases x with
  | list l=>
    cases e2
    refine ⟨U,A0,δ,_,R,e1,λv H' s h=>?_⟩
    cases h with
    | lst hq h=>
      refine ⟨_,_,rfl,(hq.same cM).sq,q _ H' s ?_⟩
      intro A' i H2 s2 al
      have h2:=h.same s2
      have hL:=((hq.same s2).same cM).sq
      refine ⟨λd hd=>?_,λhi=>⟨_,hL,by rw [hi,nu,h2.len]; exact aaF _⟩⟩
      obtain ⟨y,hy,rfl⟩:=xy hd
      obtain ⟨v,hv,VJ⟩:=h2.get hy
      refine ⟨⟨_,v,hL,hv⟩,λz H3 hz=>?_⟩
      obtain ⟨p,v',hp,rfl,rfl,VL⟩:=hz
      have:=VL _ hL
      rw [hv] at this
      cases this
      exact ⟨cF hp _,HD.yo al hp (.cons (.int _) (.cons VJ .nil))⟩
  | _=>cases e2
end
def O7:V->V->Hp->VK->Prop:=λo i H Q=>∃ p xs k v,o=.ref p /\ i=.int k /\ 0<=k /\ H p=some (.lst xs) /\ p0 xs k=some v /\ Q v H
theorem get_own:UX X O7:=by
 intro pins s σ H o i v u Q I ro ri h
 obtain ⟨p,xs,k,w,rfl,rfl,h0,hp,ha,q⟩:=h
 cases ro
 obtain ⟨t,rfl⟩:=ri
 obtain ⟨its,r,pl,hz⟩:=I.list (kB.of hp)
 obtain ⟨j,h1,h2,h3,h4,h5⟩:=tZ ha
 obtain ⟨u',hu,ru⟩:=r.get h2
 have hn:=oE
 have hj:k.toNat=j:=by
  rw [seqIndex_of h0 h5] at h1
  exact abe h1
 exact wpAny_getItem_list pl.isList h0 (by lia) (by rw [hj]; simpa using hu) ⟨w,H,I,ru,q⟩
def uL (i:Nat) (f:Int->Int->Int) (gx ge:aF):aK:=λδ=>(af i δ).bind λx=>(gx δ).bind λk=>(ge δ).bind λy=>match x,k,y with
 | .list ds,.int n,.int b=>if 0<=n then (D7 ds.length n).bind λj=>(ds[j]?).bind λ| .int a=>some (.nx (δ.set i (some (.list (ds.set j (.int (f a b))))))) | _=>none else none
 | _,_,_=>none
set_option tactic.hygienic true in
theorem Iv {st:Stmt} (h:PS X st (ON (ur i) (gm X.K O gx) (gm X.K O ge) O7 (ipI f) OT)) (hi:i∈O:=by decide):PS X st (tS X.K O fr (uL i f gx ge)):=h.mono λE σ H hh=>hh.e λH0 U A0 δ r R F ed P=>by
 obtain ⟨x,e1,ed⟩:=bind1 ed
 obtain ⟨k,e2,ed⟩:=bind1 ed
 obtain ⟨y,e3,ed⟩:=bind1 ed
 rcases R.Vp i x hi (join_some e1) with ⟨l,ys,ds,hl,rfl,hU,h1,h2⟩ | ⟨kds,rfl⟩
 rotate_left
 .grind
 cases k with
 | int n=>cases y with
   | int b=>
     simp only at ed
     split at ed
     .rename_i h0
      obtain ⟨j,e4,ed⟩:=bind1 ed
      obtain ⟨a,e5,ed⟩:=bind1 ed
      cases a with
      | int a=>
        cases ed
        obtain ⟨v,hv,hd⟩:=h2.get e5
        cases hd
        refine ⟨.ref l,hl,U,A0,δ,_,R,e2,λv2 H2 s2 yt=>⟨l,ys,n,.int a,rfl,yt.int,h0,s2 _ _ h1,?_,U,A0,δ,_,R.same s2,e3,λv3 H3 s3 h3'=>⟨a,b,rfl,h3'.int,l,ys,n,j,rfl,yt.int,(s2.trans s3) _ _ h1,by rw [h2.len]; exact e4,?_⟩⟩⟩
        .unfold L2.p0; rw [h2.len,e4]; exact hv
        .exact P U σ _ ((R.same (s2.trans s3)).put hi hl hU (cO.Vn (.int _) j (h2.same (cB (s2.trans s3)))) ⟨_,join_some e1⟩) ((F.grow (s2.trans s3)).put hU _)
      | _=>cases ed
     .grind
   | _=>cases ed
 | _=>cases y <;> cases ed
def WalksS (K:au) (A:List Addr) (H1:Hp) (J:It) (ds:List D):Prop:=∀ (i:Nat) (H:Hp),aG H1 H->
 (∀ d,ds[i]?=some d->J.go i H /\ ∀ x H2,J.UY i H x H2->aG H H2 /\ HD K (wo H2 A) x d) /\ (i=ds.length->J.stop i H)
def RK (K:au) (O:List Nat) (g:cg):TI:=λσ H R=>∃ U A0 δ ds,Rel K O U A0 σ δ H /\ g δ=some ds /\ ∀ J H1,aG H H1->WalksS K (U ++ A0) H1 J ds->R J H1
theorem RK.e {K:au}  {GG:Prop} (hh:RK K O g σ H R) (kk:∀ U A0 δ ds,(Rel K O U A0 σ δ H)->(g δ=some ds)->(∀ J H1,aG H H1->WalksS K (U ++ A0) H1 J ds->R J H1)->GG):GG:=by obtain ⟨U,A0,δ,ds,x0,x1,x2⟩:=hh; exact kk U A0 δ ds x0 x1 x2
section
variable {X:Cx} {O:List Nat} {tg e:Expr} {gi:cg} {ge:aF} {pos:Pos}
theorem PI.c (h:PI X tg e (tI X.K O gi)):PI X tg e (RK X.K O gi):=h.mono λσ H Q hh=>hh.e λU A0 δ ds R ed q=>⟨U,A0,δ,ds,R,ed,λJ H1 s hw=>q J H1 s λi H2 s2=>hw (U ++ A0) i H2 (cB s2) ((R.same (s.trans s2)).al)⟩
theorem ME (h:PE X e (gm X.K O ge)):PI X tg e (RK X.K O (bz ge)):=(Iq h).mono λσ H Q hh=>hh.e λU A0 δ ds R ed q=>by
 obtain ⟨x,e1,e2⟩:=bind1 ed
 cases x with
 | list l=>
   cases e2
   refine ⟨U,A0,δ,_,R,e1,λv H' s h=>?_⟩
   obtain ⟨p,xs,rfl,h1,h2⟩:=h.list
   refine .inl ⟨_,rfl,⟨_,h1.sq⟩,q _ H' s ?_⟩
   intro i H2 s2
   have yt:=h2.same (cB (A:=U ++ A0) s2)
   have hL:=(h1.same s2).sq
   refine ⟨λd hd=>?_,λhi=>⟨_,hL,by rw [yt.len]; lia⟩⟩
   obtain ⟨x,hx,MA⟩:=yt.get hd
   refine ⟨⟨_,x,hL,hx⟩,λy H3 hy=>?_⟩
   obtain ⟨rfl,hy⟩:=hy
   have:=hy _ hL
   rw [hx] at this
   cases this
   exact ⟨aG.refl _,MA⟩
 | tuple l=>
   cases e2
   refine ⟨U,A0,δ,_,R,e1,λv H' s h=>?_⟩
   obtain ⟨p,xs,rfl,h1,h2⟩:=h.tuple
   refine .inr ⟨_,rfl,⟨_,h1⟩,q _ H' s ?_⟩
   intro i H2 s2
   have yt:=h2.same (cB (A:=U ++ A0) s2)
   have hL:=s2.tup h1
   refine ⟨λd hd=>?_,λhi=>⟨_,hL,by rw [yt.len]; lia⟩⟩
   obtain ⟨x,hx,MA⟩:=yt.get hd
   refine ⟨⟨_,x,hL,hx⟩,λy H3 hy=>?_⟩
   obtain ⟨rfl,hy⟩:=hy
   have:=hy _ hL
   rw [hx] at this
   cases this
   exact ⟨aG.refl _,MA⟩
 | _=>cases e2
end
section
variable {X:Cx} {O:List Nat} {fr:Fr} {scope:Scope} {x:Str} {elt iter:Expr} {px pos:Pos} {gi:cg} {ge:aF}
end
end L2
namespace LS
open PySem PySem.Spec PyProof.Rows
section
variable {prog:Program} {w:World} {A:Around} {E:cW} {s:Shared} {it t:Addr} {i:Nat} {items:Array Value}
theorem Cq (hit:s.heap.IsTupleIter it t i) (ht:s.heap.IsTuple t items) (hx:items[i]?=some x)
  (hQ:∀ h',h'.IsTupleIter it t (i + 1)->Heap.SameBut it s.heap h'->Q x { s with heap:=h' }):wpAny (model prog w) A (Builtin.SmallTypes.nextOf (.ref it)) Q E s:=by
 obtain ⟨o,ho,hc,hd⟩:=id hit
 obtain ⟨ol,RL,_,nl,YV⟩:=ht
 refine aaa (ab1 (name:=Str.ofString "__next__") hit.typeIs ab3 (ab2 ab3 hit.typeIs adm ?_ (adi _)))
 show wpAny _ _ (field (.ref it) 0 >>= _) _ _ s
 refine aaa (wpAny_field ho hd (x:=.ref t) rfl ?_)
 refine aaa (wpAny_field ho hd (x:=.int i 0) rfl ?_)
 refine aaa (ad4 RL YV ?_)
 simp only [abb,hx]
 refine aaa (aco ho hd (by simp) (aay ⟨x,rfl,aay (hQ _ ?_ (abc ..))⟩))
 exact ⟨_,abx _ ho (acv (abD hd _)),(adu ..).trans hc,by rw [abD hd]; simp [rawInt]⟩
theorem FZ (hh:A.handled=none) (hit:s.heap.IsTupleIter it t i) (ht:s.heap.IsTuple t items) (hx:items[i]?=none)
  (hE:∀ h' e,Heap.ExtBut it s.heap h'->(∃ o,h'.get? e=some o /\ o.cls=.type "StopIteration")->E (.ref e) { s with heap:=h' }):wpAny (model prog w) A (Builtin.SmallTypes.nextOf (.ref it)) Q E s:=by
 obtain ⟨o,ho,hc,hd⟩:=id hit
 obtain ⟨ol,RL,_,nl,YV⟩:=ht
 refine aaa (ab1 (name:=Str.ofString "__next__") hit.typeIs ab3 (ab2 ab3 hit.typeIs adm ?_ (adi _)))
 show wpAny _ _ (field (.ref it) 0 >>= _) _ _ s
 refine aaa (wpAny_field ho hd (x:=.ref t) rfl ?_)
 refine aaa (wpAny_field ho hd (x:=.int i 0) rfl ?_)
 refine aaa (ad4 RL YV ?_)
 simp only [abb,hx]
 refine aaa (acP (aaa (aco ho hd (by simp) ?_)))
 refine aaa ?_
 refine aaa (m:=firstArgMember _ _) (ael (a:=Value.none) (by first | rfl | (simp only [firstArgMember]; rfl)) ?_)
 refine abR ?_ (by size_fits)
 refine aaa (wpAny_handled ?_)
 first | rw [show A.in1.handled=none from hh] | rw [hh]
 refine aaa (aay (wpAny_throw ?_))
 exact hE _ _ (((abc ..).extBut.push _).push _) ⟨_,aaH _ rfl,rfl⟩
theorem kj (hh:A.handled=none) (it l:Addr) (jE:l≠it) (items:Array Value):
  Draws prog w A it [it,l] items.size (λi v=>items[i]?=some v) (λi h=>h.IsTupleIter it l i /\ h.IsTuple l items) where
 live:=λ_ _ st=>let ⟨o,ho,_⟩:=st.1; ⟨o,ho⟩
 frame:=λ_ _ _ st hk=>⟨st.1.at λo e=>hk it (by simp) o e,st.2.at λo e=>hk l (by simp) o e⟩
 item:=λi s Q E hi st hQ=>Cq st.1 st.2 (x:=items[i]) (by simp [hi]) λh' Cr oj=>hQ _ h' s.toks (by simp [hi]) ⟨Cr,st.2.extBut oj.extBut jE⟩ oj
 done:=λs Q E st hE=>FZ hh st.1 st.2 (by simp) hE
end
set_option maxHeartbeats 1000000 in
set_option tactic.hygienic true in
theorem yo (l:Addr) (items:Array Value) (n:Nat) (sT:Option Addr) (sl:Array (Option Value)):
  Meets (Builtin.«enumerate.__new__» ⟨[.type "enumerate",.ref l],[]⟩) (λ_ R s=>s.heap.get? l=some { cls:=.type "tuple",dict:=sT,data:=.seq items n,slots:=sl } /\
   R (.ok (.ret (.ref (s.heap.push { cls:=.type "tuple_iterator",data:=.fields #[.ref l,.int 0 0] }).objs.size)))
     { s with heap:=(s.heap.push { cls:=.type "tuple_iterator",data:=.fields #[.ref l,.int 0 0] }).push { cls:=.type "enumerate",data:=.fields #[.none,.bool false,.ref s.heap.objs.size,rawInt 0,.none,.none] } }):=
 .of_wp λprog w A R s h=>by
  obtain ⟨hp,g,d,tk,os⟩:=s; obtain ⟨hl,h⟩:=h
  have tH:=sub_enumerate
  have hL:Heap.IsTuple (Shared.heap ⟨hp,g,d,tk,os⟩) l items:=⟨_,hl,rfl,n,rfl⟩
  wp_walk using AutoSeq1.wpAny_loadPart' hl
  refine wpAny_stack_any λst=>aay ?_
  split
  .rename_i c _ _ _ _ _
   cases (c == Value.type "enumerate")
   .wp_walk using AutoSeq1.wpAny_loadPart' hl,wpAny_pyIter_tuple hL
    exact ⟨_,rfl,h⟩
   .wp_walk using AutoSeq1.wpAny_loadPart' hl,wpAny_pyIter_tuple hL
    exact ⟨_,rfl,h⟩
  .wp_walk using AutoSeq1.wpAny_loadPart' hl,wpAny_pyIter_tuple hL
   exact ⟨_,rfl,h⟩
section
variable {prog:Program} {w:World} {A:Around} {E:cW} {s:Shared}
theorem Cs (hL:s.heap.IsTuple l items)
  (h:∀ h',IsEnum h' (s.heap.objs.size + 1) s.heap.objs.size 0 .none->h'.IsTupleIter s.heap.objs.size l 0->h'.objs.size=s.heap.objs.size + 2->(∀ b o,s.heap.get? b=some o->h'.get? b=some o)->Q (.ref (s.heap.objs.size + 1)) { s with heap:=h' }):
  wpAny (model prog w) A (call (.type "enumerate") [.ref l]) Q E s:=by
 obtain ⟨⟨c,sT,dt,sl⟩,hl,hc,n,hd⟩:=hL
 subst hc hd
 refine callType_new acF (by decide) (PySem.F.typeCall_enumerate_1 _) (PySem.F.newCall_enumerate_1 _) (λobj=>PySem.F.args_object_init_2 obj _) PySem.F.entry_enumerate_new (yo l items n sT sl) ⟨hl,?_⟩
 have hz:(s.heap.push { cls:=.type "tuple_iterator",data:=.fields #[.ref l,.int 0 0] }).objs.size=s.heap.objs.size + 1:=acp ..
 rw [hz]
 have he:IsEnum ((s.heap.push { cls:=.type "tuple_iterator",data:=.fields #[.ref l,.int 0 0] }).push { cls:=.type "enumerate",data:=.fields #[.none,.bool false,.ref s.heap.objs.size,rawInt 0,.none,.none] }) (s.heap.objs.size + 1) s.heap.objs.size 0 .none:=by
  have q:=aaH (s.heap.push { cls:=.type "tuple_iterator",data:=.fields #[.ref l,.int 0 0] }) (o:={ cls:=.type "enumerate",data:=.fields #[.none,.bool false,.ref s.heap.objs.size,rawInt 0,.none,.none] }) rfl
  rw [hz] at q; exact q
 exact ⟨⟨_,he,rfl⟩,h _ he ⟨_,aab _ (aaH _ rfl),rfl,rfl⟩ (by rw [acp,hz]) λb o x=>aab _ (aab _ x)⟩
end
end LS
namespace LS
open PySem
def yy (l:List Nat):Prop:=l.Pairwise (· < ·)
theorem qk {xs:Array Nat} (h:yy xs.toList) (VM:a < b) (hb:b < xs.size) (d e:Nat):xs.getD a d < xs.getD b e:=by
 have ha:a < xs.size:=by lia
 have:=List.pairwise_iff_getElem.mp h a b (by simpa using ha) (by simpa using hb) VM
 simpa [ha,hb] using this
theorem Iw (hs:yy xs.toList) (j:Nat) (fuel:Nat):∀ (lo hi:Nat),hi - lo<=fuel->lo<=hi->hi<=xs.size->(∀ k,k < lo->xs.getD k 0 < j)->(∀ k,hi<=k->k < xs.size->j<=xs.getD k 0)->
  SetTable.below.go xs j fuel lo hi<=xs.size /\ (∀ k,k < SetTable.below.go xs j fuel lo hi->xs.getD k 0 < j) /\ ∀ k,SetTable.below.go xs j fuel lo hi<=k->k < xs.size->j<=xs.getD k 0:=by
 induction fuel with
 | zero=>
   intro lo hi h1 h2 h3 h4 h5
   have e:=Nat.le_antisymm h2 (Nat.le_of_sub_eq_zero (Nat.le_zero.mp h1))
   subst e
   exact ⟨h3,h4,h5⟩
 | succ fuel ih=>
   intro lo hi h1 h2 h3 h4 h5
   rw [SetTable.below.go]
   by_cases hl:lo < hi
   .rw [aaL hl]
    have a:lo<=(lo + hi) / 2 /\ (lo + hi) / 2 < hi:=by lia
    dsimp only
    generalize (lo + hi) / 2=m at a
    have hm:=aaC a.2 h3
    have hg:xs.getD m j=xs.getD m 0:=by simp [hm]
    rw [hg]
    by_cases hc:xs.getD m 0 < j
    .rw [aaL hc]
     refine ih _ hi (by lia) a.2 h3 (λk hk=>?_) h5
     rcases Nat.lt_or_eq_of_le (Nat.le_of_lt_succ hk) with q | q
     .exact aeL (qk hs q hm 0 0) hc
     .grind
    .rw [aaO hc]
     have hc:=aeA hc
     refine ih lo _ (by lia) a.1 (abM hm) h4 (λk hk O8=>?_)
     rcases Nat.lt_or_eq_of_le hk with q | q
     .exact aa6 hc (abM (qk hs q O8 0 0))
     .grind
   .rw [aaO hl]
    have e:=Nat.le_antisymm h2 (aeA hl)
    subst e
    exact ⟨h3,h4,h5⟩
theorem below_at (hs:yy xs.toList) (j:Nat):SetTable.below xs j<=xs.size /\ (∀ k,k < SetTable.below xs j->xs.getD k 0 < j) /\ ∀ k,SetTable.below xs j<=k->k < xs.size->j<=xs.getD k 0:=
 Iw hs j xs.size 0 xs.size (by lia) (abS _) (aaF _) (λk hk=>by lia) λk h1 h2=>by lia
theorem uM (hs:yy xs.toList) (hi:i<=xs.size) (h1:∀ k,k < i->xs.getD k 0 < j) (h2:∀ k,i<=k->k < xs.size->j<=xs.getD k 0):SetTable.below xs j=i:=by
 obtain ⟨a,b,c⟩:=below_at hs j
 rcases Nat.lt_trichotomy (SetTable.below xs j) i with h | h | h
 .grind
 .exact h
 .grind
theorem Iy (hs:yy xs.toList) (h:xs[SetTable.below xs j]?≠some j):j∉xs.toList:=by
 intro hm
 obtain ⟨k,hk,e⟩:=ab8 hm
 have O8:k < xs.size:=by simpa using hk
 have ek:xs.getD k 0=j:=by simpa [O8] using e
 have:SetTable.below xs j=k:=uM hs (abM O8) (λi hi=>by rw [<- ek]; exact qk hs hi O8 0 0) (λi h1 h2=>by
  by_cases Ru:k=i
  .grind
  .have:=qk hs (show k < i by lia) h2 0 0
   lia)
 rw [this] at h
 refine h ?_
 rw [abP O8]
 simpa using e
theorem MF {t:SetTable} (hs:yy t.place.toList) (h:t.place[SetTable.below t.place j]?≠some j):yy (t.put j).1.place.toList:=by
 have hn:=Iy hs h
 obtain ⟨a,b,c⟩:=below_at hs j
 show yy (SetTable.insertAt t.place (SetTable.below t.place j) j).toList
 rw [SetTable.toList_insertAt]
 have oj:(t.place.toList.take (SetTable.below t.place j) ++ t.place.toList.drop (SetTable.below t.place j)).Pairwise (· < ·):=by rw [List.take_append_drop]; exact hs
 rw [adL] at oj
 refine adL.mpr ⟨oj.1,abE.mpr ⟨λx hx=>?_,oj.2.1⟩,λx hx y hy=>?_⟩
 .obtain ⟨k,hk,e⟩:=ab8 hx
  have O9:SetTable.below t.place j + k < t.place.size:=by grind
  have:=c (SetTable.below t.place j + k) (by lia) O9
  have e2:t.place.getD (SetTable.below t.place j + k) 0=x:=by simpa [O9] using e
  have jE:x≠j:=λz=>hn (by rw [<- z]; exact List.mem_of_mem_drop hx)
  lia
 .obtain ⟨k,hk,e⟩:=ab8 hx
  have O9:k < SetTable.below t.place j:=by grind
  have hk3:k < t.place.size:=by lia
  have e2:t.place.getD k 0=x:=by simpa [hk3] using e
  rcases aaG.mp hy with z | z
  .grind
  .grind
set_option tactic.hygienic true in
theorem oO:∀ {fuel:Nat} {p:SetTable.Probe} {j:Nat} {dm:Option Nat},(∀ d,p.dummy=some d->t.place[SetTable.below t.place d]?≠some d)->
  SetTable.probe.go t f h fuel p=some (.empty j dm)->t.place[SetTable.below t.place (dm.getD j)]?≠some (dm.getD j)
 | 0,p,j,dm,_,e=>by cases e
 | fuel + 1,p,j,dm,hd,e=>by
   have hdm:∀ q:SetTable.Probe,(t.advance q).dummy=q.dummy:=λq=>by unfold SetTable.advance; split <;> rfl
   rw [SetTable.probe.go] at e
   have nl:∀ i,t.slot i=.empty \/ t.slot i=.dummy->t.place[SetTable.below t.place i]?≠some i:=by
    intro i hi z
    unfold SetTable.slot at hi
    dsimp only at hi
    rw [z] at hi
    simp at hi
   split at e
   .rename_i hs
    cases e
    cases hp:p.dummy with
    | none=>exact nl _ (.inl hs)
    | some d=>exact hd d hp
   .rename_i hs
    refine oO (λd G0=>?_) e
    rw [hdm] at G0
    cases G0
    exact nl _ (.inr hs)
   .split at e
    .cases e
    .exact oO (λd G0=>hd d (by rw [hdm] at G0; exact G0)) e
theorem nv (n:Nat):yy (Array.range n).toList:=by rw [Array.toList_range]; exact List.pairwise_lt_range
theorem wK {t:SetTable} (h:yy t.place.toList):yy (t.orStandIn n).place.toList /\ (t.orStandIn n).led=t.led:=by
 unfold SetTable.orStandIn
 split
 .grind
 .exact ⟨nv n,rfl⟩
set_option tactic.hygienic true in
theorem Ct (hs:yy t.place.toList):yy (layNew t es h x).2.1.place.toList /\ (layNew t es h x).2.1.led=t.led:=by
 unfold layNew
 split
 .rename_i slot wd e
  unfold SetTable.freeSlot at e
  split at e
  .rename_i j dm ep
   cases e
   have:=oO (t:=t) (λd z=>by cases z) ep
   obtain ⟨a,b⟩:=wK (n:=(SetTable.insertAt es (t.put (dm.getD j)).2 (h,x)).size) (MF hs this)
   exact ⟨a,b⟩
  .cases e
 .exact ⟨nv _,rfl⟩
set_option tactic.hygienic true in
theorem yz:yy (relayAll t es n).2.1.place.toList /\ (relayAll t es n).2.1.led=t.led:=by
 unfold relayAll
 split
 .rename_i t' order e
  dsimp only
  split
  .unfold SetTable.relaid SetTable.laid at e
   obtain ⟨owner,_,e2⟩:=Option.bind_eq_some_iff.mp e
   cases e2
   refine ⟨?_,rfl⟩
   refine ab4.mpr (List.pairwise_filterMap.mpr ?_)
   refine List.pairwise_lt_range.imp λ{a b} VM x hx y hy=>?_
   cases ea:owner.getD a none with
   | none=>rw [ea] at hx; cases hx
   | some u=>
     cases eb:owner.getD b none with
     | none=>rw [eb] at hy; cases hy
     | some v=>grind
  .exact ⟨nv _,rfl⟩
 .exact ⟨nv _,rfl⟩
end LS
namespace LS
open PySem PyProof.Rows
def iv:Value->Int
 | .int n _=>n
 | _=>0
theorem eR:∀ {vs:cc} {ns:List Int},IntsAre vs ns↔(∀ v∈vs,∃ n t,v=.int n t) /\ ns=vs.map iv
 | [],ns=>⟨λh=>by cases h; exact ⟨λv hv=>by simp at hv,rfl⟩,λ⟨_,h⟩=>by subst h; exact .nil⟩
 | v :: vs,ns=>⟨λh=>by
     cases h with
     | cons n t h=>
       obtain ⟨h1,h2⟩:=eR.mp h
       refine ⟨λu hu=>?_,by rw [h2]; rfl⟩
       rcases aaG.mp hu with z | z
       .grind
       .exact h1 u z,λ⟨h1,h2⟩=>by
     obtain ⟨n,t,rfl⟩:=h1 v aaD
     subst h2
     exact .cons n t (eR.mpr ⟨λu hu=>h1 u (aaE _ hu),rfl⟩)⟩
theorem rE (h:IntsAre vs ns) (p:vs'.Perm vs):∃ ql,IntsAre vs' ql /\ ql.Perm ns:=by
 obtain ⟨h1,h2⟩:=eR.mp h
 exact ⟨vs'.map iv,eR.mpr ⟨λv hv=>h1 v (p.mem_iff.mp hv),rfl⟩,by rw [h2]; exact p.map iv⟩
def mf (prog:Program) (w:World) (h:Heap) (a:Addr) (led:Bool) (ns:List Int):Prop:=∃ o es ep t,h.get? a=some o /\ o.ExactSet /\ o.data=.set es ep t /\ ElemsOf (intKind prog w) es.toList /\
 IntsAre (es.toList.map (·.2)) ns /\ ns.Nodup /\ es.size < scanBound /\ t.fits es.size=true /\ t.led=led /\ yy t.place.toList
section
variable {prog:Program} {w:World} {A:Around} {E:cW} {s:Shared} {a:Addr} {led:Bool} {ns:List Int}
theorem mf.keeps (x:mf prog w h a led ns) (k:∀ o,h.get? a=some o->h'.get? a=some o):mf prog w h' a led ns:=by
 obtain ⟨o,es,ep,t,ho,r⟩:=x
 exact ⟨o,es,ep,t,k o ho,r⟩
theorem AL {h:Heap} (ho:h.get? a=some o) (hex:o.ExactSet) (hd:o.data=.set es ep t) 
  (h1:ElemsOf (intKind prog w) tW.toList) (h2:IntsAre (tW.toList.map (·.2)) ql) (h3:ql.Nodup) (h4:tW.size < scanBound) (h5:t'.fits tW.size=true) (h6:t'.led=led) (h7:yy t'.place.toList):
  (h.update a (Obj.putSet tW t')).get? a=some { o with data:=.set tW (ep + 1) t' } /\ mf prog w (h.update a (Obj.putSet tW t')) a led ql:=by
 have hg:(h.update a (Obj.putSet tW t')).get? a=some { o with data:=.set tW (ep + 1) t' }:=by
  have q:=abx (Obj.putSet tW t') ho (by rw [putSet_of tW t' hd]; rfl)
  rwa [putSet_of tW t' hd] at q
 exact ⟨hg,_,tW,ep + 1,t',hg,hex,rfl,h1,h2,h3,h4,h5,h6,h7⟩
theorem xA {g:Bool->Sem Unit} (hg:∀ (b:Bool) (cu:Shared) (Q':Unit->Shared->Prop),Q' () cu->wpAny (model prog w) A (g b) Q' E cu) 
  (ho:s.heap.get? a=some o) (hex:o.ExactSet) (hd:o.data=.set es ep t) (h1:ElemsOf (intKind prog w) uN.toList) (h2:IntsAre (uN.toList.map (·.2)) T9) (h3:T9.Nodup) (h4:uN.size < scanBound)
  (h5:t2.fits uN.size=true) (h6:t2.led=led) (h7:yy t2.place.toList) 
  (h:∀ h' ql,Heap.SameBut a s.heap h'->mf prog w h' a led ql->ql.Perm T9->R (some true) { s with heap:=h' }):
  wpAny (model prog w) A (do
    storeSet a uN t2
    if (!wd && t2.tooFull)=true then do
        g (relayAll t2 uN (SetTable.grown uN.size)).2.2
        storeSet a (relayAll t2 uN (SetTable.grown uN.size)).1 (relayAll t2 uN (SetTable.grown uN.size)).2.1
        pure (some true)
     else pure (some true)) R E s:=by
 refine aaa (wpAny_storeSet_of ho hd ?_ (fits_of_scanBound h4))
 obtain ⟨wA,S1⟩:=AL (led:=led) ho hex hd h1 h2 h3 h4 h5 h6 h7
 have b1:=abc s.heap a (Obj.putSet uN t2)
 split
 .have hp:=relayAll_perm t2 uN (SetTable.grown uN.size)
  have hf:=relayAll_fits t2 uN (SetTable.grown uN.size)
  obtain ⟨hr,hl⟩:=yz (t:=t2) (es:=uN) (n:=SetTable.grown uN.size)
  generalize relayAll t2 uN (SetTable.grown uN.size)=Z at hp hf hr hl ⊢
  obtain ⟨Xw,t3,YW⟩:=Z
  obtain ⟨ns2,i2,p2⟩:=rE h2 (hp.map (·.2))
  have hz:Xw.size=uN.size:=by rw [<- Array.length_toList,hp.length_eq,abf]
  have b2:Xw.size < scanBound:=by rw [hz]; exact h4
  refine aaa (hg _ _ _ (aaa (wpAny_storeSet_of wA rfl ?_ (fits_of_scanBound b2))))
  obtain ⟨_,S2⟩:=AL (led:=led) wA hex rfl (h1.perm hp) i2 (p2.nodup_iff.mpr h3) b2 hf (hl.trans h6) hr
  exact aay (h _ ns2 (b1.trans (abc _ a _)) S2 p2)
 .exact aay (h _ T9 b1 S1 (.refl _))
theorem AM {es:List (Int×Value)} (h:IntsAre (es.map (·.2)) ns):i∈ns↔∃ e∈es,Value.isInt i e.2=true:=by
 obtain ⟨h1,h2⟩:=eR.mp h
 subst h2
 constructor
 .intro hm
  obtain ⟨v,hv,e⟩:=aa3.mp hm
  obtain ⟨x,hx,rfl⟩:=aa3.mp hv
  obtain ⟨n,t,q⟩:=h1 _ hv
  cases e
  exact ⟨x,hx,by rw [q]; simp [Value.isInt,iv]⟩
 .rintro ⟨e,he,q⟩
  obtain ⟨t,z⟩:=Value.isInt_shape q
  exact aa3.mpr ⟨e.2,aa3.mpr ⟨e,he,rfl⟩,by rw [z]; rfl⟩
theorem Iz (hS:mf prog w s.heap a led ns) (room:ns.length + 1 < scanBound)
  (h:∀ h' ql b,Heap.SameBut a s.heap h'->mf prog w h' a led ql->(∀ k,k∈ql↔k∈ns \/ k=i)->ql.length<=ns.length + 1->Q b { s with heap:=h' }):
  wpAny (model prog w) A (setAddHashed a (.int i tk) (hashInt i)) Q E s:=by
 obtain ⟨o,es,ep,t,ho,hex,hd,h1,h2,h3,h4,h5,h6,h7⟩:=hS
 have hlen:ns.length=es.size:=by
  obtain ⟨_,e⟩:=eR.mp h2
  rw [e]; simp
 have hk:=intKind_is prog w i tk
 have YX:(Value.int i tk).scannable=true:=rfl
 refine acm (aaa (acB ho hd h5 ?_))
 dsimp only
 rw [byScan_of YX h4 h1]
 refine aaa (aaa (acP (aaa (wpAny_setScan_of (knd:=intKind prog w) (k:=i) hk ho hd h5 h1 ?_))))
 cases hf:List.findIdx? (λe=>(intKind prog w).is i e.2) es.toList with
 | some j=>
   obtain ⟨hj,hpj,_⟩:=List.findIdx?_eq_some_iff_getElem.mp hf
   have hm:=(AM h2).mpr ⟨_,acX hj,hpj⟩
   refine aay (aay ?_)
   have q:=h s.heap ns false (Heap.SameBut.refl a s.heap) ⟨o,es,ep,t,ho,hex,hd,h1,h2,h3,h4,h5,h6,h7⟩ (λk=>⟨.inl,λz=>z.elim id λe=>e ▸ hm⟩) (acC _)
   exact q
 | none=>
   have hn:i∉ns:=λhm=>by
    obtain ⟨e,he,q⟩:=(AM h2).mp hm
    have z:=List.findIdx?_eq_none_iff.mp hf e he
    rw [show (intKind prog w).is i e.2=true from q] at z
    cases z
   have gw:∀ (b:Bool) {cu:Shared} {Q':Unit->Shared->Prop},Q' () cu->wpAny (model prog w) A (match b with | true=>rule "set.scan.the-table-gave-way" | false=>pure ()) Q' E cu:=
    λb cu Q' hq=>by cases b <;> first | exact aay hq | exact acP hq
   have hp:=layNew_perm t es (hashInt i) (.int i tk)
   have YY:=layNew_fits t es (hashInt i) (.int i tk)
   obtain ⟨hr,hl⟩:=Ct (t:=t) (es:=es) (h:=hashInt i) (x:=.int i tk) h7
   generalize layNew t es (hashInt i) (.int i tk)=Z at hp YY hr hl ⊢
   obtain ⟨uN,t1,wd,YW⟩:=Z
   rw [aen] at hp
   have e1:=(h1.push hk YX).perm hp
   have i0:IntsAre ((es.toList ++ [(hashInt i,Value.int i tk)]).map (·.2)) (ns ++ [i]):=by
    obtain ⟨x1,x2⟩:=eR.mp h2
    refine eR.mpr ⟨λv hv=>?_,by rw [x2]; simp [iv]⟩
    rw [aba] at hv
    rcases abd.mp hv with z | z
    .grind
    .grind
   obtain ⟨T9,i1,p1⟩:=rE i0 (hp.map (·.2))
   have nd:T9.Nodup:=p1.nodup_iff.mpr (by
    rw [List.nodup_append]
    exact ⟨h3,by simp,λx hx y hy=>by simp at hy; rw [hy]; exact λz=>hn (z ▸ hx)⟩)
   have hz:uN.size=es.size + 1:=by rw [<- Array.length_toList,hp.length_eq,aa7,abf]; rfl
   have b1:uN.size < scanBound:=by lia
   have fin:∀ h' ql,Heap.SameBut a s.heap h'->mf prog w h' a led ql->ql.Perm T9->Q true { s with heap:=h' }:=λh' ql sb S p=>by
    refine h h' ql true sb S (λk=>?_) ?_
    .grind
    .rw [p.length_eq,p1.length_eq]; simp
   refine aaa (gw _ ?_)
   split
   .rw [hashByValue_scannable 8 YX]
    refine xA (led:=led) ?_ ho hex hd e1 i1 nd b1 ?_ ?_ ?_ λh' ql sb S p=>?_
    .intro b cu Q' hq; cases b <;> first | exact aay hq | exact acP hq
    .split
     .grind
     .exact SetTable.fits_plain_off YY
    .grind
    .grind
    .exact aay (fin h' ql sb S p)
   .refine aaa (aay ?_)
    refine xA (led:=led) ?_ ho hex hd e1 i1 nd b1 YY (hl.trans h6) hr λh' ql sb S p=>?_
    .intro b cu Q' hq; cases b <;> first | exact aay hq | exact acP hq
    .exact aay (fin h' ql sb S p)
end
end LS
namespace LS
open PySem PySem.Spec PyProof.Rows
section
variable {prog:Program} {w:World} {A:Around} {E:cW} {s:Shared}
abbrev qo (w:World):Bool:= !w.params.followText "set-order"
abbrev iJ (w:World):Obj:={ cls:=.type "set",dict:=none,data:=.set #[] 0 (.fresh 0 0 (qo w)) }
theorem F0 (e:h.get? a=some (iJ w)):mf prog w h a (qo w) []:=
 ⟨_,#[],0,_,e,⟨rfl,rfl,rfl⟩,rfl,λx hx=>by simp at hx,.nil,.nil,by decide,rfl,rfl,List.Pairwise.nil⟩
theorem MG (a:Value) (h:Q₁ (.ref s.heap.objs.size) { s with heap:=s.heap.push (iJ w) }):
  codeAny (model prog w) A (.call (.builtin "set.__new__") ⟨[.type "set",a],[]⟩) (wants Q₁ E) s:=by
 refine codeAny_of_tree ?_
 refine aaa (ael (PySem.F.newCall_set_1 a) (aay ⟨adI PySem.F.plain_set_new _,abX PySem.F.entry_set_new ?_⟩))
 unfold Builtin.«set.__new__» Builtin.Frozenset.newClass
 have tH:=sub_set_self
 wp_walk
 refine acK (aay ?_)
 exact aaa (wpAny_alloc (aay (aay h)))
end
section
variable {prog:Program} {w:World} {A:Around} {R:Result->Shared->Prop} {I:Addr} {fp wr:List Addr} {G:Array GenState->Array GenState->Prop} {n:Nat} {P:Nat->Value->Prop} {St:Nat->Shared->Prop} {led:Bool}
theorem IA (W:WalksS prog w A.in1 I fp wr G n P St) (S:Addr) (RM:S∉fp) (val:Nat->Int) (RN:∀ i v,P i v->∃ t,v=.int (val i) t) (hb:n + 1 < scanBound):
  ∀ (k i:Nat) (s:Shared) (ns:List Int),n - i=k->i<=n->St i s->mf prog w s.heap S led ns->ns.length<=i->(∀ x,x∈ns↔∃ j,j < i /\ val j=x)->
    (∀ s' ql,Moved (S :: wr) G s s'->mf prog w s'.heap S led ql->ql.length<=n->(∀ x,x∈ql↔∃ j,j < n /\ val j=x)->R (.ok (.ret .none)) s')->
    codeAny (model prog w) A (.builtin "set.update.loop" ⟨[.ref S,.ref I],[]⟩) R s:=by
 have hSw:=λh=>RM (W.sub _ h)
 have tH:∀ b∈wr,b∈S :: wr:=λb hb=>aaE _ hb
 intro k
 induction k with
 | zero=>
   intro i s ns hk hi st hS hl hm hR
   have YZ:i=n:=by lia
   subst YZ
   refine abX ac4 ?_
   refine aaa (W.done s _ _ st λs' mv=>?_)
   exact aay (hR s' ns (mv.mono tH) (hS.keeps λo e=>mv.heap S o hSw e) hl hm)
 | succ k ih=>
   intro i s ns hk hi st hS hl hm hR
   have i9:i < n:=by lia
   refine abX ac4 ?_
   refine aaa (W.item i s _ _ i9 st λv s' hP cZ mv=>?_)
   obtain ⟨t,rfl⟩:=RN i v hP
   have F4:=hS.keeps λo e=>mv.heap S o hSw e
   refine aaa (acm ?_)
   refine acm (aaa ((intKind prog w).pyHash (k:=val i) (intKind_is _ _ _ _) ?_))
   refine Iz (s:={ s' with toks:=s'.toks + 1 }) F4 (by lia) λh' ql b sb S2 Es FF=>?_
   refine aay ⟨adI PyProof.Rows.F.plain_set_update_loop _,ih (i + 1) _ ql (by lia) i9 (W.frame _ s' _ _ cZ (acC _) λb hb o e=>?_) S2 (by lia) (λx=>?_) λL3 Y0 Y1 S3 l3 m3=>?_⟩
   .rw [sb.2 b (λz:b=S=>RM (by rw [<- z]; exact hb))]; exact e
   .grind
   .refine hR L3 Y0 (Moved.trans W.gtrans ((mv.mono tH).then_heap (acC _) λb o hb e=>?_) Y1) S3 l3 m3
    rw [sb.2 b (λz:b=S=>hb (by rw [z]; exact aaD))]; exact e
end
section
variable {prog:Program} {w:World} {A:Around} {E:cW} {s:Shared}
structure Cu (prog:Program) (w:World) (h:Heap) (r:Addr) (items:Array Value) (T:String) (oI:Obj) (St:Addr->Nat->Heap->Prop):Prop where
 ty:∃ o,h.get? r=some o /\ o.cls=.type T
 RO:isSubtype (.type T) (.type "set")=pure false
 RP:isSubtype (.type T) (.type "frozenset")=pure false
 nd:(Value.type T == Value.type "dict")=false
 iter:∀ (A':Around) (s':Shared) (Q:cW) (E:cW),(∀ o,h.get? r=some o->s'.heap.get? r=some o)->Q (.ref s'.heap.objs.size) { s' with heap:=s'.heap.push oI }->wpAny (model prog w) A' (pyIter (.ref r)) Q E s'
 walk:∀ (A':Around) (I:Addr),A'.handled=none->r≠I->Walks prog w A' I [I,r] [I] items.size (λi v=>items[i]?=some v) (St I)
 st:∀ h':Heap,(∀ o,h.get? r=some o->h'.get? r=some o)->St h'.objs.size 0 (h'.push oI)
theorem src_list (hl:h.IsList l items):Cu prog w h l items "list" { cls:=.type "list_iterator",data:=.fields #[.ref l,.int 0 0] } (λI i h=>h.IsListIter I l i /\ h.IsList l items) where
 ty:=let ⟨o,e,c,_⟩:=hl; ⟨o,e,c⟩
 RO:=PySem.F.sub_list_set
 RP:=PySem.F.sub_list_frozenset
 nd:=by decide
 iter:=λA' s' Q E k q=>wpAny_pyIter_list (hl.at k) q
 walk:=λA' I hh jE=>Walks.list hh I l jE items
 st:=λh' k=>⟨⟨_,aaH _ rfl,rfl,rfl⟩,(hl.at k).push _⟩
theorem src_tuple (hl:h.IsTuple l items):Cu prog w h l items "tuple" { cls:=.type "tuple_iterator",data:=.fields #[.ref l,.int 0 0] } (λI i h=>h.IsTupleIter I l i /\ h.IsTuple l items) where
 ty:=let ⟨o,e,c,_⟩:=hl; ⟨o,e,c⟩
 RO:=by rw [adv]; kernel_rfl
 RP:=by rw [adv]; kernel_rfl
 nd:=by decide
 iter:=λA' s' Q E k q=>wpAny_pyIter_tuple (hl.at k) q
 walk:=λA' I hh jE=>Walks.tuple hh I l jE items
 st:=λh' k=>⟨⟨_,aaH _ rfl,rfl,rfl⟩,(hl.at k).push _⟩
set_option maxHeartbeats 3200000 in
theorem AN {r:Addr} {items:Array Value} {ms:List Int} {T:String} {oI:Obj} {St:Addr->Nat->Heap->Prop} {Q:cW} (hh:A.handled=none) (src:Cu prog w s.heap r items T oI St) (hi:IntsAre items.toList ms) (hb:items.size + 1 < scanBound)
  (h:∀ (h':Heap) (tk:Nat) (ns:List Int),mf prog w h' s.heap.objs.size (qo w) ns->(∀ x,x∈ns↔x∈ms)->ns.length<=ms.length->(∀ b o,s.heap.get? b=some o->h'.get? b=some o)->Q (.ref s.heap.objs.size) { s with heap:=h',toks:=tk }):
  wpAny (model prog w) A (call (.type "set") [.ref r]) Q E s:=by
 obtain ⟨c,tl,acq⟩:=ab0.mro
 have aaZ:=ab0.made
 have tH:=ab0.sub
 refine wpAny_call (codeAny_of_tree ?_)
 show wpAny _ _ (callAny (.type "set") _) _ _ _
 refine aay ⟨Code.quiet_builtin _ (by decide +kernel),abX PySem.F.entry_type_call ?_⟩
 rw [Around.under_plain (weight_type_call_type "set" [.ref r] []) rfl]
 have h1:=ab0.notType
 have h2:=ab0.canCreate
 have hct:=PySem.F.typeCall_set_1 (.ref r)
 repeat (any_goals (first | assumption | wp_step))
 refine ack (MG (.ref r) (E:=E) (Q₁:=λobj cu=>obj=.ref s.heap.objs.size /\ cu={ s with heap:=s.heap.push (iJ w) }) ⟨rfl,rfl⟩) λq cu hq=>?_
 cases q with
 | error e=>exact hq
 | ok fl=>
   cases fl with
   | ret obj=>
     obtain ⟨rfl,rfl⟩:=hq
     have hS:(s.heap.push (iJ w)).get? s.heap.objs.size=some (iJ w):=aaH _ rfl
     have hT:Shared.TypeIs { s with heap:=s.heap.push (iJ w) } (.ref s.heap.objs.size) "set":=⟨_,hS,rfl⟩
     have hli:=ab0.init.lookup
     have hbi:=ab0.init.bind (.ref s.heap.objs.size)
     repeat (any_goals (first | assumption | wp_step))
     refine ack (acD (R:=wants (λv oD=>v=.none /\ ∃ h' tk ns,oD={ s with heap:=h',toks:=tk } /\ mf prog w h' s.heap.objs.size (qo w) ns /\ (∀ x,x∈ns↔x∈ms) /\ ns.length<=ms.length /\ ∀ b o,s.heap.get? b=some o->h'.get? b=some o) E)
      ab0.init.plain PySem.F.entry_set_init (check_set_init_1 hT ?_)) λY2 oD IB=>?_
     .obtain ⟨Y3,Pa,qp⟩:=src.ty
      obtain ⟨acr,VN,VO,RQ⟩:=Y3
      simp only at qp
      subst qp
      have acs:(s.heap.push (iJ w)).get? r=some { cls:=.type T,dict:=VN,data:=VO,slots:=RQ }:=aab _ Pa
      have Et:=src.RO
      have og:=src.RP
      have jE:=src.nd
      unfold Builtin.«set.__init__» noKeywords Builtin.Frozenset.updateFrom
      generalize hPI:pyIter=PI
      wp_walk
      subst hPI
      refine src.iter _ _ _ _ (λo e=>aab _ e) ?_
      refine aaa (wpAny_runValue ?_)
      have hrS:r < s.heap.objs.size:=aaB Pa
      have hh3:A.in1.in1.in1.handled=none:=by simp [hh]
      have hz:(s.heap.push (iJ w)).objs.size=s.heap.objs.size + 1:=acp _ _
      have Y4:r≠(s.heap.push (iJ w)).objs.size:=by rw [hz]; exact aaR (abT hrS)
      have RM:s.heap.objs.size∉[(s.heap.push (iJ w)).objs.size,r]:=by
       rw [hz]; simp only [aaG,acL,or_false,not_or]
       exact ⟨aaR (acn _),acy hrS⟩
      have RN:∀ (i:Nat) (v:Value),items[i]?=some v->∃ t,v=.int ((λi=>ms.getD i 0) i) t:=λi v hv=>IntsAre.int_at hi i v (by rw [Array.getElem?_toList]; exact hv)
      have hlen:ms.length=items.size:=by have:=(eR.mp hi).2; rw [this]; simp
      refine IA ((src.walk _ _ hh3 Y4).toS) s.heap.objs.size RM (λi=>ms.getD i 0) RN hb (items.size - 0) 0 _ [] (by lia) (abS _) (src.st _ λo e=>aab _ e) (F0 (aab _ hS)) (aaF _) (λx=>by simp) ?_
      intro s' ql mv S' l' m'
      obtain ⟨h',g',d',tk',YD⟩:=s'
      have eg:g'=s.gens:=mv.gens
      have ed:d'=s.drawn:=mv.drawn
      have eo:YD=s.os:=mv.os
      subst eg ed eo
      show wpAny _ _ _ _ _ _
      refine aay ?_
      show wpAny _ _ (ret Value.none) _ _ _
      refine aay ⟨rfl,h',tk',ql,rfl,S',λx=>?_,by lia,λb o e=>?_⟩
      .rw [m',<- hlen]
       constructor
       .rintro ⟨j,hj,e⟩
        rw [aaJ,aad hj] at e
        rw [<- e]; exact acX hj
       .intro hx
        obtain ⟨j,hj,e⟩:=ab8 hx
        exact ⟨j,hj,by rw [aaJ,aad hj]; exact e⟩
      .have RR:=aaB e
       refine mv.heap b o ?_ (aab _ (aab _ e))
       rw [hz]
       simp only [aaG,acL,or_false,not_or]
       exact ⟨aaR RR,aaR (abT RR)⟩
     .cases Y2 with
      | error e=>exact IB
      | ok VP=>
        cases VP with
        | ret v=>
          obtain ⟨rfl,h',tk,ns,rfl,S',m',l',k'⟩:=IB
          repeat (any_goals (first | assumption | wp_step))
          exact h _ _ ns S' m' l' k'
        | _=>exact IB.elim
   | _=>exact hq.elim
end
end LS
namespace LS
open PySem PyProof.Rows
set_option maxRecDepth 100000
theorem cH:Slot "set_iterator" "__next__" "set_iterator.__next__":=
 .of (owner:="set_iterator") (n:="__next__") (by rw [typeLookup_type,builtinLookup_eq_fast]; kernel_rfl) (by decide +kernel) (by decide +kernel) (by decide +kernel) (by first | exact .inl (by decide +kernel) | exact .inr (by decide +kernel)) (by rw [adv]; kernel_rfl)
theorem qq:Slot "set_iterator" "__iter__" "set_iterator.__iter__":=
 .of (owner:="set_iterator") (n:="__iter__") (by rw [typeLookup_type,builtinLookup_eq_fast]; kernel_rfl) (by decide +kernel) (by decide +kernel) (by decide +kernel) (by first | exact .inl (by decide +kernel) | exact .inr (by decide +kernel)) (by rw [adv]; kernel_rfl)
theorem iK:entryFor table "set_iterator.__next__"=some Builtin.«set_iterator.__next__»:=entryFor_of_tree (by kernel_rfl)
theorem wL:entryFor table "set_iterator.__iter__"=some Builtin.«dict_keyiterator.__iter__»:=
 entryFor_alias (id':="dict_keyiterator.__iter__") (by kernel_rfl) (by first | rfl | decide +kernel | (unfold String.splitOn; simp +decide [String.splitOnAux])) (by decide +kernel) (by kernel_rfl)
theorem uO:entryFor table "set.__iter__"=some Builtin.«frozenset.__iter__»:=
 entryFor_alias (id':="frozenset.__iter__") (by kernel_rfl) (by first | rfl | decide +kernel | (unfold String.splitOn; simp +decide [String.splitOnAux])) (by decide +kernel) (by kernel_rfl)
theorem AO:Manifest.owners.lookup (String.ofList ['r','o','t','a','r','e','t','i','_','t','e','s'].reverse)=some Manifest.sig_set_iterator:=by kernel_rfl
theorem jm (a:Value):argsOk "set_iterator.__next__" ⟨[a],[]⟩:=by
 unfold argsOk; rw [signature?_of (id:="set_iterator.__next__") (n:=['_','_','t','x','e','n','_','_']) (o:=['r','o','t','a','r','e','t','i','_','t','e','s']) (by kernel_rfl) AO]; kernel_rfl
theorem yA (a:Value):argsOk "set_iterator.__iter__" ⟨[a],[]⟩:=by
 unfold argsOk; rw [signature?_of (id:="set_iterator.__iter__") (n:=['_','_','r','e','t','i','_','_']) (o:=['r','o','t','a','r','e','t','i','_','t','e','s']) (by kernel_rfl) AO]; kernel_rfl
def lq (h:Heap) (it a:Addr) (first:Value) (i n ep:Nat):Prop:=∃ o,h.get? it=some o /\ o.cls=.type "set_iterator" /\ o.data=.fields #[first,.int i 0,.ref a,.int n 0,.int ep 0]
section
variable {prog:Program} {w:World} {A:Around} {E:cW} {s:Shared} {it a:Addr} {first:Value} {i n ep:Nat}
theorem lq.at (x:lq h it a first i n ep) (k:∀ o,h.get? it=some o->h'.get? it=some o):lq h' it a first i n ep:=let ⟨o,e,r⟩:=x; ⟨o,k o e,r⟩
theorem lq.typeIs (x:lq s.heap it a first i n ep):s.TypeIs (.ref it) "set_iterator":=let ⟨o,e,c,_⟩:=x; ⟨o,e,c⟩
def ic (h:Heap) (a:Addr) (es:Array (Int×Value)) (ep:Nat) (t:SetTable):Prop:=∃ o,h.get? a=some o /\ o.ExactSet /\ o.data=.set es ep t
theorem ic.at (x:ic h a es ep t) (k:∀ o,h.get? a=some o->h'.get? a=some o):ic h' a es ep t:=let ⟨o,e,r⟩:=x; ⟨o,k o e,r⟩
theorem yB (hit:lq s.heap it a first i n ep) (h:Q (.ref it) s):wpAny (model prog w) A (pyIter (.ref it)) Q E s:=by
 refine wpAny_pyIter_slot hit.typeIs qq (ab2 qq hit.typeIs wL ?_ (yA _))
 exact aay ⟨_,rfl,"set_iterator",_,hit.typeIs,cH.lookup,h⟩
variable {es:Array (Int×Value)} {t:SetTable} {slot:Nat}
theorem Eu (hit:lq s.heap it a (.int slot 0) i n ep) (hS:ic s.heap a es ep t) (hf:t.fits es.size=true) (hn:es.size=n)
  (hx:∀ (A':Around) (Q':Option (Value×Nat)->Shared->Prop) (E':cW),Q' (some (x,next)) s->wpAny (model prog w) A' (setNext a slot i ep) Q' E' s)
  (hQ:∀ h',lq h' it a (.int next 0) (i + 1) n ep->Heap.SameBut it s.heap h'->Q (some x) { s with heap:=h' }):wpAny (model prog w) A (pyNext (.ref it)) Q E s:=by
 obtain ⟨o,ho,hc,hd⟩:=id hit
 obtain ⟨os,Pb,hex,Pc⟩:=id hS
 refine aaa (adb (ab1 (name:=Str.ofString "__next__") hit.typeIs cH (ab2 cH hit.typeIs iK ?_ (jm _))))
 refine aaa (aay ?_)
 refine aaa (ad8 ho hd ?_)
 refine aaa (acH Pb Pc hf ?_)
 rw [aaO (by rw [hn]; simp)]
 refine aaa ?_
 refine hx _ _ _ ?_
 refine aaa (aco ho hd (by simp) ?_)
 have e1:=abx (Obj.mapFields (·.setIfInBounds 0 (rawInt next))) ho (acv (abD hd _))
 have d1:=abD hd (·.setIfInBounds 0 (rawInt next))
 refine aaa (aco e1 d1 (by simp) ?_)
 refine aay ⟨x,rfl,aay (hQ _ ?_ ((abc ..).trans (abc ..)))⟩
 refine ⟨_,abx _ e1 (acv (abD d1 _)),?_,?_⟩
 .rw [adu,adu]; exact hc
 .rw [abD d1]; simp [rawInt]
theorem IC (hh:A.handled=none) (hit:lq s.heap it a (.int slot 0) i n ep) (hS:ic s.heap a es ep t) (hf:t.fits es.size=true) (hn:es.size=n)
  (hx:∀ (A':Around) (Q':Option (Value×Nat)->Shared->Prop) (E':cW),Q' none s->wpAny (model prog w) A' (setNext a slot i ep) Q' E' s)
  (hQ:∀ h',Heap.ExtBut it s.heap h'->Q none { s with heap:=h' }):wpAny (model prog w) A (pyNext (.ref it)) Q E s:=by
 obtain ⟨o,ho,hc,hd⟩:=id hit
 obtain ⟨os,Pb,hex,Pc⟩:=id hS
 refine aaa (adb (ab1 (name:=Str.ofString "__next__") hit.typeIs cH (ab2 cH hit.typeIs iK ?_ (jm _))))
 refine aaa (aay ?_)
 refine aaa (ad8 ho hd ?_)
 refine aaa (acH Pb Pc hf ?_)
 rw [aaO (by rw [hn]; simp)]
 refine aaa ?_
 refine hx _ _ _ ?_
 refine aaa (aco ho hd (by simp) ?_)
 refine aaa ?_
 refine aaa (m:=firstArgMember _ _) (ael (a:=Value.none) (by first | rfl | (simp only [firstArgMember]; rfl)) ?_)
 refine abR ?_ (by size_fits)
 refine aaa (wpAny_handled ?_)
 first | rw [show A.in1.handled=none from hh] | rw [hh]
 refine aaa (aay (wpAny_throw ?_))
 refine aaa (wpAny_isInstance (T:="StopIteration") (b:=true) ⟨_,aaH _ rfl,rfl⟩ isSubtype_stop ?_)
 exact aay (hQ _ (((abc ..).extBut.push _).push _))
theorem ID {pl:Nat} (hit:lq s.heap it a (.ref tp) i n ep) (ht:s.heap.IsTuple tp ps) (hS:ic s.heap a es ep t) (hf:t.fits es.size=true) (hn:es.size=n)
  (hp:ps[i]?=some (.int pl 0)) (hx:es[pl]?=some (hsh,x))
  (hQ:∀ h',lq h' it a (.ref tp) (i + 1) n ep->Heap.SameBut it s.heap h'->Q (some x) { s with heap:=h' }):wpAny (model prog w) A (pyNext (.ref it)) Q E s:=by
 obtain ⟨o,ho,hc,hd⟩:=id hit
 obtain ⟨os,Pb,hex,Pc⟩:=id hS
 obtain ⟨ot,Pd,_,nt,Y5⟩:=ht
 refine aaa (adb (ab1 (name:=Str.ofString "__next__") hit.typeIs cH (ab2 cH hit.typeIs iK ?_ (jm _))))
 refine aaa (aay ?_)
 refine aaa (ad8 ho hd ?_)
 refine aaa (acH Pb Pc hf ?_)
 rw [aaO (by rw [hn]; simp)]
 refine aaa (ad4 Pd Y5 ?_)
 simp only [abb,hp]
 refine aaa ?_
 refine aaa (acB Pb Pc hf ?_)
 dsimp only
 rw [aaO (by simp)]
 simp only [hx]
 refine aay ?_
 refine aaa (aco ho hd (by simp) ?_)
 refine aay ⟨x,rfl,aay (hQ _ ?_ (abc ..))⟩
 refine ⟨_,abx _ ho (acv (abD hd _)),?_,?_⟩
 .rw [adu]; exact hc
 .rw [abD hd]; simp [rawInt]
theorem MH (hh:A.handled=none) (hit:lq s.heap it a (.ref tp) i n ep) (ht:s.heap.IsTuple tp ps) (hS:ic s.heap a es ep t) (hf:t.fits es.size=true) (hn:es.size=n)
  (hp:ps[i]?=none) (hQ:∀ h',Heap.ExtBut it s.heap h'->Q none { s with heap:=h' }):wpAny (model prog w) A (pyNext (.ref it)) Q E s:=by
 obtain ⟨o,ho,hc,hd⟩:=id hit
 obtain ⟨os,Pb,hex,Pc⟩:=id hS
 obtain ⟨ot,Pd,_,nt,Y5⟩:=ht
 refine aaa (adb (ab1 (name:=Str.ofString "__next__") hit.typeIs cH (ab2 cH hit.typeIs iK ?_ (jm _))))
 refine aaa (aay ?_)
 refine aaa (ad8 ho hd ?_)
 refine aaa (acH Pb Pc hf ?_)
 rw [aaO (by rw [hn]; simp)]
 refine aaa (ad4 Pd Y5 ?_)
 simp only [abb,hp]
 refine aaa (aco ho hd (by simp) ?_)
 have e1:=abx (Obj.mapFields (·.setIfInBounds 0 (rawInt 0))) ho (acv (abD hd _))
 have d1:=abD hd (·.setIfInBounds 0 (rawInt 0))
 refine aaa (aco e1 d1 (by simp) ?_)
 refine aaa ?_
 refine aaa (m:=firstArgMember _ _) (ael (a:=Value.none) (by first | rfl | (simp only [firstArgMember]; rfl)) ?_)
 refine abR ?_ (by size_fits)
 refine aaa (wpAny_handled ?_)
 first | rw [show A.in1.handled=none from hh] | rw [hh]
 refine aaa (aay (wpAny_throw ?_))
 refine aaa (wpAny_isInstance (T:="StopIteration") (b:=true) ⟨_,aaH _ rfl,rfl⟩ isSubtype_stop ?_)
 exact aay (hQ _ ((((abc ..).trans (abc ..)).extBut.push _).push _))
theorem uP (hS:ic s.heap a es ep t) (hf:t.fits es.size=true) (hw:w.params.followText "set-order"=false) (hl:t.led=true) (hp:(!t.plain && decide (es.size > 1))=false) 
  (h:Q (match es[SetTable.below t.place slot]?,t.place[SetTable.below t.place slot]? with | some (_,x),some j=>some (x,j + 1) | _,_=>none) s):wpAny (model prog w) A (setNext a slot i ep) Q E s:=by
 obtain ⟨o,ho,_,hd⟩:=hS
 refine aaa (acB ho hd hf ?_)
 refine aaa ?_
 refine aaa (acK (aay ?_))
 show wpAny _ _ (if w.params.followText "set-order"=true then _ else _) _ _ _
 rw [hw,aaO aaW]
 show wpAny _ _ (if (!t.plain && decide (es.size > 1))=true then _ else _) _ _ _
 rw [hp,aaO aaW]
 refine aaa ?_
 show wpAny _ _ (if (!t.led && !es.isEmpty)=true then _ else _) _ _ _
 rw [hl,aaO (by simp)]
 exact aay (aay h)
theorem xB (hS:ic s.heap a es ep t) (hf:t.fits es.size=true) (hw:w.params.followText "set-order"=true) 
  (h:Q (((pickOrder (w.params.setOrder a ep) es)[i]?).map λe=>(e.2,slot)) s):wpAny (model prog w) A (setNext a slot i ep) Q E s:=by
 obtain ⟨o,ho,_,hd⟩:=hS
 refine aaa (acB ho hd hf ?_)
 refine aaa ?_
 refine aaa (acK (aay ?_))
 show wpAny _ _ (if w.params.followText "set-order"=true then _ else _) _ _ _
 rw [hw,aaL rfl]
 rw [aaO (by simp)]
 refine aaa ?_
 refine aaa (acB ho hd hf ?_)
 refine aaa ?_
 refine aaa (acK (aay ?_))
 show wpAny _ _ (if w.params.followText "set-order"=true then _ else _) _ _ _
 rw [hw,aaL rfl]
 exact aaa (acK (aay (aay h)))
end
end LS
namespace LS
open PySem PySem.Spec PyProof.Rows
theorem oP {α:Type}:∀ {l:List α} {i:Nat} (h:i < l.length),(l[i] :: l.eraseIdx i).Perm l
 | x :: l,0,_=>by simp
 | x :: l,i + 1,h=>by
   have h':i < l.length:=by simpa using h
   have:=oP h'
   exact (List.Perm.swap _ _ _).trans (List.Perm.cons _ this)
theorem Ew (next:Nat->Nat):∀ (fuel k:Nat) (left:List α) (out:Array α),left.length=fuel->(pickOrder.go next fuel k left out).toList.Perm (out.toList ++ left)
 | 0,k,left,out,h=>by
   have:left=[]:=acM.mp h
   subst this
   rw [pickOrder.go,abh]
 | fuel + 1,k,left,out,h=>by
   rw [pickOrder.go]
   have hl:next k % left.length < left.length:=Nat.mod_lt _ (by lia)
   rw [aad hl]
   refine (Ew next fuel (k + 1) _ _ (by rw [List.length_eraseIdx_of_lt hl]; lia)).trans ?_
   rw [aen,aeo]
   exact List.Perm.append_left _ (oP hl)
theorem F5 (next:Nat->Nat) (xs:Array α):(pickOrder next xs).toList.Perm xs.toList:=by
 have:=Ew next xs.size 0 xs.toList #[] (by simp)
 simpa [pickOrder] using this
section
variable {prog:Program} {w:World} {A:Around} {E:cW} {s:Shared} {it a:Addr} {first:Value} {i n ep:Nat} {es:Array (Int×Value)} {t:SetTable}
theorem Cv (hn:n≠0) (h:∀ i d',i < n->Q i { s with drawn:=d' }):wpAny M A (choose src n) Q E s:=
 λ_ _ _=>⟨hn,h _ _ (Nat.mod_lt _ (Nat.pos_of_ne_zero hn))⟩
theorem uQ:∀ (n:Nat) (xs:List α) (s:Shared) (Q:List α->Shared->Prop),xs.length=n->(∀ ys d',ys.Perm xs->Q ys { s with drawn:=d' })->wpAny M A (drawOrder n xs) Q E s
 | 0,xs,s,Q,hl,h=>by
   have e:=acM.mp hl
   subst e
   exact aay (h [] s.drawn (.refl _))
 | n + 1,[],s,Q,hl,h=>by cases hl
 | n + 1,x :: xs,s,Q,hl,h=>by
   rw [drawOrder]
   rotate_left
   .grind
   refine aaa (Cv (by simp) λi d' hi=>?_)
   rw [aad hi]
   refine aaa (uQ n _ _ _ (by rw [List.length_eraseIdx_of_lt hi]; lia) λys d2 hp=>aay ?_)
   refine h _ d2 ?_
   exact (List.Perm.cons _ hp).trans (oP hi)
theorem F6 (hf:t.fits es.size=true) (hw:w.params.followText "set-order"=true) (jE:a≠I) (hh:A.handled=none):
  Walks prog w A I [I,a] [I] (pickOrder (w.params.setOrder a ep) es).size (λi v=>((pickOrder (w.params.setOrder a ep) es).toList.map (·.2))[i]?=some v) (λi h=>lq h I a (.int (0:Nat) 0) i es.size ep /\ ic h a es ep t) where
 sub:=λb hb=>by simp at hb; simp [hb]
 frame:=λ_ _ _ st hk=>⟨st.1.at λo e=>hk I (by simp) o e,st.2.at λo e=>hk a (by simp) o e⟩
 item:=λi s Q E hi st hQ=>by
  refine Eu (x:=((pickOrder (w.params.setOrder a ep) es)[i]).2) (next:=0) st.1 st.2 hf rfl (λA' Q' E' q=>xB st.2 hf hw (by rw [abP hi]; exact q)) λh' Cr oj=>?_
  exact hQ _ h' s.toks (by simp [hi]) ⟨Cr,st.2.at λo e=>oj.extBut a o jE e⟩ λb o hb e=>oj.extBut b o (λh=>hb (by simp [h])) e
 done:=λs Q E st hQ=>IC hh st.1 st.2 hf rfl (λA' Q' E' q=>xB st.2 hf hw (by rw [Array.getElem?_eq_none (by simp)]; exact q)) λh' RS=>hQ h' s.toks λb o hb e=>RS b o (λh=>hb (by simp [h])) e
 self:=λ_ _ _ _ st hQ=>yB st.1 hQ
theorem Cw (hf:t.fits es.size=true) (hw:w.params.followText "set-order"=false) (hl:t.led=true) (hp:(!t.plain && decide (es.size > 1))=false) (hr:yy t.place.toList) (jE:a≠I) (hh:A.handled=none):
  Walks prog w A I [I,a] [I] es.size (λi v=>(es.toList.map (·.2))[i]?=some v)
   (λi h=>∃ slot:Nat,lq h I a (.int slot 0) i es.size ep /\ ic h a es ep t /\ (∀ k,k < i->t.place.getD k 0 < slot) /\ ∀ k,i<=k->k < t.place.size->slot<=t.place.getD k 0) where
 sub:=λb hb=>by simp at hb; simp [hb]
 frame:=λ_ _ _ ⟨slot,RT,dW,Hr⟩ hk=>⟨slot,RT.at λo e=>hk I (by simp) o e,dW.at λo e=>hk a (by simp) o e,Hr⟩
 item:=λi s Q E hi ⟨slot,RT,dW,Hr,Y6⟩ hQ=>by
  have hz:t.place.size=es.size:=by simp only [SetTable.fits,aaS,adC] at hf; exact hf.1
  have hb:=uM hr (by lia) Hr Y6
  have kf:t.place[i]?=some (t.place.getD i 0):=by rw [abP (by lia)]; simp [hz,hi]
  refine Eu (x:=es[i].2) (next:=t.place.getD i 0 + 1) RT dW hf rfl (λA' Q' E' q=>uP dW hf hw hl hp (by rw [hb,abP hi,kf]; exact q)) λh' Cr oj=>?_
  refine hQ _ h' s.toks (by simp [hi]) ⟨_,Cr,dW.at λo e=>oj.extBut a o jE e,λk hk=>?_,λk h1 h2=>?_⟩ λb o hb e=>oj.extBut b o (λh=>hb (by simp [h])) e
  .grind
  .have:=qk hr (show i < k by lia) h2 0 0
   lia
 done:=λs Q E ⟨slot,RT,dW,Hr,Y6⟩ hQ=>by
  have hz:t.place.size=es.size:=by simp only [SetTable.fits,aaS,adC] at hf; exact hf.1
  have hb:=uM hr (by lia) Hr Y6
  exact IC hh RT dW hf rfl (λA' Q' E' q=>uP dW hf hw hl hp (by rw [hb,Array.getElem?_eq_none (aaF _)]; exact q)) λh' RS=>hQ h' s.toks λb o hb e=>RS b o (λh=>hb (by simp [h])) e
 self:=λ_ _ _ _ ⟨slot,RT,_⟩ hQ=>yB RT hQ
theorem Cy {ys:List Nat} (hf:t.fits es.size=true) (hy:ys.Perm (List.range es.size)) (jE:a≠I) (hnt:tp≠I) (hh:A.handled=none):
  Walks prog w A I [I,a,tp] [I] es.size (λi v=>(ys.map λp=>(es.getD p (0,Value.none)).2)[i]?=some v) (λi h=>lq h I a (.ref tp) i es.size ep /\ h.IsTuple tp (ys.map λp:Nat=>rawInt p).toArray /\ ic h a es ep t) where
 sub:=λb hb=>by simp at hb; simp [hb]
 frame:=λ_ _ _ st hk=>⟨st.1.at λo e=>hk I (by simp) o e,st.2.1.at λo e=>hk tp (by simp) o e,st.2.2.at λo e=>hk a (by simp) o e⟩
 item:=λi s Q E hi st hQ=>by
  have Ua:ys.length=es.size:=by rw [hy.length_eq]; simp
  have hp:ys[i] < es.size:=acf.mp (hy.mem_iff.mp (acX (by lia)))
  refine ID (x:=es[ys[i]].2) (pl:=ys[i]) (hsh:=es[ys[i]].1) st.1 st.2.1 st.2.2 hf rfl (by simp [Ua,hi,rawInt]) (by rw [abP hp]) λh' Cr oj=>?_
  refine hQ _ h' s.toks ?_ ⟨Cr,st.2.1.at λo e=>oj.extBut tp o hnt e,st.2.2.at λo e=>oj.extBut a o jE e⟩ λb o hb e=>oj.extBut b o (λh=>hb (by simp [h])) e
  rw [aaU,aad (by lia)]
  simp [hp]
 done:=λs Q E st hQ=>by
  have Ua:ys.length=es.size:=by rw [hy.length_eq]; simp
  exact MH hh st.1 st.2.1 st.2.2 hf rfl (by simp [Ua]) λh' RS=>hQ h' s.toks λb o hb e=>RS b o (λh=>hb (by simp [h])) e
 self:=λ_ _ _ _ st hQ=>yB st.1 hQ
theorem IE (hS:ic s.heap a es ep t) (hf:t.fits es.size=true) (hr:yy t.place.toList) (hl:t.led=qo w) (hz:es.size<=sizeLine)
  (h:∀ (I:Addr) (fp:List Addr) (ord:cc) (St:Nat->Heap->Prop) (h1:Heap) (d1:Drawn),ord.Perm (es.toList.map (·.2))->(∀ A':Around,A'.handled=none->Walks prog w A' I fp [I] ord.length (λi v=>ord[i]?=some v) St)->St 0 h1->
   (∀ b o,s.heap.get? b=some o->h1.get? b=some o)->s.heap.objs.size<=I->(∀ b∈fp,b=a \/ s.heap.objs.size<=b)->Q (.ref I) { s with heap:=h1,drawn:=d1 }):wpAny (model prog w) A (pyIter (.ref a)) Q E s:=by
 obtain ⟨o,ho,hex,hd⟩:=id hS
 have hT:s.TypeIs (.ref a) "set":=⟨o,ho,hex.1⟩
 have i9:=aaB ho
 refine wpAny_pyIter_slot hT PySem.F.slot_set_iter (ab2 PySem.F.slot_set_iter hT uO ?_ (PySem.F.args_set_iter_1 _))
 refine aaa (aay ?_)
 refine aaa ?_
 refine aaa (acH ho hd hf (aay ?_))
 refine aaa ?_
 refine aaa (acB ho hd hf ?_)
 refine aaa ?_
 refine aaa (acK (aay (aay ?_)))
 show wpAny _ _ (if (!w.params.followText "set-order" && (!t.plain && decide (es.size > 1)))=true then _ else _) _ _ _
 have slots:∀ {ord:cc} (St:Addr->Nat->Heap->Prop),ord.Perm (es.toList.map (·.2))->(∀ (A':Around) (I:Addr),a≠I->A'.handled=none->Walks prog w A' I [I,a] [I] ord.length (λi v=>ord[i]?=some v) (St I))->
   (∀ h' I,lq h' I a (.int (0:Nat) 0) 0 es.size ep->ic h' a es ep t->St I 0 h')->Q (.ref s.heap.objs.size) { s with heap:=s.heap.push { cls:=.type "set_iterator",data:=.fields #[.int (0:Nat) 0,.int (0:Nat) 0,.ref a,.int (es.size:Nat) 0,.int (ep:Nat) 0] } }:=by
  intro ord St hp hW OM
  have jE:=aaR i9
  exact h s.heap.objs.size [s.heap.objs.size,a] ord (St s.heap.objs.size) _ s.drawn hp (λA' hh=>hW A' _ jE hh) (OM _ _ ⟨_,aaH _ rfl,rfl,rfl⟩ (hS.at λo e=>aab _ e)) (λb o e=>aab _ e) (aaF _)
   λb hb=>by grind
 by_cases Xx:(!w.params.followText "set-order" && (!t.plain && decide (es.size > 1)))=true
 .rw [aaL Xx]
  refine aaa (uQ _ _ _ _ (by simp) λys d' hy=>?_)
  refine wpAny_bind (wpAny_newTuple ?_ (by rw [List.length_map,hy.length_eq]; simpa using hz))
  have hT1:(s.heap.push { cls:=.type "tuple",data:=.seq (ys.map λp:Nat=>rawInt p).toArray }).IsTuple s.heap.objs.size (ys.map λp:Nat=>rawInt p).toArray:=⟨_,aaH _ rfl,rfl,_,rfl⟩
  have Ub:=hS.at (h':=s.heap.push { cls:=.type "tuple",data:=.seq (ys.map λp:Nat=>rawInt p).toArray }) λo e=>aab _ e
  obtain ⟨o1,wA,_,RU⟩:=id Ub
  refine aaa (wpAny_setEpoch_of wA RU hf ?_)
  have Et:(s.heap.push { cls:=.type "tuple",data:=.seq (ys.map λp:Nat=>rawInt p).toArray }).objs.size=s.heap.objs.size + 1:=acp _ _
  refine aaa (abR (aay ⟨_,rfl,"set_iterator",_,⟨_,aaH _ rfl,rfl⟩,cH.lookup,?_⟩))
  have hy2:(ys.map λp=>(es.getD p (0,Value.none)).2).Perm (es.toList.map (·.2)):=by
   refine (hy.map _).trans ?_
   have e:(List.range es.size).map (λp=>(es.getD p (0,Value.none)).2)=es.toList.map (·.2):=by
    refine aeC (by simp) λi h1 h2=>?_
    simp at h1
    simp [h1]
   rw [e]
  have RL:(ys.map λp=>(es.getD p (0,Value.none)).2).length=es.size:=by rw [aax,hy.length_eq]; simp
  refine h (s.heap.push { cls:=.type "tuple",data:=.seq (ys.map λp:Nat=>rawInt p).toArray }).objs.size [_,a,s.heap.objs.size] _ (λi h=>lq h (s.heap.push { cls:=.type "tuple",data:=.seq (ys.map λp:Nat=>rawInt p).toArray }).objs.size a (.ref s.heap.objs.size) i es.size ep /\ h.IsTuple s.heap.objs.size (ys.map λp:Nat=>rawInt p).toArray /\ ic h a es ep t) _ d' hy2 (λA' hh=>by rw [RL]; exact Cy (t:=t) (ep:=ep) hf hy (by rw [Et]; exact aaR (abT i9)) (by rw [Et]; exact aaR (acn _)) hh)
   ⟨⟨_,aaH _ rfl,rfl,by simp [rawInt]⟩,hT1.push _,Ub.at λo e=>aab _ e⟩ (λb o e=>aab _ (aab _ e)) (by rw [Et]; exact acC _) λb hb=>?_
  simp at hb
  rcases hb with z | z | z
  .grind
  .grind
  .grind
 .rw [aaO Xx]
  refine aaa (aay ?_)
  refine aaa (wpAny_setEpoch_of ho hd hf ?_)
  refine aaa (abR (aay ⟨_,rfl,"set_iterator",_,⟨_,aaH _ rfl,rfl⟩,cH.lookup,?_⟩))
  cases hw:w.params.followText "set-order" with
  | true=>
    have Y7:((pickOrder (w.params.setOrder a ep) es).toList.map (·.2)).length=(pickOrder (w.params.setOrder a ep) es).size:=by simp
    exact slots (ord:=(pickOrder (w.params.setOrder a ep) es).toList.map (·.2)) (λI i h=>lq h I a (.int (0:Nat) 0) i es.size ep /\ ic h a es ep t) ((F5 _ _).map _) (λA' I jE hh=>by rw [Y7]; exact F6 hf hw jE hh) λh' I x y=>⟨x,y⟩
  | false=>
    rw [hw] at Xx
    have kf:(!t.plain && decide (es.size > 1))=false:=by simpa using Xx
    have hle:t.led=true:=by rw [hl]; simp [hw]
    have Y7:(es.toList.map (·.2)).length=es.size:=by simp
    refine slots (ord:=es.toList.map (·.2)) (λI i h=>∃ slot:Nat,lq h I a (.int slot 0) i es.size ep /\ ic h a es ep t /\ (∀ k,k < i->t.place.getD k 0 < slot) /\ ∀ k,i<=k->k < t.place.size->slot<=t.place.getD k 0) (.refl _)
     (λA' I jE hh=>by rw [Y7]; exact Cw hf hw hle kf hr jE hh) λh' I x y=>⟨0,x,y,λk hk=>by lia,λk _ _=>abS _⟩
end
end LS
namespace LS
open PySem PySem.Spec PySem.Calls PyProof.Rows
section
variable {prog:Program} {w:World} {A:Around} {E:cW} {s:Shared} {a:Addr} {ns:List Int}
theorem IF (hT:s.TypeIs (.ref a) "set") (h:Q false s):wpAny (model prog w) A (Builtin.List.listLengthHint (.ref a)) Q E s:=by
 refine aaa (wpAny_specialOf hT PySem.F.slot_set_len.lookup ?_)
 generalize hid:("set.__len__":String)=id0
 subst hid
 refine aaa (wpAny_isInstance (T:="set") (b:=true) hT (by rw [adv]; kernel_rfl) ?_)
 exact aaa (wpAny_typeOf hT (aay h))
theorem AQ (hh:A.handled=none) (hS:mf prog w s.heap a (qo w) ns)
  (h:∀ (h':Heap) (tk:Nat) (d':Drawn) (vs:cc) (ms:List Int),(∀ b o,s.heap.get? b=some o->h'.get? b=some o)->s.heap.objs.size < h'.objs.size->IntsAre vs ms->ms.Perm ns->R vs { s with heap:=h',toks:=tk,drawn:=d' }):
  wpAny (model prog w) A (collect (.ref a)) R E s:=by
 obtain ⟨o,es,ep,t,ho,hex,hd,h1,h2,h3,h4,h5,h6,h7⟩:=hS
 have hz:=fits_of_scanBound h4
 have i9:=aaB ho
 have hS0:ic s.heap a es ep t:=⟨o,ho,hex,hd⟩
 refine aaa (wpAny_runValue (abX entry_proto_collect' ?_))
 refine aaa (abR ?_)
 refine aay ⟨adI adQ _,abX entry_list_iadd' ?_⟩
 generalize hP:s.heap.push { cls:=.type "list",data:=.seq ([]:cc).toArray }=P1
 have Pe:∀ b o,s.heap.get? b=some o->P1.get? b=some o:=λb o e=>by rw [<- hP]; exact aab _ e
 have hL:P1.get? s.heap.objs.size=some { cls:=.type "list",data:=.seq #[] }:=by rw [<- hP]; exact aaH _ rfl
 have RJ:P1.objs.size=s.heap.objs.size + 1:=by rw [<- hP]; exact acp _ _
 have key:wpAny (model prog w) A.in1 (Builtin.List.listExtendWith (.ref s.heap.objs.size) (.ref a) (.ref s.heap.objs.size))
   (λfin s'=>match fin with
    | .done f=>False
    | .again c'=>c'.quiet=true /\ codeAny (model prog w) A c' (λq s'=>∃ (h':Heap) (tk:Nat) (d':Drawn) (acc:Array Value) (c':Nat) (ms:List Int),q=.ok (.ret (.ref s.heap.objs.size)) /\ s'={ s with heap:=h',toks:=tk,drawn:=d' } /\
      (∀ b o,s.heap.get? b=some o->h'.get? b=some o) /\ h'.get? s.heap.objs.size=some { cls:=.type "list",dict:=none,data:=.seq acc c',slots:=#[] } /\ IntsAre acc.toList ms /\ ms.Perm ns) s') (λ_ _=>False) { s with heap:=P1 }:=by
  have Ub:=hS0.at (h':=P1) λo e=>Pe a o e
  obtain ⟨o1,wA,Y8,RU⟩:=id Ub
  refine aaa (wpAny_typeOf (T:="set") ⟨o1,wA,Y8.1⟩ ?_)
  have q1:Builtin.List.listSameRef (.ref s.heap.objs.size) (.ref a)=false:=by simp [Builtin.List.listSameRef,acy i9]
  have q2:(Value.type "set" == Value.type "list")=false:=by decide
  have q3:(Value.type "set" == Value.type "tuple")=false:=by decide
  simp only [q1]
  refine aaa (IE (s:={ s with heap:=P1 }) Ub h5 h7 h6 hz λI fp ord St hh1 d1 hp hW st0 kp hI hfp=>?_)
  have RM:s.heap.objs.size∉fp:=λz=>by grind
  obtain ⟨o2,gP,hex2,_⟩:=Ub.at (h':=hh1) λo e=>kp a o e
  obtain ⟨i0,Uc⟩:=rE h2 hp
  have RL:ord.length<=sizeLine:=by rw [hp.length_eq]; simpa using hz
  have run:∀ (g:Heap) (c0:Nat),St 0 g->(∀ b o,b≠s.heap.objs.size->hh1.get? b=some o->g.get? b=some o)->g.get? s.heap.objs.size=some { cls:=.type "list",data:=.seq #[] c0 }->
    codeAny (model prog w) A (.builtin "list.extend.loop" ⟨[.ref s.heap.objs.size,.ref I,.ref s.heap.objs.size],[]⟩) (λq s'=>∃ (h':Heap) (tk:Nat) (d':Drawn) (acc:Array Value) (c':Nat) (ms:List Int),q=.ok (.ret (.ref s.heap.objs.size)) /\ s'={ s with heap:=h',toks:=tk,drawn:=d' } /\
     (∀ b o,s.heap.get? b=some o->h'.get? b=some o) /\ h'.get? s.heap.objs.size=some { cls:=.type "list",dict:=none,data:=.seq acc c',slots:=#[] } /\ IntsAre acc.toList ms /\ ms.Perm ns) { s with heap:=g,drawn:=d1 }:=by
   intro g c0 st k hg
   refine codeAny_extend_loopS (hW A.in1 hh).toS RL _ RM _ ord.length 0 _ #[] c0 rfl (abS _) st hg (ItemsOf.nil _) λs' wM c' mv F4 oQ=>?_
   obtain ⟨hx,gx,dx,tx,ox⟩:=s'
   have eg:=mv.gens
   have ed:dx=d1:=mv.drawn
   have eo:=mv.os
   subst eg ed eo
   have Y9:wM.toList=ord:=by
    refine List.ext_getElem? λj=>?_
    by_cases hj:j < wM.size
    .have q:=oQ.2 j _ (abP hj)
     rw [q]; simp [hj]
    .rw [abW (by simp; lia),abW (by rw [<- oQ.1]; lia)]
   refine ⟨hx,tx,dx,wM,c',i0,rfl,rfl,λb o e=>?_,F4,by rw [Y9]; exact Uc.1,Uc.2⟩
   have hb:=aaB e
   refine mv.heap b o ?_ (k b o (aaR hb) (kp b o (Pe b o e)))
   simp
   exact ⟨aaR hb,aaR (aaC hb (aa6 (by rw [RJ]; exact acC _) hI))⟩
  have hg1:=kp _ _ hL
  refine aaa (acm (IF ⟨o2,gP,hex2.1⟩ ?_))
  refine aaa (acP (aaa ?_))
  refine aaa (wpAny_updateSeq hg1 rfl ?_)
  have hg2:=abx (Obj.mapSeq (·.push Value.none)) hg1 rfl
  refine wpAny_updateSeq (hz:=by seq_fits) hg2 rfl ?_
  have hg3:=abx (Obj.mapSeq (·.pop)) hg2 rfl
  refine aay ⟨adI PySem.F.plain_extend_loop _,run _ _ ((hW A.in1 hh).frame 0 _ _ st0 λb hb o e=>?_) (λb o hb e=>?_) hg3⟩
  .have hbS:b≠s.heap.objs.size:=λz=>RM (z ▸ hb)
   exact (abN _ _ (acx hbS)).trans ((abN _ _ (acx hbS)).trans e)
  .exact (abN _ _ (acx hb)).trans ((abN _ _ (acx hb)).trans e)
 refine aa5 key (λfin s' x=>?_) λ_ _ z=>z.elim
 cases fin with
 | done f=>exact x.elim
 | again c₁=>
   refine ⟨x.1,ack x.2 λq oD y=>?_⟩
   obtain ⟨h',tk,d',acc,c',ms,rfl,rfl,hk,F4,i1,p1⟩:=y
   exact aaa (wpAny_load F4 (aay (h h' tk d' acc.toList ms hk (aaB F4) i1 p1)))
theorem tJ (hh:A.handled=none) (hS:mf prog w s.heap a (qo w) ns) (xC:ns.length < 64)
  (h:∀ (D:Addr) (h':Heap) (tk:Nat) (d':Drawn) (out:Array Value) (n:Nat) (ms:List Int),s.heap.objs.size<=D->(∀ b o,s.heap.get? b=some o->h'.get? b=some o)->h'.get? D=some (seqObj "list" out n)->IntsAre out.toList ms->ms.Perm ns->ms.Pairwise (·<=·)->Q (.ref D) { s with heap:=h',toks:=tk,drawn:=d' }):
  wpAny (model prog w) A (call (.builtin "sorted") [.ref a]) Q E s:=by
 refine call_function_entry kind_sorted plain_sorted entry_sorted (args_sorted1 _) ?_
 refine aaa (m:=checkCount "sorted" 1 1 _) (aay ?_)
 refine aaa (AQ (A:=A.in1) hh hS λh' tk d' vs ms hk hgr hi hp=>?_)
 have hl:vs.length=ns.length:=by rw [<- hp.length_eq,(eR.mp hi).2,aax]
 have hzl:vs.length<=sizeLine:=by rw [acU]; lia
 refine aaa (wpAny_newList ?_ hzl)
 have OJ:(h'.push (seqObj "list" vs.toArray 0)).get? h'.objs.size=some (seqObj "list" vs.toArray 0):=aaH _ rfl
 refine aaa (acm (ab2 slot_list_sort ⟨_,OJ,rfl⟩ entry_list_sort (list_sort_tree OJ hi (by lia) λout ms' a1 a2 a3=>⟨_,rfl,?_⟩) (args_list_sort _)))
 obtain ⟨en,Za⟩:=sortedHeap_at (out:=out) OJ
 refine aay ⟨_,rfl,h h'.objs.size _ tk d' out en ms' (abM hgr) (λb o e=>?_) Za a1 (a2.trans hp) a3⟩
 have hb:=aaB (hk b o e)
 rw [sortedHeap_old (aaR hb) (by rw [size_push']; exact abT hb)]
 exact aab _ (hk b o e)
end
end LS
namespace L2
open PySem PySem.Spec PyProof.Rows LS
def ins (x:Int):List Int->List Int
 | []=>[x]
 | y :: l=>if x < y then x :: y :: l else if x=y then y :: l else y :: ins x l
def ss:List Int->List Int
 | []=>[]
 | x :: l=>ins x (ss l)
set_option tactic.hygienic true in
theorem yC:∀ {l:List Int},z∈ins x l↔z=x \/ z∈l
 | []=>by simp [ins]
 | y :: l=>by
   rw [ins]
   split
   .simp
   .split
    .grind
    .simp only [aaG,yC]
     constructor
     .grind
     .grind
set_option tactic.hygienic true in
theorem uR:∀ {l:List Int},l.Pairwise (· < ·)->(ins x l).Pairwise (· < ·)
 | [],_=>by simp [ins]
 | y :: l,h=>by
   rw [abE] at h
   rw [ins]
   split
   .rename_i MI
    refine abE.mpr ⟨λz hz=>?_,abE.mpr h⟩
    rcases aaG.mp hz with e | e
    .grind
    .grind
   .split
    .simp_all
    .refine abE.mpr ⟨λz hz=>?_,uR h.2⟩
     rcases yC.mp hz with e | e
     .grind
     .grind
theorem Cz:∀ {l:List Int},z∈ss l↔z∈l
 | []=>by simp [ss]
 | x :: l=>by rw [ss,yC,Cz,aaG]
theorem iu:∀ {l:List Int},(ss l).Pairwise (· < ·)
 | []=>.nil
 | _ :: _=>uR iu
theorem uS:∀ {l m:List Int},l.Pairwise (· < ·)->m.Pairwise (· < ·)->(∀ z,z∈l↔z∈m)->l=m
 | [],[],_,_,_=>rfl
 | [],y :: m,_,_,h=>absurd ((h y).mpr aaD) (by simp)
 | x :: l,[],_,_,h=>absurd ((h x).mp aaD) (by simp)
 | x :: l,y :: m,hl,hm,h=>by
   rw [abE] at hl hm
   have e:x=y:=by
    rcases aaG.mp ((h x).mp aaD) with a | a
    .exact a
    .rcases aaG.mp ((h y).mpr aaD) with b | b
     .grind
     .grind
   subst e
   rw [uS hl.2 hm.2 λz=>⟨λhz=>?_,λhz=>?_⟩]
   .grind
   .grind
theorem Pf (hm:m.Pairwise (· < ·)) (h:∀ z,z∈m↔z∈l):ss l=m:=uS iu hm λz=>by rw [Cz,h]
section
variable {X:Cx} {pins:cq} {σ:St} {H:Hp} {s:Shared}
theorem Inv.drew (I:Inv X pins σ H s) (d':Drawn):Inv X pins σ H { s with drawn:=d' }:=
 I.step (d':=d') (g':=s.gens) (t':=s.toks) (ch:=[]) (λb hb=>by simp at hb) (λ_ _ _ _ _ e _=>e) (λb o _ _ _ e _=>⟨o.slots,e⟩) (λ_ _ _ _ n=>n) (λb o _ e=>⟨o,e⟩) (λ_ _ e=>e) (λ_ _ _ e=>e)
  (λb ps e=>⟨#[],by rw [e]; simp⟩) (λ_ h=>h) I.cm I.bare
def MJ (P:Program) (w:World) (a:Addr) (ns:List Int):HO:=.ext λh=>mf P w h a (qo w) ns
def Zb (P:Program) (w:World) (K:au):List V->Hp->VK->Prop:=λxs H Q=>∃ (p:Addr) (ms:List Int),xs=[.ref p] /\ (kB K H p (ms.map V.int) \/ k7 K H p (ms.map V.int)) /\ ms.length + 1 < scanBound /\
 ∀ (l:Addr) (ns:List Int),H l=none->(∀ x,x∈ns↔x∈ms)->ns.length<=ms.length->Q (.ref l) (upd H l (MJ P w l ns))
theorem F7 (hc:X.calm=true):fT X (.type "set") (Zb X.prog X.w X.K):=by
 intro pins s σ H xs us Q I r h
 obtain ⟨p,ms,rfl,hq,hb,q⟩:=h
 obtain ⟨u,rfl,rx⟩:=vals1 r
 cases rx
 have hh:=I.ok.hd hc
 have fin:∀ (h':Heap) (tk:Nat) (ns:List Int),mf X.prog X.w h' s.heap.objs.size (qo X.w) ns->(∀ x,x∈ns↔x∈ms)->ns.length<=ms.length->(∀ b o,s.heap.get? b=some o->h'.get? b=some o)->EP X pins σ Q (.ref s.heap.objs.size) { s with heap:=h',toks:=tk }:=λh' tk ns S m l k=>
  ⟨.ref s.heap.objs.size,_,I.laid (o:=MJ X.prog X.w s.heap.objs.size ns) k (aaF _) ⟨S,(let ⟨o,_,_,_,e,_⟩:=S; ⟨o,e⟩),λh1 h2 S1 kk=>S1.keeps kk⟩,rfl,q _ ns (I.cm.fresh (aaF _)) m l⟩
 rcases hq with hq | hq
 .obtain ⟨its,rv,pl,_⟩:=I.list hq
  have hi:=intsAre_of rv
  have hl:its.length=ms.length:=by rw [(eR.mp hi).2,aax]
  exact AN hh (src_list pl.isList) hi (by rw [aaI,hl]; exact hb) fin
 .obtain ⟨its,rv,pl,_⟩:=I.tuple hq
  have hi:=intsAre_of rv
  have hl:its.length=ms.length:=by rw [(eR.mp hi).2,aax]
  exact AN hh (src_tuple (show s.heap.IsTuple p its.toArray from pl)) hi (by rw [aaI,hl]; exact hb) fin
def IG (P:Program) (w:World):List V->Hp->VK->Prop:=λxs H Q=>∃ (p:Addr) (ns:List Int),xs=[.ref p] /\ H p=some (MJ P w p ns) /\ ns.length < 64 /\ ∀ (l:Addr) (out:List Int),H l=none->out.Pairwise (· < ·)->(∀ x,x∈out↔x∈ns)->Q (.ref l) (upd H l (.lst (out.map V.int)))
theorem AR:∀ {vs:cc} {ns:List Int},IntsAre vs ns->bg (ns.map V.int) vs
 | _,_,.nil=>.nil
 | _,_,.cons n t h=>.cons ⟨t,rfl⟩ (AR h)
theorem MK (h:mf prog w h a led ns):ns.Nodup:=by
 obtain ⟨_,_,_,_,_,_,_,_,_,z,_⟩:=h
 exact z
theorem yD (hc:X.calm=true):fT X (.builtin "sorted") (IG X.prog X.w):=by
 intro pins s σ H xs us Q I r h
 obtain ⟨p,ns,rfl,hp,xC,q⟩:=h
 obtain ⟨u,rfl,rx⟩:=vals1 r
 cases rx
 have hS:=(show cN X.prog X.w H s.heap p (MJ X.prog X.w p ns) from I.cm p _ hp).1
 have nd:=MK hS
 refine tJ (I.ok.hd hc) hS xC λD h' tk d' out n ms hD k e hi gf VQ=>?_
 have hl:=gf.length_eq
 have J:=(I.drew d').laid (t':=tk) (o:=.lst (ms.map V.int)) (h':=h') k hD ⟨by rw [List.length_map,sizeLine_eq]; lia,out.toList,n,AR hi,by simpa using e⟩
 refine ⟨.ref D,_,J,rfl,q D ms (I.cm.fresh hD) ?_ λx=>gf.mem_iff⟩
 have nd2:=gf.nodup_iff.mpr nd
 refine (List.Pairwise.and VQ nd2).imp λ{a b} VM=>?_
 lia
end
theorem RV:bootBuiltins "set"=some (.type "set"):=by decide +kernel
theorem xD:bootBuiltins "sorted"=some (.builtin "sorted"):=by decide +kernel
def uT:List D->Option (List Int)
 | []=>some []
 | .int i :: l=>(uT l).map (i :: ·)
 | _ :: _=>none
theorem xE:∀ (ns:List Int),uT (ns.map .int)=some ns
 | []=>rfl
 | n :: ns=>by rw [aaY,uT,xE ns]; rfl
theorem oR:∀ {l:List D} {ns:List Int},uT l=some ns->l=ns.map .int
 | [],_,h=>by cases h; rfl
 | d :: l,ns,h=>by
   cases d with
   | int i=>
     rw [uT] at h
     cases e:uT l with
     | none=>rw [e] at h; cases h
     | some m=>rw [e] at h; cases h; rw [oR e]; rfl
   | _=>cases h
def RW:D->dJ
 | .list l=>some l
 | .tuple l=>some l
 | _=>none
def RX (g:aF):cg:=λδ=>(g δ).bind λd=>(RW d).bind λl=>(uT l).bind λns=>if ns.length < 64 then some ((ss ns).map .int) else none
theorem cO.toInts {K:au} :∀ {ns:List Int} {xs:List V},cO K H xs (ns.map PyData.int)->xs=ns.map V.int
 | [],_,h=>by cases h; rfl
 | n :: ns,_,h=>by
   cases h with
   | cons a t=>cases a; rw [cO.toInts t]; rfl
set_option tactic.hygienic true in
theorem oS (h1:X.mg "sorted"=none) (h2:X.mg "set"=none) (he:PE X e (gm X.K O ge)) (hc:X.calm=true:=by rfl) (g1:Gl X "sorted":=by rfl) (g2:Gl X "set":=by rfl)
  (s1:starEach [Expr.Call (.Name "set" p2) [e] [] q2] X.env=(false,eval (Expr.Call (.Name "set" p2) [e] [] q2) X.env) :: starEach [] X.env:=by rfl) (s2:starEach [e] X.env=(false,eval e X.env) :: starEach [] X.env:=by rfl)
  (b1:(backTo q1 (starEach [] X.env)).any (·.1)=false:=by rfl) (b2:(backTo q2 (starEach [] X.env)).any (·.1)=false:=by rfl):
  PE X (.Call (.Name "sorted" p1) [.Call (.Name "set" p2) [e] [] q2] [] q1) (tN X.K O (RX ge)):=
 (mw (yD hc) g1 h1 xD (bE (rm (F7 hc) g2 h2 RV (bE he c6 s2) (by decide) (by decide) s2 b2) c6 s1) (by decide) (by decide) s1 b1).mono λσ H Q hh=>hh.e λU A0 δ ds R ed q=>by
  obtain ⟨d,e1,ed⟩:=bind1 ed
  obtain ⟨l,e2,ed⟩:=bind1 ed
  obtain ⟨ns,e3,ed⟩:=bind1 ed
  split at ed
  .rename_i xC
   cases ed
   refine ⟨U,A0,δ,d,R,e1,λv H1 s1 hv=>?_⟩
   have row:∃ p,v=.ref p /\ (kB X.K H1 p (ns.map V.int) \/ k7 X.K H1 p (ns.map V.int)):=by
    unfold RW at e2
    split at e2
    .cases e2
     obtain ⟨p,xs,rfl,r1,r2⟩:=hv.list
     rw [oR e3] at r2
     rw [<- r2.toInts]
     exact ⟨p,rfl,.inl r1.sq⟩
    .cases e2
     obtain ⟨p,xs,rfl,r1,r2⟩:=hv.tuple
     rw [oR e3] at r2
     rw [<- r2.toInts]
     exact ⟨p,rfl,.inr r1⟩
    .grind
   obtain ⟨p,rfl,RY⟩:=row
   refine ⟨p,ns,rfl,RY,by unfold scanBound; lia,λl1 ms Ud hm hle=>?_⟩
   refine ⟨l1,ms,rfl,cf,by lia,λl2 out FF hr Es=>?_⟩
   have eo:out=ss ns:=(Pf hr λz=>by rw [Es,hm]).symm
   subst eo
   refine q l2 _ _ (s1.trans ((cF Ud _).trans (cF FF _))) (s1.free ((cF Ud _).free FF)) cf (cO.ints _)
  .grind
end L2
namespace L2
open PySem PySem.Spec PyProof.Rows
section
variable {prog:Program} {w:World} {A:Around} {R:Result->Shared->Prop} {s:Shared}
theorem yE (I:Nat->Shared->Prop)
  (turn:∀ n s,I n s->wpAny (model prog w) A (pyNext it) (λr cu=>match r with
   | none=>R (.ok .next) cu
   | some v=>wpAny (model prog w) A (letOwnedTupleGo target it v) (λ_ oD=>wpAny (model prog w) A (assign target env v) (λ_ rq=>
     wpAny (model prog w) A (forIn ifs true λc r=>if r=true then do let ok <- isTrue c env (eval c env); pure (ForInStep.yield ok) else pure (ForInStep.yield r)) (λok CA=>
      if ok=true then wpAny (model prog w) A (eval elt env) (λx VR=>
       wpAny (model prog w) A (call (.builtin "list.append") [acc,x]) (λ_ VS=>∃ m,m < n /\ I m VS) (notedBy (model prog w) A env λe s'=>R (.error e) s') VR) (notedBy (model prog w) A env λe s'=>R (.error e) s') CA
      else ∃ m,m < n /\ I m CA) (notedBy (model prog w) A env λe s'=>R (.error e) s') rq) (notedBy (model prog w) A env λe s'=>R (.error e) s') oD) (notedBy (model prog w) A env λe s'=>R (.error e) s') cu) (notedBy (model prog w) A env λe s'=>R (.error e) s') s)
  (n:Nat) (h:I n s):codeAny (model prog w) A (.compLoop (.ListComp elt [⟨target,iter,ifs,0⟩] scope pos) 0 it acc env) R s:=by
 refine codeAny_loop rfl I (λn s hI=>?_) n h
 refine wpAny_noted ?_
 refine aaa (adH (aaa (aa5 (turn n s hI) (λr cu uB=>?_) λ_ _ z=>z)))
 cases r with
 | none=>exact aay uB
 | some v=>
   refine aaa (aa5 uB (λ_ oD yi=>aaa (aa5 yi (λ_ rq Rk=>aaa (aa5 Rk (λok CA VT=>?_) λ_ _ z=>z)) λ_ _ z=>z)) λ_ _ z=>z)
   cases ok with
   | false=>exact aay ⟨rfl,VT⟩
   | true=>exact aaa (aaa (aa5 VT (λx VR Zc=>aaa (aa5 Zc (λ_ VS Zd=>aay (aay ⟨rfl,Zd⟩)) λ_ _ z=>z)) λ_ _ z=>z))
end
def PF (X:Cx) (ifs:List Expr) (t:TT):Prop:=
 ∀ (pins:cq) (s:Shared) (σ:St) (H:Hp) (Q:Bool->Hp->Prop),Inv X pins σ H s->t σ H Q->
   wpAny (model X.prog X.w) X.A (forIn ifs true λc r=>if r=true then do let ok <- isTrue c X.env (eval c X.env); pure (ForInStep.yield ok) else pure (ForInStep.yield r)) (TP X pins σ Q) X.xe s
def Ze:TT:=λ_ H Q=>Q true H
theorem RZ:PF X [] Ze:=λ_ _ _ H _ I q=>aay ⟨H,I,q⟩
theorem uU (h:PT X c t):PF X [c] t:=λpins s σ H Q I q=>wpAny_tests_one (h pins s σ H Q I q)
section
variable {X:Cx}
structure ny (X:Cx) (scope:Scope) (xs:List Str) (ix:List Nat) (N':List Str):Prop where
 kind:scope.kind=.function
 rF:∀ y∈scope.names,y.2≠.cell
 names:∀ y∈scope.names,y.2=.local->scope.names.lookup y.1=some .local
 free:∀ y∈scope.names,y.2=.free->X.env.kindOf y.1=some .cell \/ X.env.kindOf y.1=some .free
 only:∀ n,(X.env.scope.kind=.function)->((relabel scope X.env).names.lookup n=some .cell \/ (relabel scope X.env).names.lookup n=some .free)->(n,NameKind.free)∈scope.names
 nm:N'=xs ++ ix.map λj=>X.N.getD j ""
 ixs:∀ j∈ix,j < X.N.length /\ (X.N.getD j "",NameKind.free)∈scope.names /\ ((relabel scope X.env).names.lookup (X.N.getD j "")=some .cell \/ (relabel scope X.env).names.lookup (X.N.getD j "")=some .free)
section
variable {scope:Scope} {xs:List Str} {ix:List Nat} {N':List Str} {cl:List (Str×Addr)} {C:Addr} {s2 s3:Shared} {H2:Hp} {fp:List Addr} {pins:cq} {σ:St}
theorem IH (S:ny X scope xs ix N') (I:Inv X pins σ H2 s2) (hC:s2.heap.objs.size<=C) (h1:∀ n c,cl.lookup n=some c->X.env.cells.lookup n=some c) (h2:∀ n,(n,NameKind.free)∈scope.names->∃ c,cl.lookup n=some c)
  (hf:∀ b∈fp,md X pins H2 b) (MN:∀ b∈fp,b < s2.heap.objs.size):(cQ X scope N' cl C s2 H2 fp pins).Ok where
 mod:=I.ok.mod
 kind:=by show (relabel scope X.env).kind=_; exact S.kind
 glob:=I.ok.glob
 blt:=I.ok.blt
 above:=hC
 inj:=λa b c e1 e2=>I.ok.inj a b c (h1 _ _ e1) (h1 _ _ e2)
 has:=λa h=>h2 a (S.only a I.ok.kind h)
 Ha:=λa c h=>by cases h
 hd:=I.ok.hd
 frames:=I.ok.frames
 LK:=.inl rfl
 Qw:=λb hb=>⟨aaR (aaC (MN b hb) hC),λa c e=>(hf b hb).2.2.2.2.1 a c (h1 _ _ e)⟩
 bs:=I.bs
 xY:=aa6 I.ok.xY I.sz
 wC:=λb o e hb=>by
  rcases (hf b hb).2.2.2.1 with z | z
  .exact I.ok.wC b o e z
  .have:=(I.ok.bs b o e).1
   exact absurd (aaC (aaB this) z) (abp _)
 xZ:=λb hb z=>by
  rcases aaG.mp (I.k8 b z) with e | e
  .exact (hf b hb).2.1 e
  .exact (hf b hb).2.2.1 e
 jH:=I.stack
 B1:=I.tV
theorem F8 (S:ny X scope xs ix N') (I:Inv X pins σ H2 s2) (hC:s2.heap.objs.size<=C) (h1:∀ n c,cl.lookup n=some c->X.env.cells.lookup n=some c) (h2:∀ n,(n,NameKind.free)∈scope.names->∃ c,cl.lookup n=some c)
  (hf:∀ b∈fp,md X pins H2 b) (MN:∀ b∈fp,b < s2.heap.objs.size) (VU:s3.os=s2.os) (hg:s3.gens=s2.gens) (k:∀ b o,s2.heap.get? b=some o->s3.heap.get? b=some o) (hn:s3.heap.Ns C m):
  Inv (cQ X scope N' cl C s2 H2 fp pins) [] (List.replicate xs.length none ++ wI ix σ) H2 s3 where
 ok:=IH S I hC h1 h2 hf MN
 os:=VU
 bare:=by rw [hg]; exact I.bare
 base:=⟨λb o e _ _ _=>k b o e,λb o e _ _ _=>⟨o.slots,k b o e⟩,λb o e n _=>n,λb o e _=>⟨o,k b o e⟩,λ_ _ e=>e,λ_ _ _ e=>e,λb ps e=>⟨#[],by rw [ad3]; exact e⟩⟩
 loc:=by
  refine ⟨m,hn,λi y v e1 e2 e3=>?_⟩
  by_cases hi:i < xs.length
  .rw [List.getElem?_append_left (by simpa using hi),List.getElem?_replicate,if_pos hi] at e2
   cases e2
  .have Ue:(wI ix σ)[i - xs.length]?=some (some v):=by rw [List.getElem?_append_right (by simp; lia)] at e2; simpa using e2
   obtain ⟨j,ej,es⟩:=HW Ue
   have Ug:N'[i]?=some y:=e1
   rw [S.nm,ab5 (by lia),aaU,ej] at Ug
   have ey:X.N.getD j ""=y:=abe Ug
   obtain ⟨hj,nY,hk⟩:=S.ixs j (aaP ej)
   obtain ⟨m0,hn0,hl0⟩:=I.loc
   have eN:X.N[j]?=some y:=by rw [<- ey,aaJ,aad hj]; rfl
   have kd:=S.free _ nY rfl
   have hv:UJ X.env.scope y:=by
    rw [<- ey]
    rcases kd with z | z
    .exact .inr (.inl z)
    .exact .inr (.inr z)
   obtain ⟨u,r,l⟩:=hl0 j y v eN es hv
   refine ⟨u,r,.inr ?_⟩
   rcases l with ⟨q,_⟩ | ⟨_,c,ec,z⟩
   .grind
   .obtain ⟨c',e'⟩:=h2 _ nY
    rw [ey] at e'
    have:=h1 _ _ e'
    rw [ec] at this; cases this
    obtain ⟨o,ho,hd⟩:=z
    exact ⟨by rw [<- ey]; exact hk,c,e',o,k c o ho,hd⟩
 cell:=λa c e=>by
  obtain ⟨v,o,ho,hd⟩:=I.cell a c (h1 _ _ e)
  exact ⟨v,o,k c o ho,hd⟩
 free:=I.cm.fresh hC
 gT:=λa c e=>I.gT a c (h1 _ _ e)
 pin:=λp hp=>by
  have Xy:p∈X.pn ++ pins:=by
   rcases abd.mp hp with z | z
   .exact z
   .grind
  obtain ⟨e,n,ne,nf,d⟩:=I.pin p Xy
  refine ⟨k _ _ e,n,aaR (aaC (aaB e) hC),λz=>?_,d⟩
  rcases aaG.mp (I.k8 _ z) with q | q
  .grind
  .grind
 cm:=I.cm.kept k
 len:=by
  show (List.replicate xs.length none ++ wI ix σ).length=N'.length
  rw [S.nm]
  unfold wI
  simp
end
def yF (J:It) (k:Nat) (ix:List Nat) (g:TG) (tc:TT) (te:TE) (σ:St) (H:Hp) (Q:VK):Prop:=∃ W:Nat->Nat->List V->St->Hp->Prop,(∃ m,W 0 m [] (List.replicate k none ++ wI ix σ) H) /\ ∀ i m ys τ H,W i m ys τ H->ys.length<=sizeLine /\
 ((J.stop i H /\ ∀ p,H p=none->Q (.ref p) (upd H p (.lst ys))) \/ (J.go i H /\ ys.length < sizeLine /\ ∀ v H',J.UY i H v H'->g v τ H' λG1 H2=>tc G1 H2 λb H3=>
   if b=true then te G1 H3 λy H4=>∃ m',m' < m /\ W (i + 1) m' (ys ++ [y]) G1 H4 else ∃ m',m' < m /\ W (i + 1) m' ys G1 H3))
def CD (wi:TI) (k:Nat) (ix:List Nat) (g:TG) (tc:TT) (te:TE):TE:=λσ H Q=>wi σ H λJ H1=>yF J k ix g tc te σ H1 Q
section
variable {scope:Scope} {xs:List Str} {ix:List Nat} {N':List Str} {elt iter tg:Expr} {ifs:List Expr} {pos:Pos} {wi:TI} {te:TE} {tc:TT} {g:TG}
structure CIn (X':Cx) (D:Addr) (fp:List Addr) (tn:Nat->Heap->Prop) (W:Nat->Nat->List V->St->Hp->Prop) (n:Nat) (s':Shared) (i:Nat) (ys:List V) (its:cc) (k:Nat) (dw:St) (H':Hp):Prop where
 I:Inv X' [(D,Ln its k)] dw H' s'
 st:tn i s'.heap
 fr:∀ b∈fp,H' b=none
 w:W i n ys dw H'
 rv:bg ys its
def VW (X':Cx) (D:Addr) (fp:List Addr) (tn:Nat->Heap->Prop) (W:Nat->Nat->List V->St->Hp->Prop) (n:Nat) (s':Shared):Prop:=∃ i ys its k dw H',CIn X' D fp tn W n s' i ys its k dw H'
theorem R4 {D:Addr} {P:Prop} (h:VW X' D fp tn W n s') (k:∀ i ys its k dw H',CIn X' D fp tn W n s' i ys its k dw H'->P):P:=by
 obtain ⟨_,_,_,_,_,_,t⟩:=h
 exact k _ _ _ _ _ _ t
theorem VX {P:Value->Prop} (h:LR gd X pins σ tg R OP s2) (k:∀ it fp tn J H',Inv X pins σ H' s2->Ho gd X.prog X.w X.K tg J fp it tn->tn 0 s2.heap->(∀ b∈fp,md X pins H' b)->R J H'->P (.ref it)):P OP:=by
 obtain ⟨it,fp,tn,J,H',rfl,a,b,c,d,e⟩:=h
 exact k it fp tn J H' a b c d e
theorem xF (S:ny X scope xs ix N') (hc:∀ cl C s2 H2 fp pins,gd (cQ X scope N' cl C s2 H2 fp pins)) (hg:∀ cl C s2 H2 fp pins,PG (cQ X scope N' cl C s2 H2 fp pins) tg g) (hf:∀ cl C s2 H2 fp pins,PF (cQ X scope N' cl C s2 H2 fp pins) ifs tc) (yG:∀ cl C s2 H2 fp pins,PE (cQ X scope N' cl C s2 H2 fp pins) elt te)
  (h:LR gd X pins σ tg (λJ H1=>yF J xs.length ix g tc te σ H1 Q) OP s2) (h1:∀ n c,cl.lookup n=some c->X.env.cells.lookup n=some c) (h2:∀ n,(n,NameKind.free)∈scope.names->∃ c,cl.lookup n=some c)
  
  (fin:∀ (D C:Addr) (H':Hp) (s1:Shared) (m:dG),s1.heap.Ns C m->H' C=none->X.gQ.heap.objs.size<=C->C≠X.env.locals->(∀ a c,X.env.cells.lookup a=some c->c≠C)->(∀ p∈X.pn ++ pins,p.1≠C)->(∀ h',Heap.SameBut C s1.heap h'->Inv X pins σ H' { s1 with heap:=h' })->Q (.ref D) H'->
   compPost (model X.prog X.w) X.A X.xe use QQ (.ref D) C (.ok .next) s1):
  wpAny (model X.prog X.w) X.A (newList []) (λacc rq=>wpAny (model X.prog X.w) X.A (newFunctionEnv scope X.env.globals cl [] X.env.qual none .none (some X.env)) (λII CA=>
   codeAny (model X.prog X.w) X.A (.compStart (.ListComp elt [⟨tg,iter,ifs,0⟩] scope pos) 0 OP acc { II with scope:=relabel scope X.env }) (compPost (model X.prog X.w) X.A X.xe use QQ acc II.locals) CA) X.xe rq) X.xe s2:=by
 refine VX (P:=λOP=>wpAny (model X.prog X.w) X.A (newList []) (λacc rq=>wpAny (model X.prog X.w) X.A (newFunctionEnv scope X.env.globals cl [] X.env.qual none .none (some X.env)) (λII CA=>
   codeAny (model X.prog X.w) X.A (.compStart (.ListComp elt [⟨tg,iter,ifs,0⟩] scope pos) 0 OP acc { II with scope:=relabel scope X.env }) (compPost (model X.prog X.w) X.A X.xe use QQ acc II.locals) CA) X.xe rq) X.xe s2) h λit fp tn J H1 I2 T dW f2 hR=>?_
 obtain ⟨W,⟨m0,w0⟩,turn⟩:=hR
 have MN:∀ b∈fp,b < s2.heap.objs.size:=λb hb=>by
  obtain ⟨o,e,_⟩:=T.obj _ _ dW b hb
  exact aaB e
 refine abR (wpAny_newFunctionEnv S.rF (by intro y hy; simp at hy) (λuB IJ CF=>?_) S.kind)
 generalize VY:s2.heap.push { cls:=.type "list",dict:=none,data:=.seq ([]:cc).toArray }=P2 at IJ CF ⊢
 have hC:P2.objs.size=s2.heap.objs.size + 1:=by rw [<- VY,acp]
 have Rp:s2.heap.objs.size≠P2.objs.size:=by rw [hC]; exact aaR (acn _)
 have CG:s2.heap.objs.size<=P2.objs.size:=by rw [hC]; exact acC _
 have below:∀ b,b < s2.heap.objs.size->b≠P2.objs.size:=λb hb=>by rw [hC]; exact aaR (abT hb)
 have old:=λb o e=>CF.extBut b o (below b (aaB e)) (aab _ (VY ▸ aab _ e))
 have oQ:=CF.extBut _ _ Rp (aab _ (VY ▸ aaH _ rfl))
 generalize P2.objs.size=C at *
 generalize IK:s2.heap.objs.size=D at *
 have neP:∀ p∈X.pn ++ pins,p.1≠D /\ p.1≠C:=λp hp=>by
  have:=aaB (I2.pin p hp).1
  rw [IK] at this
  exact ⟨aaR this,aaR (aaC this CG)⟩
 have DnF:=λhb=>abp _ (MN D hb)
 have CnF:C∉fp:=λhb=>absurd (aaC (MN C hb) CG) (abp _)
 have Pg:∀ a c,X.env.cells.lookup a=some c->c≠D /\ c≠C:=λa c e=>by
  obtain ⟨v,q⟩:=I2.cell a c e
  have:=q.lt
  rw [IK] at this
  exact ⟨aaR this,aaR (aaC this CG)⟩
 have Zf:X.env.locals < D:=by have:=I2.lt; rw [IK] at this; exact this
 have s0D:X.gQ.heap.objs.size<=D:=by rw [<- IK]; exact I2.sz
 have I3:=F8 (s3:={ s2 with heap:=uB,toks:=s2.toks + ([]:List (Str×Value)).length }) S I2 (by rw [IK]; exact CG) h1 h2 f2 (by rw [IK]; exact MN) rfl rfl old IJ
 have B5:∀ {H':Hp} {pp:cq},(∀ p∈pp,p.1∉fp)->(∀ b∈fp,H' b=none)->∀ b∈fp,md (cQ X scope N' cl C s2 H1 fp pins) pp H' b:=λ{H' pp} Xz hn b hb=>by
  obtain ⟨f0,f1,f3,f4,f5,f6⟩:=f2 b hb
  refine ⟨hn b hb,λz=>CnF (by rw [<- show b=C from z]; exact hb),λz=>?_,.inl hb,λa c e=>f5 a c (h1 _ _ e),λp hp=>?_⟩
  .rcases aaG.mp (I2.k8 b z) with q | q
   .grind
   .grind
  .rcases abd.mp hp with q | q
   .exact f6 p q
   .grind
 have DnS:∀ b,D<=b->b∉ke X.stack:=λb hb z=>by
  rcases aaG.mp (I2.k8 b z) with q | q
  .grind
  .exact I2.UK (by rw [IK]; exact hb) q
 have loop:∀ rq:Shared,rq={ s2 with heap:=uB,toks:=s2.toks + ([]:List (Str×Value)).length }->
   codeAny (model X.prog X.w) X.A (.compLoop (.ListComp elt [⟨tg,iter,ifs,0⟩] scope pos) 0 (.ref it) (.ref D) (compEnvC scope cl C X.env)) (compPost (model X.prog X.w) X.A X.xe use QQ (.ref D) C) rq:=by
  rintro rq rfl
  refine yE (VW (cQ X scope N' cl C s2 H1 fp pins) D fp tn W) ?_ m0
   ⟨0,[],[],0,_,H1,?_,T.keep _ _ _ dW (λb hb o e=>old b o e),λb hb=>(f2 b hb).1,w0,.nil⟩
  .refine λn s' z=>R4 z λi ys its k dw H' t=>?_
   have I:=t.I
   have st:=t.st
   have fr:=t.fr
   have rv:=t.rv
   obtain ⟨hz,w⟩:=turn i n ys dw H' t.w
   have Xz:∀ p∈[(D,Ln its k)],p.1∉fp:=λp hp=>by grind
   rcases w with ⟨stop,q⟩ | ⟨go,hz',step⟩
   .refine aa5 (T.done (cQ X scope N' cl C s2 H1 fp pins) rfl rfl rfl (hc _ _ _ _ _ _) i _ s' _ H' (λ_ _=>False) I (B5 Xz fr) st stop) (λr s1 hr=>?_) λ_ _ z=>z.elim
    obtain ⟨rfl,I1⟩:=hr
    obtain ⟨m,hn,_⟩:=I1.loc
    have p1:=I1.pin (D,Ln its k) (aaN _ aaD)
    have fC:=I1.free
    refine fin D C (upd H' D (.lst ys)) s1 m hn (by rw [aN (acx Rp)]; exact fC) (aa6 s0D CG) (acy (aaC Zf CG)) (λa c e=>(Pg a c e).2) (λp hp=>(neP p hp).2) (λh' hs=>?_) (q D p1.2.1)
    exact FL (N':=N') I2 (by rw [IK]; exact CG) (by rw [IK]; exact aaF _) f2 I1 rv hz hs Rp
   .refine aa5 (T.item (cQ X scope N' cl C s2 H1 fp pins) rfl rfl rfl (hc _ _ _ _ _ _) i _ s' _ H' (λ_ _=>False) I (B5 Xz fr) st go) (λr s4 hr=>?_) λ_ _ z=>z.elim
    obtain ⟨u,rfl,h4⟩:=hr
    refine aa5 h4 (λ_ s5 h5=>?_) λ_ _ z=>z.elim
    obtain ⟨v,H5,I5,r5,y5,OQ,Yv⟩:=h5
    have Yw:=I5.pinned (B5 Xz Yv) (T.obj _ _ OQ)
    refine aa5 (hg cl C s2 H1 fp pins _ s5 dw H5 v u _ Yw r5 (step v H5 y5)) (λ_ s6 h6=>?_) λ_ _ z=>z.elim
    obtain ⟨G1,H6,I6,q6⟩:=h6
    have gone:∀ {τ:St} {H9:Hp} {s9:Shared},Inv (cQ X scope N' cl C s2 H1 fp pins) ([(D,Ln its k)] ++ rg fp s5.heap) τ H9 s9->tn (i + 1) s9.heap /\ ∀ b∈fp,H9 b=none:=λ{τ H9 s9} I9=>
     ⟨T.keep _ _ _ OQ λb hb o e=>(I9.pin (b,o) (aaN _ (aaN _ (ij hb e)))).1,λb hb=>by
      obtain ⟨o,e,d⟩:=T.obj _ _ OQ b hb
      exact (I9.pin (b,o) (aaN _ (aaN _ (ij hb e)))).2.1⟩
    refine aa5 (hf cl C s2 H1 fp pins _ s6 G1 H6 _ I6 q6) (λok s6' h6'=>?_) λ_ _ z=>z.elim
    obtain ⟨H6',XA,q6'⟩:=h6'
    cases ok with
    | false=>
      obtain ⟨m',Zg,w7⟩:=q6'
      obtain ⟨g1,g2⟩:=gone XA
      exact ⟨m',Zg,i + 1,ys,its,k,G1,H6',XA.nh λp hp=>XA.pin p (aaN _ (abB _ hp)),g1,g2,w7,rv⟩
    | true=>
    refine aa5 (yG cl C s2 H1 fp pins _ s6' G1 H6' _ XA q6') (λy s7 h7=>?_) λ_ _ z=>z.elim
    obtain ⟨yv,H7,I7,r7,m',Zg,w7⟩:=h7
    have p7:=I7.pin (D,Ln its k) (aaN _ (abB _ aaD))
    have hl:=rv.length
    refine adB abi ⟨_,p7.1,rfl⟩ F.entry_list_append (F.args_list_append_2 _ _) (PySem.list_append D its.toArray k y (by rw [aaI]; lia)) ⟨p7.1,?_⟩
    have q:=PySem.IsL.update p7.1 (·.push y)
    have Ph:∀ b o,b≠D->s7.heap.get? b=some o->(s7.heap.update D (Obj.mapSeq (·.push y))).get? b=some o:=λb o hb e=>(abN s7.heap _ (acx hb)).trans e
    have I8:=I7.nh λp hp=>I7.pin p (aaN _ (aaN _ hp))
    have I9:Inv (cQ X scope N' cl C s2 H1 fp pins) (rg fp s5.heap) G1 H7 { s7 with heap:=s7.heap.update D (Obj.mapSeq (·.push y)) }:=I8.turned (t':=s7.toks) (it:=D) Ph p7.2.1 Rp (.inr (by show s2.heap.objs.size<=D; rw [IK]; exact aaF _)) (λa c e=>(Pg a c (h1 _ _ e)).1) λp hp z=>by
     rcases abd.mp hp with z' | z'
     .exact (neP p z').1 z
     .exact DnF (by rw [<- z]; exact (xg z').1)
    refine ⟨m',Zg,i + 1,ys ++ [yv],its ++ [y],(if (its.toArray.push y).size == its.toArray.size then k else k + 1),G1,H7,I9.nh (pins':=[(D,Ln (its ++ [y]) ((if (its.toArray.push y).size == its.toArray.size then k else k + 1)))]) λp hp=>?_,T.keep _ _ _ OQ λb hb o e=>?_,λb hb=>?_,w7,rv.append (.cons r7 .nil)⟩
    .grind
    .have pb:=I7.pin (b,o) (aaN _ (aaN _ (ij hb e)))
     exact Ph b o (λz=>DnF (by rw [<- z]; exact hb)) pb.1
    .grind
  .exact I3.nh λp hp=>by
    have e:p=(D,Ln [] 0):=by simpa using hp
    subst e
    exact ⟨oQ,I2.cm.fresh (by rw [IK]; exact aaF _),Rp,DnS D (aaF _),λv z=>by cases z⟩
 exact codeAny_compStart_list (loop _ rfl) (T.self _ 0 _ _ _ (T.keep _ _ _ dW λb hb o e=>old b o e) (loop _ rfl))
theorem F9 (S:ny X scope xs ix N') (hc:∀ cl C s2 H2 fp pins,gd (cQ X scope N' cl C s2 H2 fp pins)) (hi:Yt gd X tg iter wi) (hg:∀ cl C s2 H2 fp pins,PG (cQ X scope N' cl C s2 H2 fp pins) tg g) (hf:∀ cl C s2 H2 fp pins,PF (cQ X scope N' cl C s2 H2 fp pins) ifs tc) (yG:∀ cl C s2 H2 fp pins,PE (cQ X scope N' cl C s2 H2 fp pins) elt te)
  (hs:∀ x,foldedSetIterable iter X.env x=pure x):PE X (.ListComp elt [⟨tg,iter,ifs,0⟩] scope pos) (CD wi xs.length ix g tc te):=by
 intro pins s σ H Q I h
 obtain ⟨cl,qp,h1,h2⟩:=oG (scope:=scope) (env:=X.env) (λy hy hk=>I.ok.has y.1 (S.free y hy hk))
 refine wpAny_comprehension_free (use:=none) rfl hs qp S.kind S.names (aa5 (hi pins s σ H _ I h) (λxv cu uB=>aa5 uB (λit oD yi=>?_) λ_ _ e=>e) λ_ _ e=>e)
 exact xF S hc hg hf yG yi h1 h2 λD C H' s1 m hn fC c1 c2 c3 c4 hI q=>⟨m,hn,λh' oj=>⟨.ref D,H',hI h' oj,rfl,q⟩⟩
theorem Ga (S:ny X scope xs ix N') (hc:∀ cl C s2 H2 fp pins,gd (cQ X scope N' cl C s2 H2 fp pins)) (hi:Yt gd X tg iter wi) (hg:∀ cl C s2 H2 fp pins,PG (cQ X scope N' cl C s2 H2 fp pins) tg g) (hf:∀ cl C s2 H2 fp pins,PF (cQ X scope N' cl C s2 H2 fp pins) ifs tc) (yG:∀ cl C s2 H2 fp pins,PE (cQ X scope N' cl C s2 H2 fp pins) elt te)
  (hs:∀ x,foldedSetIterable iter X.env x=pure x) (Zh:X.N.Nodup) (Uc:X.N[i]?=some y) (hy:X.env.scope.names.lookup y=some .local) (Zi:swapsWith (.ListComp elt [⟨tg,iter,ifs,0⟩] scope pos) (some (.Name y py)) spos.line X.env=pure true):
  PS X (.Assign [.Name y py] (.ListComp elt [⟨tg,iter,ifs,0⟩] scope pos) spos) (uv (CD wi xs.length ix g tc te) (kL i)):=by
 intro pins s σ H D I h
 obtain ⟨cl,qp,h1,h2⟩:=oG (scope:=scope) (env:=X.env) (λy hy hk=>I.ok.has y.1 (S.free y hy hk))
 rw [exec_Assign_Name_used _ _ _ _ Zi]
 refine aaa (adH (aaa ?_))
 refine aaa (aa5 (wpAny_comprehension_free (use:=some (assign (.Name y py) X.env)) (Q:=λ_ s'=>SP X pins D .next s') rfl hs qp S.kind S.names
  (aa5 (hi pins s σ H _ I h) (λxv cu uB=>aa5 uB (λit oD yi=>?_) λ_ _ e=>e) λ_ _ e=>e)) (λ_ s' hq=>aay (aay hq)) λ_ _ e=>e)
 refine xF S hc hg hf yG yi h1 h2 λA C H' s1 m hn fC c1 c2 c3 c4 hI q=>?_
 have I1:=hI s1.heap (.refl ..)
 refine wpAny_assign_Name (xf I1 Zh Uc (.inl hy) (show RelV (.ref A) (.ref A) from rfl) (λs3 I3 ch=>?_) (.inr hy))
 obtain ⟨a,VU,ha⟩:=ch
 have hCa:C≠a:=by grind
 refine ⟨m,hn.sameBut VU hCa,λh' oj=>?_⟩
 exact ⟨_,H',I3.turned (t':=s3.toks) (it:=C) (λb o hb e=>(oj.2 b hb).trans e) fC c2 (.inr c1) c3 c4,q⟩
end
def qr (sc scope:Scope) (N:List Str) (xs:List Str) (ix:List Nat) (N':List Str):Bool:=
 (scope.kind == .function) && scope.names.all (λy=> !(y.2 == .cell)) && scope.names.all (λy=> !(y.2 == .local) || (scope.names.lookup y.1 == some .local))
 && scope.names.all (λy=> !(y.2 == .free) || (sc.names.lookup y.1 == some .cell || sc.names.lookup y.1 == some .free))
 && (Mm sc scope).all (λy=> !(y.2 == .cell || y.2 == .free) || scope.names.any (λz=>z.1 == y.1 && z.2 == .free))
 && (N' == xs ++ ix.map λj=>N.getD j "") && ix.all (λj=>decide (j < N.length) && scope.names.any (λz=>z.1 == N.getD j "" && z.2 == .free) && ((Mm sc scope).lookup (N.getD j "") == some .cell || (Mm sc scope).lookup (N.getD j "") == some .free))
theorem uV (h:qr sc scope N xs ix N'=true) (e1:X.env.scope=sc) (e2:X.N=N):ny X scope xs ix N':=by
 subst e1 e2
 unfold qr at h
 simp only [aaS,adE,Bool.or_eq_true,aci,List.any_eq_true,abo,adC,ac3] at h
 obtain ⟨⟨⟨⟨⟨⟨a1,a2⟩,a3⟩,a5⟩,a6⟩,a7⟩,a8⟩:=h
 refine ⟨a1,a2,λy hy hk=>(a3 y hy).elim (λz=>absurd hk z) id,λy hy hk=>(a5 y hy).elim (λz=>absurd hk z) id,λn _ hn=>?_,a7,λj hj=>?_⟩
 .have:∃ k,(n,k)∈Mm X.env.scope scope /\ (k=NameKind.cell \/ k=NameKind.free):=by
   rcases hn with z | z
   .exact ⟨_,lookup_mem z,.inl rfl⟩
   .exact ⟨_,lookup_mem z,.inr rfl⟩
  obtain ⟨k,hk,O9⟩:=this
  rcases a6 (n,k) hk with z | ⟨z,hz,e1,e2⟩
  .grind
  .grind
 .obtain ⟨⟨b1,⟨z,hz,e1,e2⟩⟩,b3⟩:=a8 j hj
  refine ⟨b1,?_,b3⟩
  obtain ⟨z1,z2⟩:=z
  cases e2
  have Ug:=e1
  rw [<- Ug]; exact hz
end
end L2
namespace L2
open PySem PySem.Spec PyProof.Rows LS
def rG (f:D->Option (Option D)):List D->dJ
 | []=>some []
 | d :: ds=>(f d).bind λo=>(rG f ds).bind λxs=>some (match o with | some x=>x :: xs | none=>xs)
def d9 (gi:cg) (k:Nat) (ix:List Nat) (gt:D->DS->Option DS) (gc:me) (ge:aF):cg:=λδ=>(gi δ).bind λds=>if ds.length<=100000 then
 rG (λd=>(gt d (List.replicate k none ++ gU ix δ)).bind λfG=>(gc fG).bind λb=>if b=true then (ge fG).map some else some none) ds else none
def Uh (k:Nat) (gt:D->DS->Option DS):Prop:=∀ d c fG,gt d (List.replicate k none ++ c)=some fG->∃ own:DS,own.length=k /\ fG=own ++ c
theorem qt:Uh 1 (aP 0):=λd c fG h=>by cases h; exact ⟨[some d],rfl,rfl⟩
set_option tactic.hygienic true in
theorem VZ:Uh 2 (iR 2 (cD (aP 0) (cD (aP 1) jf))):=λd c fG h=>by
 unfold iR at h
 split at h
 .split at h
  .rename_i ds hl
   match ds,hl with
   | [a,b],_=>cases h; exact ⟨[some a,some b],rfl,rfl⟩
  .cases h
 .cases h
section
variable {K:au} {O:List Nat} {U A0:List Addr} {σ:St} {δ:DS} {H H1:Hp}
theorem Rel.weak (R:Rel K [] U A0 σ (own ++ c) H):Rel K [] U A0 σ (List.replicate own.length none ++ c) H where
 len:=by rw [R.len]; simp
 fz:=λi e hi q=>by
  by_cases h:i < own.length
  .rw [List.getElem?_append_left (by simpa using h),List.getElem?_replicate,if_pos h] at q
   cases q
  .refine R.fz i e hi ?_
   rw [List.getElem?_append_right (by simpa using h)] at q
   rw [ab5 (by lia)]
   simpa using q
 ow:=λi e hi=>by simp at hi
 inj:=λi j d e l hi=>by simp at hi
 al:=R.al
theorem Rel.V0 (R:Rel K O U A0 σ δ H) (k:Nat) (CH:∀ j∈ix,j∉O):Rel K [] U A0 (List.replicate k none ++ L2.wI ix σ) (List.replicate k none ++ gU ix δ) H where
 len:=by simp [L2.wI,gU]
 fz:=λi e _ q=>by
  by_cases h:i < k
  .rw [List.getElem?_append_left (by simpa using h),List.getElem?_replicate,if_pos h] at q
   cases q
  .rw [List.getElem?_append_right (by simpa using h)] at q ⊢
   simp only [acu] at q ⊢
   unfold gU at q
   unfold L2.wI
   rw [aaU] at q ⊢
   cases ei:ix[i - k]? with
   | none=>rw [ei] at q; cases q
   | some j=>
     rw [ei] at q
     simp only [acS,Option.some.injEq] at q
     obtain ⟨u,hu,hd⟩:=R.fz j e (CH j (aaP ei)) (join_some q)
     exact ⟨u,by simp [hu],hd⟩
 ow:=λi e hi=>by simp at hi
 inj:=λi j d e l hi=>by simp at hi
 al:=R.al
structure CB (K:au) (U A0:List Addr) (H1:Hp) (ds xs:List D) (F:D->Option (Option D)) (base:DS) (i:Nat) (ys:List V) (τ:St) (H2:Hp) (zs rest:List D):Prop where
 le:i<=ds.length
 s:aG H1 H2
 R:Rel K [] U A0 τ base H2
 yl:ys.length<=i
 hz:cO K (wo H2 (U ++ A0)) ys zs
 he:rG F (ds.drop i)=some rest
 hx:zs ++ rest=xs
def CBW (K:au) (U A0:List Addr) (H1:Hp) (ds xs:List D) (F:D->Option (Option D)) (base:DS) (i m:Nat) (ys:List V) (τ:St) (H2:Hp):Prop:=m=ds.length - i /\ ∃ zs rest,CB K U A0 H1 ds xs F base i ys τ H2 zs rest
theorem Gb (own:Uh k gt) (R:Rel K O U A0 σ δ H) (s:aG H H1) (CH:∀ j∈ix,j∉O) (hw:WalksS K (U ++ A0) H1 J ds)
  (hl:ds.length<=100000) (e:rG (λd=>(gt d (List.replicate k none ++ gU ix δ)).bind λfG=>(gc fG).bind λb=>if b=true then (ge fG).map some else some none) ds=some xs)
  (q:∀ r ys H',aG H H'->H r=none->H' r=some (.lst ys)->cO K (wo H' (r :: (U ++ A0))) ys xs->Q (.ref r) H'):yF J k ix (tG K [] gt) (tT K [] gc) (tE K [] ge) σ H1 Q:=by
 have big:(100000:Nat) < sizeLine:=by decide
 obtain ⟨F,hF⟩:∃ F:D->Option (Option D),F=λd=>(gt d (List.replicate k none ++ gU ix δ)).bind λfG=>(gc fG).bind λb=>if b=true then (ge fG).map some else some none:=⟨_,rfl⟩
 rw [<- hF] at e
 refine ⟨CBW K U A0 H1 ds xs F (List.replicate k none ++ gU ix δ),⟨ds.length,rfl,[],xs,abS _,aG.refl _,(R.same s).V0 k CH,aaF _,.nil,e,rfl⟩,?_⟩
 rintro i m ys τ H2 ⟨rfl,zs,rest,w⟩
 have hle:=w.le
 have Ua:=w.yl
 have he:=w.he
 refine ⟨by lia,?_⟩
 obtain ⟨YS,Ip⟩:=hw i H2 w.s
 by_cases i9:i < ds.length
 .obtain ⟨go,hyd⟩:=YS _ (aad i9)
  rw [acY i9,rG] at he
  generalize ds[i]=d at hyd he
  obtain ⟨o,e1,e2⟩:=bind1 he
  obtain ⟨rs,e3,e4⟩:=bind1 e2
  rw [hF] at e1
  obtain ⟨fG,f1,f2⟩:=bind1 e1
  obtain ⟨b,f3,f4⟩:=bind1 f2
  obtain ⟨qt,ol,oe⟩:=own d _ fG f1
  refine .inr ⟨go,by lia,λv H3 y=>?_⟩
  obtain ⟨s3,hv⟩:=hyd v H3 y
  refine ⟨U,A0,_,d,fG,w.R.same s3,hv,f1,λG1 R3=>⟨U,A0,fG,b,R3,f3,λH4 s4=>?_⟩⟩
  have wk:∀ {H':Hp},aG H3 H'->Rel K [] U A0 G1 (List.replicate k none ++ gU ix δ) H':=λ{H'} s'=>by
   rw [<- ol]
   rw [oe] at R3
   exact (R3.same s').weak
  have lt:=Nat.sub_lt_sub_left i9 (acn i)
  cases b with
  | true=>
    cases eg:ge fG with
    | none=>rw [eg] at f4; cases f4
    | some x=>
      rw [eg] at f4; cases f4
      cases e4
      exact ⟨U,A0,fG,x,R3.same s4,eg,λu H5 s5 hu=>⟨_,lt,rfl,zs ++ [x],rs,i9,((w.s.trans s3).trans s4).trans s5,wk (s4.trans s5),by rw [aa7]; exact Nat.succ_le_succ Ua,(w.hz.same (cB ((s3.trans s4).trans s5))).app (.cons hu .nil),e3,by rw [<- w.hx,aeo]; rfl⟩⟩
  | false=>
    cases f4
    cases e4
    exact ⟨_,lt,rfl,zs,rs,i9,(w.s.trans s3).trans s4,wk s4,Nat.le_succ_of_le Ua,w.hz.same (cB (s3.trans s4)),e3,w.hx⟩
 .have hi:i=ds.length:=Nat.le_antisymm hle (aeA i9)
  subst hi
  rw [List.drop_length,rG] at he
  cases he
  have hx:=w.hx
  rw [abh] at hx
  subst hx
  exact .inl ⟨Ip rfl,λp hp=>uF (s.trans w.s) q p ys hp w.hz⟩
end
section
variable {X:Cx} {O:List Nat} {fr:Fr} {scope:Scope} {elt iter tg:Expr} {ifs:List Expr} {pos:Pos} {gi:cg} {ge:aF} {gt:D->DS->Option DS} {gc:me} {k:Nat}
theorem PF.mono (h:PF X ifs t) (m:∀ σ H Q,t' σ H Q->t σ H Q):PF X ifs t':=λpins s σ H Q I q=>h pins s σ H Q I (m σ H Q q)
theorem iL:PF X [] (tT X.K O λ_=>some true):=RZ.mono λσ H Q hh=>hh.e λU A0 δ b R e q=>by cases e; exact q H (aG.refl H)
set_option tactic.hygienic true in
theorem AS {K:au} (own:Uh k gt) (CH:∀ j∈ix,j∉O) :tN K O (d9 gi k ix gt gc ge) σ H Q->CD (RK K O gi) k ix (tG K [] gt) (tT K [] gc) (tE K [] ge) σ H Q:=λ⟨U,A0,δ,xs,R,ed,q⟩=>by
 obtain ⟨ds,e1,e2⟩:=bind1 ed
 split at e2
 .rename_i hl
  exact ⟨U,A0,δ,ds,R,e1,λJ H1 s hw=>Gb own R s CH hw hl e2 q⟩
 .grind
theorem eS (sc:Scope) (N:List Str) (ix:List Nat) (N' xs:List Str) (own:Uh k gt) (hi:PI X tg iter (RK X.K O gi)) (hg:∀ cl C s2 H2 fp pins,PG (cQ X scope N' cl C s2 H2 fp pins) tg (tG X.K [] gt)) (hf:∀ cl C s2 H2 fp pins,PF (cQ X scope N' cl C s2 H2 fp pins) ifs (tT X.K [] gc))
  (yG:∀ cl C s2 H2 fp pins,PE (cQ X scope N' cl C s2 H2 fp pins) elt (tE X.K [] ge)) (CH:∀ j∈ix,j∉O:=by decide) (hk:qr sc scope N xs ix N'=true:=by decide +kernel) (hl:xs.length=k:=by rfl)
  (e1:X.env.scope=sc:=by rfl) (e2:X.N=N:=by rfl) (hc:X.calm=true:=by rfl) (hs:∀ x,foldedSetIterable iter X.env x=pure x:=by intro _; rfl):PE X (.ListComp elt [⟨tg,iter,ifs,0⟩] scope pos) (tN X.K O (d9 gi k ix gt gc ge)):=by
 subst hl
 exact (F9 (gd:=Ap) (uV hk e1 e2) (λ_ _ _ _ _ _=>hc) hi hg hf yG hs).mono λ_ _ _=>AS own CH
theorem uW (sc:Scope) (N:List Str) (ix:List Nat) (N' xs:List Str) (Zh:X.N.Nodup) (Uc:X.N[i]?=some y) (hy:X.env.scope.names.lookup y=some .local) (own:Uh k gt) (hi:PI X tg iter (RK X.K O gi))
  (hg:∀ cl C s2 H2 fp pins,PG (cQ X scope N' cl C s2 H2 fp pins) tg (tG X.K [] gt)) (hf:∀ cl C s2 H2 fp pins,PF (cQ X scope N' cl C s2 H2 fp pins) ifs (tT X.K [] gc)) (yG:∀ cl C s2 H2 fp pins,PE (cQ X scope N' cl C s2 H2 fp pins) elt (tE X.K [] ge))
  (CH:∀ j∈ix,j∉O:=by decide) (hk:qr sc scope N xs ix N'=true:=by decide +kernel) (hl:xs.length=k:=by rfl)
  (e1:X.env.scope=sc:=by rfl) (e2:X.N=N:=by rfl) (hc:X.calm=true:=by rfl) (hs:∀ x,foldedSetIterable iter X.env x=pure x:=by intro _; rfl) (Zi:swapsWith (.ListComp elt [⟨tg,iter,ifs,0⟩] scope pos) (some (.Name y py)) spos.line X.env=pure true:=by rfl):
  PS X (.Assign [.Name y py] (.ListComp elt [⟨tg,iter,ifs,0⟩] scope pos) spos) (uv (tN X.K O (d9 gi k ix gt gc ge)) (kL i)):=by
 subst hl
 exact (Ga (gd:=Ap) (uV hk e1 e2) (λ_ _ _ _ _ _=>hc) hi hg hf yG hs Zh Uc hy Zi).mono λ_ _ _ h=>AS own CH h
end
section
variable {X:Cx}
def CI (K:au):R2:=λx y H Q=>∃ a b ys,x=.ref a /\ y=.ref b /\ k7 K H a [] /\ k7 K H b ys /\ Q (.ref b) H
theorem IL:gS X (binaryOp .Add) (CI X.K):=by
 intro pins s σ H x y v u Q I rx ry h
 obtain ⟨a,b,ys,rfl,rfl,ha,hb,q⟩:=h
 cases rx
 cases ry
 obtain ⟨its,r1,p1,_⟩:=I.tuple ha
 obtain ⟨wG,r2,p2,_⟩:=I.tuple hb
 have e:=r1.tY.mpr rfl
 subst e
 obtain ⟨⟨c1,d1,dt1,sl1⟩,ho,hc,n,hd⟩:=id p1
 obtain ⟨⟨c2,d2,dt2,Q0⟩,gP,U8,n2,hd2⟩:=id p2
 subst hc hd U8 hd2
 exact concat_meets ⟨_,ho,rfl⟩ ⟨_,gP,rfl⟩ noFill_tuple_add seq_tuple_add adq adl (ac8 _ _) (tuple_addW0 a b #[] wG.toArray n n2 d1 d2 sl1 Q0 (by simp)) ⟨ho,gP,⟨.ref b,H,I,rfl,q⟩⟩
end
def bD (a b:D):Option D:=match a,b with
 | .tuple [],.tuple l=>some (.tuple l)
 | a,b=>Ie a b
theorem aX:gS X (binaryOp .Add) (λx y H Q=>Ej X.K x y H Q \/ CI X.K x y H Q):=Mr.or IL
theorem aM {K:au}:gR K (λx y H Q=>Ej K x y H Q \/ CI K x y H Q) bD:=by
 intro A H x y dx dy d Q al hx hy e q
 unfold bD at e
 split at e
 .cases e
  have hf:=hy.fz
  obtain ⟨a,xs,rfl,h1,h2⟩:=hx.tuple
  obtain ⟨b,zs,rfl,h3,h4⟩:=hy.tuple
  cases h2
  exact .inr ⟨a,b,zs,rfl,rfl,h1,h3,q _ H (aG.refl H) hf⟩
 .exact .inl (Ms A H x y _ _ d Q al hx hy e q)
def V1 (K:au) (a:Addr):It:=
 ⟨λi H=>∃ xs x,k7 K H a xs /\ xs[i]?=some x,λi H x H'=>∃ p v,H p=none /\ x=.ref p /\ H'=upd H p (.tup [.int i,v]) /\ ∀ xs,k7 K H a xs->xs[i]?=some v,λi H=>∃ xs,k7 K H a xs /\ xs.length=i⟩
theorem CJ {K:au} (a e it:Addr) (jE:e≠it):Turn P w K (.Tuple es kk ma) (V1 K a) [e,it] e (λi h=>(∃ old,IsEnum h e it i old) /\ h.IsTupleIter it a i) where
 mem:=by simp
 obj:=λi h st b hb=>by
  obtain ⟨⟨old,he⟩,o,ho,c,d⟩:=st
  rcases aaG.mp hb with z | z
  .grind
  .grind
 keep:=λi h h' st k=>by
  obtain ⟨⟨old,he⟩,dW⟩:=st
  exact ⟨⟨old,k e (by simp) _ he⟩,dW.at λo eo=>k it (by simp) o eo⟩
 item:=by
  intro X hP hw hK hc i pins s σ H E I hf st hg
  subst hP hw hK
  obtain ⟨xs,x,hq,hx⟩:=hg
  obtain ⟨its,rv,p,hz⟩:=I.tuple hq
  obtain ⟨u,hu,ru⟩:=rv.get hx
  obtain ⟨⟨old,he⟩,dW⟩:=st
  have hp:=p
  have Zj:e≠a:=λz=>by
   obtain ⟨o,ho,qp,_⟩:=hp
   rw [<- z] at ho
   have:=ho.symm.trans he
   cases this
   exact absurd (acN qp) (by decide)
  have R5:a≠it:=λz=>by
   obtain ⟨o,ho,qp,_⟩:=hp
   obtain ⟨o2,gP,uX,_⟩:=dW
   rw [z] at ho
   have:=ho.symm.trans gP
   cases this
   rw [qp] at uX
   exact absurd (acN uX) (by decide)
  have Ui:i < its.toArray.size:=by grind
  refine wpAny_pyNext_enum_itemD (kj (A:=X.A.in1) (I.ok.hd hc) it a R5 its.toArray) he ⟨dW,hp⟩ Ui jE (by simp [jE,Zj]) λy h1 tk hy G9 IM VF RJ Lr=>?_
  have Zk:y=u:=by grind
  subst Zk
  refine ⟨_,rfl,acV G9 λh2 Il og=>?_⟩
  have VG:=aaB he
  have I1:Inv X pins σ H { s with heap:=h2,toks:=tk + 1 }:=I.gW (t':=tk + 1) (ch:=[e,it]) (λb o hb eo=>by
   simp at hb
   exact (og.2 b hb.1).trans (Lr b o hb.1 hb.2 eo)) hf
  have MC:IsTup h2 s.heap.objs.size [Value.int i tk,y].toArray:=⟨_,(og.2 _ (acy VG)).trans VF,rfl,_,rfl⟩
  have nY:=I.cm.fresh (aaF _)
  have fo:=I.pY (H':=H) (aaF _) nY
  have I2:Inv X pins σ (upd H s.heap.objs.size (.tup [.int i,x])) { s with heap:=h2,toks:=tk + 1 }:=I1.yx nY (aa6 I.sz (aaF _)) fo.2.1 fo.2.2.2.2.1 fo.2.2.2.2.2 MC (.cons ⟨_,rfl⟩ (.cons ru .nil)) (by show 2<=sizeLine; decide)
  refine ⟨.ref s.heap.objs.size,_,I2,rfl,⟨_,x,nY,rfl,rfl,λys hy=>by rw [I.rf hy hq]; exact hx⟩,⟨⟨y,Il⟩,IM.1.extBut og.extBut (acx jE)⟩,λb hb=>?_⟩
  have i9:b < s.heap.objs.size:=by
   rcases aaG.mp hb with z | z
   .grind
   .have z:b=it:=by simpa using z
    subst z
    obtain ⟨o,ho,_⟩:=dW
    exact aaB ho
  rw [aN (aaR i9)]
  exact (hf b hb).1
 done:=by
  intro X hP hw hK hc i pins s σ H E I hf st hg
  subst hP hw hK
  obtain ⟨xs,hq,hx⟩:=hg
  obtain ⟨its,rv,p,hz⟩:=I.tuple hq
  obtain ⟨⟨old,he⟩,dW⟩:=st
  have hp:=p
  have R5:a≠it:=λz=>by
   obtain ⟨o,ho,qp,_⟩:=hp
   obtain ⟨o2,gP,uX,_⟩:=dW
   rw [z] at ho
   have:=ho.symm.trans gP
   cases this
   rw [qp] at uX
   exact absurd (acN uX) (by decide)
  have hl:=rv.length
  have hsz:its.toArray.size=i:=by rw [aaI,<- hl]; exact hx
  refine wpAny_pyNext_enum_endD (kj (A:=X.A.in1) (I.ok.hd hc) it a R5 its.toArray) he ⟨by rw [hsz]; exact dW,hp⟩ λh1 eb=>⟨rfl,?_⟩
  exact I.gW (t':=s.toks) (ch:=[e,it]) (λb o hb eo=>eb b o (λz=>hb (by simp [z])) eo) hf
 self:=λ_ _ _ _ _ st h=>by
  obtain ⟨⟨old,he⟩,_⟩:=st
  exact acz he h
section
variable {X:Cx} {O:List Nat} {a:Expr} {ge:aF} {p pos:Pos} {es:List Expr} {kk} {ma:Pos}
def R6 (K:au) (ta:TA):TI:=λσ H R=>ta σ H λvs H1=>∃ a xs,vs=[.ref a] /\ k7 K H1 a xs /\ R (V1 K a) H1
theorem IP (hg:Gl X "enumerate") (hm:X.mg "enumerate"=none) (ha:PA X [a] ta) (hs:starEach [a] X.env=[(false,eval a X.env)]:=by rfl):PI X (.Tuple es kk ma) (.Call (.Name "enumerate" p) [a] [] pos) (R6 X.K ta):=by
 intro pins s σ H R I h
 refine Call_ (jI I hg hm ll (abv (dj (ha pos pins s σ H _ I h) λus s1 ⟨vs,H1,I1,r1,q1⟩=>?_) hs rfl))
 obtain ⟨b,xs,e,hq,q⟩:=q1
 subst e
 obtain ⟨u,rfl,ru⟩:=vals1 r1
 cases ru
 obtain ⟨its,rv,pl,hz⟩:=I1.tuple hq
 refine Cs (show s1.heap.IsTuple b its.toArray from pl) λh' he hit hsz hk=>?_
 refine acz he ?_
 refine ⟨s1.heap.objs.size + 1,[s1.heap.objs.size + 1,s1.heap.objs.size],_,_,H1,rfl,I1.kept (t':=s1.toks) hk,CJ b _ s1.heap.objs.size (aez _),⟨⟨_,he⟩,hit⟩,λb hb=>?_,q⟩
 have hle:s1.heap.objs.size<=b:=by grind
 exact I1.pY hle (I1.cm.fresh hle)
def IQ (g:aF):cg:=λδ=>(g δ).bind λ| .tuple l=>some (ki l) | _=>none
theorem IS (hm:X.mg "enumerate"=none) (ha:PE X a (tE X.K O ge)) (hg:Gl X "enumerate":=by rfl) (hs:starEach [a] X.env=[(false,eval a X.env)]:=by rfl) (VI:starEach ([]:List Expr) X.env=[]:=by rfl):PI X (.Tuple es kk ma) (.Call (.Name "enumerate" p) [a] [] pos) (tI X.K O (IQ ge)):=
 (IP hg hm (bE ha c6 (by rw [hs,VI])) hs).mono λσ H Q hh=>hh.e λU A0 δ ds R ed q=>by
  obtain ⟨x,e1,e2⟩:=bind1 ed
  cases x with
  | tuple l=>
    cases e2
    refine ⟨U,A0,δ,_,R,e1,λv H' s h=>?_⟩
    cases h with
    | tup hq h=>
      refine ⟨_,_,rfl,.inl (cM.oH hq),q _ H' s ?_⟩
      intro A' i H2 s2 al
      have h2:=h.same s2
      have hL:k7 X.K H2 _ _:=.inl (cM.oH (s2.oH hq))
      refine ⟨λd hd=>?_,λhi=>⟨_,hL,by rw [hi,nu,h2.len]⟩⟩
      obtain ⟨y,hy,rfl⟩:=xy hd
      obtain ⟨v,hv,VJ⟩:=h2.get hy
      refine ⟨⟨_,v,hL,hv⟩,λz H3 hz=>?_⟩
      obtain ⟨p,v',hp,rfl,rfl,VL⟩:=hz
      have:=VL _ hL
      rw [hv] at this
      cases this
      exact ⟨cF hp _,HD.yo al hp (.cons (.int _) (.cons VJ .nil))⟩
  | _=>cases e2
end
end L2
namespace L2
open PySem PySem.Spec PyProof.Rows
def R7:D->Option Key
 | .int i=>some (.inl i)
 | .str x=>some (.inr x)
 | _=>none
def keysOf:List D->Option (List Key)
 | []=>some []
 | d :: ds=>(R7 d).bind λk=>(keysOf ds).bind λks=>some (k :: ks)
def keyOf:D->Option (List Key)
 | .tuple ds=>keysOf ds
 | _=>none
theorem jM:∀ k:List Key,keysOf (k.map nV)=some k
 | []=>rfl
 | .inl i :: k=>by rw [aaY,keysOf,jM k]; rfl
 | .inr i :: k=>by rw [aaY,keysOf,jM k]; rfl
theorem xG {K:au} :∀ {xs:List V} {ds:List D} {k:List Key},cO K H xs ds->keysOf ds=some k->xs=k.map kV
 | _,_,_,.nil,e=>by cases e; rfl
 | _,_,_,.cons h t,e=>by
   obtain ⟨a,e1,e2⟩:=bind1 e
   obtain ⟨b,e3,e4⟩:=bind1 e2
   cases e4
   rw [xG t e3,aaY]
   cases h with
   | int i=>cases e1; rfl
   | str x=>cases e1; rfl
   | _=>cases e1
def dY (kds:fq) (k:List Key):Option D:=(kds.find? λp=>decide (keyOf p.1=some k)).map (·.2)
def kM (kds:fq) (k:List Key) (d:D):fq:=
 if (kds.any λp=>decide (keyOf p.1=some k))=true then kds.map (λp=>if keyOf p.1=some k then (p.1,d) else p) else kds ++ [(.tuple (k.map nV),d)]
theorem fK (e:keyOf p.1=some k):dY (p :: r) k=some p.2:=by simp [dY,e]
theorem fL (e:¬ keyOf p.1=some k):dY (p :: r) k=dY r k:=by simp [dY,e]
theorem nz (k:List Key):∀ kds:fq,(kds.any λp=>decide (keyOf p.1=some k))=(dY kds k).isSome
 | []=>rfl
 | p :: r=>by
   rw [ada]
   by_cases e:keyOf p.1=some k
   .simp only [fK e,aaQ e,Bool.true_or,Option.isSome_some]
   .rw [fL e,aaX e,Bool.false_or]; exact nz k r
theorem xH (k j:List Key) (y:D):∀ kds:fq,dY (kds.map λp=>if keyOf p.1=some k then (p.1,y) else p) j=(dY kds j).map λx=>if j=k then y else x
 | []=>rfl
 | p :: r=>by
   have ih:=xH k j y r
   rw [aaY]
   by_cases h:keyOf p.1=some k
   .rw [aaL h]
    by_cases e:keyOf p.1=some j
    .rw [fK (p:=(p.1,y)) e,fK e,acS,aaL (abe (e.symm.trans h))]
    .rw [fL (p:=(p.1,y)) e,fL e,ih]
   .rw [aaO h]
    by_cases e:keyOf p.1=some j
    .rw [fK (p:=p) e,fK e,acS,aaO (λz=>h (by rw [e,z]))]
    .rw [fL (p:=p) e,fL e,ih]
theorem xI (j:List Key):∀ a b:fq,dY (a ++ b) j=(dY a j).or (dY b j)
 | [],b=>by rw [List.nil_append]; rfl
 | p :: r,b=>by
   rw [aeE]
   by_cases e:keyOf p.1=some j
   .rw [fK e,fK e]; rfl
   .rw [fL e,fL e]; exact xI j r b
theorem Gc (kds:fq) (k j:List Key) (d:D):dY (kM kds k d) j=if j=k then some d else dY kds j:=by
 unfold kM
 by_cases a:(kds.any λp=>decide (keyOf p.1=some k))=true
 .rw [aaL a,xH]
  rw [nz] at a
  by_cases e:j=k
  .obtain ⟨x,hx⟩:=ac7.mp a
   rw [aaL e,e,hx,acS,aaL rfl]
  .simp_all
 .rw [aaO a,xI]
  rw [nz] at a
  have hk:keyOf (.tuple (k.map nV))=some k:=jM k
  by_cases e:j=k
  .subst e
   have:dY kds j=none:=by simp_all
   rw [aaL rfl,this,fK hk]; rfl
  .rw [aaO e,fL (by rw [hk]; exact λz=>e (abe z).symm)]
   exact Option.or_none
theorem xJ (kds:fq) (k:List Key) (d:D):(kM kds k d).length<=kds.length + 1:=by
 unfold kM
 split
 .grind
 .grind
inductive DK (K:au) (H:Hp):List (List Key×V)->List (D×D)->Prop
 | nil:DK K H [] []
 | cons {k:List Key} {v:V} {d:D} {r:List (List Key×V)} {s:fq}:HD K H v d->DK K H r s->DK K H ((k,v) :: r) ((.tuple (k.map nV),d) :: s)
section
variable {K:au} {H H':Hp} {A:List Addr}
theorem DK.of:∀ {bf:List (List Key×V)} {kds:fq},kds.map (·.1)=bf.map (λp=>PyData.tuple (p.1.map nV))->cO K H (bf.map (·.2)) (kds.map (·.2))->DK K H bf kds
 | [],[],_,_=>.nil
 | [],_ :: _,e,_=>by simp at e
 | _ :: _,[],e,_=>by simp at e
 | (k,v) :: r,(x,d) :: s,e,h=>by
   simp only [aaY,List.cons.injEq] at e
   obtain ⟨e1,e2⟩:=e
   subst e1
   cases h with
   | cons h1 h2=>exact .cons h1 (DK.of e2 h2)
theorem DK.keys:∀ {bf:List (List Key×V)} {kds:fq},DK K H bf kds->kds.map (·.1)=bf.map (λp=>PyData.tuple (p.1.map nV))
 | _,_,.nil=>rfl
 | _,_,.cons _ t=>by rw [aaY,aaY,DK.keys t]
theorem DK.vals:∀ {bf:List (List Key×V)} {kds:fq},DK K H bf kds->cO K H (bf.map (·.2)) (kds.map (·.2))
 | _,_,.nil=>.nil
 | _,_,.cons h t=>.cons h (DK.vals t)
theorem DK.own (h:DK K H bf kds):Ci K H (.dT bf) (.dict kds):=.sT h.keys h.vals
theorem DK.same (s:aG H H') (h:DK K H bf kds):DK K H' bf kds:=DK.of h.keys (h.vals.same s)
theorem DK.len:∀ {bf:List (List Key×V)} {kds:fq},DK K H bf kds->bf.length=kds.length
 | _,_,.nil=>rfl
 | _,_,.cons _ t=>by rw [aa0,aa0,DK.len t]
theorem DK.look (k:List Key):∀ {bf:List (List Key×V)} {kds:fq},DK K H bf kds->(∀ d,dY kds k=some d->∃ v,p6 bf k=some v /\ HD K H v d) /\ (dY kds k=none->p6 bf k=none)
 | _,_,.nil=>⟨λd e=>(by cases e),λ_=>rfl⟩
 | _,_,.cons (k:=j) (v:=v) (d:=d) (r:=r) (s:=s) h t=>by
   have hj:keyOf (.tuple (j.map nV))=some j:=jM j
   by_cases e:j=k
   .subst e
    rw [fK (p:=(PyData.tuple (j.map nV),d)) hj,p8 (p:=(j,v)) rfl]
    exact ⟨λd' q=>by cases q; exact ⟨v,rfl,h⟩,λq=>by cases q⟩
   .rw [fL (p:=(PyData.tuple (j.map nV),d)) (by rw [hj]; exact λz=>e (abe z)),p9 (p:=(j,v)) e]
    exact DK.look k t
theorem DK.rep (k:List Key) (hv:HD K H v d):∀ {bf:List (List Key×V)} {kds:fq},DK K H bf kds->DK K H (bf.map λkv=>if kv.1=k then (kv.1,v) else kv) (kds.map λp=>if keyOf p.1=some k then (p.1,d) else p)
 | _,_,.nil=>.nil
 | _,_,.cons (k:=j) h t=>by
   have hj:keyOf (.tuple (j.map nV))=some j:=jM j
   rw [aaY,aaY]
   by_cases e:j=k
   .subst e
    rw [aaL rfl,aaL hj]; exact .cons hv (DK.rep j hv t)
   .rw [aaO e,aaO (by rw [hj]; exact λz=>e (abe z))]; exact .cons h (DK.rep k hv t)
theorem DK.app:∀ {a:List (List Key×V)} {b:fq} {a':List (List Key×V)} {b':fq},DK K H a b->DK K H a' b'->DK K H (a ++ a') (b ++ b')
 | _,_,_,_,.nil,q=>q
 | _,_,_,_,.cons h t,q=>.cons h (DK.app t q)
theorem DK.put (h:DK K H bf kds) (k:List Key) (hv:HD K H v d):DK K H (putK bf k v) (kM kds k d):=by
 have e:(bf.any λkv=>decide (kv.1=k))=kds.any λp=>decide (keyOf p.1=some k):=by
  rw [uz,nz]
  cases q:dY kds k with
  | none=>rw [(h.look k).2 q]; rfl
  | some x=>obtain ⟨w,hw,_⟩:=(h.look k).1 x q; rw [hw]; rfl
 unfold putK kM
 rw [e]
 split
 .exact h.rep k hv
 .exact h.app (.cons hv .nil)
theorem i8.dk (h:i8 K A H x (.dict kds)) (hf:FO kds=false):∃ a bf,x=.ref a /\ H a=some (.dT bf) /\ DK K (wo H A) bf kds:=
 let ⟨a,bf,e,h1,h2,h3⟩:=h.dict hf; ⟨a,bf,e,h1,DK.of h2 h3⟩
theorem i8.key (h:i8 K A H y d) (e:keyOf d=some k):∃ b,y=.ref b /\ eK H b (k.map kV):=by
 cases d with
 | tuple ds=>
   obtain ⟨b,ys,rfl,hb,hd⟩:=h.Vo
   exact ⟨b,rfl,by rw [<- xG hd e]; exact hb⟩
 | _=>cases e
end
def xK (gd gk:aF):aF:=λδ=>(gd δ).bind λx=>(gk δ).bind λy=>match x with
 | .dict kds=>if FO kds=true then none else (keyOf y).bind λk=>dY kds k
 | _=>none
def rH (gd gk ge:aF):aF:=λδ=>(gd δ).bind λx=>(gk δ).bind λy=>(ge δ).bind λz=>match x with
 | .dict kds=>if FO kds=true then none else (keyOf y).bind λk=>some ((dY kds k).getD z)
 | _=>none
def Ex (i:Nat) (gk ge:aF):aK:=λδ=>(ge δ).bind λd=>(af i δ).bind λx=>(gk δ).bind λy=>match x with
 | .dict kds=>(keyOf y).bind λk=>if kds.length < 100000 then some (.nx (δ.set i (some (.dict (kM kds k d))))) else none
 | _=>none
def Pj (i:Nat) (g:DS->Option (fq)):aK:=λδ=>(g δ).bind λd=>some (.nx (δ.set i (some (.dict d))))
def IT (gk ge:aF):DS->Option (fq):=λδ=>(gk δ).bind λy=>(ge δ).bind λd=>(keyOf y).bind λk=>some [(.tuple (k.map nV),d)]
def tNd (K:au) (O:List Nat) (g:DS->Option (fq)):TE:=λσ H Q=>∃ U A0 δ kds,Rel K O U A0 σ δ H /\ g δ=some kds /\
 ∀ r bf H',aG H H'->H r=none->H' r=some (.dT bf)->DK K (wo H' (r :: (U ++ A0))) bf kds->Q (.ref r) H'
section
variable {X:Cx} {O:List Nat} {fr:Fr} {st:Stmt} {gd gk ge:aF} {gl:DS->Option (fq)} {o i e f value:Expr} {pos apos fI:Pos}
set_option tactic.hygienic true in
theorem Ey (hu:X.A.units + 1 < cLine) (ho:PE X o (gm X.K O gd)) (hi:PE X i (gm X.K O gk)) (hs:Rj i:=by intro _ _; rfl):PE X (.Subscript o i pos) (tE X.K O (xK gd gk)):=(Mh hu ho hi hs).mono λσ H Q hh=>hh.e λU A0 δ d R ed q=>by
 obtain ⟨x,e1,e2⟩:=bind1 ed
 obtain ⟨y,e3,e4⟩:=bind1 e2
 refine ⟨U,A0,δ,x,R,e1,λv H1 s1 h1=>⟨U,A0,δ,y,R.same s1,e3,λv2 H2 s2 h2=>?_⟩⟩
 cases x with
 | dict kds=>
   have e4:(if FO kds=true then none else (keyOf y).bind λk=>dY kds k)=some d:=e4
   split at e4
   .grind
   rename_i hf
   have hf:=aep.mpr hf
   obtain ⟨k,e5,e6⟩:=bind1 e4
   obtain ⟨a,bf,rfl,ha,dk⟩:=(h1.same s2).dk hf
   obtain ⟨b,rfl,hb⟩:=h2.key e5
   obtain ⟨w,hw,hd⟩:=(dk.look k).1 d e6
   refine ⟨a,w,rfl,?_,q w H2 (s1.trans s2) hd⟩
   rw [<- hw]; exact yg.t ha hb
 | _=>cases e4
set_option tactic.hygienic true in
theorem uY (hu:X.A.units + 1 < cLine) (ho:PE X o (gm X.K O gd)) (hi:PE X e (gm X.K O gk)) (hx:PE X f (tE X.K O ge)) (m:M2 X o "get" apos e f fI:=by exact ⟨rfl,rfl,rfl,rfl⟩):PE X (.Call (.Attribute o "get" apos) [e,f] [] fI) (tE X.K O (rH gd gk ge)):=(HP hu ho hi hx m).mono λσ H Q hh=>hh.e λU A0 δ d R ed q=>by
 obtain ⟨x,e1,e2⟩:=bind1 ed
 obtain ⟨y,e3,e4⟩:=bind1 e2
 obtain ⟨z,e5,e6⟩:=bind1 e4
 refine ⟨U,A0,δ,x,R,e1,λv H1 s1 h1=>?_⟩
 cases x with
 | dict kds=>
   have e6:(if FO kds=true then none else (keyOf y).bind λk=>some ((dY kds k).getD z))=some d:=e6
   split at e6
   .grind
   rename_i hf
   have hf:=aep.mpr hf
   obtain ⟨k,e7,e8⟩:=bind1 e6
   cases e8
   obtain ⟨a,bf,rfl,ha,dk⟩:=h1.dk hf
   refine ⟨a,rfl,.inr ⟨_,.inl ha⟩,U,A0,δ,y,R.same s1,e3,λv2 H2 s2 h2=>⟨U,A0,δ,z,(R.same s1).same s2,e5,λv3 H3 s3 h3=>?_⟩⟩
   obtain ⟨b,rfl,hb⟩:=(h2.same s3).key e7
   have dk3:=dk.same (cB (A:=U ++ A0) (s2.trans s3))
   refine ⟨p6 bf k,yg.t ((s2.trans s3) _ _ ha) hb,q _ H3 (s1.trans (s2.trans s3)) ?_⟩
   cases w:dY kds k with
   | none=>rw [(dk3.look k).2 w]; exact h3
   | some d'=>obtain ⟨w',hw',G0⟩:=(dk3.look k).1 d' w; rw [hw']; exact G0
 | _=>cases e6
set_option tactic.hygienic true in
theorem MO {i:Nat} (h:PS X st (OW (ur i) (gm X.K O gk) (tE X.K O ge))) (hi:i∈O:=by decide):PS X st (tS X.K O fr (Ex i gk ge)):=h.mono λE σ H hh=>hh.e λH0 U A0 δ r R F ed P=>by
 obtain ⟨d,e1,e2⟩:=bind1 ed
 obtain ⟨x,e3,e4⟩:=bind1 e2
 obtain ⟨y,e5,e6⟩:=bind1 e4
 obtain ⟨l,o,hl,hU,h1,h2⟩:=R.ow i x hi (join_some e3)
 cases h2 with
 | lst _=>cases e6
 | sT kk hv=>
   obtain ⟨k,e7,e8⟩:=bind1 e6
   split at e8
   .rename_i hz
    cases e8
    refine ⟨U,A0,δ,d,R,e1,λv H1 s1 hv1=>⟨.ref l,hl,U,A0,δ,y,R.same s1,e5,λv2 H2 s2 h3=>?_⟩⟩
    obtain ⟨b,rfl,hb⟩:=h3.key e7
    have dk:=DK.of kk hv
    have hlen:=dk.len
    have dk2:=dk.same (cB (A:=U ++ A0) (s1.trans s2))
    refine ⟨l,_,rfl,HL.t ((s1.trans s2) _ _ h1) hb (HU (by lia)),?_⟩
    exact P U σ _ ((R.same (s1.trans s2)).Vs hi hl hU (dk2.put k (hv1.same (cB s2))).own ⟨_,join_some e3⟩) ((F.grow (s1.trans s2)).put hU _)
   .grind
theorem MP {i:Nat} (h:PS X st (uv (tNd X.K O gl) (kL i))) (hi:i∈O:=by decide):PS X st (tS X.K O fr (Pj i gl)):=h.mono λE σ H hh=>hh.e λH0 U A0 δ r R F ed P=>by
 obtain ⟨d,e1,e2⟩:=bind1 ed
 cases e2
 exact ⟨U,A0,δ,d,R,e1,λr bf H' s hr h1 h2=>P (r :: U) _ H' (R.Vq s hr h1 h2.own hi) (F.more s hr)⟩
theorem Rel.V2 {K:au} (R:Rel K O U A0 σ δ H) (s:aG H H') {o:HO} (hr:H r=none) (h:H' r=some o) (ho:Mn o):Rel K O U (r :: A0) σ δ H':=by
 have k:aG (wo H (U ++ A0)) (wo H' (U ++ (r :: A0))):=λb o q=>by
  obtain ⟨h1,h2⟩:=k9 q
  rw [cG]
  .exact s b o h2
  .grind
 exact {
  len:=R.len
  fz:=λi d hi e=>let ⟨v,a,b⟩:=R.fz i d hi e; ⟨v,a,b.same k⟩
  ow:=λi d hi e=>let ⟨l,o,a,c,f,g⟩:=R.ow i d hi e; ⟨l,o,a,c,s _ _ f,g.same k⟩
  inj:=R.inj
  al:=⟨λa ha=>by
   simp only [abd,aaG] at ha
   rcases ha with z | z | z
   .exact (R.al.same s).1 a (by simp [z])
   .grind
   .exact (R.al.same s).1 a (by simp [z]),(R.al.same s).2⟩ }
def R8 (tk tv:TE):TE:=λσ H Q=>∀ p,H p=none->Cf [(tk,tv)] σ (upd H p (.dT [])) λps H2=>H2 p=some (.dT []) /\ ∃ b ks y,ps=[(.ref b,y)] /\ eK H2 b (ks.map kV) /\ Q (.ref p) (upd H2 p (.dT [(ks,y)]))
theorem IU (hu:X.A.units + 1 < cLine) (hk:PE X k tk) (hv:PE X v tv):PE X (.Dict [some k] [v] pos) (R8 tk tv):=by
 intro pins s σ H Q I q
 have hn:=I.cm.fresh (aaF s.heap.objs.size)
 have I1:=I.laid (a:=s.heap.objs.size) (o:=.dT []) (h':=s.heap.push { cls:=.type "dict",data:=.dict #[] }) (t':=s.toks) (λ_ _ q=>aab _ q) (aaF _) (HM s.heap I.big)
 have pp:Xu X pos [some k] [v] [(tk,tv)]:=HN hk hv Mj
 refine wpAny_Dict_any rfl rfl (by simp) (by simp) (dj (pp pins _ σ _ _ I1 (q _ hn)) λws s2 ⟨ps,H2,I2,rel,e,b,ks,y,e2,e4,q2⟩=>?_)
 subst e2
 cases rel with
 | @cons _ w _ _ h t=>
   cases t
   obtain ⟨u1,u2⟩:=w
   obtain ⟨r1,r2⟩:=h
   cases (show u1=Value.ref b from r1)
   have hf:storeAll s.heap.objs.size [(Value.ref b,u2)]=(do dictSet s.heap.objs.size (Value.ref b) u2):=by
    unfold storeAll
    simp
   rw [hf]
   obtain ⟨z,hd,xs,rl,dd⟩:=OV I2.cm e
   cases rl
   refine wpAny_dictSet_heap (show X.A.units < cLine by lia) (uA I2.cm e4) dd (λh' T4 hs=>⟨.ref s.heap.objs.size,_,?_,rfl,q2⟩) (abS _)
   obtain ⟨q,es,ep,hq,h2,h3,h4,_,h5⟩:=T4
   have Zl:KT H2 [] []:=.nil
   refine yh I2 (by rw [e]; exact True.intro) hs ⟨q,hq⟩ ⟨small (by simp),hd,_,(Zl.put ks e4 r2).keeps λc ys ec=>?_,q,es,ep,hq,h2,h3,h4,h5⟩
   exact ec.dT e
theorem IV (hu:X.A.units + 1 < cLine) (hk:PE X k (gm X.K O gk)) (hv:PE X v (tE X.K O ge)):PE X (.Dict [some k] [v] pos) (tNd X.K O (IT gk ge)):=(IU hu hk hv).mono λσ H Q ⟨U,A0,δ,d,R,ed,q⟩ p hp=>by
 obtain ⟨y,e1,e2⟩:=bind1 ed
 obtain ⟨d',e3,e4⟩:=bind1 e2
 obtain ⟨ks,e5,e6⟩:=bind1 e4
 cases e6
 have s0:=cF hp (.dT [])
 have R0:=R.V2 s0 hp cf trivial
 refine ⟨U,p :: A0,δ,y,R0,e1,λv H1 s1 h1=>⟨U,p :: A0,δ,d',R0.same s1,e3,λw H2 s2 h2=>?_⟩⟩
 obtain ⟨b,rfl,hb⟩:=(h1.same s2).key e5
 have VY:=(s1.trans s2) _ _ cf
 refine ⟨VY,b,ks,w,rfl,hb,q p _ _ (s0.trans (s1.trans s2) |>.upd hp _) hp cf ?_⟩
 have ew:wo (upd H2 p (.dT [(ks,w)])) (p :: (U ++ A0))=wo H2 (p :: (U ++ A0)):=HZ (by simp)
 rw [ew]
 exact .cons (h2.same (mz λa ha=>by simp only [abd,aaG] at ha ⊢; rcases ha with z | z | z; exact .inr (.inl z); exact .inl z; exact .inr (.inr z))) .nil
end
end L2
namespace LS
open PySem PySem.Spec PyProof.Rows
section
variable {prog:Program} {w:World} {A:Around} {E:cW} {s:Shared}
theorem Zm (ft:TypeCalled T nw "object.__init__") (c1:checkTypeCall T ⟨us,kw⟩=pure ()) (c2:checkBuiltinCall nw ⟨.type T :: us,kw⟩=pure ())
  (en:entryFor table nw=some Bn) (g:Meets (Bn ⟨.type T :: us,kw⟩) S) (c3:∀ o,argsOk "object.__init__" ⟨o :: us,kw⟩) (gi:∀ o,Meets (Builtin.«object.__init__» ⟨o :: us,kw⟩) (λ_ R s=>s.TypeIs o T /\ R (.ok (.ret .none)) s))
  (h:S A.in1 (wants (λo s1=>s1.TypeIs o T /\ Q o s1) E) s):wpAny (model prog w) A (call (.type T) us kw) Q E s:=by
 obtain ⟨hc,tl,hm⟩:=ft.mro
 have k1:=ft.made
 have k2:=ft.sub
 have k3:=ft.notType
 have k4:=ft.canCreate
 refine wpAny_call (codeAny_of_tree (show wpAny _ _ (callAny (.type T) _) _ _ _ from aay ⟨Code.quiet_builtin _ (by decide +kernel),abX F.entry_type_call ?_⟩))
 repeat any_goals first | assumption | wp_step
 refine ack (acD ft.plain en (ael c2 (g prog w A.in1 _ s h))) λr s1 hr=>?_
 cases r with
 | error e=>exact hr
 | ok fl=>
   cases fl with
   | ret o=>
     obtain ⟨hT,hq⟩:=hr
     have k5:=ft.init.lookup
     have k6:=ft.init.bind o
     repeat any_goals first | assumption | wp_step
     refine ack (acD ft.init.plain F.entry_object_init (ft.init.check _ _ _ _ _ _ _ _ hT (c3 o) (gi o prog w A.in1 (wants (λr s2=>r=.none /\ Q o s2) E) s1 ⟨hT,rfl,hq⟩))) λr2 s2 V3=>?_
     cases r2 with
     | error e=>exact V3
     | ok f2=>
       cases f2 with
       | ret r=>
         obtain ⟨rfl,q2⟩:=V3
         repeat any_goals first | assumption | wp_step
       | _=>exact V3.elim
   | _=>exact hr.elim
end
theorem initK (hl:typeLookup (.type T) "__init__"=pure (some (.builtin "object.__init__"))) (hm:Bind.madeBy (.type T)=pure (some nw)) (jE:(some nw != some "object.__new__")=true) (u:Value):
  Meets (Builtin.«object.__init__» ⟨o :: u :: us,kw⟩) (λ_ R s=>s.TypeIs o T /\ R (.ok (.ret .none)) s):=by
 refine Meets.of_wp λprog w A R s hs=>?_
 obtain ⟨hT,hq⟩:=hs
 repeat any_goals first | assumption | wp_step
 exact ⟨_,rfl,hq⟩
theorem tcS (a b:Value):checkTypeCall "enumerate" ⟨[a],[("start",b)]⟩=pure ():=by kernel_rfl
theorem bcS (a b:Value):checkBuiltinCall "enumerate.__new__" ⟨[.type "enumerate",a],[("start",b)]⟩=pure ():=by kernel_rfl
theorem aoS (o a b:Value):argsOk "object.__init__" ⟨[o,a],[("start",b)]⟩:=by kernel_rfl
set_option maxHeartbeats 1000000 in
set_option tactic.hygienic true in
theorem Zn (l:Addr) (items:Array Value) (n:Nat) (sT:Option Addr) (sl:Array (Option Value)) (t:Tok):
  Meets (Builtin.«enumerate.__new__» ⟨[.type "enumerate",.ref l],[("start",.int 1 t)]⟩) (λ_ R s=>s.heap.get? l=some { cls:=.type "tuple",dict:=sT,data:=.seq items n,slots:=sl } /\
   R (.ok (.ret (.ref (s.heap.push { cls:=.type "tuple_iterator",data:=.fields #[.ref l,.int 0 0] }).objs.size)))
     { s with heap:=(s.heap.push { cls:=.type "tuple_iterator",data:=.fields #[.ref l,.int 0 0] }).push { cls:=.type "enumerate",data:=.fields #[.none,.bool false,.ref s.heap.objs.size,rawInt 1,.none,.none] } }):=
 .of_wp λprog w A R s h=>by
  obtain ⟨hp,g,d,tk,os⟩:=s; obtain ⟨hl,h⟩:=h
  have tH:=sub_enumerate
  have hL:Heap.IsTuple (Shared.heap ⟨hp,g,d,tk,os⟩) l items:=⟨_,hl,rfl,n,rfl⟩
  wp_walk using AutoSeq1.wpAny_loadPart' hl
  refine wpAny_stack_any λst=>aay ?_
  split
  .rename_i c _ _ _ _ _
   cases (c == Value.type "enumerate")
   .wp_walk using AutoSeq1.wpAny_loadPart' hl,wpAny_pyIter_tuple hL
    exact ⟨_,rfl,h⟩
   .wp_walk using AutoSeq1.wpAny_loadPart' hl,wpAny_pyIter_tuple hL
    exact ⟨_,rfl,h⟩
  .wp_walk using AutoSeq1.wpAny_loadPart' hl,wpAny_pyIter_tuple hL
   exact ⟨_,rfl,h⟩
section
variable {prog:Program} {w:World} {A:Around} {E:cW} {s:Shared}
theorem CL (hL:s.heap.IsTuple l items)
  (h:∀ h',IsEnum h' (s.heap.objs.size + 1) s.heap.objs.size 1 .none->h'.IsTupleIter s.heap.objs.size l 0->h'.objs.size=s.heap.objs.size + 2->(∀ b o,s.heap.get? b=some o->h'.get? b=some o)->Q (.ref (s.heap.objs.size + 1)) { s with heap:=h' }):
  wpAny (model prog w) A (call (.type "enumerate") [.ref l] [("start",.int 1 t)]) Q E s:=by
 obtain ⟨⟨c,sT,dt,sl⟩,hl,hc,n,hd⟩:=hL
 subst hc hd
 refine Zm acF (tcS _ _) (bcS _ _) PySem.F.entry_enumerate_new (Zn l items n sT sl t) (λo=>aoS o _ _) (λo=>initK acF.init.lookup acF.made (by decide) _) ⟨hl,?_⟩
 have hz:(s.heap.push { cls:=.type "tuple_iterator",data:=.fields #[.ref l,.int 0 0] }).objs.size=s.heap.objs.size + 1:=acp ..
 rw [hz]
 have he:IsEnum ((s.heap.push { cls:=.type "tuple_iterator",data:=.fields #[.ref l,.int 0 0] }).push { cls:=.type "enumerate",data:=.fields #[.none,.bool false,.ref s.heap.objs.size,rawInt 1,.none,.none] }) (s.heap.objs.size + 1) s.heap.objs.size 1 .none:=by
  have q:=aaH (s.heap.push { cls:=.type "tuple_iterator",data:=.fields #[.ref l,.int 0 0] }) (o:={ cls:=.type "enumerate",data:=.fields #[.none,.bool false,.ref s.heap.objs.size,rawInt 1,.none,.none] }) rfl
  rw [hz] at q; exact q
 exact ⟨⟨_,he,rfl⟩,h _ he ⟨_,aab _ (aaH _ rfl),rfl,rfl⟩ (by rw [acp,hz]) λb o x=>aab _ (aab _ x)⟩
theorem AU {St:Nat->Heap->Prop} (d:Draws prog w A it fp n P St):Draws prog w A it fp (n + 1) (λi v=>∃ j,i=j + 1 /\ P j v) (λi h=>∃ j,i=j + 1 /\ St j h) where
 live:=λ_ h ⟨j,_,q⟩=>d.live j h q
 frame:=λ_ h h' ⟨j,e,q⟩ k=>⟨j,e,d.frame j h h' q k⟩
 item:=λi s Q E hi ⟨j,e,q⟩ hQ=>d.item j s Q E (by lia) q λx h' tk p st sb=>hQ x h' tk ⟨j,e,p⟩ ⟨j + 1,by lia,st⟩ sb
 done:=λs Q E ⟨j,e,q⟩ hE=>d.done s Q E ((show j=n by lia) ▸ q) hE
theorem uZ 
  (h:wpAny M A (spliced (backTo pos (starEach (e :: es) env))) (λvs s1=>wpAny M A (evalAll ((backToKw pos (keywordEach kws env)).map (·.2))) (λks s2=>wpAny M A (call (.type T) vs (((backToKw pos (keywordEach kws env)).filterMap (·.1)).zip ks)) Q E s2) E s1) E s)
  (he:backTo pos (starEach (e :: es) env)=(false,eval e env) :: backTo pos (starEach es env)) (hp:(backTo pos (starEach (e :: es) env)).any (·.1)=false) (ha:(backToKw pos (keywordEach kws env)).all (·.1.isSome)=true) (hk:(backToKw pos (keywordEach kws env)).any (·.1.isNone)=false):
  wpAny M A (callWith pos (.type T) [] (backTo pos (starEach (e :: es) env)) (backToKw pos (keywordEach kws env))) Q E s:=by
 have h1:wpAny M A (evalArgs (.type T) true (backTo pos (starEach (e :: es) env)) (backToKw pos (keywordEach kws env))) (λa s1=>wpAny M A (call (.type T) a.pos a.kw) Q E s1) E s:=by
  rw [he] at h ⊢
  exact evalArgs_kwB ha h
 refine aaa (acm (aa5 h1 (λa s1 q=>aaa (adH ?_)) λ_ _ x=>x))
 simp only [hp,hk]
 exact aaa (aay (aaa (aa5 q (λr s2 hr=>aaa (acm (wpAny_point (aay hr)))) λ_ _ x=>x)))
end
end LS
namespace L2
open PySem PySem.Spec PyProof.Rows LS
def V4 (K:au) (a:Addr):It:=
 ⟨λi H=>∃ xs x,k7 K H a xs /\ xs[i]?=some x,λi H x H'=>∃ p v,H p=none /\ x=.ref p /\ H'=upd H p (.tup [.int ((i:Int) + 1),v]) /\ ∀ xs,k7 K H a xs->xs[i]?=some v,λi H=>∃ xs,k7 K H a xs /\ xs.length=i⟩
theorem CM {K:au} (a e it:Addr) (jE:e≠it):Turn P w K (.Tuple es kk ma) (V4 K a) [e,it] e (λi h=>(∃ old,IsEnum h e it ((i:Int) + 1) old) /\ h.IsTupleIter it a i) where
 mem:=by simp
 obj:=λi h st b hb=>by
  obtain ⟨⟨old,he⟩,o,ho,c,d⟩:=st
  rcases aaG.mp hb with z | z
  .grind
  .grind
 keep:=λi h h' st k=>by
  obtain ⟨⟨old,he⟩,dW⟩:=st
  exact ⟨⟨old,k e (by simp) _ he⟩,dW.at λo eo=>k it (by simp) o eo⟩
 item:=by
  intro X hP hw hK hc i pins s σ H E I hf st hg
  subst hP hw hK
  obtain ⟨xs,x,hq,hx⟩:=hg
  obtain ⟨its,rv,p,hz⟩:=I.tuple hq
  obtain ⟨u,hu,ru⟩:=rv.get hx
  obtain ⟨⟨old,he⟩,dW⟩:=st
  have hp:=p
  have Zj:e≠a:=λz=>by
   obtain ⟨o,ho,qp,_⟩:=hp
   rw [<- z] at ho
   have:=ho.symm.trans he
   cases this
   exact absurd (acN qp) (by decide)
  have R5:a≠it:=λz=>by
   obtain ⟨o,ho,qp,_⟩:=hp
   obtain ⟨o2,gP,uX,_⟩:=dW
   rw [z] at ho
   have:=ho.symm.trans gP
   cases this
   rw [qp] at uX
   exact absurd (acN uX) (by decide)
  have Ui:i < its.toArray.size:=by grind
  refine wpAny_pyNext_enum_itemD (i:=i + 1) (LS.AU (kj (A:=X.A.in1) (I.ok.hd hc) it a R5 its.toArray)) (by push_cast; exact he) ⟨i,rfl,dW,hp⟩ (Nat.succ_lt_succ Ui) jE (by simp [jE,Zj]) λy h1 tk hy G9 IM VF RJ Lr=>?_
  obtain ⟨j',ej',IM⟩:=IM
  cases ej'
  have Zk:y=u:=by grind
  subst Zk
  refine ⟨_,rfl,acV G9 λh2 Il og=>?_⟩
  have VG:=aaB he
  have I1:Inv X pins σ H { s with heap:=h2,toks:=tk + 1 }:=I.gW (t':=tk + 1) (ch:=[e,it]) (λb o hb eo=>by
   simp at hb
   exact (og.2 b hb.1).trans (Lr b o hb.1 hb.2 eo)) hf
  have MC:IsTup h2 s.heap.objs.size [Value.int ((i:Int) + 1) tk,y].toArray:=⟨_,(og.2 _ (acy VG)).trans VF,rfl,_,rfl⟩
  have nY:=I.cm.fresh (aaF _)
  have fo:=I.pY (H':=H) (aaF _) nY
  have I2:Inv X pins σ (upd H s.heap.objs.size (.tup [.int ((i:Int) + 1),x])) { s with heap:=h2,toks:=tk + 1 }:=I1.yx nY (aa6 I.sz (aaF _)) fo.2.1 fo.2.2.2.2.1 fo.2.2.2.2.2 MC (.cons ⟨_,rfl⟩ (.cons ru .nil)) (by show 2<=sizeLine; decide)
  refine ⟨.ref s.heap.objs.size,_,I2,rfl,⟨_,x,nY,rfl,rfl,λys hy=>by rw [I.rf hy hq]; exact hx⟩,⟨⟨y,by push_cast; exact Il⟩,IM.1.extBut og.extBut (acx jE)⟩,λb hb=>?_⟩
  have i9:b < s.heap.objs.size:=by
   rcases aaG.mp hb with z | z
   .grind
   .have z:b=it:=by simpa using z
    subst z
    obtain ⟨o,ho,_⟩:=dW
    exact aaB ho
  rw [aN (aaR i9)]
  exact (hf b hb).1
 done:=by
  intro X hP hw hK hc i pins s σ H E I hf st hg
  subst hP hw hK
  obtain ⟨xs,hq,hx⟩:=hg
  obtain ⟨its,rv,p,hz⟩:=I.tuple hq
  obtain ⟨⟨old,he⟩,dW⟩:=st
  have hp:=p
  have R5:a≠it:=λz=>by
   obtain ⟨o,ho,qp,_⟩:=hp
   obtain ⟨o2,gP,uX,_⟩:=dW
   rw [z] at ho
   have:=ho.symm.trans gP
   cases this
   rw [qp] at uX
   exact absurd (acN uX) (by decide)
  have hl:=rv.length
  have hsz:its.toArray.size=i:=by rw [aaI,<- hl]; exact hx
  refine wpAny_pyNext_enum_endD (LS.AU (kj (A:=X.A.in1) (I.ok.hd hc) it a R5 its.toArray)) he ⟨_,rfl,by rw [hsz]; exact dW,hp⟩ λh1 eb=>⟨rfl,?_⟩
  exact I.gW (t':=s.toks) (ch:=[e,it]) (λb o hb eo=>eb b o (λz=>hb (by simp [z])) eo) hf
 self:=λ_ _ _ _ _ st h=>by
  obtain ⟨⟨old,he⟩,_⟩:=st
  exact acz he h
section
variable {X:Cx} {O:List Nat} {a:Expr} {ge:aF} {p pos:Pos} {es:List Expr} {kk} {ma:Pos}
def R9 (K:au) (ta:TA):TI:=λσ H R=>ta σ H λvs H1=>∃ a xs,vs=[.ref a] /\ k7 K H1 a xs /\ R (V4 K a) H1
theorem IW (hg:Gl X "enumerate") (hm:X.mg "enumerate"=none) (ha:PA X [a] ta) (hs:starEach [a] X.env=[(false,eval a X.env)]:=by rfl):PI X (.Tuple es kk ma) (.Call (.Name "enumerate" p) [a] [⟨some "start",.Constant (.int 1) jj cp,kp⟩] pos) (R9 X.K ta):=by
 intro pins s σ H R I h
 refine acd (jI I hg hm ll (LS.uZ (dj (ha pos pins s σ H _ I h) λus s1 ⟨vs,H1,I1,r1,q1⟩=>?_) (by rw [hs]; rfl) (by rw [hs]; rfl) rfl rfl))
 obtain ⟨b,xs,e,hq,q⟩:=q1
 subst e
 obtain ⟨u,rfl,ru⟩:=vals1 r1
 cases ru
 refine PyProof.Rows.evalAll_cons (aaa (dj (aS pins s1 σ H1 (λv H2=>v=V.int 1 /\ H2=H1) I1 ⟨rfl,rfl⟩) λkv s2 ⟨v,H2,I2,Lu,e1,e2⟩=>aaa (adH (aay (PyProof.Rows.evalAll_nil ?_)))))
 subst e1 e2
 obtain ⟨t,rfl⟩:=Lu
 obtain ⟨its,rv,pl,hz⟩:=I2.tuple hq
 refine LS.CL (show s2.heap.IsTuple b its.toArray from pl) λh' he hit hsz hk=>?_
 refine acz he ?_
 refine ⟨s2.heap.objs.size + 1,[s2.heap.objs.size + 1,s2.heap.objs.size],_,_,H2,rfl,I2.kept (t':=s2.toks) hk,CM b _ s2.heap.objs.size (aez _),⟨⟨_,he⟩,hit⟩,λb hb=>?_,q⟩
 have hle:s2.heap.objs.size<=b:=by grind
 exact I2.pY hle (I2.cm.fresh hle)
def sV (l:List D):List D:=(l.zipIdx 1).map λp=>.tuple [.int (p.2:Nat),p.1]
theorem Gd (l:List D):(sV l).length=l.length:=by unfold sV; simp
theorem Ge {i:Nat} (h:(sV l)[i]?=some d):∃ x,l[i]?=some x /\ d=.tuple [.int ((i:Int) + 1),x]:=by
 unfold sV at h
 rw [aaU,acA] at h
 cases e:l[i]? with
 | none=>rw [e] at h; cases h
 | some x=>grind
def IX (g:aF):cg:=λδ=>(g δ).bind λ| .tuple l=>some (sV l) | _=>none
theorem IY (hm:X.mg "enumerate"=none) (ha:PE X a (tE X.K O ge)) (hg:Gl X "enumerate":=by rfl) (hs:starEach [a] X.env=[(false,eval a X.env)]:=by rfl) (VI:starEach ([]:List Expr) X.env=[]:=by rfl):PI X (.Tuple es kk ma) (.Call (.Name "enumerate" p) [a] [⟨some "start",.Constant (.int 1) jj cp,kp⟩] pos) (tI X.K O (IX ge)):=
 (IW hg hm (bE ha c6 (by rw [hs,VI])) hs).mono λσ H Q hh=>hh.e λU A0 δ ds R ed q=>by
  obtain ⟨x,e1,e2⟩:=bind1 ed
  cases x with
  | tuple l=>
    cases e2
    refine ⟨U,A0,δ,_,R,e1,λv H' s h=>?_⟩
    cases h with
    | tup hq h=>
      refine ⟨_,_,rfl,.inl (cM.oH hq),q _ H' s ?_⟩
      intro A' i H2 s2 al
      have h2:=h.same s2
      have hL:k7 X.K H2 _ _:=.inl (cM.oH (s2.oH hq))
      refine ⟨λd hd=>?_,λhi=>⟨_,hL,by rw [hi,Gd,h2.len]⟩⟩
      obtain ⟨y,hy,rfl⟩:=Ge hd
      obtain ⟨v,hv,VJ⟩:=h2.get hy
      refine ⟨⟨_,v,hL,hv⟩,λz H3 hz=>?_⟩
      obtain ⟨p,v',hp,rfl,rfl,VL⟩:=hz
      have:=VL _ hL
      rw [hv] at this
      cases this
      exact ⟨cF hp _,HD.yo al hp (.cons (.int _) (.cons VJ .nil))⟩
  | _=>cases e2
end
def Itz (K:au) (a b:Addr):It:=
 ⟨λi H=>∃ xs ys x y,kB K H a xs /\ kB K H b ys /\ xs[i]?=some x /\ ys[i]?=some y,λi H v H'=>∃ p x y,H p=none /\ v=.ref p /\ H'=upd H p (.tup [x,y]) /\ (∀ xs,kB K H a xs->xs[i]?=some x) /\ ∀ ys,kB K H b ys->ys[i]?=some y,λi H=>∃ xs ys,kB K H a xs /\ kB K H b ys /\ min xs.length ys.length=i⟩
theorem IZ {K:au} (l1 l2 z TI TO i1 i2:Addr) (D:ZipApart z TI TO i1 i2 l1 l2):Turn P w K (.Tuple es kk ma) (Itz K l1 l2) [z,TI,TO,i1,i2] z (λi h=>IsZip h z TI TO .none /\ IsPair h TI (.ref i1) (.ref i2) /\ (∃ a b,IsPair h TO a b) /\ h.IsListIter i1 l1 i /\ h.IsListIter i2 l2 i) where
 mem:=by simp
 obj:=λi h st b hb=>by
  obtain ⟨h1,h2,⟨a,c,h3⟩,⟨o4,h4,_,d4⟩,o5,h5,_,d5⟩:=st
  simp at hb
  rcases hb with rfl | rfl | rfl | rfl | rfl
  .grind
  .grind
  .grind
  .grind
  .grind
 keep:=λi h h' st k=>by
  obtain ⟨h1,h2,⟨a,c,h3⟩,h4,h5⟩:=st
  exact ⟨k z (by simp) _ h1,k TI (by simp) _ h2,⟨a,c,k TO (by simp) _ h3⟩,h4.at λo e=>k i1 (by simp) o e,h5.at λo e=>k i2 (by simp) o e⟩
 item:=by
  intro X hP hw hK hc i pins s σ H E I hf st hg
  subst hP hw hK
  obtain ⟨xs,ys,x,y,MQ,FT,hx,hy⟩:=hg
  obtain ⟨t1,XB,p1,RJ⟩:=I.list MQ
  obtain ⟨t2,Lu,p2,hz2⟩:=I.list FT
  obtain ⟨u1,hu1,ru1⟩:=XB.get hx
  obtain ⟨u2,hu2,ru2⟩:=Lu.get hy
  obtain ⟨s1,s2,s3,s4,s5⟩:=st
  have W:=WalksT.zip2 (prog:=X.prog) (w:=X.w) (A:=X.A) (I.ok.hd hc) z TI TO i1 i2 l1 l2 D t1.toArray t2.toArray
  have hi:i < min t1.toArray.size t2.toArray.size:=by grind
  refine W.item i s _ E hi ⟨s1,s2,s3,s4,s5,p1.isList,p2.isList⟩ λT vals h1 tk hv hT ht hm hk=>⟨_,rfl,W.go _ _ _ i T _ _ _ hm λh2 dW O9=>?_⟩
  obtain ⟨x',y',e1,e2,rfl⟩:=hv
  have Ug:x'=u1:=by grind
  have Ue:y'=u2:=by grind
  subst Ug Ue
  have hTw:=W.apart i T h1 hm
  have I1:Inv X pins σ H { s with heap:=h2,toks:=tk }:=I.gW (t':=tk) (ch:=[z,TI,TO,i1,i2]) (λb o hb eo=>by
   have CN:b∉[z,TO,i1,i2]:=λq=>hb (by simp at q ⊢; rcases q with q | q | q | q <;> simp [q])
   exact O9 b o CN (hk b o CN eo)) hf
  have MC:IsTup h2 T [x',y'].toArray:=by
   obtain ⟨o,ho,c,n,d⟩:=ht
   exact ⟨o,O9 T o hTw ho,c,n,d⟩
  have nY:=I.cm.fresh hT
  have fo:=I.pY (H':=H) hT nY
  have I2:=I1.yx nY (aa6 I.sz hT) fo.2.1 fo.2.2.2.2.1 fo.2.2.2.2.2 MC (.cons ru1 (.cons ru2 .nil)) (by show 2<=sizeLine; decide)
  obtain ⟨r1,r2,r3,r4,r5,_,_⟩:=dW
  refine ⟨.ref T,_,I2,rfl,⟨T,x,y,nY,rfl,rfl,λzs hz=>by rw [I.pX hz MQ]; exact hx,λzs hz=>by rw [I.pX hz FT]; exact hy⟩,⟨r1,r2,r3,r4,r5⟩,λb hb=>?_⟩
  have i9:b < s.heap.objs.size:=by
   obtain ⟨a,c,s3⟩:=s3
   obtain ⟨o4,s4,_⟩:=s4
   obtain ⟨o5,s5,_⟩:=s5
   simp at hb
   rcases hb with q | q | q | q | q
   .rw [q]; exact aaB s1
   .rw [q]; exact aaB s2
   .rw [q]; exact aaB s3
   .rw [q]; exact aaB s4
   .rw [q]; exact aaB s5
  rw [aN (aaR (aaC i9 hT))]
  exact (hf b hb).1
 done:=by
  intro X hP hw hK hc i pins s σ H E I hf st hg
  subst hP hw hK
  obtain ⟨xs,ys,MQ,FT,hx⟩:=hg
  obtain ⟨t1,XB,p1,RJ⟩:=I.list MQ
  obtain ⟨t2,Lu,p2,hz2⟩:=I.list FT
  obtain ⟨s1,s2,s3,s4,s5⟩:=st
  have W:=WalksT.zip2 (prog:=X.prog) (w:=X.w) (A:=X.A) (I.ok.hd hc) z TI TO i1 i2 l1 l2 D t1.toArray t2.toArray
  have a1:=XB.length
  have a2:=Lu.length
  have hi:min t1.toArray.size t2.toArray.size=i:=by simp only [aaI]; lia
  refine W.done s _ E (by rw [hi]; exact ⟨s1,s2,s3,s4,s5,p1.isList,p2.isList⟩) λh1 tk hk=>⟨rfl,?_⟩
  exact I.gW (t':=tk) (ch:=[z,TI,TO,i1,i2]) (λb o hb eo=>hk b o (λq=>hb (by simp at q ⊢; rcases q with q | q | q | q <;> simp [q])) eo) hf
 self:=λ_ _ _ _ _ st h=>wpAny_pyIter_zip st.1 h
theorem Sa:bootBuiltins "zip"=some (.type "zip"):=by decide +kernel
section
variable {X:Cx} {O:List Nat} {a b:Expr} {ga gb:aF} {p pos:Pos} {es:List Expr} {kk} {ma:Pos}
def Zo (K:au) (ta:TA):TI:=λσ H R=>ta σ H λvs H1=>∃ a b xs ys,vs=[.ref a,.ref b] /\ kB K H1 a xs /\ kB K H1 b ys /\ R (Itz K a b) H1
theorem Sb (hg:Gl X "zip") (hm:X.mg "zip"=none) (ha:PA X [a,b] ta) (hs:starEach [a,b] X.env=(false,eval a X.env) :: starEach [b] X.env:=by rfl) (og:(backTo pos (starEach [b] X.env)).any (·.1)=false:=by rfl):PI X (.Tuple es kk ma) (.Call (.Name "zip" p) [a,b] [] pos) (Zo X.K ta):=by
 intro pins s σ H R I h
 refine acd (jI I hg hm Sa (abv (dj (ha pos pins s σ H _ I h) λus s1 ⟨vs,H1,I1,r1,q1⟩=>?_) hs og))
 obtain ⟨l1,l2,xs,ys,e,MQ,FT,q⟩:=q1
 subst e
 cases r1 with
 | cons r1 t1=>
   cases t1 with
   | cons r2 t2=>
     cases t2
     cases r1
     cases r2
     obtain ⟨t1,XB,p1,RJ⟩:=I1.list MQ
     obtain ⟨t2,Lu,p2,hz2⟩:=I1.list FT
     have lt1:l1 < s1.heap.objs.size:=by obtain ⟨o,ho,_⟩:=p1.isList; exact aaB ho
     have nZ:l2 < s1.heap.objs.size:=by obtain ⟨o,ho,_⟩:=p2.isList; exact aaB ho
     refine call_zip_2 p1.isList p2.isList λh' hz hTI hTO hi1 hi2 hsz hk=>wpAny_pyIter_zip hz ?_
     refine ⟨s1.heap.objs.size + 4,[s1.heap.objs.size + 4,s1.heap.objs.size + 2,s1.heap.objs.size + 3,s1.heap.objs.size,s1.heap.objs.size + 1],_,_,H1,rfl,I1.kept (t':=s1.toks) hk,IZ l1 l2 _ _ _ _ _ (zipApart_new lt1 nZ),⟨hz,hTI,⟨_,_,hTO⟩,hi1,hi2⟩,λb hb=>?_,q⟩
     have hle:s1.heap.objs.size<=b:=by grind
     exact I1.pY hle (I1.cm.fresh hle)
def AV (x y:List D):List D:=List.zipWith (λa b=>.tuple [a,b]) x y
def MR (ga gb:aF):cg:=λδ=>(ga δ).bind λx=>(gb δ).bind λy=>match x,y with
 | .list x,.list y=>some (AV x y)
 | _,_=>none
theorem Sd (hm:X.mg "zip"=none) (ha:PE X a (tE X.K O ga)) (hb:PE X b (tE X.K O gb)) (hg:Gl X "zip":=by rfl) (hs:starEach [a,b] X.env=(false,eval a X.env) :: starEach [b] X.env:=by rfl) (Et:starEach [b] X.env=(false,eval b X.env) :: starEach [] X.env:=by rfl) (og:(backTo pos (starEach [b] X.env)).any (·.1)=false:=by rfl):PI X (.Tuple es kk ma) (.Call (.Name "zip" p) [a,b] [] pos) (tI X.K O (MR ga gb)):=
 (Sb hg hm (bE ha (bE hb c6 Et) hs) hs og).mono λσ H Q hh=>hh.e λU A0 δ ds R ed q=>by
  obtain ⟨x,e1,e2⟩:=bind1 ed
  obtain ⟨y,e3,e4⟩:=bind1 e2
  refine ⟨U,A0,δ,x,R,e1,λv H1 s1 h1=>⟨U,A0,δ,y,R.same s1,e3,λv2 H2 s2 h2=>?_⟩⟩
  cases x with
  | list x=>
    cases y with
    | list y=>
      cases e4
      have Lq:=h1.same (cB (A:=U ++ A0) s2)
      cases Lq with
      | lst MQ d1=>
        cases h2 with
        | lst FT d2=>
          refine ⟨_,_,_,_,rfl,(MQ.same cM).sq,(FT.same cM).sq,q _ H2 (s1.trans s2) ?_⟩
          intro A' i H3 s3 al
          have k1:=d1.same s3
          have k2:=d2.same s3
          have l1:=((MQ.same s3).same cM).sq
          have l2:=((FT.same s3).same cM).sq
          refine ⟨λd hd=>?_,λhi=>⟨_,_,l1,l2,by rw [hi,AV,List.length_zipWith,k1.len,k2.len]⟩⟩
          rw [AV,List.getElem?_zipWith] at hd
          cases ex:x[i]? with
          | none=>rw [ex] at hd; cases hd
          | some dx=>
            cases ey:y[i]? with
            | none=>rw [ex,ey] at hd; cases hd
            | some dy=>
              rw [ex,ey] at hd
              cases hd
              obtain ⟨vx,hvx,hdx⟩:=k1.get ex
              obtain ⟨vy,hvy,hdy⟩:=k2.get ey
              refine ⟨⟨_,_,vx,vy,l1,l2,hvx,hvy⟩,λz H4 hz=>?_⟩
              obtain ⟨p,x',y',hp,rfl,rfl,f1,f2⟩:=hz
              have g1:=f1 _ l1
              have g2:=f2 _ l2
              rw [hvx] at g1; rw [hvy] at g2
              cases g1; cases g2
              exact ⟨cF hp _,HD.yo al hp (.cons hdx (.cons hdy .nil))⟩
    | _=>cases e4
  | _=>cases e4
end
end L2
namespace L2
open PySem PySem.Spec PyProof.Rows
section
variable {X:Cx} {O:List Nat} {e:Expr}
theorem gX (h:PE X e (tC (.ref p))) (m:(p,xs)∈bV) (hd:∀ H,cO X.K H xs ds):PE X e (tE X.K O (gC (.tuple ds))):=h.mono λσ H Q hh=>hh.e λU A0 δ d R ed q=>by
 cases ed
 exact q (.ref p) H (aG.refl H) (.tup (Eg (R.al.2.1 p xs m) R.al) (hd _))
end
theorem Ja:∀ {l:List (Addr×List V)} {p:Addr} {xs:List V},l.lookup p=some xs->(p,xs)∈l
 | [],_,_,h=>by cases h
 | (q,ys) :: l,p,xs,h=>by
   rw [acJ] at h
   by_cases e:p=q
   .grind
   .rw [show (p == q)=false by simpa using e] at h
    exact aaE _ (Ja h)
def ee (K0:au):au:=K0.filter λq=>(bV.lookup q.1).isNone
theorem jN (b:Addr):∀ K0:au,(ee K0).lookup b=if (bV.lookup b).isNone=true then K0.lookup b else none
 | []=>by simp [ee]
 | (c,o) :: r=>by
   have ih:=jN b r
   unfold ee at ih ⊢
   by_cases e:b=c
   .grind
   .grind
structure jO (K0:au):Prop where
 one:∀ p xs,(p,xs)∈bV->bV.lookup p=some xs
 tup:∀ p xs,bV.lookup p=some xs->∃ (od:Option Addr) (its:Array Value) (n:Nat) (sl:Array (Option Value)),K0.lookup p=some ⟨.type "tuple",od,.seq its n,sl⟩ /\ xs.length<=sizeLine /\ bg xs its.toList
theorem jO.look (C:jO K0) (h:K0.lookup b=some o) (n:∀ its n,o.data≠.seq its n):(ee K0).lookup b=some o:=by
 rw [jN]
 cases q:bV.lookup b with
 | none=>exact h
 | some xs=>
   obtain ⟨od,its,k,sl,e,_⟩:=C.tup b xs q
   rw [h] at e; cases e
   exact absurd rfl (n its k)
theorem jO.func (C:jO K0) {st:Stmt} (F:HK K0 x qual st f fd):HK (ee K0) x qual st f fd:=by
 obtain ⟨⟨oc,od,kV,doc,pm,an,cx,ct,FC,e1,e2,e3⟩,kp⟩:=F
 have Ue:=C.look e2 (λits n z=>by cases z)
 refine ⟨⟨oc,od,kV,doc,pm,an,cx,ct,FC,e1,Ue,?_⟩,?_⟩
 .unfold PySem.W.codeIn at e3 ⊢
  cases cx with
  | ref c=>
    simp only at e3 ⊢
    cases q:K0.lookup c with
    | none=>rw [q] at e3; exact absurd e3 (by simp)
    | some ob=>
      obtain ⟨c1,c2,dt,c4⟩:=ob
      rw [q] at e3
      cases dt with
      | fields vs=>rw [C.look q (λits n z=>by cases z)]; exact e3
      | _=>exact absurd e3 (by simp)
  | _=>exact e3
 .unfold PySem.W.keepIn
  simp only [Ue]
def Hc (K0:au):Hp:=λb=>match bV.lookup b with
 | some xs=>(K0.lookup b).map λob=>HO.wz ob (.tup xs)
 | none=>none
def rJ (neg:Bool):D->D->Option D:=λx y=>match y with
 | .list l=>if (SeqAt.shaped x && l.all SeqAt.shaped)=true then some (.bool ((l.any λz=>PyData.eqv z x) != neg)) else none
 | .tuple l=>if (SeqAt.shaped x && l.all SeqAt.shaped)=true then some (.bool ((l.any λz=>PyData.eqv z x) != neg)) else none
 | _=>none
def Se (K:au) (neg:Bool):R2:=λx y H Q=>∃ dy ds dx,HD K H y dy /\ (dy=.list ds \/ dy=.tuple ds) /\ HD K H x dx /\ SeqAt.shaped dx=true /\ ds.all SeqAt.shaped=true /\ Q (.bl ((ds.any λz=>PyData.eqv z dx) != neg)) H
theorem iT (h:ds.all SeqAt.shaped=true):PyData.canLayAll0 ds=true:=by
 induction ds with
 | nil=>rfl
 | cons d ds ih=>
   rw [ac9,aaS] at h
   have h1:=h.1
   unfold SeqAt.shaped at h1
   rw [aaS] at h1
   rw [PyData.canLayAll0,h1.1,ih h.2]
   rfl
section
variable {X:Cx}
theorem t5 (hr:dH k X.A) (sx:SeqAt.shaped dx=true):X.A.units + 1 + min (PyData.depthAll ds) dx.depth < cLine:=by
 unfold SeqAt.shaped at sx
 rw [aaS,abo] at sx
 have:=hr.un
 lia
theorem Sf (hr:dH k X.A):gS X (compareOp .In) (Se X.K false):=by
 intro pins s σ H x y v u Q I rx ry h
 obtain ⟨dy,ds,dx,hy,hd,hx,sx,MS,q⟩:=h
 obtain ⟨as,r1⟩:=hx.reads I rx (d8 sx)
 rw [Bool.bne_false] at q
 rcases hd with rfl | rfl
 .obtain ⟨bs,r2⟩:=hy.reads I ry (by rw [PyData.canLay0]; exact iT MS)
  exact SeqAt.in_list_reads r2 r1 (iT MS) (d8 sx) (t5 hr sx) ⟨.bl _,H,I,rfl,q⟩
 .obtain ⟨bs,r2⟩:=hy.reads I ry (by rw [PyData.canLay0]; exact iT MS)
  exact SeqAt.in_tuple_reads r2 r1 (iT MS) (d8 sx) (t5 hr sx) ⟨.bl _,H,I,rfl,q⟩
theorem rK (hr:dH k X.A):gS X (compareOp .NotIn) (Se X.K true):=by
 intro pins s σ H x y v u Q I rx ry h
 obtain ⟨dy,ds,dx,hy,hd,hx,sx,MS,q⟩:=h
 obtain ⟨as,r1⟩:=hx.reads I rx (d8 sx)
 rw [Bool.bne_true] at q
 rcases hd with rfl | rfl
 .obtain ⟨bs,r2⟩:=hy.reads I ry (by rw [PyData.canLay0]; exact iT MS)
  exact SeqAt.notIn_list_reads r2 r1 (iT MS) (d8 sx) (t5 hr sx) ⟨.bl _,H,I,rfl,q⟩
 .obtain ⟨bs,r2⟩:=hy.reads I ry (by rw [PyData.canLay0]; exact iT MS)
  exact SeqAt.notIn_tuple_reads r2 r1 (iT MS) (d8 sx) (t5 hr sx) ⟨.bl _,H,I,rfl,q⟩
end
set_option tactic.hygienic true in
theorem t6 {K:au} :gR K (Se K neg) (rJ neg):=by
 intro A H x y dx dy d Q al hx hy e q
 unfold rJ at e
 cases dy with
 | list l=>
   simp only at e
   split at e
   .rename_i c
    rw [aaS] at c
    cases e
    exact ⟨_,l,dx,hy.Mp,.inl rfl,hx.Mp,c.1,c.2,q _ H (aG.refl H) (.bl _)⟩
   .cases e
 | tuple l=>
   simp only at e
   split at e
   .rename_i c
    rw [aaS] at c
    cases e
    exact ⟨_,l,dx,hy.Mp,.inr rfl,hx.Mp,c.1,c.2,q _ H (aG.refl H) (.bl _)⟩
   .cases e
 | _=>cases e
set_option tactic.hygienic true in
theorem Ez (gi:cg) (ix:List Nat) (ge:aF):f9 gi ix ge=d9 gi 1 ix (aP 0) (λ_=>some true) ge:=by
 funext δ
 unfold f9 d9
 cases gi δ with
 | none=>rfl
 | some ds=>
   rw [aac,aac]
   split
   .induction ds with
    | nil=>rfl
    | cons d ds ih=>
      rename_i h
      rw [Ir,rG,ih (by rw [aa0] at h; lia)]
      show _=Option.bind (Option.map some (ge (some d :: gU ix δ))) _
      cases ge (some d :: gU ix δ) <;> rfl
   .rfl
section
variable {X:Cx} {O:List Nat} {gi:cg} {ix:List Nat} {ge:aF}
theorem PE.Jb (h:PE X e (tN X.K O (d9 gi 1 ix (aP 0) (λ_=>some true) ge))):PE X e (tN X.K O (f9 gi ix ge)):=by rw [Ez]; exact h
theorem PS.Jb {st:Stmt} (h:PS X st (uv (tN X.K O (d9 gi 1 ix (aP 0) (λ_=>some true) ge)) (kL i))):PS X st (uv (tN X.K O (f9 gi ix ge)) (kL i)):=by rw [Ez]; exact h
end
end L2
namespace L2
open PySem PySem.Spec PyProof.Rows PySem.Calls
set_option maxRecDepth 100000
section
variable {prog:Program} {w:World} {A:Around} {E:cW} {s:Shared}
end
section
variable {X:Cx} {O:List Nat} {a:Expr} {ge:aF} {p1 p2 q1 q2:Pos} {ta:TA}
end
end L2
namespace L2
open PySem PySem.Spec PyProof.Rows PySem.Calls
section
variable {X:Cx} {O:List Nat} {fr:Fr} {st:Stmt} {gk ge:aF}
def EA:V->List V->Hp->VK->Prop:=λx vs H Q=>∃ l xs k y,x=.ref l /\ vs=[.int k,y] /\ H l=some (.lst xs) /\ 0<=k /\ k.toNat<=xs.length /\ xs.length < 100000 /\ Q .ia (upd H l (.lst (xs.take k.toNat ++ y :: xs.drop k.toNat)))
theorem Gf:Xr X "list.insert" EA:=by
 intro pins s σ H x vs v us Q I rx rv h
 obtain ⟨l,xs,k,y,rfl,rfl,hH,XC,hk,hz,q⟩:=h
 cases rx
 obtain ⟨u0,u,rfl,⟨t,rfl⟩,ru⟩:=vals2 rv
 obtain ⟨z,its,n,r,hl,e⟩:=I.FE hH
 have hs:its.toArray.size<=sizeLine:=by rw [aaI,<- hl]; exact z
 have Rc:¬ (!Builtin.List.listFitsIndex k)=true:=by
  unfold Builtin.List.listFitsIndex
  simp
  lia
 have m:=PySem.AutoSeq1.list_insert_list_int_val_1 l its.toArray n k t u Rc hs
 refine adB F.slot_list_insert ⟨_,e,rfl⟩ F.entry_list_insert (F.args_list_insert_3 _ _ _) m ⟨e,?_⟩
 refine ⟨.ia,_,I.Mc (its':=its.take k.toNat ++ u :: its.drop k.toNat) hH e ?_ ((r.take k.toNat).append (.cons ru (r.drop k.toNat))) ?_,rfl,q⟩
 .grind
 .rw [aa7,aa0,abn,List.length_drop]
  exact small (by lia)
def MT (i:Nat) (gk g:aF):aK:=λδ=>(af i δ).bind λx=>(gk δ).bind λn=>(g δ).bind λd=>match x,n with
 | .list ds,.int k=>if 0<=k /\ k.toNat<=ds.length /\ ds.length < 100000 then some (.nx (δ.set i (some (.list (ds.take k.toNat ++ d :: ds.drop k.toNat))))) else none
 | _,_=>none
set_option tactic.hygienic true in
theorem Gg (h:PS X st (uu (Xq X.K "list" EA (ur i) (Ar (tE X.K O gk) (Ar (tE X.K O ge) LY))))) (hi:i∈O:=by decide):PS X st (tS X.K O fr (MT i gk ge)):=h.mono λE σ H hh=>hh.e λH0 U A0 δ r R F ed P=>by
 obtain ⟨x,e1,e2⟩:=bind1 ed
 obtain ⟨n,e3,e4⟩:=bind1 e2
 obtain ⟨d,e5,e6⟩:=bind1 e4
 rcases R.Vp i x hi (join_some e1) with ⟨l,ys,ds,hl,rfl,hU,h1,h2⟩ | ⟨kds,rfl⟩
 rotate_left
 .grind
 cases n with
 | int k=>
   simp only at e6
   split at e6
   .rename_i hz
    cases e6
    obtain ⟨XC,Lr,O9⟩:=hz
    refine ⟨.ref l,hl,.inl ⟨rfl,ys,kB.of h1⟩,U,A0,δ,.int k,R,e3,λv H' s hv=>?_⟩
    cases hv
    refine ⟨U,A0,δ,d,R.same s,e5,λv2 H2 s2 Zp=>?_⟩
    have sm:=s.trans s2
    have Lq:=sm _ _ h1
    have yt:=h2.same (cB (A:=U ++ A0) sm)
    have hlen:=h2.len
    refine ⟨l,ys,k,v2,rfl,rfl,Lq,XC,by lia,by lia,?_⟩
    exact P U σ _ ((R.same sm).put hi hl hU ((yt.Ef k.toNat).app (.cons Zp (yt.H8 k.toNat))) ⟨_,join_some e1⟩) ((F.grow sm).put hU _)
   .grind
 | _=>cases e6
end
end L2
namespace L2
open PySem PySem.Spec PyProof.Rows
def kl (f f' Pk:D->D->Option D) (a b c e:aF):aF:=λδ=>(a δ).bind λx=>(b δ).bind λy=>(f x y).bind λz=>match z with
 | .bool true=>(c δ).bind λw=>(f' y w).bind λz'=>match z' with
   | .bool true=>(e δ).bind λv=>Pk w v
   | .bool false=>some (.bool false)
   | _=>none
 | .bool false=>some (.bool false)
 | _=>none
section
variable {X:Cx} {O:List Nat} {a b c e:Expr} {ga gb gc ge:aF} {pos:Pos} {r r' EB:R2} {ta tb tc td:TE} {op tX tK:CmpOp} {f f' Pk:D->D->Option D}
def yH (r r' EB:R2) (ta tb tc td:TE):TE:=λσ H Q=>ta σ H λx H1=>tb σ H1 λy H2=>r x y H2 λz H3=>∃ k,z=.bl k /\
 (if k=true then tc σ H3 λw' H4=>r' y w' H4 λz' H5=>∃ k',z'=.bl k' /\ (if k'=true then td σ H5 λv' H6=>EB w' v' H6 Q else Q (.bl false) H5) else Q (.bl false) H3)
theorem Gh (ho:gS X (compareOp op) r) (uq:gS X (compareOp tX) r') (CO:gS X (compareOp tK) EB) (ha:PE X a ta) (hb:PE X b tb) (hc:PE X c tc) (hd:PE X e td)
  (hm:lastMarks [op,tX,tK] [b,c,e]=false):PE X (.Compare a [op,tX,tK] [b,c,e] pos) (yH r r' EB ta tb tc td):=by
 intro pins s σ H Q I h
 refine Compare_chain (dj (ha pins s σ H _ I h) λv s1 ⟨x,H1,I1,r1,q1⟩=>chain_link (dj (hb pins s1 σ H1 _ I1 q1) λu s2 ⟨y,H2,I2,r2,q2⟩=>
  dj (ho pins s2 σ H2 x y v u _ I2 r1 r2 q2) λd s3 ⟨z,H3,I3,r3,k,e,q3⟩=>?_)) hm
 subst e
 cases r3
 refine abk ?_
 cases k with
 | false=>exact ite_ff ⟨.bl false,H3,I3,rfl,q3⟩
 | true=>
   refine ite_tt (chain_link (dj (hc pins s3 σ H3 _ I3 q3) λw' s4 ⟨z',H4,I4,r4,q4⟩=>dj (uq pins s4 σ H4 y z' u w' _ I4 r2 r4 q4) λd' s5 ⟨z2,H5,I5,r5,k2,e2,q5⟩=>?_))
   subst e2
   cases r5
   refine abk ?_
   cases k2 with
   | false=>exact ite_ff ⟨.bl false,H5,I5,rfl,q5⟩
   | true=>exact ite_tt (chain_last (dj (hd pins s5 σ H5 _ I5 q5) λw2 s6 ⟨z3,H6,I6,r6,q6⟩=>CO pins s6 σ H6 z' z3 w' w2 Q I6 r4 r6 q6))
theorem Gi (ho:gS X (compareOp op) r) (uq:gS X (compareOp tX) r') (CO:gS X (compareOp tK) EB) (ha:PE X a ta) (hb:PE X b tb) (hc:PE X c tc) (hd:PE X e td)
  (hm:lastMarks [op,tX,tK] [b,c,e]=false):PT X (.Compare a [op,tX,tK] [b,c,e] pos) (Hv (yH r r' EB ta tb tc td)):=by
 intro pins s σ H Q I h
 refine isTrue_chain (dj (ha pins s σ H _ I h) λv s1 ⟨x,H1,I1,r1,q1⟩=>test_link (dj (hb pins s1 σ H1 _ I1 q1) λu s2 ⟨y,H2,I2,r2,q2⟩=>
  dj (ho pins s2 σ H2 x y v u _ I2 r1 r2 q2) λd s3 ⟨z,H3,I3,r3,k,e,q3⟩=>?_)) hm
 subst e
 cases r3
 refine abk ?_
 cases k with
 | false=>
   obtain ⟨k',e',q'⟩:=q3
   cases e'
   exact ite_ff ⟨H3,I3,q'⟩
 | true=>
   refine ite_tt (test_link (dj (hc pins s3 σ H3 _ I3 q3) λw' s4 ⟨z',H4,I4,r4,q4⟩=>dj (uq pins s4 σ H4 y z' u w' _ I4 r2 r4 q4) λd' s5 ⟨z2,H5,I5,r5,k2,e2,q5⟩=>?_))
   subst e2
   cases r5
   refine abk ?_
   cases k2 with
   | false=>
     obtain ⟨k',e',q'⟩:=q5
     cases e'
     exact ite_ff ⟨H5,I5,q'⟩
   | true=>
     refine ite_tt (test_last (dj (hd pins s5 σ H5 _ I5 q5) λw2 s6 ⟨z3,H6,I6,r6,q6⟩=>dj (CO pins s6 σ H6 z' z3 w' w2 _ I6 r4 r6 q6) λd' s7 ⟨z4,H7,I7,r7,k3,e3,q7⟩=>?_))
     subst e3
     cases r7
     exact abk ⟨H7,I7,q7⟩
theorem xM {K:au} (imp:gR K r f) (imp':gR K r' f') (AW:gR K EB Pk) :tE K O (kl f f' Pk ga gb gc ge) σ H Q->yH r r' EB (gm K O ga) (gm K O gb) (gm K O gc) (gm K O ge) σ H Q:=λ⟨U,A0,δ,d,R,ed,q⟩=>by
 obtain ⟨x,e1,ed⟩:=bind1 ed
 obtain ⟨y,e2,ed⟩:=bind1 ed
 obtain ⟨z,e3,ed⟩:=bind1 ed
 refine ⟨U,A0,δ,x,R,e1,λv1 H1 s1 h1=>⟨U,A0,δ,y,R.same s1,e2,λv2 H2 s2 h2=>imp _ H2 v1 v2 x y z _ (R.same (s1.trans s2)).al (h1.same s2) h2 e3 λv3 H3 s3 h3=>?_⟩⟩
 cases z with
 | bool k=>
   cases h3
   refine ⟨k,rfl,?_⟩
   have MU:=(s1.trans s2).trans s3
   cases k with
   | true=>
     obtain ⟨w,e4,e5⟩:=bind1 ed
     obtain ⟨z',e6,e7⟩:=bind1 e5
     refine ⟨U,A0,δ,w,R.same MU,e4,λv4 H4 s4 h4=>imp' _ H4 v2 v4 y w z' _ (R.same (MU.trans s4)).al (h2.same (s3.trans s4)) h4 e6 λv5 H5 s5 h5=>?_⟩
     cases z' with
     | bool k=>
       cases h5
       refine ⟨k,rfl,?_⟩
       have XD:=(MU.trans s4).trans s5
       cases k with
       | true=>
         obtain ⟨w2,e8,e9⟩:=bind1 e7
         exact ⟨U,A0,δ,w2,R.same XD,e8,λv6 H6 s6 h6=>AW _ H6 v4 v6 w w2 d Q (R.same (XD.trans s6)).al (h4.same (s5.trans s6)) h6 e9 λv H' s h=>q v H' ((XD.trans s6).trans s) h⟩
       | false=>
         cases e7
         exact q _ H5 XD (.bl _)
     | _=>cases e7
   | false=>
     cases ed
     exact q _ H3 MU (.bl _)
 | _=>cases ed
theorem Gj (ho:gS X (compareOp op) r) (imp:gR X.K r f) (uq:gS X (compareOp tX) r') (imp':gR X.K r' f') (CO:gS X (compareOp tK) EB) (AW:gR X.K EB Pk) (ha:PE X a (gm X.K O ga)) (hb:PE X b (gm X.K O gb)) (hc:PE X c (gm X.K O gc)) (hd:PE X e (gm X.K O ge)) (hm:lastMarks [op,tX,tK] [b,c,e]=false:=by with_unfolding_all rfl):PE X (.Compare a [op,tX,tK] [b,c,e] pos) (tE X.K O (kl f f' Pk ga gb gc ge)):=(Gh ho uq CO ha hb hc hd hm).mono λ_ _ _=>xM imp imp' AW
theorem CP (ho:gS X (compareOp op) r) (imp:gR X.K r f) (uq:gS X (compareOp tX) r') (imp':gR X.K r' f') (CO:gS X (compareOp tK) EB) (AW:gR X.K EB Pk) (ha:PE X a (gm X.K O ga)) (hb:PE X b (gm X.K O gb)) (hc:PE X c (gm X.K O gc)) (hd:PE X e (gm X.K O ge)) (hm:lastMarks [op,tX,tK] [b,c,e]=false:=by with_unfolding_all rfl):PT X (.Compare a [op,tX,tK] [b,c,e] pos) (tT X.K O (gB (kl f f' Pk ga gb gc ge))):=(Gi ho uq CO ha hb hc hd hm).mono λ_ _ _=>Ib λ_ _ _=>xM imp imp' AW
end
def Jc (CX:LZ) (P:Program) (w:World) (K:au) (mg:dG) (base:Heap) (N:List Str) (qual:Str) (scope:Scope) (f:Addr) (cd:Value) (cl:List (Str×Addr)) (A:Around) (outer:List Env) (s:Shared) (H:Hp) (E:XK):Cx where
 prog:=P
 w:=w
 K:=K
 mg:=mg
 base:=base
 A:=A.deeper (PySem.W.envX qual scope s.heap.objs.size f cd cl)
 N:=N
 gQ:=s
 Fs:=H
 env:=PySem.W.envX qual scope s.heap.objs.size f cd cl
 outer:=outer
 stack:=PySem.W.envX qual scope s.heap.objs.size f cd cl :: outer
 ex:=[]
 calm:=true
 fn:=λ_=>false
 pn:=[]
 xe:=λe s'=>wpAny (model P w) (A.deeper (PySem.W.envX qual scope s.heap.objs.size f cd cl)) (leaving (PySem.W.envX qual scope s.heap.objs.size f cd cl) e) (λ_ L3=>CX outer H s E e L3) (λe' L3=>CX outer H s E e' L3) s'
structure MV (ps fv:List Str) (sc:Scope) (cl:List (Str×Addr)):Prop where
 kind:sc.kind=.function
 co:sc.isCoroutine=false
 gen:sc.isGenerator=false
 rF:∀ y∈sc.names,y.2≠.cell
 nd:(ps ++ fv).Nodup
 par:∀ x∈ps,sc.names.lookup x=some .local
 fr:∀ x∈fv,sc.names.lookup x=some .free
 only:∀ x,sc.names.lookup x=some .free->∃ c,cl.lookup x=some c
 inj:∀ x y c,cl.lookup x=some c->cl.lookup y=some c->x=y
theorem AX:∀ {l:List (Str×Value)},(l.map (·.1)).Nodup->(y,u)∈l->l.lookup y=some u
 | (z,w) :: l,nd,h=>by
   rw [aaY,adM] at nd
   rcases aaG.mp h with e | e
   .grind
   .have jE:(y == z)=false:=by
     cases q:y == z with
     | false=>rfl
     | true=>rw [<- eq_of_beq q] at nd; exact absurd (aa3.mpr ⟨_,e,rfl⟩) nd.1
    rw [acJ,jE]
    exact AX nd.2 e
theorem sW:∀ (ps:List Str) (us:cc),((ps.zip us).map (·.1)).Sublist ps
 | [],_=>by simp
 | p :: ps,[]=>by simp
 | p :: ps,u :: us=>by rw [List.zip_cons_cons,aaY]; exact (sW ps us).cons₂ p
theorem Jd {ps:List Str} {i:Nat} {u:Value} (nd:ps.Nodup) (h1:ps[i]?=some y) (h2:us[i]?=some u):(ps.zip us).reverse.lookup y=some u:=by
 refine AX ?_ (List.mem_reverse.mpr ?_)
 .rw [List.map_reverse]
  refine List.pairwise_reverse.mpr (List.Pairwise.imp (λh=>acx h) ?_)
  exact nd.sublist (sW ps us)
 .exact aaP (i:=i) (by rw [ac0]; exact ⟨h1,h2⟩)
theorem V5 {K:au} 
  (hf:base.get? f=some (PySem.W.kla_obj name qual params body scope cl pm c' EC)) (S:MV ps fv scope cl) (Je:cvs.length=fv.length)
  (cells:∀ (i:Nat) (x:Str) (v:V),fv[i]?=some x->cvs[i]?=some v->∃ c u,cl.lookup x=some c /\ base.IsCell c (some u) /\ RelV v u)
  (V6:∀ x c,cl.lookup x=some c->∃ v,base.IsCell c v)
  (len:∀ vs H Q E,sp vs H Q E->vs.length=ps.length) (code:∀ vs H Q E,sp vs H Q E->H c'=some (.code qual))
  (jK:∀ (A:Around) (outer:List Env) (s:Shared) (H:Hp) (vs:List V) (Q:VK) (E:XK),dH k (A.deeper (PySem.W.envX qual scope s.heap.objs.size f (.ref c') cl))->sp vs H Q E->
   ∃ t,PE (Jc rp P w K mg base (ps ++ fv) qual scope f (.ref c') cl A outer s H E) body t /\ t ((vs ++ cvs).map some) H Q):
  nU P w K mg base rp (k + 1) f (PySem.W.kla_fn name qual params body scope cl pm (.ref c') EC) ps sp:=by
 refine ⟨len,λA outer s H args us vs Q E hr e0 hb r Au=>?_⟩
 have hl:=len _ _ _ _ Au
 have lim:=e0.mod.nolimit.keeps λb o e=>(e0.bs b o e).1
 have hcr:=e0.cm c' _ (code _ _ _ _ Au)
 refine PySem.W.kla_callFunE hr.depth (e0.bs f _ hf).1 rfl S.co S.gen rfl hcr (hb _ _ _ _ ?_)
 refine wpAny_newFunctionEnv S.rF (λy hy=>S.par y.1 (ab9 hy).1) (λh' ns sb=>?_) S.kind
 have kp:∀ b o,s.heap.get? b=some o->h'.get? b=some o:=λb o e=>(sb.2 b (aaR (aaB e))).trans (aab _ e)
 refine ⟨lim.keeps kp,PySem.W.kla_codeExpr ?_⟩
 obtain ⟨t,ht,hq⟩:=jK A outer s H vs Q E (hr.deeper _) Au
 have I:Inv (Jc rp P w K mg base (ps ++ fv) qual scope f (.ref c') cl A outer s H E) [] ((vs ++ cvs).map some) H { s with heap:=h',toks:=s.toks + (ps.zip us).length }:=by
  have L4:∀ b:Addr,b∉(Jc rp P w K mg base (ps ++ fv) qual scope f (.ref c') cl A outer s H E).ex:=λb z=>absurd (show b∈([]:List Addr) from z) (by simp)
  refine ⟨⟨e0.mod,S.kind,rfl,rfl,aaF _,S.inj,λy hy=>?_,λy c h=>(by cases h),λ_=>hr.hd,adJ e0.frames,.inr ⟨rfl,rfl⟩,λb z=>absurd z (L4 b),e0.bs,e0.xY,λb _ _=>L4 b,λb z=>absurd z (L4 b),e0.jH,e0.B1⟩,
   rfl,e0.bare,Un.kept kp,⟨_,ns,λi y v h1 h2 h3=>?_⟩,λy c h=>?_,e0.cm.fresh (aaF _),λy c h=>?_,λp hp=>absurd (show p∈([]:cq) from hp) (by simp),e0.cm.kept kp,?_⟩
  .have hy:scope.names.lookup y=some .cell \/ scope.names.lookup y=some .free:=hy
   rcases hy with hy | hy
   .exact absurd rfl (S.rF _ (abQ hy))
   .exact S.only y hy
  .have h1:(ps ++ fv)[i]?=some y:=h1
   have ha:(vs ++ cvs)[i]?=some v:=by grind
   by_cases hi:i < ps.length
   .rw [acZ hi] at h1
    rw [acZ (by lia)] at ha
    obtain ⟨u,hu,rv⟩:=r.get ha
    exact ⟨u,rv,.inl ⟨S.par y (aaP h1),Jd (S.nd.sublist (List.sublist_append_left _ _)) h1 hu⟩⟩
   .rw [ab5 (by lia)] at h1
    rw [ab5 (by lia),hl] at ha
    obtain ⟨c,u,e1,⟨o,e2,e3⟩,rv⟩:=cells _ y v h1 ha
    exact ⟨u,rv,.inr ⟨.inr (S.fr y (aaP h1)),c,e1,o,kp _ _ (e0.bs c o e2).1,e3⟩⟩
  .obtain ⟨v,o,e1,e2⟩:=V6 y c h
   exact ⟨v,o,kp _ _ (e0.bs c o e1).1,e2⟩
  .obtain ⟨v,o,e1,e2⟩:=V6 y c h
   exact (e0.bs c o e1).2
  .show _=(ps ++ fv).length
   rw [aax,aa7,aa7,hl,Je]
 refine aa5 (ht [] _ ((vs ++ cvs).map some) H _ I hq) (λu s' hs=>?_) λe s' hs=>hs
 obtain ⟨v,H',J,rv,q⟩:=hs
 exact ⟨v,H',J.os,J.bare,J.base,J.cm,rv,q⟩
section
variable {X:Cx} {pins:cq} {σ:St} {H:Hp} {s:Shared}
def u6 (X:Cx) (s:Shared) (H:Hp):Heap:=PySem.W.hideAll (wB s.heap H) (ke X.stack)
theorem Jf (e:(u6 X s H).get? b=some o):s.heap.get? b=some o /\ H b=none:=D5 (PySem.W.of_hideAll _ e)
theorem rL (e:s.heap.get? b=some o) (n:H b=none) (f:b∉ke X.stack):(u6 X s H).get? b=some o:=PySem.W.hideAll_get _ (pU e n) f
theorem Inv.wide (I:Inv X pins σ H s) (e:X.base.get? b=some o):(u6 X s H).get? b=some o:=
 rL (I.bs b o e).1 (I.bs b o e).2 λz=>by rw [(I.stack.mem z).1] at e; cases e
theorem Ns.widen {h h':Heap} (k:∀ b o,h.get? b=some o->h'.get? b=some o) (n:h.Ns a m):h'.Ns a m:=let ⟨o,es,ep,e,r⟩:=n; ⟨o,es,ep,k _ _ e,r⟩
theorem Mod.widen {K:au} (m:Mod K mg h) (k:∀ b o,h.get? b=some o->h'.get? b=some o):Mod K mg h':=
 ⟨m.TU.keeps k,Ns.widen k m.glob,let ⟨mb,h1,h2⟩:=m.blt; ⟨mb,Ns.widen k h1,h2⟩,m.nolimit.keeps k⟩
theorem xN {h base Pm:Heap}:∀ {l:List Env},h.FunFrames base l->(∀ b∈ke l,Pm.get? b=none)->h.FunFrames Pm l
 | [],_,_=>trivial
 | env :: l,f,n=>by
   obtain ⟨h1,⟨L,o,e1,e2,e3⟩,h3⟩:=f
   have hL:L∈ke (env :: l):=by unfold ke; rw [List.filterMap_cons,e1]; exact List.mem_cons_self
   refine ⟨h1,⟨L,o,e1,n L hL,e3⟩,xN h3 λb hb=>n b ?_⟩
   unfold ke at hb ⊢
   rw [List.filterMap_cons,e1]
   exact aaE _ hb
end
section
variable {X:Cx} {pins:cq} {σ:St} {H:Hp} {s:Shared}
theorem Sg (I:Inv X pins σ H s) (hd:defaultsOf params X.env=([],[]))
  (qp:∀ y∈scope.names,y.2=.free->∃ c,X.env.cells.lookup y.1=some c) (ED:X.env.code=.ref c) (hH:PySem.W.CodeHd s.heap c P) (hP:H P=some (.lam pos q)) (hq:X.env.qual ++ Str.ofString "<lambda>"=q) (hb:s.heap.BuiltinsAt X.mg P) (hPg:mainGlobals≠P)
  (h:∀ (cl:List (Str×Addr)) (f c':Addr) (EC:Value) (s':Shared) (H':Hp),(∀ n c,cl.lookup n=some c->X.env.cells.lookup n=some c)->(∀ n,(n,NameKind.free)∈scope.names->∃ c,cl.lookup n=some c)->Inv X pins σ H' s'->aG H H'->H' c'=some (.code q)->H' f=none->f∉ke X.stack->
   s'.heap.get? f=some (PySem.W.kla_obj (Str.ofString "<lambda>") q params body scope cl ((X.mg (Str.ofString "__name__")).getD .none) c' EC)->Q (.ref f) s'):
  wpAny (model X.prog X.w) X.A (eval (.Lambda params body scope pos) X.env) Q E s:=by
 subst hq
 refine PySem.W.kla_eval hd ?_
 obtain ⟨cl,e1,h1,h2⟩:=oG qp
 obtain ⟨ps,Zq,ht,hc⟩:=(show cN X.prog X.w H s.heap P (.lam pos _) from I.cm P _ hP)
 have yI:=Ns.widen I.bk I.ok.mod.glob
 have nY:∀ f:Addr,s.heap.objs.size<=f->f∉ke X.stack:=λf hf z=>by
  obtain ⟨_,o,e,_⟩:=I.stack.mem z
  exact abp _ (aaC (aaB e) hf)
 rcases hc with hn | ⟨c',Lk,OK⟩
 .refine PySem.W.kla_makeFunction e1 I.ok.glob yI ED hH Zq ht hn hPg hb λc' EC h' tk ext Sh i9 Zr Zs=>?_
  have Uj:=I.cm.fresh Sh
  have un:Un X.fs [] H (upd H c' (.code (X.env.qual ++ Str.ofString "<lambda>"))) s.heap h':=by
   have kp:∀ b o,s.heap.get? b=some o->H b=none->h'.get? b=some o:=λb o e n=>ext b o (λz=>by rw [z,hP] at n; cases n) e
   refine ⟨λb o e n _ _=>kp b o e n,λb o e n _ _=>⟨o.slots,kp b o e n⟩,λb o e n _=>?_,λb o e _=>?_,λb xs e=>?_,λb o u e=>?_,λb ts e=>⟨#[],?_⟩⟩
   .rw [aN (aaR (aaC (aaB e) Sh))]; exact n
   .by_cases z:b=P
    .grind
    .exact ⟨o,ext b o z e⟩
   .rw [aN (bo e Uj)]; exact e
   .rw [aN (bo e Uj)]; exact e
   .rw [aN (bo e Uj),e]; simp
  have ok:ml X.prog X.w (upd H c' (.code (X.env.qual ++ Str.ofString "<lambda>"))) h':=λa o e=>by
   by_cases ha:a=c'
   .subst ha; rw [cf] at e; cases e; exact Zr
   .rw [aN ha] at e
    by_cases CN:a=P
    .subst CN
     rw [hP] at e; cases e
     exact ⟨_,Zs,by rw [Array.toList_append]; exact TriplesOk_snoc _ _ _ _ ht,.inr ⟨c',by rw [Array.toList_append]; exact codeAmong_snoc _ ht hn,cf⟩⟩
    .refine (I.cm a o e).ra (λb u XE q=>ext b u ?_ q) (λb q=>by rw [aN (bo q Uj)]; exact q) λb xs q=>q.new Uj
     rcases XE with z | z
     .grind
     .grind
  have I1:=I.un (t':=tk) un ok
  have hsz:=abM (abq Sh i9)
  have I2:Inv X pins σ (upd H c' (.code (X.env.qual ++ Str.ofString "<lambda>"))) { s with heap:=h'.push (PySem.W.kla_obj (Str.ofString "<lambda>") (X.env.qual ++ Str.ofString "<lambda>") params body scope cl ((X.mg (Str.ofString "__name__")).getD .none) c' EC),toks:=tk }:=
   I1.kept (t':=tk) λb o e=>aab _ e
  exact h cl h'.objs.size c' EC _ _ h1 h2 I2 (λb o e=>by rw [aN (bo e Uj)]; exact e) cf (ok.fresh (aaF _)) (nY _ hsz) (aaH _ rfl)
 .refine PySem.W.kla_makeFunctionHit e1 I.ok.glob yI ED hH Zq ht Lk hb λEC h' tk kp hsz=>?_
  have I2:Inv X pins σ H { s with heap:=h'.push (PySem.W.kla_obj (Str.ofString "<lambda>") (X.env.qual ++ Str.ofString "<lambda>") params body scope cl ((X.mg (Str.ofString "__name__")).getD .none) c' EC),toks:=tk }:=
   I.kept (t':=tk) λb o e=>aab _ (kp b o e)
  exact h cl h'.objs.size c' EC _ _ h1 h2 I2 (aG.refl H) OK (I.cm.fresh hsz) (nY _ hsz) (aaH _ rfl)
end
section
variable {X:Cx} {O:List Nat} {i k kk n:Nat} {f c:Addr} {q x:Str} {e:Expr} {es:List Expr} {p pos:Pos} {t:TA} {sp:Sp} {fd:FuncData} {ps:List Str} {G:List D->Option D} {gr:cg}
end
def MW (mg:dG) (h:Heap):Prop:=∃ bm ob,mg (Str.ofString "__builtins__")=some (.ref bm) /\ bm≠builtinsNs /\ h.get? bm=some ob /\ ob.cls=.type "module" /\ ob.dict=some builtinsNs /\ ob.data=.plain
theorem Rel.Si {K:au} (al:Ls A H) (h:cO K (wo H A) vs ds):Rel K [] [] A (vs.map some) (ds.map some) H where
 len:=by rw [aax,aax,h.len]
 fz:=λi d _ e=>by
  rw [aaU] at e
  cases q:ds[i]? with
  | none=>rw [q] at e; cases e
  | some d'=>
    rw [q] at e; cases e
    obtain ⟨v,e1,e2⟩:=h.get q
    exact ⟨v,by rw [aaU,e1]; rfl,e2⟩
 ow:=λi d hi=>by simp at hi
 inj:=λi j d e l hi=>by simp at hi
 al:=al
structure V7 (ps fv:List Str) (sc:Scope):Prop where
 kind:sc.kind=.function
 co:sc.isCoroutine=false
 gen:sc.isGenerator=false
 rF:∀ y∈sc.names,y.2≠.cell
 nd:(ps ++ fv).Nodup
 par:∀ x∈ps,sc.names.lookup x=some .local
 fr:∀ x∈fv,sc.names.lookup x=some .free
section
variable {X:Cx} {pins:cq} {σ:St} {H:Hp} {s:Shared} {O:List Nat}
end
section
variable {X:Cx} {O:List Nat}
end
def V8 (K:au) (mg:dG) (x:Str) (st:Stmt) (ps:List Str) (c:Addr):Prop:=∃ f fd,HK K x x st f fd /\ fd.code=.ref c /\ mg x=some (.ref f) /\ Binds K fd ps []
theorem Sj {ts:List Addr} (h:(cK.all λt=>ts.contains t.1)=true) (m:(p,y,q)∈cK):p∈ts:=by grind
theorem EE {β:Type}:∀ {l:List (Addr×β)} {p:Addr} {x:β},l.lookup p=some x->(p,x)∈l
 | [],_,_,h=>by cases h
 | (q,y) :: l,p,x,h=>by
   rw [acJ] at h
   by_cases e:p=q
   .grind
   .rw [show (p == q)=false by simpa using e] at h
    exact aaE _ (EE h)
structure AY (K:au):Prop where
 one:∀ p y q,(p,y,q)∈cK->cK.lookup p=some (y,q)
 out:∀ p y q,(p,y,q)∈cK->K.lookup p=none /\ ∃ c,PySem.W.codeHdIn K c p=true
def Hl:Hp:=λb=>(cK.lookup b).map λt=>HO.lam t.1 t.2
theorem MX (h:Hl b=some o):∃ y q,o=.lam y q /\ (b,y,q)∈cK:=by
 unfold Hl at h
 cases e:cK.lookup b with
 | none=>rw [e] at h; cases h
 | some t=>rw [e] at h; cases h; exact ⟨t.1,t.2,rfl,EE e⟩
set_option tactic.hygienic true in
theorem Jg {K:au} (C:jO K) (h:PySem.W.codeHdIn K c p=true):PySem.W.codeHdIn (ee K) c p=true:=by
 have e:(ee K).lookup c=K.lookup c:=by
  cases q:K.lookup c with
  | none=>rw [jN,q]; split <;> rfl
  | some o=>
    refine C.look q λits n z=>?_
    unfold PySem.W.codeHdIn at h
    split at h
    .grind
    .cases h
 unfold PySem.W.codeHdIn at h ⊢
 rw [e]; exact h
theorem Gk {K:au} (CC:jO K) (C:AY K)
  (KX:K.In cu.heap) (hT:∀ p y q,(p,y,q)∈cK->cu.heap.get? p=some (PySem.W.tabObj #[])) (yI:cu.heap.Ns mainGlobals mg) (hb:cu.heap.Ns builtinsNs mb) (XE:∀ x:Str,x≠"__name__"->mb x=bootBuiltins x) (Zt:cu.heap.NoLimit) (Zu:MW mg cu.heap) (hg:cu.gens=#[])
  (ha:cu.heap.get? a=some { cls:=.type "list",data:=.seq vs.toArray }) (hi:IntsAre vs ns) (hl:ns.length<=sizeLine) (hr:dH k callerA)
  (F:∀ base:Heap,(ee K).In base->base.Ns mainGlobals mg->MW mg base->nU P w (ee K) mg base rp k fa fd [x] sp) (V9:∀ (s:Shared) (u:Value),BindsTo s fd ⟨[u],[]⟩ [(x,u)])
  (Au:∀ H:Hp,BX (ee K) H a (ns.map V.int)->(∀ p xs,(p,xs)∈bV->eK H p xs)->(∀ p y q,(p,y,q)∈cK->H p=some (.lam y q))->sp [.ref a] H (λv H'=>v=.bl true /\ aG H H') λ_ _ _=>False):
  codeAny (model P w) callerA (.call (.ref fa) ⟨[.ref a],[]⟩) (λr s'=>r=.ok (.ret (.bool true)) /\ OldK cu.heap s'.heap /\ s'.os=cu.os /\ AllBare s'.gens) cu:=by
 have rv:=xp hi
 have Zv:=hi.length
 have tab:∀ p y q,(p,y,q)∈cK->isCodeTable cu.heap p:=λp y q m=>by
  obtain ⟨_,c,hc⟩:=C.out p y q m
  obtain ⟨o,vs,_,_,_,_,_,_,_,h1,h2,h3,h4,_⟩:=PySem.W.codeHd_of_K KX hc
  exact ⟨c,o,vs,h1,h2,h3,h4⟩
 have core:∀ H:Hp,(∀ b o,H b=some o->(∃ ob u,o=.wz ob u /\ ∀ es ep,ob.data≠.dict es ep /\ ob.data≠.plain) \/ ∃ y q,o=.lam y q /\ (b,y,q)∈cK)->BX (ee K) H a (ns.map V.int)->ml P w H cu.heap->(∀ p xs,(p,xs)∈bV->eK H p xs)->(∀ p y q,(p,y,q)∈cK->H p=some (.lam y q))->(∀ b,H b≠none->(ee K).lookup b=none)->
   codeAny (model P w) callerA (.call (.ref fa) ⟨[.ref a],[]⟩) (λr s'=>r=.ok (.ret (.bool true)) /\ OldK cu.heap s'.heap /\ s'.os=cu.os /\ AllBare s'.gens) cu:=by
  intro H hO hS cm Wa hL hK
  have dat:∀ {b:Addr} {o:Obj} {u:HO},H b=some u->cu.heap.get? b=some o->(∀ es ep,o.data≠.dict es ep) /\ o.data≠.plain:=λ{b o u} e h=>by
   rcases hO b u e with ⟨ob,z,rfl,hd⟩ | ⟨y,q,rfl,m⟩
   .obtain ⟨e1,_⟩:=cm b _ e
    rw [h] at e1; cases e1
    exact ⟨λes ep=>(hd es ep).1,(hd #[] 0).2⟩
   .grind
  have L4:∀ {b:Addr} {o:Obj} {es:Array DictEntry} {ep:Nat},cu.heap.get? b=some o->o.data=.dict es ep->H b=none:=λ{b o es ep} e d=>by
   cases q:H b with
   | none=>rfl
   | some u=>exact absurd d ((dat q e).1 es ep)
  have XF:∀ {b:Addr} {m:dG},cu.heap.Ns b m->(wB cu.heap H).Ns b m:=λ{b m} ⟨o,es,ep,e,d,r⟩=>⟨o,es,ep,pU e (L4 e d),d,r⟩
  have hKb:(ee K).In (wB cu.heap H):=λb o e=>by
   have e0:K.lookup b=some o:=by
    rw [jN] at e
    split at e
    .exact e
    .cases e
   refine pU (KX b o e0) ?_
   cases q:H b with
   | none=>rfl
   | some u=>rw [hK b (by rw [q]; simp)] at e; cases e
  have XG:MW mg (wB cu.heap H):=by
   obtain ⟨bm,ob,b1,b2,b3,b4,b5,b6⟩:=Zu
   refine ⟨bm,ob,b1,b2,pU b3 ?_,b4,b5,b6⟩
   cases q:H bm with
   | none=>rfl
   | some u=>exact absurd b6 (dat q b3).2
  have hM:Mod (ee K) mg (wB cu.heap H):=⟨hKb,XF yI,⟨mb,XF hb,XE⟩,let ⟨mc,h1,h2⟩:=Zt; ⟨mc,XF h1,h2⟩⟩
  have e0:Cb P w (ee K) mg (wB cu.heap H) callerA [] cu H:=⟨rfl,hM,λb o e=>D5 e,adT (xb _ _),trivial,λb hb=>absurd (show b∈([]:List Addr) from hb) (by simp),cm,.of_eq hg⟩
  refine ack ((F _ hKb (XF yI) XG).run callerA [] cu H ⟨[.ref a],[]⟩ [.ref a] [.ref a] _ _ hr e0 (V9 cu (.ref a)) (.cons rfl .nil) (Au H hS Wa hL)) λr s' h=>?_
  cases r with
  | error e=>exact h.elim
  | ok fl=>
    cases fl with
    | next=>exact False.elim h
    | brk=>exact False.elim h
    | cont=>exact False.elim h
    | ret u=>
      obtain ⟨v,H',os,bare,un,Wb,r',rfl,sm⟩:=h
      obtain rfl:u=Value.bool true:=r'
      have was:∀ b o,cu.heap.get? b=some o->asItWas cu.heap s'.heap b o:=λb o e=>by
       cases q:H b with
       | none=>exact .inl (un.keep b o e q (by intro z; exact absurd (show b∈([]:List Addr) from z) (by simp)) (by simp))
       | some u=>
         rcases hO b u q with ⟨ob,z,rfl,_⟩ | ⟨y,q',rfl,m⟩
         .obtain ⟨e1,_⟩:=cm b _ q
          obtain ⟨e2,_⟩:=Wb b _ (un.pT b ob _ q)
          rw [e] at e1; cases e1
          exact .inl e2
         .rw [hT b y q' m] at e; cases e
          obtain ⟨ps,e2,_⟩:=(show cN P w H' s'.heap b (.lam y q') from Wb b _ (sm _ _ q))
          exact .inr (.inl ⟨tab b y q' m,rfl,#[],ps,rfl,by rw [e2,Array.empty_append]⟩)
      exact ⟨rfl,⟨was,λb o e=>un.there b o e (by simp)⟩,os,bare⟩
 have hlO:∀ (H:Hp) b y q,(b,y,q)∈cK->cN P w H cu.heap b (.lam y q):=λH b y q m=>⟨#[],hT b y q m,trivial,.inl rfl⟩
 have hc1:∀ b,Hc K b=none \/ ∃ ob xs od its n sl,Hc K b=some (.wz ob (.tup xs)) /\ bV.lookup b=some xs /\ K.lookup b=some ob /\ ob=⟨.type "tuple",od,.seq its n,sl⟩ /\ xs.length<=sizeLine /\ bg xs its.toList:=by
  intro b
  unfold Hc
  cases q:bV.lookup b with
  | none=>exact .inl rfl
  | some xs=>
    obtain ⟨od,its,n,sl,e,h1,h2⟩:=CC.tup b xs q
    refine .inr ⟨_,xs,od,its,n,sl,?_,rfl,e,rfl,h1,h2⟩
    rw [e]; rfl
 have hcT:∀ p xs,(p,xs)∈bV->∃ ob,Hc K p=some (.wz ob (.tup xs)):=λp xs m=>by
  obtain ⟨od,its,n,sl,e,_⟩:=CC.tup p xs (CC.one p xs m)
  refine ⟨⟨.type "tuple",od,.seq its n,sl⟩,?_⟩
  unfold Hc
  rw [CC.one p xs m]
  rw [e]; rfl
 have hlc:∀ p y q,(p,y,q)∈cK->Hc K p=none:=λp y q m=>by
  rcases hc1 p with z | ⟨_,_,_,_,_,_,_,_,z,_⟩
  .exact z
  .rw [(C.out p y q m).1] at z; cases z
 have both:∀ b o,(Hc K b).or (Hl b)=some o->(∃ ob xs od its n sl,o=.wz ob (.tup xs) /\ bV.lookup b=some xs /\ K.lookup b=some ob /\ ob=⟨.type "tuple",od,.seq its n,sl⟩ /\ xs.length<=sizeLine /\ bg xs its.toList) \/ ∃ y q,o=.lam y q /\ (b,y,q)∈cK:=λb o z=>by
  rcases hc1 b with q | ⟨ob,xs,od,its,n,sl,q,r⟩
  .rw [q,Option.none_or] at z; exact .inr (MX z)
  .grind
 have bO:∀ (H:Hp) b o,(Hc K b).or (Hl b)=some o->cN P w H cu.heap b o:=λH b o z=>by
  rcases both b o z with ⟨ob,xs,od,its,n,sl,rfl,_,e,rfl,h1,h2⟩ | ⟨y,q,rfl,m⟩
  .have Jh:=KX b _ e
   exact ⟨Jh,h1,its.toList,h2,_,Jh,rfl,n,by simp⟩
  .grind
 have bF:∀ b o,(Hc K b).or (Hl b)=some o->(∃ ob u,o=.wz ob u /\ ∀ es ep,ob.data≠.dict es ep /\ ob.data≠.plain) \/ ∃ y q,o=.lam y q /\ (b,y,q)∈cK:=λb o z=>by
  rcases both b o z with ⟨ob,xs,od,its,n,sl,rfl,_,e,rfl,_⟩ | h
  .simp_all
  .grind
 have bK:∀ b,(Hc K b).or (Hl b)≠none->(ee K).lookup b=none:=λb z=>by
  cases q:(Hc K b).or (Hl b) with
  | none=>exact absurd q z
  | some o=>
    rw [jN]
    rcases both b o q with ⟨ob,xs,od,its,n,sl,rfl,e0,_⟩ | ⟨y,q',rfl,m⟩
    .grind
    .rw [(C.out b y q' m).1]; split <;> rfl
 have bT:∀ p xs,(p,xs)∈bV->∃ ob,(Hc K p).or (Hl p)=some (.wz ob (.tup xs)):=λp xs m=>by grind
 have bL:∀ p y q,(p,y,q)∈cK->(Hc K p).or (Hl p)=some (.lam y q):=λp y q m=>by
  rw [hlc p y q m,Option.none_or]; unfold Hl; rw [C.one p y q m]; rfl
 have Wc:(Hc K a).or (Hl a)=none:=by
  cases q:(Hc K a).or (Hl a) with
  | none=>rfl
  | some o=>
    rcases both a o q with ⟨ob,xs,od,its,n,sl,rfl,_,e,rfl,_⟩ | ⟨y,q',rfl,m⟩
    .have:=KX a _ e
     rw [ha] at this
     have:=abJ Obj.cls (abe this)
     exact absurd (acN this) (by decide)
    .grind
 cases hk:(ee K).lookup a with
 | some o=>
   have e0:K.lookup a=some o:=by
    rw [jN] at hk
    split at hk
    .grind
    .grind
   have e:=KX a o e0
   rw [ha] at e
   cases e
   exact core (λb=>(Hc K b).or (Hl b)) bF (.inr ⟨vs,_,hk,by rw [Zv]; exact hl,rv⟩) (λb u z=>bO _ b u z) (λp xs m=>.inr (bT p xs m)) bL bK
 | none=>
   refine core (λb=>if b=a then some (.wz { cls:=.type "list",data:=.seq vs.toArray } (.lst (ns.map V.int))) else (Hc K b).or (Hl b)) (λb o z=>?_) (.inl (.inr ⟨{ cls:=.type "list",data:=.seq vs.toArray },aaL rfl⟩)) (λb u z=>?_) (λp xs m=>?_) (λp y q m=>?_) λb z=>?_
   .by_cases hb:b=a
    .have z':=(aaL hb).symm.trans z
     cases z'
     exact .inl ⟨_,_,rfl,λes ep=>⟨λy=>(by cases y),λy=>(by cases y)⟩⟩
    .exact bF b o ((aaO hb).symm.trans z)
   .by_cases hb:b=a
    .have z':=(aaL hb).symm.trans z
     cases z'
     subst hb
     exact ⟨ha,by rw [aax]; exact hl,vs,_,rv,ha⟩
    .grind
   .obtain ⟨ob,q⟩:=bT p xs m
    have hb:p≠a:=λe=>by rw [e,Wc] at q; cases q
    exact .inr ⟨ob,(aaO hb).trans q⟩
   .grind
   .grind
theorem Ji {l:PySem.W.OpenLaw} {K:Params->au} {sp:World->Sp} 
  (hn:l.most=some n) (Uk:n<=sizeLine) (Vi:d.params.defaults=[]) (hr:dH k callerA) (hY:∀ (w:World) (h:Heap),YP w h->(K w.params).In h /\ ∀ p y q,(p,y,q)∈cK->h.get? p=some (PySem.W.tabObj #[]))
  (F:∀ (w:World) (mg:dG) (fa:Addr) (h:Heap),(K w.params).In h->h.Ns mainGlobals mg->mg d.name=some (.ref fa)->jO (K w.params) /\ AY (K w.params) /\
   ∃ fd:FuncData,(∀ (s:Shared) (u:Value),BindsTo s fd ⟨[u],[]⟩ [(x,u)]) /\ ∀ base:Heap,(ee (K w.params)).In base->base.Ns mainGlobals mg->MW mg base->nU l.prog w (ee (K w.params)) mg base rp k fa fd [x] (sp w))
  (Au:∀ (w:World) (H:Hp) (a:Addr) (ns:List Int),ns.length<=n->BX (ee (K w.params)) H a (ns.map V.int)->(∀ p xs,(p,xs)∈bV->eK H p xs)->(∀ p y q,(p,y,q)∈cK->H p=some (.lam y q))->sp w [.ref a] H (λv H'=>v=.bl true /\ aG H H') λ_ _ _=>False):
  PySem.W.WalkO q loose XP YP l.row.toRowW d [] (λf vs=>PySem.call f vs):=by
 refine Att.Ax hn Vi λw gQ cu mg mb fa o pm cd doc a vs ns G Y ho hd qY Vj HJ hints hlen hg=>?_
 obtain ⟨KX,KT⟩:=hY w _ Y
 obtain ⟨CC,C,fd,hb,hF⟩:=F w mg fa _ KX G.T.g Vj
 exact Gk CC C KX KT G.T.g G.T.b G.T.builtins G.T.nolimit G.T.bmain hg HJ hints (aa6 hlen Uk) hr hF hb (λH hS hC hT=>Au w H a ns hlen hS hC hT)
end L2
namespace KS
open PySem PyProof.Rows
section
variable {κ:KeyKind}
end
section
variable {prog:Program} {w:World} {A:Around} {E:cW} {s:Shared} {aD:Array Keyed} {κ:KeyKind}
structure Ba (aD:Array Keyed) (kd:SortKind) (st:SortSt):Prop where
 perm:(arrOf st).Perm aD
 kind:kindOf st=kd
 failed:failedOf st=none
theorem Ba.size {st:SortSt} (h:Ba aD kd st):(arrOf st).size=aD.size:=h.perm.size_eq
theorem Ba.arr {st:SortSt} (h:Ba aD kd st) (hp:xs.Perm (arrOf st)):Ba aD kd (setArr st xs):=⟨hp.trans h.perm,h.kind,h.failed⟩
theorem Ba.get {st:SortSt} (h:Ba aD kd st) (hi:i < aD.size):∃ x,(arrOf st)[i]?=some x /\ x∈aD.toList /\ KK κ (arrOf st) i=(κ.keyOf x.1).getD κ.dflt:=by
 have Lv:i < (arrOf st).size:=by rw [h.size]; exact hi
 have e:(arrOf st)[i]?=some (arrOf st)[i]:=adU _ i Lv
 refine ⟨(arrOf st)[i],e,(acW.mp h.perm).mem_iff.mp (by simp),?_⟩
 unfold KK; rw [e]
def wN (prog:Program) (w:World) (A:Around) (E:cW) (s:Shared) (κ:KeyKind) (kd:SortKind) (aD:Array Keyed):Prop:=
 ∀ x y:Keyed,x∈aD.toList->y∈aD.toList->∀ (E':cW) (Q:Bool->Shared->Prop),Q (κ.blt ((κ.keyOf x.1).getD κ.dflt) ((κ.keyOf y.1).getD κ.dflt)) s->wpAny (model prog w) A (keyLt' kd x.1 y.1) Q E' s
theorem Sk {st:SortSt} (hO:wN prog w A E s κ kd aD) (hk:kindOf st=kd) (hx:x∈aD.toList) (hy:y∈aD.toList) (h:Q (some (κ.blt ((κ.keyOf x.1).getD κ.dflt) ((κ.keyOf y.1).getD κ.dflt))) st):
  wpS (model prog w) A E s (lt' x y) Q st:=by
 rw [lt'_eq]
 refine wpS_bind (wpS_get ?_)
 refine wpS_bind (wpS_lift (adb ?_))
 rw [hk]
 exact hO x y hx hy _ _ ⟨rfl,wpS_pure h⟩
theorem AZ {st:SortSt} (hi:xs[i]?=some x) (h:Q x st):wpS (model prog w) A E s (elem' xs i) Q st:=by
 rw [elem'_eq,hi]
 exact wpS_pure h
theorem qu {st:SortSt} (hO:wN prog w A E s κ kd aD) (hB:Ba aD kd st) (hi:i < aD.size) (hj:j < aD.size) (h:Q (some (κ.blt (KK κ (arrOf st) i) (KK κ (arrOf st) j))) st):
  wpS (model prog w) A E s (ltAt' i j) Q st:=by
 obtain ⟨x,e1,m1,k1⟩:=hB.get (κ:=κ) hi
 obtain ⟨y,e2,m2,k2⟩:=hB.get (κ:=κ) hj
 rw [k1,k2] at h
 exact wpS_bind (wpS_get (wpS_bind (AZ e1 (wpS_bind (AZ e2 (Sk hO hB.kind m1 m2 h))))))
end
def OO (o:Keyed->Nat) (xs:Array Keyed) (i:Nat):Nat:=(xs[i]?.map o).getD 0
def lx (κ:KeyKind) (p q:κ.α×Nat):Prop:=κ.klt p.1 q.1 \/ p.1=q.1 /\ p.2 < q.2
def TT (κ:KeyKind) (o:Keyed->Nat) (xs:Array Keyed) (i:Nat):κ.α×Nat:=(KK κ xs i,OO o xs i)
def yJ (κ:KeyKind) (o:Keyed->Nat) (xs:Array Keyed) (k:Nat):Prop:=∀ i j,i < j->j < k->lx κ (TT κ o xs i) (TT κ o xs j)
def Dec (κ:KeyKind) (o:Keyed->Nat) (xs:Array Keyed) (k:Nat):Prop:=∀ i j,i < j->j < k->lx κ (TT κ o xs j) (TT κ o xs i)
section
variable {prog:Program} {w:World} {A:Around} {E:cW} {s:Shared} {aD:Array Keyed} {κ:KeyKind} {o:Keyed->Nat} {kd:SortKind}
theorem u7 (h:ys[i]?=xs[j]?):TT κ o ys i=TT κ o xs j:=by unfold TT OO KK; rw [h]
theorem Jj (h:lx κ p q):κ.kle p.1 q.1:=by
 rcases h with h | ⟨h,_⟩
 .exact KeyOrd.kle_of_klt h
 .rw [h]; exact KeyOrd.kle_refl _
theorem u9 (h:lx κ p q) (k:lx κ q r):lx κ p r:=by
 rcases h with h | ⟨h,h'⟩
 .exact .inl (KeyOrd.klt_of_klt_of_kle h (Jj k))
 .rcases k with k | ⟨k,k'⟩
  .rw [<- h] at k; exact .inl k
  .exact .inr ⟨h.trans k,aeL h' k'⟩
theorem Pn (h:κ.blt q.1 p.1=false) (k:p.2 < q.2):lx κ p q:=by
 cases e:κ.blt p.1 q.1 with
 | true=>exact .inl e
 | false=>exact .inr ⟨KeyOrd.kle_antisymm h e,k⟩
theorem Wd (h:lx κ p q) (k:q.2<=p.2):κ.klt p.1 q.1:=by
 rcases h with h | ⟨_,h⟩
 .exact h
 .grind
structure Pre (o:Keyed->Nat) (aD:Array Keyed) (kd:SortKind) (jn:Array (Nat×Nat×Nat)) (st:SortSt) (k:Nat):Prop where
 base:Ba aD kd st
 pend:pendingOf st=jn
 rest:∀ i,k<=i->(arrOf st)[i]?=aD[i]?
 ord:∀ i,i < k->OO o (arrOf st) i < k
variable {jn:Array (Nat×Nat×Nat)} {st:SortSt}
theorem Pre.own (hP:Pre o aD kd jn st k) (hA:∀ i,i < aD.size->OO o aD i=i) (h1:k<=i) (h2:i < aD.size):OO o (arrOf st) i=i:=by
 rw [show OO o (arrOf st) i=OO o aD i by unfold OO; rw [hP.rest i h1]]
 exact hA i h2
theorem Pre.more (hP:Pre o aD kd jn st k) (hA:∀ i,i < aD.size->OO o aD i=i) (Zw:k<=n) (hn:n<=aD.size):Pre o aD kd jn st n:=by
 refine ⟨hP.base,hP.pend,λi h=>hP.rest i (by lia),λi h=>?_⟩
 by_cases q:i < k
 .have:=hP.ord i q; lia
 .rw [hP.own hA (by lia) (by lia)]; exact h
theorem EF (hO:wN prog w A E s κ kd aD) (hA:∀ i,i < aD.size->OO o aD i=i) (ha:1<=a) (han:a<=aD.size) (hP:Pre o aD kd jn st a) (hs:yJ κ o (arrOf st) a)
  (h:∀ n,a<=n->n<=aD.size->yJ κ o (arrOf st) n->(n=aD.size \/ κ.klt (KK κ (arrOf st) n) (KK κ (arrOf st) (n - 1)))->Q (none,n) st):wpS (model prog w) A E s (ascLoop a aD.size) Q st:=by
 refine wpS_forRange (I:=λx c cZ=>cZ=st /\ c=(none,x) /\ yJ κ o (arrOf st) x) ?step ?fin ⟨rfl,rfl,hs⟩
 case fin=>grind
 case step=>
  rintro x c cZ XH hxn ⟨rfl,rfl,oj⟩
  refine wpS_bind (qu hO hP.base (by lia) (by lia) ?_)
  cases A1:κ.blt (KK κ (arrOf cZ) x) (KK κ (arrOf cZ) (x - 1))
  case true=>
   exact wpS_pure (h x XH (by lia) oj (.inr A1))
  case false=>
   have hx:=hP.more hA XH (by lia)
   have last:lx κ (TT κ o (arrOf cZ) (x - 1)) (TT κ o (arrOf cZ) x):=Pn A1 (by
    show OO o (arrOf cZ) (x - 1) < OO o (arrOf cZ) x
    rw [hx.own hA (aaF _) hxn]; exact hx.ord _ (by lia))
   refine wpS_pure ⟨rfl,rfl,λi j kK hj=>?_⟩
   by_cases hjx:j < x
   .exact oj i j kK hjx
   .have e:j=x:=by lia
    rw [e]
    by_cases q:i=x - 1
    .grind
    .exact u9 (oj i (x - 1) (by lia) (by lia)) last
theorem xO (hO:wN prog w A E s κ kd aD) (hA:∀ i,i < aD.size->OO o aD i=i) (h1:1<=n) (Po:n<=aD.size) (hP:Pre o aD kd jn st n) (hs:Dec κ o (arrOf st) n)
  (h:∀ m cZ,1<=m->m<=aD.size->Pre o aD kd jn cZ m->yJ κ o (arrOf cZ) m->Q (some m) cZ):wpS (model prog w) A E s (tail3 n aD.size) Q st:=by
 have hsz:n<=(arrOf st).size:=by rw [hP.base.size]; lia
 refine wpS_bind (wpS_reverse ?_)
 have g:∀ i,(mirror (arrOf st) 0 n ((n - 0) / 2))[i]?=if 0<=i /\ i < n then (arrOf st)[0 + n - 1 - i]? else (arrOf st)[i]?:=getElem?_mirror_all hsz
 have t7:Pre o aD kd jn (setArr st (mirror (arrOf st) 0 n ((n - 0) / 2))) n:=by
  refine ⟨hP.base.arr (mirror_perm _ _ _ _),hP.pend,λi hi=>?_,λi hi=>?_⟩
  .show (mirror (arrOf st) 0 n ((n - 0) / 2))[i]?=_
   rw [g,aaO (by lia)]; exact hP.rest i hi
  .show OO o (mirror (arrOf st) 0 n ((n - 0) / 2)) i < n
   unfold OO
   rw [g,aaL (by lia)]
   exact hP.ord _ (by lia)
 refine wpS_bind (EF hO hA h1 Po t7 ?_ λm Ul Es hsm _=>wpS_pure (h m _ (by lia) Es (t7.more hA Ul Es) hsm))
 intro i j kK hj
 rw [u7 ((g i).trans (aaL (by lia))),u7 ((g j).trans (aaL (by lia)))]
 exact hs _ _ (by lia) (by lia)
structure yK (κ:KeyKind) (o:Keyed->Nat) (xs:Array Keyed) (g x:Nat):Prop where
 dec:∀ i j,i < j->j < x->i < g->lx κ (TT κ o xs j) (TT κ o xs i)
 same:∀ i,g<=i->i < x->KK κ xs i=KK κ xs (x - 1)
theorem yK.le (h:yK κ o xs g x) (hi:i < x):κ.kle (KK κ xs (x - 1)) (KK κ xs i):=by
 by_cases q:g<=i
 .rw [h.same i q hi]; exact KeyOrd.kle_refl _
 .by_cases q2:i=x - 1
  .rw [q2]; exact KeyOrd.kle_refl _
  .exact Jj (h.dec i (x - 1) (by lia) (by lia) (by lia))
theorem rM (hA:∀ i,i < aD.size->OO o aD i=i) (hx:x<=aD.size) (hg:g < x) (hP:Pre o aD kd jn st g) (hF:yK κ o (arrOf st) g x):
  Pre o aD kd jn (setArr st (mirror (arrOf st) g x ((x - g) / 2))) x /\ Dec κ o (mirror (arrOf st) g x ((x - g) / 2)) x /\ (∀ i,i < x->κ.kle (KK κ (arrOf st) (x - 1)) (KK κ (mirror (arrOf st) g x ((x - g) / 2)) i)) /\ ∀ i,x<=i->KK κ (mirror (arrOf st) g x ((x - g) / 2)) i=KK κ (arrOf st) i:=by
 have hsz:x<=(arrOf st).size:=by rw [hP.base.size]; lia
 have e:∀ i,(mirror (arrOf st) g x ((x - g) / 2))[i]?=if g<=i /\ i < x then (arrOf st)[g + x - 1 - i]? else (arrOf st)[i]?:=getElem?_mirror_all hsz
 have t:∀ i,TT κ o (mirror (arrOf st) g x ((x - g) / 2)) i=if g<=i /\ i < x then TT κ o (arrOf st) (g + x - 1 - i) else TT κ o (arrOf st) i:=λi=>by
  by_cases q:g<=i /\ i < x
  .rw [aaL q]; exact u7 ((e i).trans (aaL q))
  .rw [aaO q]; exact u7 ((e i).trans (aaO q))
 refine ⟨⟨hP.base.arr (mirror_perm _ _ _ _),hP.pend,λi hi=>?_,λi hi=>?_⟩,λi j kK hj=>?_,λi hi=>?_,λi hi=>?_⟩
 .show (mirror (arrOf st) g x ((x - g) / 2))[i]?=_
  rw [e,aaO (by lia)]; exact hP.rest i (by lia)
 .show (TT κ o (mirror (arrOf st) g x ((x - g) / 2)) i).2 < x
  rw [t]
  by_cases q:g<=i /\ i < x
  .rw [aaL q]
   show OO o (arrOf st) (g + x - 1 - i) < x
   rw [hP.own hA (by lia) (by lia)]; lia
  .rw [aaO q]
   have:=hP.ord i (by lia)
   exact aeL this hg
 .by_cases qi:g<=i
  .rw [(t i).trans (aaL ⟨qi,by lia⟩),(t j).trans (aaL ⟨by lia,hj⟩)]
   refine .inr ⟨(hF.same _ (by lia) (by lia)).trans (hF.same _ (by lia) (by lia)).symm,?_⟩
   show OO o (arrOf st) _ < OO o (arrOf st) _
   rw [hP.own hA (by lia) (by lia),hP.own hA (by lia) (by lia)]; lia
  .rw [(t i).trans (aaO λz=>qi z.1)]
   by_cases qj:g<=j
   .rw [(t j).trans (aaL ⟨qj,hj⟩)]; exact hF.dec _ _ (by lia) (by lia) (by lia)
   .rw [(t j).trans (aaO λz=>qj z.1)]; exact hF.dec _ _ kK hj (by lia)
 .show κ.kle _ (TT κ o (mirror (arrOf st) g x ((x - g) / 2)) i).1
  rw [t]
  by_cases q:g<=i /\ i < x
  .rw [aaL q]; exact hF.le (by lia)
  .rw [aaO q]; exact hF.le hi
 .show (TT κ o (mirror (arrOf st) g x ((x - g) / 2)) i).1=_
  rw [t,aaO (by lia)]; rfl
theorem vb (xs:Array Keyed) (hx:1<=x):mirror xs (x - 1) x ((x - (x - 1)) / 2)=xs:=by
 rw [show x - (x - 1)=1 by lia]; rfl
theorem A2 (st:SortSt):setArr st (arrOf st)=st:=rfl
theorem Gm (hO:wN prog w A E s κ kd aD) (hA:∀ i,i < aD.size->OO o aD i=i) (h1:1<=n) (Po:n<=aD.size) (hP:Pre o aD kd jn st (n - 1)) (hF:yK κ o (arrOf st) (n - 1) n)
  (h:∀ m wO cZ,n<=m->m<=aD.size->wO + 1<=m->Pre o aD kd jn cZ (m - (wO + 1))->yK κ o (arrOf cZ) (m - (wO + 1)) m->Q (none,m,wO) cZ):wpS (model prog w) A E s (descLoop n aD.size) Q st:=by
 refine wpS_forRange (I:=λx c cZ=>∃ wO,c=(none,x,wO) /\ wO + 1<=x /\ Pre o aD kd jn cZ (x - (wO + 1)) /\ yK κ o (arrOf cZ) (x - (wO + 1)) x) ?step ?fin ⟨0,rfl,by lia,hP,hF⟩
 case fin=>grind
 case step=>
  rintro x c cZ XH hxn ⟨wO,rfl,hq,t7,Sl⟩
  dsimp only
  refine wpS_bind (qu hO t7.base (by lia) (by lia) ?_)
  cases A1:κ.blt (KK κ (arrOf cZ) x) (KK κ (arrOf cZ) (x - 1))
  case true=>
   obtain ⟨p1,p2,p3,p4⟩:=rM hA (by lia) (by lia) t7 Sl
   have fin:∀ dW:SortSt,arrOf dW=mirror (arrOf cZ) (x - (wO + 1)) x ((x - (x - (wO + 1))) / 2)->Pre o aD kd jn dW x->∃ MY,((none,x + 1,0):DescSt)=(none,x + 1,MY) /\ MY + 1<=x + 1 /\ Pre o aD kd jn dW (x + 1 - (MY + 1)) /\ yK κ o (arrOf dW) (x + 1 - (MY + 1)) (x + 1):=by
    intro dW e Lw
    refine ⟨0,rfl,by lia,Lw,⟨λi j kK hj hi=>?_,λi h1 h2=>by congr 1; lia⟩⟩
    rw [e]
    by_cases q:j < x
    .exact p2 i j kK q
    .have e2:j=x:=by lia
     rw [e2]
     refine .inl ?_
     show κ.klt (KK κ (mirror _ _ _ _) x) _
     rw [p4 x (aaF _)]
     exact KeyOrd.klt_of_klt_of_kle A1 (p3 i (by lia))
   by_cases Jk:wO > 0
   .rw [aaL Jk]
    exact wpS_bind (wpS_reverse (wpS_pure (fin _ rfl p1)))
   .rw [aaO Jk]
    have e0:wO=0:=by lia
    subst e0
    have em:=vb (arrOf cZ) (x:=x) (by lia)
    rw [show x - (0 + 1)=x - 1 by lia,em,A2] at p1
    exact wpS_pure (fin cZ (by rw [show x - (0 + 1)=x - 1 by lia,em]) p1)
  case false=>
   refine wpS_bind (qu hO t7.base (by lia) (by lia) ?_)
   cases MZ:κ.blt (KK κ (arrOf cZ) (x - 1)) (KK κ (arrOf cZ) x)
   case true=>
    exact wpS_pure (h x wO cZ XH (by lia) hq t7 Sl)
   case false=>
    have We:=KeyOrd.kle_antisymm MZ A1
    have eg:x + 1 - (wO + 1 + 1)=x - (wO + 1):=by lia
    refine wpS_pure ⟨wO + 1,rfl,by lia,by rw [eg]; exact t7,?_⟩
    rw [eg]
    refine ⟨λi j kK hj hi=>?_,λi h1 h2=>?_⟩
    .by_cases q:j < x
     .exact Sl.dec i j kK q hi
     .have e2:j=x:=by lia
      rw [e2]
      refine .inl ?_
      show κ.klt (KK κ (arrOf cZ) x) _
      rw [We]
      refine Wd (Sl.dec i (x - 1) (by lia) (by lia) hi) ?_
      show OO o (arrOf cZ) i<=OO o (arrOf cZ) (x - 1)
      have own:OO o (arrOf cZ) (x - 1)=x - 1:=t7.own hA (by lia) (by lia)
      have:=t7.ord i hi
      lia
    .rw [show x + 1 - 1=x by lia]
     by_cases CH:i=x
     .grind
     .rw [We]; exact Sl.same i h1 (by lia)
theorem vj (hO:wN prog w A E s κ kd aD) (hA:∀ i,i < aD.size->OO o aD i=i) (Po:n + 1<=aD.size) (hP:Pre o aD kd jn st n) (hs:Dec κ o (arrOf st) n) (hl:∀ i,i < n->κ.klt (KK κ (arrOf st) n) (KK κ (arrOf st) i))
  (h:∀ m cZ,1<=m->m<=aD.size->Pre o aD kd jn cZ m->yJ κ o (arrOf cZ) m->Q (some m) cZ):wpS (model prog w) A E s (descPart n aD.size) Q st:=by
 refine wpS_bind (wpS_lift (acP ⟨rfl,?_⟩))
 have hF:yK κ o (arrOf st) (n + 1 - 1) (n + 1):=⟨λi j kK hj hi=>by
  by_cases q:j < n
  .exact hs i j kK q
  .rw [show j=n by lia]; exact .inl (hl i (by lia)),λi h1 h2=>by congr 1; lia⟩
 refine wpS_bind (Gm hO hA (by lia) Po (by simpa using hP) hF λm wO cZ Ul Es hq t7 Sl=>?_)
 dsimp only
 obtain ⟨p1,p2,_,_⟩:=rM hA Es (by lia) t7 Sl
 by_cases Jk:wO > 0
 .rw [aaL Jk]
  exact wpS_bind (wpS_reverse (xO hO hA (by lia) Es p1 p2 h))
 .rw [aaO Jk]
  have e0:wO=0:=by lia
  subst e0
  have em:=vb (arrOf cZ) (x:=m) (by lia)
  rw [show m - (0 + 1)=m - 1 by lia,em] at p1 p2
  exact xO hO hA (by lia) Es p1 p2 h
theorem Jl (hO:wN prog w A E s κ kd aD) (hA:∀ i,i < aD.size->OO o aD i=i) (h1:1<=aD.size) (hP:Pre o aD kd jn st 0)
  (h:∀ m cZ,1<=m->m<=aD.size->Pre o aD kd jn cZ m->yJ κ o (arrOf cZ) m->Q (some m) cZ):wpS (model prog w) A E s (countRun' 0 aD.size) Q st:=by
 rw [countRun0_eq]
 have hP1:=hP.more hA (abS 1) h1
 refine wpS_bind (EF hO hA (aaF 1) h1 hP1 (λi j kK hj=>by lia) λn hn1 Uk Zx hor=>?_)
 have Zy:=hP.more hA (abS n) Uk
 by_cases Po:n=aD.size
 .rw [if_pos (by simpa using Po)]
  exact wpS_pure (h n st hn1 Uk Zy Zx)
 .rw [if_neg (by simpa using Po)]
  have i9:=hor.resolve_left Po
  by_cases hgt:n > 1
  .rw [aaL hgt]
   refine wpS_bind (qu hO hP.base (by lia) (by lia) ?_)
   cases Wf:κ.blt (KK κ (arrOf st) 0) (KK κ (arrOf st) (n - 1))
   case true=>
    exact wpS_pure (h n st hn1 Uk Zy Zx)
   case false=>
    have le:∀ i j,i<=j->j < n->κ.kle (KK κ (arrOf st) i) (KK κ (arrOf st) j):=λi j kK hj=>by
     by_cases q:i=j
     .rw [q]; exact KeyOrd.kle_refl _
     .exact Jj (Zx i j (by lia) hj)
    have hF:yK κ o (arrOf st) 0 n:=⟨λi j _ _ hi=>absurd hi (Nat.not_lt_zero _),λi _ hi=>KeyOrd.kle_antisymm (le i (n - 1) (by lia) (by lia)) (KeyOrd.kle_trans Wf (le 0 i (by lia) hi))⟩
    obtain ⟨p1,p2,p3,p4⟩:=rM hA Uk (by lia) hP hF
    refine wpS_bind (wpS_reverse (vj hO hA (by lia) p1 p2 (λi hi=>?_) h))
    rw [p4 n (aaF _)]
    exact KeyOrd.klt_of_klt_of_kle i9 (p3 i hi)
  .rw [aaO hgt]
   have e1:n=1:=by lia
   subst e1
   exact vj hO hA (by lia) Zy (λi j kK hj=>by lia) (λi hi=>by rw [show i=1 - 1 by lia]; exact i9) h
theorem Jm (hO:wN prog w A E s κ kd aD) (hA:∀ i,i < aD.size->OO o aD i=i) (adj:1<=ok) (cm:ok<=aD.size) (hP:Pre o aD kd jn st ok) (hs:yJ κ o (arrOf st) ok)
  (h:∀ cZ,Pre o aD kd jn cZ aD.size->yJ κ o (arrOf cZ) aD.size->Q true cZ):wpS (model prog w) A E s (binarySort' 0 aD.size ok) Q st:=by
 rw [binarySort'_eq]
 simp only [acE]
 refine wpS_bind (wpS_mono (wpS_forRange (I:=λk c cZ=>c=(none,()) /\ k<=aD.size /\ Pre o aD kd jn cZ k /\ yJ κ o (arrOf cZ) k) (Q:=λc cZ=>c=(none,()) /\ Pre o aD kd jn cZ aD.size /\ yJ κ o (arrOf cZ) aD.size) ?step ?fin ?init) ?post)
 case init=>rw [show max ok 1=ok by lia]; exact ⟨rfl,cm,hP,hs⟩
 case post=>
  rintro c cZ ⟨rfl,h1,h2⟩
  exact wpS_pure (h cZ h1 h2)
 case fin=>grind
 case step=>
  rintro k c cZ hak Zw ⟨rfl,_,t7,oj⟩
  have own:=t7.own hA (aaF _) Zw
  refine wpS_bind (wpS_mono (wpS_forRange (I:=λx c dW=>dW=cZ /\ ∃ l r,c=(none,l,r) /\ l<=r /\ r<=k /\ r - l<=k - x /\ (∀ i,i < l->lx κ (TT κ o (arrOf cZ) i) (TT κ o (arrOf cZ) k)) /\ (∀ i,r<=i->i < k->lx κ (TT κ o (arrOf cZ) k) (TT κ o (arrOf cZ) i)))
   (Q:=λc dW=>dW=cZ /\ ∃ l r,c=(none,l,r) /\ l<=k /\ (∀ i,i < l->lx κ (TT κ o (arrOf cZ) i) (TT κ o (arrOf cZ) k)) /\ (∀ i,l<=i->i < k->lx κ (TT κ o (arrOf cZ) k) (TT κ o (arrOf cZ) i))) ?istep ?ifin ?iinit) ?ipost)
  case iinit=>exact ⟨rfl,0,k,rfl,by lia,by lia,by lia,λi hi=>by lia,λi h1 h2=>by lia⟩
  case ifin=>
   rintro c dW ⟨rfl,l,r,rfl,a1,a2,a3,a4,a5⟩
   exact ⟨rfl,l,r,rfl,by lia,a4,λi b1 b2=>a5 i (by lia) b2⟩
  case istep=>
   rintro x c dW _ hx ⟨rfl,l,r,rfl,a1,a2,a3,a4,a5⟩
   dsimp only
   by_cases g:l >=r
   .rw [aaL g]
    exact wpS_pure ⟨rfl,l,r,rfl,by lia,a4,λi b1 b2=>a5 i (by lia) b2⟩
   .rw [aaO g]
    refine wpS_bind (qu hO t7.base (by lia) (by lia) ?_)
    cases q:κ.blt (KK κ (arrOf dW) k) (KK κ (arrOf dW) ((l + r) / 2))
    case true=>
     refine wpS_pure ⟨rfl,l,(l + r) / 2,rfl,by lia,by lia,by lia,a4,λi b1 b2=>?_⟩
     by_cases e:i=(l + r) / 2
     .rw [e]; exact .inl q
     .exact u9 (q:=TT κ o (arrOf dW) ((l + r) / 2)) (.inl q) (oj _ _ (by lia) b2)
    case false=>
     have mid:lx κ (TT κ o (arrOf dW) ((l + r) / 2)) (TT κ o (arrOf dW) k):=Pn q (by
      show OO o (arrOf dW) _ < OO o (arrOf dW) k
      rw [own]; exact t7.ord _ (by lia))
     refine wpS_pure ⟨rfl,(l + r) / 2 + 1,r,rfl,by lia,by lia,by lia,λi b1=>?_,a5⟩
     by_cases e:i=(l + r) / 2
     .grind
     .exact u9 (oj _ _ (by lia) (by lia)) mid
  case ipost=>
   rintro c dW ⟨rfl,l,r,rfl,a1,a4,a5⟩
   have hks:k < (arrOf dW).size:=by rw [t7.base.size]; exact Zw
   have e:∀ i,(bubble (arrOf dW) k (k - l))[i]?=if i=l then (arrOf dW)[k]? else if l < i /\ i<=k then (arrOf dW)[i - 1]? else (arrOf dW)[i]?:=λi=>by
    rw [getElem?_bubble hks (k - l) (by lia),show k - (k - l)=l by lia]
   have t:∀ i,TT κ o (bubble (arrOf dW) k (k - l)) i=if i=l then TT κ o (arrOf dW) k else if l < i /\ i<=k then TT κ o (arrOf dW) (i - 1) else TT κ o (arrOf dW) i:=λi=>by
    by_cases q1:i=l
    .rw [aaL q1]; exact u7 ((e i).trans (aaL q1))
    .rw [aaO q1]
     by_cases q2:l < i /\ i<=k
     .rw [aaL q2]; exact u7 ((e i).trans ((aaO q1).trans (aaL q2)))
     .rw [aaO q2]; exact u7 ((e i).trans ((aaO q1).trans (aaO q2)))
   refine wpS_bind (wpS_modify (wpS_pure ⟨rfl,by lia,⟨t7.base.arr (bubble_perm _ _ _),t7.pend,λi hi=>?_,λi hi=>?_⟩,λi j kK hj=>?_⟩))
   .show (bubble (arrOf dW) k (k - l))[i]?=_
    rw [e,aaO (by lia),aaO (by lia)]; exact t7.rest i (by lia)
   .show (TT κ o (bubble (arrOf dW) k (k - l)) i).2 < k + 1
    rw [t]
    by_cases q1:i=l
    .rw [aaL q1]; show OO o (arrOf dW) k < k + 1; lia
    .rw [aaO q1]
     by_cases q2:l < i /\ i<=k
     .rw [aaL q2]; exact abT (t7.ord _ (by lia))
     .rw [aaO q2]; exact abT (t7.ord _ (by lia))
   .show lx κ (TT κ o (bubble (arrOf dW) k (k - l)) i) (TT κ o (bubble (arrOf dW) k (k - l)) j)
    rw [t i,t j]
    by_cases i1:i=l
    .grind
    .rw [aaO i1]
     by_cases j1:j=l
     .grind
     .rw [aaO j1]
      by_cases i2:l < i /\ i<=k
      .rw [aaL i2,aaL (by lia)]
       exact oj _ _ (by lia) (by lia)
      .rw [aaO i2]
       by_cases j2:l < j /\ j<=k
       .rw [aaL j2]
        exact oj _ _ (by lia) (by lia)
       .rw [aaO j2]
        exact oj _ _ (by lia) (by lia)
theorem Jn (hO:wN prog w A E s κ kd aD) (hA:∀ i,i < aD.size->OO o aD i=i) (hB:Ba aD kd st) (he:arrOf st=aD) (hp:pendingOf st=#[]) (h2:2<=aD.size) (xC:aD.size < 64)
  (h:∀ cZ,Ba aD kd cZ->yJ κ o (arrOf cZ) aD.size->Q () cZ):wpS (model prog w) A E s sortRuns' Q st:=by
 have hP:Pre o aD kd #[] st 0:=⟨hB,hp,λi _=>by rw [he],λi hi=>absurd hi (Nat.not_lt_zero _)⟩
 rw [sortRuns'_eq]
 refine wpS_bind (wpS_get ?_)
 have hmr:minRun' aD.size aD.size 0=aD.size:=by
  obtain ⟨f,hf⟩:∃ f,aD.size=f + 1:=⟨aD.size - 1,by lia⟩
  have:minRun' (f + 1) aD.size 0=aD.size:=by rw [minRun'_succ,aaL xC]; rfl
  rwa [<- hf] at this
 simp only [hB.size,hmr]
 have done:∀ dW:SortSt,Pre o aD kd #[] dW aD.size->yJ κ o (arrOf dW) aD.size->Ba aD kd (setPending dW ((pendingOf dW).push (0,aD.size,0))) /\ pendingOf (setPending dW ((pendingOf dW).push (0,aD.size,0)))=#[(0,aD.size,0)] /\ yJ κ o (arrOf (setPending dW ((pendingOf dW).push (0,aD.size,0)))) aD.size:=λdW Lw og=>
  ⟨⟨Lw.base.perm,Lw.base.kind,Lw.base.failed⟩,by show (pendingOf dW).push _=_; rw [Lw.pend]; rfl,og⟩
 refine wpS_bind (wpS_mono (wpS_forRange
  (I:=λx c cZ=>(x=0 /\ c=(none,0) /\ Pre o aD kd #[] cZ 0) \/ (1<=x /\ c=(none,aD.size) /\ Ba aD kd cZ /\ pendingOf cZ=#[(0,aD.size,0)] /\ yJ κ o (arrOf cZ) aD.size))
  (Q:=λc cZ=>c=(none,aD.size) /\ Ba aD kd cZ /\ pendingOf cZ=#[(0,aD.size,0)] /\ yJ κ o (arrOf cZ) aD.size) ?step ?fin (.inl ⟨rfl,rfl,hP⟩)) ?post)
 case fin=>grind
 case step=>
  rintro x c cZ _ hx (⟨rfl,rfl,t7⟩ | ⟨hx1,rfl,hD⟩)
  .dsimp only
   rw [aaO (by lia)]
   simp only [Nat.sub_zero,aeQ,acE]
   refine wpS_bind (Jl hO hA (by lia) t7 λm dW Ul Es Lw og=>?_)
   dsimp only
   by_cases i9:m < aD.size
   .rw [aaL i9]
    refine wpS_bind (wpS_lift (acP ⟨rfl,?_⟩))
    refine wpS_bind (Jm hO hA Ul Es Lw og λHr hP3 VU=>?_)
    refine wpS_bind (wpS_get ?_)
    have hb:(pendingOf Hr).back?=none:=by rw [hP3.pend]; rfl
    rw [hb]
    exact wpS_bind (wpS_modify (wpS_pure (.inr ⟨by lia,rfl,done Hr hP3 VU⟩)))
   .rw [aaO i9]
    have hm:m=aD.size:=by lia
    subst hm
    refine wpS_bind (wpS_get ?_)
    have hb:(pendingOf dW).back?=none:=by rw [Lw.pend]; rfl
    rw [hb]
    exact wpS_bind (wpS_modify (wpS_pure (.inr ⟨by lia,rfl,done dW Lw og⟩)))
  .dsimp only
   rw [aaL (aaF _)]
   exact wpS_pure ⟨rfl,hD⟩
 case post=>
  rintro c cZ ⟨rfl,hD⟩
  refine wpS_bind (wpS_mono (wpS_forRange (I:=λ_ c Jo=>Jo=cZ /\ c=(none,())) (Q:=λc Jo=>Jo=cZ /\ c=(none,())) ?_ (λ_ _ hh=>hh) ⟨rfl,rfl⟩) ?_)
  .rintro x c Jo _ _ ⟨rfl,rfl⟩
   refine wpS_bind (wpS_get ?_)
   rw [aaL (by rw [hD.2.1]; exact aaF 1)]
   exact wpS_pure ⟨rfl,rfl⟩
  .rintro c Jo ⟨rfl,rfl⟩
   exact wpS_pure (h _ hD.1 hD.2.2)
end
end KS
namespace KS
open PySem PySem.W PyProof.Rows
abbrev T2:=Int×Int
def nZ (a b:T2):Prop:=a.1 < b.1 \/ a.1=b.1 /\ a.2 < b.2
instance (a b:T2):Decidable (nZ a b):=by unfold nZ; exact inferInstance
theorem iw (a:T2):¬ nZ a a:=by unfold nZ; lia
theorem nA (h:nZ a b) (k:nZ b c):nZ a c:=by unfold nZ at *; lia
theorem EG (b:T2) (h:nZ a c):nZ a b \/ nZ b c:=by unfold nZ at *; lia
theorem xP (h:¬ nZ a b) (k:¬ nZ b a):a=b:=by unfold nZ at *; exact Prod.ext (by lia) (by lia)
def K2 (key:Value->T2):KeyKind where
 α:=T2
 blt:=λa b=>decide (nZ a b)
 irrefl:=λa=>aaX (iw a)
 trans:=λa b c h k=>aaQ (nA (ab6 h) (ab6 k))
 negTrans:=λa b c h=>(EG b (ab6 h)).imp aaQ aaQ
 total:=λa b h k=>xP (acQ h) (acQ k)
 keyOf:=λv=>some (key v)
 dflt:=(0,0)
def XI (h:Heap) (v:Value) (t:T2):Prop:=∃ (p:Addr) (o:Obj) (n:Nat) (t1 t2:Tok),v=.ref p /\ h.get? p=some o /\ o.cls=.type "tuple" /\ o.data=.seq #[.int t.1 t1,.int t.2 t2] n
inductive KV (h:Heap):SortKind->Value->T2->Prop
 | int (n:Int) (t:Tok):KV h oneType' (.int n t) (n,0)
 | dup {v:Value} {t:T2} (d:XI h v t):KV h (tuples' true) v t
theorem Jp (a:KV h kd v t) (b:KV h kd' v u):t=u:=by
 cases a with
 | int n t=>
   cases b with
   | int n t=>rfl
   | dup d=>obtain ⟨p,o,n,t1,t2,e,_⟩:=d; cases e
 | dup d=>
   obtain ⟨p,o,n,t1,t2,rfl,g1,_,d1⟩:=d
   cases b with
   | dup d=>
     obtain ⟨p',o',n',u1,u2,e,g2,_,d2⟩:=d
     cases e
     rw [g1] at g2
     cases g2
     rw [d1] at d2
     simp only [Data.seq.injEq,Array.mk.injEq,List.cons.injEq,Value.int.injEq] at d2
     obtain ⟨⟨⟨a1,_⟩,⟨a2,_⟩,_⟩,_⟩:=d2
     exact Prod.ext a1 a2
open Classical in
def vn (h:Heap) (v:Value):T2:=if x:∃ kd t,KV h kd v t then x.choose_spec.choose else (0,0)
theorem EH (a:KV h kd v t):vn h v=t:=by
 have x:∃ kd t,KV h kd v t:=⟨kd,t,a⟩
 unfold vn
 rw [dif_pos x]
 exact Jp x.choose_spec.choose_spec a
section
variable {prog:Program} {w:World} {A:Around} {E:cW} {s:Shared} {kd:SortKind}
theorem Wg (hx:KV s.heap kd x a) (hy:KV s.heap kd y b) (h:Q (decide (nZ a b)) s):wpAny (model prog w) A (keyLt' kd x y) Q E s:=by
 have hd:∀ {z:Value} {c:T2} {k:SortKind},KV s.heap k z c->k=tuples' true->XI s.heap z c:=λ{z c k} q e=>by
  cases q with
  | int n t=>cases e
  | dup d=>exact d
 cases hx with
 | int n t=>
   have:∃ m u,y=.int m u /\ b=(m,0):=by
    generalize hk:oneType'=k at hy
    cases hy with
    | int m u=>exact ⟨m,u,rfl,rfl⟩
    | dup d=>cases hk
   obtain ⟨m,u,rfl,rfl⟩:=this
   refine oneLt_int ?_
   rw [show decide (n < m)=decide (nZ (n,0) (m,0)) from decide_eq_decide.mpr (by unfold nZ; lia)]
   exact h
 | dup hx=>
   have hy:=hd hy rfl
   obtain ⟨p,o,n,t1,t2,rfl,g1,_,d1⟩:=hx
   obtain ⟨q,o',n',u1,u2,rfl,g2,_,d2⟩:=hy
   refine kat_lt g1 d1 g2 d2 ?_
   have one:∀ (i j:Int) (t u:Tok),Q (decide (i < j)) s->wpAny (model prog w) A (oneLt' false (.int i t) (.int j u)) Q (λ_ _=>False) s:=λi j t u hq=>
    kat_one _ _ (wpAny_lt_int hq)
   refine kat_cons (wpAny_eqBool_int (kat_go (λe=>kat_yes ?_) λe=>kat_no ?_))
   .have e:a.1=b.1:=by simpa using e
    refine kat_cons (wpAny_eqBool_int (kat_go (λe2=>kat_yes (kat_nil ?_)) λe2=>kat_no ?_))
    .have e2:a.2=b.2:=by simpa using e2
     have:¬ nZ a b:=by unfold nZ; lia
     rw [aaX this] at h
     exact h
    .refine one _ _ _ _ ?_
     rw [show decide (a.2 < b.2)=decide (nZ a b) from decide_eq_decide.mpr (by unfold nZ; lia)]
     exact h
   .have e:a.1≠b.1:=by simpa using e
    refine oneLt_int ?_
    rw [show decide (a.1 < b.1)=decide (nZ a b) from decide_eq_decide.mpr (by unfold nZ; lia)]
    exact h
theorem M0 {vs:cc} {key:Value->T2} (h2:2<=vs.length) (hT:∀ v∈vs,KV s.heap kd v (key v)) (h:Q kd s):wpAny (model prog w) A (keyKind' vs.toArray) Q E s:=by
 obtain ⟨v0,hv0⟩:∃ v,v∈vs:=by cases vs with
  | nil=>simp at h2
  | cons v _=>exact ⟨v,aaD⟩
 have h0:=hT v0 hv0
 generalize key v0=t0 at h0
 cases h0 with
 | int n t=>
   have hI:IntsAre vs (vs.map numOf):=intsAre_map vs λv hv=>by
    have:=hT v hv
    generalize key v=t1 at this
    generalize hk:oneType'=k at this
    cases this with
    | int m u=>exact ⟨m,u,rfl⟩
    | dup d=>cases hk
   match vs,h2,hI with
   | ado :: adp :: rest,_,hI=>rw [keyKind_ints hI]; exact aay h
 | dup d0=>
   have hD:∀ v∈vs,XI s.heap v (key v):=λv hv=>by
    have:=hT v hv
    generalize hk:tuples' true=k at this
    generalize key v=t1 at this ⊢
    cases this with
    | int m u=>cases hk
    | dup d=>exact d
   have oA:∀ {l:cc},(∀ v∈l,XI s.heap v (key v))->∃ fs:cc,KatTups s.heap l fs /\ fs.length=l.length /\ ∀ f∈fs,∃ n t,f=.int n t:=by
    intro l
    induction l with
    | nil=>exact λ_=>⟨[],.nil,rfl,by simp⟩
    | cons v l ih=>
      intro hl
      obtain ⟨fs,h1,h2,h3⟩:=ih λu hu=>hl u (aaE _ hu)
      obtain ⟨p,o,n,t1,t2,rfl,g1,c1,d1⟩:=hl v aaD
      refine ⟨_ :: fs,.cons g1 c1 d1 (f:=.int _ t1) rfl h1,by simp [h2],λf hf=>?_⟩
      rcases aaG.mp hf with rfl | hf
      .grind
      .grind
   obtain ⟨fs,h1,yt,h3⟩:=oA hD
   refine kat_kind (T:=.type "int") h1 (by lia) (λv hv=>?_) (by decide) h
   obtain ⟨n,t,rfl⟩:=h3 v hv
   exact .now
def mG (aD:Array Keyed) (p:Keyed):Nat:=open Classical in if x:∃ i,aD[i]?=some p then x.choose else 0
theorem EI (G4:aD.toList.Nodup) (hi:i < aD.size):OO (mG aD) aD i=i:=by
 have e:aD[i]?=some aD[i]:=adU _ i hi
 have x:∃ j,aD[j]?=some aD[i]:=⟨i,e⟩
 unfold OO
 rw [e]
 show mG aD aD[i]=i
 unfold mG
 rw [dif_pos x]
 have h:=x.choose_spec
 rw [<- Array.getElem?_toList] at h e
 exact (List.getElem?_inj (by simpa using hi) G4).mp (e.trans h.symm) |>.symm
theorem M1 {a kS:Addr} {us:cc} {keys:Array Value} {e e1:Nat} {P:PySem.Fin->Shared->Prop} (hk:s.heap.get? kS=some (seqObj "list" keys e)) (ha:s.heap.get? a=some (seqObj "list" #[] e1)) (Lx:kS≠a)
  (Um:∀ v∈keys.toList,∃ t,KV s.heap kd v t) (hsz:keys.size=us.length) (xC:us.length < 64) (hu:us.Nodup)
  (h:∀ (h':Heap) (out:Array Keyed) (c:Nat),(∀ b o,b≠a->b≠kS->s.heap.get? b=some o->h'.get? b=some o)->(∃ o,h'.get? kS=some o)->h'.get? a=some (seqObj "list" (out.map (·.2)) c)->out.Perm (keys.zip us.toArray)->yJ (K2 (vn s.heap)) (mG (keys.zip us.toArray)) out us.length->P (.done (.ret .none)) { s with heap:=h' }):
  wpAny (model prog w) A (ksk_end a false us.toArray e1 (.ref kS) keys) P E s:=by
 have hz:us.length<=sizeLine:=by rw [acU]; lia
 have Jq:(keys.zip us.toArray).size=us.length:=by rw [Array.size_zip,hsz,aaI,aeQ]
 have G4:(keys.zip us.toArray).toList.Nodup:=by
  rw [ksk_zip]
  have:((keys.toList.zip us).map Prod.snd).Nodup:=by rw [List.map_snd_zip (adT (by rw [abf]; exact hsz.symm))]; exact hu
  exact (ab4.mp this).imp λq z=>q (abJ Prod.snd z)
 have tail:∀ st:SortSt,(arrOf st).Perm (keys.zip us.toArray)->failedOf st=none->yJ (K2 (vn s.heap)) (mG (keys.zip us.toArray)) (arrOf st) us.length->wpAny (model prog w) A (ksk_tail a false e1 (.ref kS) st) P E s:=by
  intro st hp hf hi
  have Sm:((arrOf st).map (·.2)).size=us.length:=by rw [Array.size_map,hp.size_eq,Jq]
  have s1:=abc s.heap kS (Obj.mapSeq λ_=>(#[]:Array Value))
  obtain ⟨ck,hck⟩:∃ c,(s.heap.update kS (Obj.mapSeq λ_=>(#[]:Array Value))).get? kS=some (seqObj "list" #[] c):=⟨_,get?_update_seq hk λ_=>#[]⟩
  have Zz:(s.heap.update kS (Obj.mapSeq λ_=>(#[]:Array Value))).get? a=some (seqObj "list" #[] e1):=(s1.2 a Lx.symm).trans ha
  have s2:=abc (s.heap.update kS (Obj.mapSeq λ_=>(#[]:Array Value))) a (Obj.mapSeq λ_=>(arrOf st).map (·.2))
  obtain ⟨c2,U8⟩:∃ c2,((s.heap.update kS (Obj.mapSeq λ_=>(#[]:Array Value))).update a (Obj.mapSeq λ_=>(arrOf st).map (·.2))).get? a=some (seqObj "list" ((arrOf st).map (·.2)) c2):=⟨_,get?_update_seq Zz λ_=>(arrOf st).map (·.2)⟩
  unfold ksk_tail
  dsimp only
  refine aaa (listUpdate_at hk rfl ?_ (by rw [hsz]; exact hz) (abS _))
  refine aaa (wpAny_letGo ?_)
  refine aaa (seqEpoch_at Zz rfl ?_)
  simp only [acR,if_false]
  refine aaa (listUpdate_at Zz rfl ?_ (abS _) (aa6 (adT Sm) (Nat.le_succ_of_le hz)))
  rw [hf]
  simp only [bne_self_eq_false,acR,if_false]
  exact aay (h _ _ c2 (λb o h1 h2 eb=>(s2.2 b h1).trans ((s1.2 b h2).trans eb)) ⟨_,(s2.2 kS Lx).trans hck⟩ U8 hp hi)
 unfold ksk_end
 simp only [acR,if_false]
 by_cases h2:us.toArray.size < 2
 .rw [aaL h2,aaL h2]
  refine aaa (aay ?_)
  rw [StateT.run_pure]
  refine aaa (aay ?_)
  rw [aaI] at h2
  exact tail (SortSt.mk' general' (keys.zip us.toArray) #[] 7 none) (.refl _) rfl λi j kK hj=>by lia
 .rw [aaO h2,aaO h2]
  rw [aaI] at h2
  have Sn:∀ v∈keys.toList,KV s.heap kd v (vn s.heap v):=λv hv=>by
   obtain ⟨t,ht⟩:=Um v hv
   rw [EH ht]
   exact ht
  have ek:keys=keys.toList.toArray:=by rw [Array.toArray_toList]
  rw [ek]
  refine aaa (M0 (key:=vn s.heap) (by rw [abf]; lia) Sn ?_)
  rw [<- ek]
  have hO:wN prog w A E s (K2 (vn s.heap)) kd (keys.zip us.toArray):=λx y hx hy E' Q hq=>by
   rw [ksk_zip] at hx hy
   exact Wg (Sn _ (ab9 hx).1) (Sn _ (ab9 hy).1) hq
  refine aaa (aa5 (Jn (o:=mG (keys.zip us.toArray)) (st:=SortSt.mk' kd (keys.zip us.toArray) #[] 7 none) (Q:=λ_ cZ=>Ba (keys.zip us.toArray) kd cZ /\ yJ (K2 (vn s.heap)) (mG (keys.zip us.toArray)) (arrOf cZ) (keys.zip us.toArray).size) hO (λi hi=>EI G4 hi) ⟨.refl _,rfl,rfl⟩ rfl rfl (by rw [Jq]; lia) (by rw [Jq]; exact xC) λcZ b u=>⟨b,u⟩) ?_ λ_ _ e=>e)
  rintro ⟨⟨⟩,cZ⟩ s' ⟨rfl,hB,hi⟩
  rw [Jq] at hi
  exact tail cZ hB.perm hB.failed hi
end
end KS
namespace L2
open PySem PySem.Spec PyProof.Rows PySem.Calls
def M3 (K:au) (c:Addr) (q:Str) (n:Nat) (cvs:List V) (gb:aF):Sp:=λvs H Q _=>H c=some (.code q) /\ vs.length=n /\ ∃ A ds d,Ls A H /\ cO K (wo H A) (vs ++ cvs) ds /\ gb (ds.map some)=some d /\ ∀ v H',aG H H'->HD K (wo H' A) v d->Q v H'
section
variable {X:Cx} {pins:cq} {σ:St} {H:Hp} {s:Shared}
theorem So {ix:List Nat} (I:Inv X pins σ H s)
  (hf:s.heap.get? f=some (PySem.W.kla_obj name qual params body scope cl pm c' EC)) (hn:H f=none) (nY:f∉ke X.stack) (h1:∀ n c,cl.lookup n=some c->X.env.cells.lookup n=some c) (h2:∀ n,(n,NameKind.free)∈scope.names->∃ c,cl.lookup n=some c)
  (Qy:∀ x,X.fn x=true) (S:V7 ps fv scope) (CH:ix.map (λi=>X.N[i]?)=fv.map some) (M4:∀ x∈fv,X.env.scope.names.lookup x=some .cell) (Rb:∀ (j i:Nat) (v:V),ix[j]?=some i->cvs[j]?=some v->σ[i]?=some (some v)) (hlen:cvs.length=ix.length)
  (jK:∀ (base:Heap) (A:Around) (outer:List Env) (s:Shared) (H:Hp) (E:XK),dH k (A.deeper (PySem.W.envX qual scope s.heap.objs.size f (.ref c') cl))->PE (Jc rp X.prog X.w X.K X.mg base (ps ++ fv) qual scope f (.ref c') cl A outer s H E) body (tE X.K [] gb)):
  nU X.prog X.w X.K X.mg (u6 X s H) rp (k + 1) f (PySem.W.kla_fn name qual params body scope cl pm (.ref c') EC) ps (M3 X.K c' qual ps.length cvs gb):=by
 have hfv:fv.length=ix.length:=by have:=congrArg List.length CH; simpa using this.symm
 have Qx:∀ {x:Str} {c:Addr},X.env.cells.lookup x=some c->c∉ke X.stack:=λ{x c} e z=>by
  rcases aaG.mp (I.k8 c z) with y | y
  .exact I.Hb x c e y
  .obtain ⟨_,o,ho,_⟩:=I.ok.jH.mem y
   exact abp _ (aaC (aaB ho) (I.ok.Ha x c (Qy x) e))
 have Wh:∀ {x:Str} {c:Addr} {v:Option Value},X.env.cells.lookup x=some c->s.heap.IsCell c v->(u6 X s H).IsCell c v:=λ{x c v} e h=>by
  obtain ⟨o,e1,d⟩:=h
  exact ⟨o,rL e1 (I.gT x c e) (Qx e),d⟩
 refine V5 (cvs:=cvs) (rL hf hn nY) ⟨S.kind,S.co,S.gen,S.rF,S.nd,S.par,S.fr,λx hx=>h2 x (abQ hx),λx y c a b=>I.ok.inj x y c (h1 _ _ a) (h1 _ _ b)⟩ (by rw [hlen,hfv]) (λj x v e1 e2=>?_) (λx c e=>?_) (λvs H Q E q=>q.2.1) (λvs H Q E q=>q.1) λA outer s' H' vs Q E hr Au=>?_
 .obtain ⟨c,hc⟩:=h2 x (abQ (S.fr x (aaP e1)))
  have hj:j < ix.length:=by rw [<- hlen]; exact (aaK.mp e2).1
  have hi:=aad hj
  have hN:X.N[ix[j]]?=some x:=by
   have:=abJ (λl=>l[j]?) CH
   simp only [aaU,hi,e1] at this
   simpa using this
  obtain ⟨m,_,hl⟩:=I.loc
  obtain ⟨u,ru,lk⟩:=hl _ x _ hN (Rb j _ v hi e2) (.inr (.inl (M4 x (aaP e1))))
  rcases lk with ⟨z,_⟩ | ⟨_,c0,e0,Hf⟩
  .have:=M4 x (aaP e1)
   unfold Env.kindOf at z
   rw [this] at z; cases z
  .grind
 .obtain ⟨v,hv⟩:=I.cell x c (h1 x c e)
  exact ⟨v,Wh (h1 x c e) hv⟩
 .obtain ⟨_,hl,A',ds,d,al,hd,e,q⟩:=Au
  exact ⟨_,jK _ A outer s' H' E hr,[],A',ds.map some,d,Rel.Si al hd,e,q⟩
structure KI (X:Cx) (pins:cq) (σ:St) (B:Heap) (a kS:Addr) (e1:Nat) (H:Hp) (s:Shared) (keys:Array Value) (e:Nat):Prop where
 inv:Inv X pins σ H s
 bs:∀ b o,B.get? b=some o->s.heap.get? b=some o /\ H b=none
 xY:B.objs.size<=kS
 fa:md X pins H a
 fk:md X pins H kS
 na:a∉ke X.stack
 nk:kS∉ke X.stack
 ga:s.heap.get? a=some (seqObj "list" #[] e1)
 gk:s.heap.get? kS=some (seqObj "list" keys e)
variable {B:Heap} {a kS:Addr} {e e1:Nat} {keys:Array Value}
theorem md.un (h:md X pins H b) (n:H' b=none):md X pins H' b:=⟨n,h.2.1,h.2.2.1,h.2.2.2.1,h.2.2.2.2.1,h.2.2.2.2.2⟩
theorem KI.env (I:KI X pins σ B a kS e1 H s keys e) (hM:Mod X.K X.mg B) (Uo:∀ b∈ke X.stack,B.get? b=none):Cb X.prog X.w X.K X.mg B X.A.in1.in1 X.stack s H:=
 ⟨I.inv.ok.frames,hM,I.bs,abM (abq I.xY (aaB I.gk)),xN I.inv.stack Uo,I.inv.tV,I.inv.cm,I.inv.bare⟩
set_option tactic.hygienic true in
theorem KI.call (I:KI X pins σ B a kS e1 H s keys e) (Uo:∀ b∈ke X.stack,B.get? b=none) (h:CE X.stack X.prog X.w H s Q u s'):∃ v H',KI X pins σ B a kS e1 H' s' keys e /\ RelV v u /\ Q v H':=by
 obtain ⟨v,H',os,bare,un,cm,r,q⟩:=id h
 obtain ⟨v2,H2,I2,_⟩:=(I.inv.after (Q:=λv2 H2=>v2=v /\ H2=H') ⟨v,H',os,bare,un,cm,r,rfl,rfl⟩)
 rename_i rr
 obtain ⟨_,rfl,rfl⟩:=rr
 have no:∀ {b:Addr},b∉([]:List Addr):=λ{b}=>by simp
 refine ⟨v2,H2,⟨I2,λb o eb=>?_,I.xY,I.fa.un (un.free _ _ I.ga I.fa.1 no),I.fk.un (un.free _ _ I.gk I.fk.1 no),I.na,I.nk,un.keep _ _ I.ga I.fa.1 I.na no,un.keep _ _ I.gk I.fk.1 I.nk no⟩,r,q⟩
 .obtain ⟨h1,h2⟩:=I.bs b o eb
  exact ⟨un.keep _ _ h1 h2 (λz=>by rw [Uo b z] at eb; cases eb) no,un.free _ _ h1 h2 no⟩
theorem KI.push (I:KI X pins σ B a kS e1 H s keys e) (Lx:kS≠a) (k:Value):∃ e',KI X pins σ B a kS e1 H { s with heap:=s.heap.update kS (Obj.mapSeq (·.push k)) } (keys.push k) e':=by
 have sb:=abc s.heap kS (Obj.mapSeq (·.push k))
 obtain ⟨e',RS⟩:∃ e',(s.heap.update kS (Obj.mapSeq (·.push k))).get? kS=some (seqObj "list" (keys.push k) e'):=⟨_,get?_update_seq I.gk (·.push k)⟩
 refine ⟨e',⟨I.inv.gW (t':=s.toks) (ch:=[kS]) (λb o hb eb=>(sb.2 b (by simpa using hb)).trans eb) (λb hb=>by rw [show b=kS by simpa using hb]; exact I.fk),λb o eb=>?_,I.xY,I.fa,I.fk,I.na,I.nk,(sb.2 a Lx.symm).trans I.ga,RS⟩⟩
 have jE:=aaR (aaC (aaB eb) I.xY)
 exact ⟨(sb.2 b jE).trans (I.bs b o eb).1,(I.bs b o eb).2⟩
end
def yL (ts:List KS.T2) (r:List Nat):Prop:=r.Perm (List.range ts.length) /\ r.Pairwise λi j=>KS.nZ (ts.getD i (0,0)) (ts.getD j (0,0)) \/ ts.getD i (0,0)=ts.getD j (0,0) /\ i < j
def Ly (kds:List D) (ts:List KS.T2):Prop:=(∃ ns:List Int,kds=ns.map PyData.int /\ ts=ns.map λn=>(n,0)) \/ kds=ts.map λt=>PyData.tuple [.int t.1,.int t.2]
theorem Ly.len (h:Ly kds ts):kds.length=ts.length:=by
 rcases h with ⟨ns,rfl,rfl⟩ | rfl <;> simp
theorem Pp (I:Inv X pins σ H s) (h:cO X.K (wo H A) bf kds) (hK:Ly kds ts) (r:bg bf vs):
  ∃ kd,∀ (i:Nat) (v:Value) (t:KS.T2),vs[i]?=some v->ts[i]?=some t->KS.KV s.heap kd v t:=by
 rcases hK with ⟨ns,rfl,rfl⟩ | rfl
 .refine ⟨oneType',λi v t e1 e2=>?_⟩
  rw [aaU] at e2
  cases q:ns[i]? with
  | none=>rw [q] at e2; cases e2
  | some n=>
    rw [q] at e2; cases e2
    obtain ⟨x,e3,e4⟩:=h.get (i:=i) (d:=.int n) (by rw [aaU,q]; rfl)
    cases e4
    obtain ⟨u,e5,t,rfl⟩:=r.get e3
    rw [e1] at e5; cases e5
    exact .int n t
 .refine ⟨tuples' true,λi v t e1 e2=>.dup ?_⟩
  obtain ⟨x,e3,e4⟩:=h.get (i:=i) (d:=.tuple [.int t.1,.int t.2]) (by rw [aaU,e2]; rfl)
  obtain ⟨u,e5,rx⟩:=r.get e3
  rw [e1] at e5; cases e5
  cases e4 with
  | tup h1 h2=>
    rw [cO.toInts (ns:=[t.1,t.2]) h2] at h1
    cases rx
    obtain ⟨is,r2,pt,_⟩:=I.tuple (.inl (cM.oH h1))
    cases r2 with
    | cons a1 r2=>
      cases r2 with
      | cons a2 r2=>
        cases r2
        obtain ⟨t1,rfl⟩:=a1
        obtain ⟨t2,rfl⟩:=a2
        obtain ⟨o,g1,g2,n,g3⟩:=pt
        exact ⟨_,o,n,t1,t2,rfl,g1,g2,g3⟩
theorem Jr (h:p∈aD.toList):aD[KS.mG aD p]?=some p:=by
 have x:∃ i:Nat,aD[i]?=some p:=by
  obtain ⟨i,hi,e⟩:=ab8 h
  exact ⟨i,by rw [<- Array.getElem?_toList,aad hi,e]⟩
 unfold KS.mG
 rw [dif_pos x]
 exact x.choose_spec
theorem A3 {keys:Array Value} (rv:bg xs us):∀ l:List Keyed,(∀ p∈l,p∈(keys.zip us.toArray).toList)->bg ((l.map (KS.mG (keys.zip us.toArray))).map λi=>xs.getD i .ia) (l.map (·.2))
 | [],_=>.nil
 | p :: l,h=>by
   refine .cons ?_ (A3 rv l λq hq=>h q (aaE _ hq))
   have e:=Jr (h p aaD)
   generalize KS.mG (keys.zip us.toArray) p=i at e ⊢
   rw [<- Array.getElem?_toList,ksk_zip,ac0] at e
   have hi:i < xs.length:=by rw [rv.length]; exact (aaK.mp e.2).1
   obtain ⟨u,e3,r2⟩:=rv.get (aad hi)
   rw [e.2] at e3; cases e3
   show RelV (xs.getD i .ia) _
   rw [aaJ,aad hi]
   exact r2
theorem Sq {us:cc} {keys:Array Value} (hsz:keys.size=us.length) (hl:us.length=ts.length) (hu:us.Nodup) (Um:∀ (i:Nat) (v:Value) (t:KS.T2),keys.toList[i]?=some v->ts[i]?=some t->KS.KV h kd v t)
  (hp:out.Perm (keys.zip us.toArray)) (hi:KS.yJ (KS.K2 (KS.vn h)) (KS.mG (keys.zip us.toArray)) out us.length):yL ts (out.toList.map (KS.mG (keys.zip us.toArray))):=by
 have Jq:(keys.zip us.toArray).size=us.length:=by rw [Array.size_zip,hsz,aaI,aeQ]
 have G4:(keys.zip us.toArray).toList.Nodup:=by
  rw [ksk_zip]
  have:((keys.toList.zip us).map Prod.snd).Nodup:=by rw [List.map_snd_zip (adT (by rw [abf]; exact hsz.symm))]; exact hu
  exact (ab4.mp this).imp λq z=>q (abJ Prod.snd z)
 have kf:=acW.mp hp
 constructor
 .refine (kf.map _).trans (List.Perm.of_eq ?_)
  refine aeC (by rw [aax,abf,Jq,ab7,hl]) λi h1 h2=>?_
  rw [adF,List.getElem_range]
  have Lv:i < (keys.zip us.toArray).size:=by simpa using h1
  have:=KS.EI G4 Lv
  unfold KS.OO at this
  rw [adU _ i Lv] at this
  exact this
 .rw [List.pairwise_iff_getElem]
  intro i j h1 h2 kK
  have hs:=hp.size_eq.trans Jq
  have Lq:i < out.size:=by simpa using h1
  have yt:j < out.size:=by simpa using h2
  have key:∀ (m:Nat) (hm:m < out.size),KK (KS.K2 (KS.vn h)) out m=ts.getD (KS.mG (keys.zip us.toArray) out[m]) (0,0):=λm hm=>by
   have mem:out[m]∈(keys.zip us.toArray).toList:=kf.mem_iff.mp (by simp)
   have e:=Jr mem
   unfold KK
   rw [adU _ m hm]
   show KS.vn h out[m].1=_
   generalize KS.mG (keys.zip us.toArray) out[m]=q at e ⊢
   rw [<- Array.getElem?_toList,ksk_zip,ac0] at e
   have hq:q < ts.length:=by rw [<- hl]; exact (aaK.mp e.2).1
   have et:=aad hq
   rw [KS.EH (Um q _ _ e.1 et),aaJ,et]; rfl
  have ord:∀ (m:Nat) (hm:m < out.size),KS.OO (KS.mG (keys.zip us.toArray)) out m=KS.mG (keys.zip us.toArray) out[m]:=λm hm=>by
   unfold KS.OO
   rw [adU _ m hm]; rfl
  have z:=hi i j kK (by lia)
  rw [adF,adF,Array.getElem_toList,Array.getElem_toList]
  unfold KS.lx KS.TT at z
  rw [key i Lq,key j yt,ord i Lq,ord j yt] at z
  exact z.imp ab6 id
section
variable {X:Cx} {pins:cq} {σ:St} {H:Hp} {s:Shared} {B:Heap} {a:Addr}
theorem Gn (hM:Mod X.K X.mg B) (Uo:∀ b∈ke X.stack,B.get? b=none) (F:nU X.prog X.w X.K X.mg B rp k f fd [p] (M3 X.K c q 1 cvs gb)) (hb:Binds X.K fd [p] []) (hr:dH k X.A.in1.in1)
  
  (I:Inv X pins σ H s) (bs:∀ b o,B.get? b=some o->s.heap.get? b=some o /\ H b=none) (hBa:B.objs.size<=a) (ha0:X.gQ.heap.objs.size<=a) (ho:s.heap.get? a=some (seqObj "list" us.toArray n)) (fa:md X pins H a) (na:a∉ke X.stack)
  (rv:bg xs us) (al:Ls A H) (hd:cO X.K (wo H A) xs ds) (Je:cO X.K (wo H A) cvs EJ) (qY:H c=some (.code q))
  (hk:∀ (i:Nat) (d:D),ds[i]?=some d->∃ kd,kds[i]?=some kd /\ gb ((d :: EJ).map some)=some kd) (hl:kds.length=ds.length) (hK:Ly kds ts) (xC:us.length < 64) (hu:us.Nodup)
  (h:∀ (s':Shared) (H':Hp) (r:List Nat),Inv X pins σ (upd H' a (.lst (r.map λi=>xs.getD i .ia))) s'->aG H H'->H' a=none->yL ts r->P (.done (.ret .none)) s'):
  wpAny (model X.prog X.w) X.A.in1.in1 (ksk_tree a (.ref f) false) P E s:=by
 have hz:us.length<=sizeLine:=by rw [acU]; lia
 have hxu:=rv.length
 have MA:=hd.len
 have ha:=aaB ho
 have sb:=abc s.heap a (Obj.mapSeq λ_=>(#[]:Array Value))
 obtain ⟨e1,wA⟩:∃ e1,(s.heap.update a (Obj.mapSeq λ_=>(#[]:Array Value))).get? a=some (seqObj "list" #[] e1):=⟨_,get?_update_seq ho λ_=>#[]⟩
 have hkS:((s.heap.update a (Obj.mapSeq λ_=>(#[]:Array Value))).push (seqObj "tuple" us.toArray 0)).objs.size=s.heap.objs.size + 1:=by rw [size_push',Heap.size_update]
 refine aaa (listItems_at ho rfl ?_)
 refine aaa (listUpdate_at ho rfl ?_ (by rw [aaI]; exact hz) (abS _))
 refine aaa (seqEpoch_at wA rfl ?_)
 refine aaa (wpAny_newTuple ?_ hz)
 refine aaa (wpAny_newList ?_ (abS _))
 refine acm ?_
 have nY:∀ b:Addr,s.heap.objs.size<=b->b∉ke X.stack:=λb hb z=>by
  obtain ⟨_,o,e,_⟩:=I.stack.mem z
  exact abp _ (aaC (aaB e) hb)
 have ZA:KI X pins σ B a (s.heap.objs.size + 1) e1 H { s with heap:=((s.heap.update a (Obj.mapSeq λ_=>(#[]:Array Value))).push (seqObj "tuple" us.toArray 0)).push (seqObj "list" #[] 0) } #[] 0:=by
  have I1:=I.gW (t':=s.toks) (h':=s.heap.update a (Obj.mapSeq λ_=>(#[]:Array Value))) (ch:=[a]) (λb o hb eb=>(sb.2 b (by simpa using hb)).trans eb) (λb hb=>by rw [show b=a by simpa using hb]; exact fa)
  have I2:=(I1.kept (t':=s.toks) λb o eb=>aab (seqObj "tuple" us.toArray 0) eb).kept (t':=s.toks) λb o eb=>aab (seqObj "list" #[] 0) eb
  refine ⟨I2,λb o eb=>?_,abM (abq hBa (abT ha)),fa,I.pY (acC _) (I.cm.fresh (acC _)),na,nY _ (acC _),aab _ (aab _ wA),?_⟩
  .have jE:b≠a:=aaR (aaC (aaB eb) hBa)
   exact ⟨aab _ (aab _ ((sb.2 b jE).trans (bs b o eb).1)),(bs b o eb).2⟩
  .rw [<- hkS]; exact aaH _ rfl
 rw [hkS]
 generalize ({ s with heap:=((s.heap.update a (Obj.mapSeq λ_=>(#[]:Array Value))).push (seqObj "tuple" us.toArray 0)).push (seqObj "list" #[] 0) }:Shared)=s3 at ZA
 have Lx:s.heap.objs.size + 1≠a:=acy (abT ha)
 generalize s.heap.objs.size + 1=kS at ZA Lx
 refine aaa (acP ?_)
 rw [List.forIn_toArray]
 refine aaa (ksk_fold (λj s'=>∃ H' keys e bf,KI X pins σ B a kS e1 H' s' keys e /\ aG H H' /\ bg bf keys.toList /\ cO X.K (wo H' A) bf (kds.take j)) us 0 s3 ⟨H,#[],0,[],ZA,aG.refl _,.nil,.nil⟩ ?step ?done)
 case step=>
  rintro j x s' hx ⟨H',keys,e,bf,J,sm,rk,Sr⟩
  rw [acE] at Sr ⊢
  have hj:=(aaK.mp hx).1
  obtain ⟨d,hdj⟩:∃ d,ds[j]?=some d:=⟨_,aad (by lia)⟩
  obtain ⟨kd,hkj,eg⟩:=hk j d hdj
  obtain ⟨xv,ex,hxv⟩:=hd.get hdj
  obtain ⟨u,eu,rx⟩:=rv.get ex
  rw [hx] at eu; cases eu
  have hlk:keys.size<=us.length:=by
   have h1:=rk.length.trans (abf ..)
   have h2:=Sr.len.trans (abn ..)
   lia
  have sp:M3 X.K c q 1 cvs gb [xv] H' (λv H2=>aG H' H2 /\ HD X.K (wo H2 A) v kd) E0:=⟨sm _ _ qY,rfl,A,d :: EJ,kd,al.same sm,.cons (hxv.same (cB sm)) (Je.same (cB sm)),eg,λv H2 s2 h2=>⟨s2,h2⟩⟩
  refine aaa (adb ?_)
  refine wpAny_call (ack (F.run X.A.in1.in1 X.stack s' H' ⟨[x],[]⟩ [x] [xv] _ E0 hr (J.env hM Uo) (hb s' [x] J.inv.oB rfl) (.cons rx .nil) sp) λr s2 hq=>?_)
  cases r with
  | error e=>exact hq.elim
  | ok fl=>
    cases fl with
    | next=>exact False.elim hq
    | brk=>exact False.elim hq
    | cont=>exact False.elim hq
    | ret u=>
      obtain ⟨v,H2,J2,Lu,Wi,Zp⟩:=J.call Uo hq
      obtain ⟨e',J3⟩:=J2.push Lx u
      refine aaa (listUpdate_at J2.gk rfl ?_ (by rw [acU]; lia) (aa6 (adT (Array.size_push ..)) (by rw [acU]; lia)))
      refine aay ⟨rfl,H2,keys.push u,e',bf ++ [v],J3,sm.trans Wi,by rw [aen]; exact rk.append (.cons Lu .nil),?_⟩
      have et:kds.take (j + 1)=kds.take j ++ [kd]:=by rw [abU,hkj]; rfl
      rw [et]
      exact (Sr.same (cB Wi)).app (.cons Zp .nil)
 case done=>
  rintro s' ⟨H',keys,e,bf,J,sm,rk,Sr⟩
  rw [acE,List.take_of_length_le (by lia)] at Sr
  have Ss:keys.size=us.length:=by
   have h1:=rk.length.trans (abf ..)
   have h2:=Sr.len
   lia
  obtain ⟨kd,Um⟩:=Pp J.inv Sr hK rk
  have htl:=hK.len
  refine aaa (listItems_at J.gk rfl ?_)
  refine KS.M1 (kd:=kd) J.gk J.ga Lx (λv hv=>?_) Ss xC hu λh' out c' kp _ Sm gf ZC=>?_
  .obtain ⟨i,hi,ev⟩:=ab8 hv
   have Lv:i < ts.length:=by rw [abf] at hi; lia
   exact ⟨_,Um i v _ (by rw [aad hi,ev]) (aad Lv)⟩
  .have I4:=J.inv.gW (t':=s'.toks) (h':=h') (ch:=[a,kS]) (λb o hb eb=>kp b o (λz=>hb (by simp [z])) (λz=>hb (by simp [z])) eb) (λb hb=>by
    rcases aaG.mp hb with rfl | hb
    .exact J.fa
    .rw [show b=kS by simpa using hb]; exact J.fk)
   have M5:∀ x∈out.toList,x∈(keys.zip us.toArray).toList:=λx hx=>(acW.mp gf).mem_iff.mp hx
   have Lu:=A3 rv out.toList M5
   refine h _ H' _ (I4.OZ J.fa.1 ha0 J.fa.2.1 J.fa.2.2.2.2.1 J.fa.2.2.2.2.2 (its:=out.toList.map (·.2)) (n:=c') ?_ Lu ?_) sm J.fa.1 (Sq Ss (by lia) hu Um gf ZC)
   .show h'.get? a=_
    rw [Sm,show out.map (·.2)=(out.toList.map (·.2)).toArray by rw [<- Array.toList_map,Array.toArray_toList]]
   .rw [aax,aax,abf,gf.size_eq,Array.size_zip,Ss,aaI,aeQ]; exact hz
end
theorem M6 (h:Ly kds ts) (k:Ly kds XJ):ts=XJ:=by
 have adw:∀ {a b:List Int},a.map (PyData.int)=b.map PyData.int->a=b:=λ{a b} e=>List.map_inj_right (f:=PyData.int) (λx y z=>PyData.int.inj z) |>.mp e
 rcases h with ⟨ns,rfl,rfl⟩ | rfl
 .rcases k with ⟨ms,e,rfl⟩ | e
  .grind
  .cases ns with
   | nil=>cases XJ with
     | nil=>rfl
     | cons _ _=>cases e
   | cons _ _=>cases XJ with
     | nil=>cases e
     | cons _ _=>simp at e
 .rcases k with ⟨ms,e,rfl⟩ | e
  .cases ms with
   | nil=>cases ts with
     | nil=>rfl
     | cons _ _=>cases e
   | cons _ _=>cases ts with
     | nil=>cases e
     | cons _ _=>simp at e
  .refine List.map_inj_right (f:=λt:KS.T2=>PyData.tuple [.int t.1,.int t.2]) (λx y z=>?_) |>.mp e
   simp at z
   exact Prod.ext z.1 z.2
theorem pw_ext {α:Type} {R:α->α->Prop} (irr:∀ a,¬ R a a) (tr:∀ a b c,R a b->R b c->R a c):∀ {l m:List α},l.Pairwise R->m.Pairwise R->(∀ z,z∈l↔z∈m)->l=m
 | [],[],_,_,_=>rfl
 | [],y :: m,_,_,h=>absurd ((h y).mpr aaD) (by simp)
 | x :: l,[],_,_,h=>absurd ((h x).mp aaD) (by simp)
 | x :: l,y :: m,hl,hm,h=>by
   rw [abE] at hl hm
   have e:x=y:=by
    rcases aaG.mp ((h x).mp aaD) with a | a
    .exact a
    .rcases aaG.mp ((h y).mpr aaD) with b | b
     .grind
     .grind
   subst e
   rw [pw_ext irr tr hl.2 hm.2 λz=>⟨λhz=>?_,λhz=>?_⟩]
   .grind
   .grind
theorem yL.one (h:yL ts r) (k:yL ts r'):r=r':=by
 refine pw_ext (λi z=>?_) (λi j l a b=>?_) h.2 k.2 λz=>h.1.mem_iff.trans k.1.mem_iff.symm
 .rcases z with z | ⟨_,z⟩
  .exact KS.iw _ z
  .grind
 .rcases a with a | ⟨a,a'⟩
  .rcases b with b | ⟨b,_⟩
   .exact .inl (KS.nA a b)
   .grind
  .grind
def M7:List Nat->cg
 | [],_=>some []
 | i :: ix,δ=>(δ[i]?).bind λo=>o.bind λd=>(M7 ix δ).bind λr=>some (d :: r)
def A4 (g:D->Option D):List D->dJ
 | []=>some []
 | d :: ds=>(g d).bind λk=>(A4 g ds).bind λks=>some (k :: ks)
def M8 (ds:List D):Prop:=∃ ts,Ly ds ts /\ ts.Nodup
def CQ (ds kds:List D):dJ:=open Classical in if h:ds.length < 64 /\ M8 ds /\ ∃ r ts,Ly kds ts /\ yL ts r then some (h.2.2.choose.map λi=>ds.getD i .none) else none
theorem EK (h1:ds.length < 64) (h2:M8 ds) (h3:Ly kds ts) (h4:yL ts r):CQ ds kds=some (r.map λi=>ds.getD i .none):=by
 have h:ds.length < 64 /\ M8 ds /\ ∃ r ts,Ly kds ts /\ yL ts r:=⟨h1,h2,r,ts,h3,h4⟩
 unfold CQ
 rw [dif_pos h]
 obtain ⟨XJ,k1,k2⟩:=h.2.2.choose_spec
 rw [M6 k1 h3] at k2
 rw [k2.one h4]
theorem Js {K:au} (R:Rel K O U A0 σ δ H):∀ {ix:List Nat} {EJ:List D},(∀ i∈ix,i∉O)->M7 ix δ=some EJ->∃ cvs,cO K (wo H (U ++ A0)) cvs EJ /\ cvs.length=ix.length /\ ∀ (j i:Nat) (v:V),ix[j]?=some i->cvs[j]?=some v->σ[i]?=some (some v)
 | [],EJ,_,h=>by cases h; exact ⟨[],.nil,rfl,λj i v h=>by simp at h⟩
 | i :: ix,EJ,ho,h=>by
   obtain ⟨o,e1,h⟩:=bind1 h
   obtain ⟨d,e2,h⟩:=bind1 h
   obtain ⟨r,e3,e4⟩:=bind1 h
   cases e4
   subst e2
   obtain ⟨v,ev,hv⟩:=R.fz i d (ho i aaD) e1
   obtain ⟨cvs,h1,h2,h3⟩:=Js R (λj hj=>ho j (aaE _ hj)) e3
   refine ⟨v :: cvs,.cons hv h1,by simp [h2],λj i' v' a b=>?_⟩
   cases j with
   | zero=>simp at a b; subst a b; exact ev
   | succ j=>exact h3 j i' v' (by simpa using a) (by simpa using b)
theorem EL:∀ {ds kds:List D},A4 g ds=some kds->kds.length=ds.length /\ ∀ (i:Nat) (d:D),ds[i]?=some d->∃ k,kds[i]?=some k /\ g d=some k
 | [],kds,h=>by cases h; exact ⟨rfl,λi d e=>by simp at e⟩
 | d :: ds,kds,h=>by
   obtain ⟨k,e1,h⟩:=bind1 h
   obtain ⟨ks,e2,e3⟩:=bind1 h
   cases e3
   obtain ⟨h1,h2⟩:=EL e2
   refine ⟨by simp [h1],λi d' e=>?_⟩
   cases i with
   | zero=>simp at e; subst e; exact ⟨k,rfl,e1⟩
   | succ i=>exact h2 i d' (by simpa using e)
theorem Su (I:Inv X pins σ H s) (hd:cO X.K (wo H A) xs ds) (rv:bg xs us) (hn:M8 ds):us.Nodup:=by
 obtain ⟨ts,hk,G4⟩:=hn
 obtain ⟨kd,h⟩:=Pp I hd hk rv
 have hl:us.length=ts.length:=by rw [<- rv.length,hd.len,hk.len]
 rw [List.Nodup,List.pairwise_iff_getElem]
 intro i j hi hj kK e
 have a:=h i _ _ (aad hi) (aad (by lia))
 have b:=h j _ _ (aad hj) (aad (by lia))
 rw [e] at a
 have:=(List.getElem?_inj (i:=i) (j:=j) (by lia) G4).mp (by rw [aad (by lia),aad (by lia),KS.Jp a b])
 lia
theorem EM {K:au} (h:cO K H xs ds):∀ {r:List Nat},(∀ i∈r,i < ds.length)->cO K H (r.map λi=>xs.getD i .ia) (r.map λi=>ds.getD i .none)
 | [],_=>.nil
 | i :: r,hr=>by
   refine .cons ?_ (EM h λj hj=>hr j (aaE _ hj))
   have hi:=hr i aaD
   obtain ⟨x,e,q⟩:=h.get (aad hi)
   show HD K H (xs.getD i .ia) (ds.getD i .none)
   rw [aaJ,aaJ,e,aad hi]
   exact q
section
variable {X:Cx} {O:List Nat}
def Wj (X:Cx) (v:Value) (xs:List V) (s:Shared):Prop:=∀ (Q:List Value->Shared->Prop) (E:cW),(∀ us h' tk,(∀ b o,s.heap.get? b=some o->h'.get? b=some o)->s.heap.objs.size<=h'.objs.size->bg xs us->Q us { s with heap:=h',toks:=tk })->wpAny (model X.prog X.w) X.A.in1 (collect v) Q E s
set_option tactic.hygienic true in
theorem Gp (F:nU X.prog X.w X.K X.mg (u6 X s H) rp k f fd [p] (M3 X.K c q 1 cvs gb)) (hb:Binds X.K fd [p] []) (hr:dH k X.A.in1.in1)
  (I:Inv X pins σ H s) (al:Ls A H) (hd:cO X.K (wo H A) xs ds) (Je:cO X.K (wo H A) cvs EJ) (qY:H c=some (.code q)) (Sv:Wj X v xs s)
  (hk:A4 (λd=>gb ((d :: EJ).map some)) ds=some kds) (hs:CQ ds kds=some rs)
  (q':∀ r ys H',aG H H'->H r=none->H' r=some (.lst ys)->cO X.K (wo H' (r :: A)) ys rs->Q (.ref r) H') (hv:∃ l:Addr,v=.ref l):
  wpAny (model X.prog X.w) X.A (call (.builtin "sorted") [v] [(Str.ofString "key",.ref f)]) (EP X pins σ Q) E s:=by
 unfold CQ at hs
 split at hs
 .rename_i hh
  cases hs
  obtain ⟨xC,ZD,hex⟩:=id hh
  obtain ⟨ts,hK,hS⟩:=hh.2.2.choose_spec
  generalize hh.2.2.choose=r0 at hS q'
  obtain ⟨hl,Lx⟩:=EL hk
  have MA:=hd.len
  refine call_function_entry_kw kind_sorted plain_sorted entry_sorted (ksk_s1 _ _) ?_
  refine aaa (m:=checkCount "sorted" 1 1 _) (aay ?_)
  refine aaa (Sv _ _ λus h' tk kp Sh rv=>?_)
  have hul:us.length < 64:=by rw [<- rv.length]; lia
  have hz:us.length<=sizeLine:=by rw [acU]; lia
  refine aaa (wpAny_newList ?_ hz)
  have I1:=I.kept (t':=tk) (h':=h') kp
  have I2:Inv X pins σ H { s with heap:=h'.push (seqObj "list" us.toArray 0),toks:=tk }:=I1.kept (t':=tk) λb o e=>aab _ e
  have OJ:(h'.push (seqObj "list" us.toArray 0)).get? h'.objs.size=some (seqObj "list" us.toArray 0):=aaH _ rfl
  refine aaa (acm (wpAny_call_entry_kw slot_list_sort ⟨_,OJ,rfl⟩ entry_list_sort ?body (ksk_l1 _ _)))
  case body=>
   have nY:h'.objs.size∉ke X.stack:=λz=>by
    obtain ⟨_,o,e,_⟩:=I1.stack.mem z
    exact abp _ (aaB e)
   refine Gn (I1.ok.mod.widen λ_ _ e=>I.wide e) (λb hb=>PySem.W.hideAll_none _ hb) F hb hr I2 (λb o e=>?_) ?_ I1.sz OJ (I1.pY (aaF _) (I1.cm.fresh (aaF _))) nY rv al hd Je qY Lx hl hK hul (Su I2 hd rv ZD) λs' H' r J sm hn F4=>⟨_,rfl,aay ⟨_,rfl,.ref h'.objs.size,_,J,rfl,?_⟩⟩
   .have:=Jf e
    exact ⟨aab _ (kp b o this.1),this.2⟩
   .unfold u6; rw [PySem.W.hideAll_size,xb]; exact Sh
   .rw [F4.one hS]
    have i9:∀ i∈r0,i < ds.length:=λi hi=>by
     have:=acf.mp (hS.1.mem_iff.mp hi)
     rw [<- hK.len,hl] at this
     exact this
    exact uF sm q' h'.objs.size _ hn (EM (hd.same (cB sm)) i9)
 .grind
end
section
variable {prog:Program} {w:World} {A:Around} {E:cW} {s:Shared}
theorem yM {n:Nat} (hh:A.handled=none) (hr:IsRange s.heap r a b c t u v) (Sw:Builtin.Range.small a b c=true) (hn:Builtin.Range.rangeSize a b c=n) (hlen:n<=2 ^ 24)
  (hQ:∀ h' tk acc,(∀ b o,s.heap.get? b=some o->h'.get? b=some o)->s.heap.objs.size<=h'.objs.size->ItemsOf (λi v=>∃ t,v=.int (a + i * c) t) acc n->Q acc.toList { s with heap:=h',toks:=tk }):wpAny (model prog w) A (collect (.ref r)) Q E s:=by
 refine aaa (wpAny_runValue (abX F.entry_proto_collect ?_))
 refine aaa (abR ?_)
 have key:∀ (R:Result->Shared->Prop),(∀ h' tk wM c',(∀ b o,s.heap.get? b=some o->h'.get? b=some o)->h'.get? s.heap.objs.size=some { cls:=.type "list",dict:=none,data:=.seq wM c',slots:=#[] }->ItemsOf (λi v=>∃ t,v=.int (a + i * c) t) wM n->R (.ok (.ret (.ref s.heap.objs.size))) { s with heap:=h',toks:=tk })->
   codeAny (model prog w) A (.builtin "list.__iadd__" ⟨[.ref s.heap.objs.size,.ref r],[]⟩) R { s with heap:=s.heap.push { cls:=.type "list",data:=.seq ([]:cc).toArray } }:=by
  intro R hR
  refine abX F.entry_list_iadd ?_
  rw [Around.under_plainId adQ _]
  exact wpAny_extend_range (R:=R) (s:={ s with heap:=s.heap.push { cls:=.type "list",data:=.seq ([]:cc).toArray } }) hh (aab _ hr) Sw hn hlen _ _ _ (aaH _ rfl) λh' tk wM c' hk F4 oQ=>hR h' tk wM c' (λb o e=>hk b o (aaR (aaB e)) (aab _ e)) F4 oQ
 refine aay ⟨adI adQ _,key _ λh' tk wM c' hk F4 oQ=>?_⟩
 exact aaa (wpAny_load F4 (aay (hQ h' tk wM hk (abM (aaB F4)) oQ)))
end
theorem vz:∀ {n:Nat} {k:Int} {l:cc},l.length=n->(∀ (j:Nat) v,l[j]?=some v->∃ t,v=.int (k + j) t)->bg ((List.range n).map λi:Nat=>V.int (k + i)) l
 | 0,k,l,hl,_=>by rw [acM.mp hl]; exact .nil
 | n + 1,k,[],hl,_=>by cases hl
 | n + 1,k,x :: l,hl,h=>by
   rw [List.range_succ_eq_map,aaY,abO]
   refine .cons ?_ ?_
   .obtain ⟨t,e⟩:=h 0 x rfl
    exact ⟨t,e⟩
   .have:=vz (n:=n) (k:=k + 1) (l:=l) (by simpa using hl) λj v e=>by
     obtain ⟨t,q⟩:=h (j + 1) v (by simpa using e)
     exact ⟨t,by rw [q]; congr 1; lia⟩
    have e:((λi:Nat=>V.int (k + i)) ∘ Nat.succ)=λi:Nat=>V.int (k + 1 + i):=by grind
    rw [e]; exact this
def Sx (X:Cx) (arg:Expr) (O:List Nat) (ga:cg):Prop:=∀ pins s σ H U A0 δ ds,Inv X pins σ H s->Rel X.K O U A0 σ δ H->ga δ=some ds->
 wpAny (model X.prog X.w) X.A (eval arg X.env) (λu s1=>∃ H1 xs pl,Inv X (pins ++ pl) σ H1 s1 /\ aG H H1 /\ (∃ l:Addr,u=.ref l) /\ cO X.K (wo H1 (U ++ A0)) xs ds /\ ∀ s2 H2,Inv X (pins ++ pl) σ H2 s2->aG H1 H2->Wj X u xs s2) X.xe s
def M9 (g:aF):cg:=λδ=>(g δ).bind λd=>match d with
 | .list ds=>some ds
 | _=>none
def Na (g:cg):cg:=λδ=>(g δ).bind λds=>match ds with
 | [.int n]=>if 0<=n /\ n<=100000 then some ((List.range n.toNat).map λi:Nat=>.int (0 + i)) else none
 | _=>none
def vA (ga:cg) (ix:List Nat) (gb:aF):cg:=λδ=>(ga δ).bind λds=>(M7 ix δ).bind λEJ=>(A4 (λd=>gb ((d :: EJ).map some)) ds).bind λkds=>CQ ds kds
section
variable {X:Cx} {O:List Nat}
set_option tactic.hygienic true in
theorem Gq (he:PE X e (gm X.K O g)):Sx X e O (M9 g):=by
 intro pins s σ H U A0 δ ds I R eg
 obtain ⟨d,e1,e2⟩:=bind1 eg
 split at e2
 .rename_i YN
  cases e2
  refine dj (he pins s σ H (λv H1=>aG H H1 /\ i8 X.K (U ++ A0) H1 v (.list ds)) I ⟨U,A0,δ,_,R,e1,λv H1 s1 h1=>⟨s1,h1⟩⟩) λu s1 ⟨v,H1,I1,r1,sm,h1⟩=>?_
  obtain ⟨l,xs,rfl,hl,hx⟩:=h1.list
  cases r1
  refine ⟨H1,xs,[],by rw [abh]; exact I1,sm,⟨l,rfl⟩,hx,λs2 H2 I2 Wi Q E hQ=>?_⟩
  obtain ⟨its,rv,pl,hz⟩:=I2.list (hl.same Wi).sq
  refine collect_list pl.isList ?_ (by simpa using (show its.length<=sizeLine by rw [<- rv.length]; exact hz))
  have hsz:((s2.heap.push (seqObj "list" #[] 0)).update s2.heap.objs.size (Obj.mapSeq (· ++ its.toArray))).objs.size=s2.heap.objs.size + 1:=by rw [Heap.size_update,size_push']
  have:=hQ its ((s2.heap.push (seqObj "list" #[] 0)).update s2.heap.objs.size (Obj.mapSeq (· ++ its.toArray))) s2.toks (λb o e=>by
   rw [Heap.get?_update_ne _ _ _ _ (aaR (aaB e))]
   exact aab _ e) (by rw [hsz]; exact acC _) rv
  simpa using this
 .grind
set_option tactic.hygienic true in
theorem Jt (m2:X.mg "range"=none) (ha:PA X [a] (xt X.K O gr)) (hc:X.calm=true:=by rfl) (g2:Gl X "range":=by rfl)
  (s2:starEach [a] X.env=(false,eval a X.env) :: starEach [] X.env:=by rfl) (s0:starEach ([]:List Expr) X.env=[]:=by rfl):Sx X (.Call (.Name "range" p2) [a] [] q2) O (Na gr):=by
 intro pins s σ H U A0 δ ds I R eg
 obtain ⟨as,e1,e2⟩:=bind1 eg
 split at e2
 .rename_i n
  split at e2
  .rename_i hn
   cases e2
   refine Call_ (jI I g2 m2 boot_range (abv (dj (ha q2 pins s σ H (λvs H1=>aG H H1 /\ vs=[.int n]) I ⟨U,A0,δ,_,R,e1,λvs H1 s1 h1=>⟨s1,by
    cases h1 with
    | cons a b=>cases b; cases a; rfl⟩⟩) λus sA ⟨vs,H1,I1,r1,sm,e⟩=>?_) s2 (by rw [s0]; rfl)))
   subst e
   obtain ⟨x,rfl,t,rfl⟩:=vals1 r1
   refine call_range_1 ?_
   have I2:Inv X pins σ H1 { sA with heap:=sA.heap.push { cls:=.type "range",data:=.fields #[.int 0 sA.toks,.int n t,.int 1 (sA.toks + 1)] },toks:=sA.toks + 1 + 1 }:=I1.kept (t':=sA.toks + 1 + 1) λb o e=>aab _ e
   have I3:=I2.pinned (fp:=[sA.heap.objs.size]) (λb hb=>by rw [show b=sA.heap.objs.size by simpa using hb]; exact I1.pY (Nat.le_refl _) (I1.cm.fresh (Nat.le_refl _))) (λb hb=>by
    have eb:b=sA.heap.objs.size:=by simpa using hb
    subst eb
    exact ⟨_,aaH _ rfl,λv z=>by cases z⟩)
   refine ⟨H1,(List.range n.toNat).map λi:Nat=>V.int (0 + i),_,I3,sm,⟨_,rfl⟩,?_,λs2 H2 J Wi Q E hQ=>?_⟩
   .have:=cO.ints (K:=X.K) (H:=wo H1 (U ++ A0)) ((List.range n.toNat).map λi:Nat=>(0 + i:Int))
    rw [abO,abO] at this
    exact this
   .have V3:IsRange s2.heap sA.heap.objs.size 0 n 1 sA.toks t (sA.toks + 1):=(J.pin _ (aaN _ (aaN _ (ij (b:=sA.heap.objs.size) (by simp) (aaH _ rfl))))).1
    refine yM (n:=n.toNat) (J.ok.hd hc) V3 (small_one (by decide) (by decide) (by lia) (by lia)) (by rw [rangeSize_one]; split <;> lia) (by lia) λh' tk acc kp Sh oQ=>hQ _ h' tk kp Sh (vz (by rw [abf]; exact oQ.1) λj v e=>?_)
    obtain ⟨t,q⟩:=oQ.2 j v (by simpa using e)
    exact ⟨t,by rw [q,Int.mul_one]⟩
  .grind
 .grind
theorem A5 (sc:Scope)
  (hm:X.mg "sorted"=none) (hA:Sx X arg O ga) (hr:dH kk X.A) (hk:kc + 3<=kk) (hB:MW X.mg X.base) (hHd:PySem.W.codeHdIn X.K c P=true) (m:(P,Nb,q)∈cK) (S:V7 [pn] fv scope)
  (jK:∀ (base:Heap) (f c':Addr) (cl:List (Str×Addr)) (A:Around) (outer:List Env) (s:Shared) (H:Hp) (E:XK),dH kc (A.deeper (PySem.W.envX q scope s.heap.objs.size f (.ref c') cl))->PE (Jc rp X.prog X.w X.K X.mg base ([pn] ++ fv) q scope f (.ref c') cl A outer s H E) body (tE X.K [] gb))
  (hb:∀ (name qual:Str) (cl:List (Str×Addr)) (pm cd EC:Value) (us:cc),us.length=[pn].length->bindArgs (PySem.W.kla_fn name qual params body scope cl pm cd EC) ⟨us,[]⟩=pure ([pn].zip us))
  (ED:X.env.code=.ref c:=by rfl) (hq:X.env.qual ++ Str.ofString "<lambda>"=q:=by rfl) (CH:ix.map (λi=>X.N[i]?)=fv.map some:=by rfl) (e0:X.env.scope=sc:=by rfl) (M4:∀ x∈fv,sc.names.lookup x=some .cell:=by decide +kernel) (nY:∀ y∈scope.names,y.2=.free->sc.names.lookup y.1=some .cell:=by decide +kernel)
  (Qy:∀ x,X.fn x=true:=by intro _; rfl) (hd:defaultsOf params X.env=([],[]):=by rfl) (g1:Gl X "sorted":=by rfl) (hO:∀ i∈ix,i∉O:=by decide)
  (he:starEach [arg] X.env=(false,eval arg X.env) :: starEach [] X.env:=by rfl) (s0:starEach ([]:List Expr) X.env=[]:=by rfl):
  PE X (.Call (.Name "sorted" p1) [arg] [⟨some "key",.Lambda params body scope Nb,kp⟩] pos) (tN X.K O (vA ga ix gb)):=by
 subst e0
 intro pins s σ H Q I ⟨U,A0,δ,rs,R,ed,q'⟩
 obtain ⟨ds,ea,ed⟩:=bind1 ed
 obtain ⟨EJ,ec,ed⟩:=bind1 ed
 obtain ⟨kds,ek,es⟩:=bind1 ed
 refine acd (jI I g1 hm xD (callWith_kw (kws:=[⟨some "key",.Lambda params body scope Nb,kp⟩]) ?_ (by rw [he]; rfl) (by rw [he,s0]; rfl) rfl rfl))
 rw [he,s0]
 refine adh (dj (hA pins s σ H U A0 δ ds I R ea) λu s1 ⟨H1,xs,pl,I1,sm,⟨l,el⟩,hxs,Sv⟩=>Calls.spliced_nil ?_)
 have R1:=R.same sm
 refine kws_cons ?_
 have hP:=R1.al.2.2 P Nb q m
 obtain ⟨ps0,Zq,_⟩:=(show cN X.prog X.w H1 s1.heap P (.lam Nb q) from I1.cm P _ hP)
 obtain ⟨bm,ob,b1,b2,b3,b4,b5,b6⟩:=hB
 have yI:=Ns.widen I1.bk I1.ok.mod.glob
 have nem:∀ {a:Addr},(∀ o es ep,s1.heap.get? a=some o->o.data≠.dict es ep)->a≠mainGlobals:=λ{a} h z=>by
  subst z
  obtain ⟨o,es,ep,e,d,_⟩:=yI
  exact h o es ep e d
 have b3':=I1.bk _ _ b3
 refine Sg I1 hd (λy hy hf=>I1.ok.has _ (.inl (nY y hy hf))) ED (PySem.W.codeHd_of_K I1.oB hHd) hP hq ⟨bm,ob,b1,b2,nem λo es ep e z=>?_,λz=>?_,b3',b4,b5,b6⟩ (acx (nem λo es ep e z=>?_)) λcl f c' EC s2 H2 h1 h2 I2 Wk hc hf hff HJ=>kws_nil ?_
 .grind
 .grind
 .grind
 .have R2:=R1.same Wk
  obtain ⟨cvs,Je,qp,hca⟩:=Js R2 hO ec
  have F:=So (k:=kc) (gb:=gb) (cvs:=cvs) I2.mq HJ hf hff h1 h2 Qy S CH M4 hca qp λbase=>jK base f c' cl
  subst el
  refine Gp F (Binds.all (hb _ _ _ _ _ _)) (hr.mono hk).in1.in1 I2.mq R2.al (hxs.same (cB Wk)) Je hc (Sv s2 H2 I2 Wk) ek es (λr ys H' a b c d=>q' r ys H' ((sm.trans Wk).trans a) ?_ c d) ⟨l,rfl⟩
  cases e:H r with
  | none=>rfl
  | some o=>rw [(sm.trans Wk) _ _ e] at b; cases b
end
theorem A6 {K:au} {st:Stmt} (O:List Nat) (g:aK) (F:V8 K mg x st ps c) (S:aA N ps (aj st))
  (body:∀ (f:Addr) (A:Around) (outer:List Env) (s:Shared) (H:Hp) (E:XK),dH k (A.deeper (envOfC x (aj st) s.heap.objs.size f (.ref c)))->mn (jk rp P w K mg base N x (aj st) f (.ref c) A outer s H E).Lm (cU st) (tS K O (true,λ_ _=>True) g))
  (hO:∀ i∈O,ps.length<=i:=by decide) (hN:N.length=n:=by rfl) (hP:ps.length=m:=by rfl):Dn P w K mg base (k + 1) x ps (xw K m (jh n g)):=by
 subst hN hP
 obtain ⟨f,fd,F,hc,m,b⟩:=F
 have kp:=F.kp
 obtain ⟨oc,od,kV,doc,pm,an,cx,ct,FC,rfl,lk,qY⟩:=F.ex
 cases (show cx=.ref c from hc)
 refine ⟨f,_,HA lk qY S (λvs H Q E h=>h.1) λA outer s H vs Q E hr h=>⟨_,(body f A outer s H E hr).Lm,?_⟩,m,kp,b⟩
 obtain ⟨hn,A',ds,d,al,hd,e,q⟩:=h
 obtain ⟨r,e1,e2⟩:=bind1 e
 refine ⟨H,[],A',_,r,Rel.start al hd (λi hi=>by have:=hO i hi; rw [<- hd.len,hn]; exact this),Fx.start al,e1,?_⟩
 cases r with
 | rt d'=>
   refine ⟨λv H' h=>?_,λ_ _ _ _=>trivial⟩
   obtain ⟨r,ob,rfl,a,b,c,f⟩:=h
   cases f with
   | lst f=>cases e2; exact q r _ H' a b c f
   | sT _ _=>cases e2
 | nx δ=>cases e2
 | bk _=>cases e2
 | ct _=>cases e2
end L2
namespace L2
open PySem PySem.Spec PyProof.Rows
section
variable {X:Cx} {O:List Nat} {tg e o y:Expr} {ge go:aF} {apos fI:Pos}
end
end L2
namespace L2
open PySem PySem.Spec PySem.W PyProof.Rows
section
variable {M:Model} {A:Around} {E:cW} {s:Shared} {base:Heap} {env:Env} {outer:List Env} {L e:Addr} {cls a0:Value}
theorem vB (h1:wpAny M A t Q1 E s):wpAny M A t (λa s=>Q1 a s /\ True) (λv s=>E v s /\ True) s:=by grind
theorem Gr (nY:A.frames=some (env :: outer)) (hf:env.frame=some L) (MN:Heap.FlyingW base (env :: outer) e cls a0 s.heap) (_:sS s.heap e)
  (hQ:∀ h',Heap.HeldW base (env :: outer) e cls a0 L h'->sS h' e->s.heap.UpToSlots h'->Q () { s with heap:=h' }):wpAny M A (noteFrame (.ref e) env) Q E s:=
 wpAny_looks_onW nY hf MN λh2 k1 k2=>hQ h2 k1 trivial k2
theorem Sy (hh:Heap.HeldW base l e cls a0 L s.heap) (_:sS s.heap e) (hQ:∀ h',Heap.FlyingW base l e cls a0 h'->sS h' e->s.heap.UpToSlots h'->Q () { s with heap:=h' }):wpAny M A (setFlight (.ref e) none) Q E s:=
 wpAny_landsW hh λh2 k1 k2=>hQ h2 k1 trivial k2
theorem yN (hh:Heap.FlyingW base l e cls a0 s.heap) (_:sS s.heap e) (hQ:∀ h',Heap.FlyingW base l e cls a0 h'->sS h' e->s.heap.UpToSlots h'->Q () { s with heap:=h' }):wpAny M A (setFlight (.ref e) none) Q E s:=
 lands_againW hh λh2 k1 k2=>hQ h2 k1 trivial k2
end
theorem cN.there (x:cN P w H h a o):∃ ob,h.get? a=some ob:=by
 induction o with
 | lst xs=>obtain ⟨_,_,_,_,e⟩:=x; exact ⟨_,e⟩
 | tup xs=>obtain ⟨_,_,_,o,e,_⟩:=x; exact ⟨_,e⟩
 | dK bf=>obtain ⟨_,_,_,_,o,es,ep,e,_⟩:=x; exact ⟨_,e⟩
 | dT bf=>obtain ⟨_,_,_,_,o,es,ep,e,_⟩:=x; exact ⟨_,e⟩
 | set S n=>obtain ⟨_,_,_,_,e,_⟩:=x; exact ⟨_,e⟩
 | ins C dx fs=>obtain ⟨_,_,_,e,_⟩:=x; exact ⟨_,e⟩
 | own y=>exact x
 | xd fs=>obtain ⟨_,⟨o,es,ep,e,_⟩,_⟩:=x; exact ⟨_,e⟩
 | met f y=>exact ⟨_,x⟩
 | Xk lo hi=>obtain ⟨_,_,_,e⟩:=x; exact ⟨_,e⟩
 | wz ob u ih=>exact ⟨_,x.1⟩
 | OI ps=>exact ⟨_,x⟩
 | lam p q=>obtain ⟨_,e,_⟩:=x; exact ⟨_,e⟩
 | code q=>obtain ⟨_,_,_,_,z,e,_⟩:=x; cases z; exact ⟨_,e⟩
 | ext φ=>exact x.2.1
def Up (g:Heap) (l:List Env) (H:Hp) (B:Heap):Prop:=∀ b,b∉ke l->(H b≠none \/ ∃ o0,g.get? b=some o0)->∃ o,B.get? b=some o
theorem Up.at (c:Up g l H B) (st:B.StaysIn h) (q:h.get? b=some o) (n:b∉ke l) (i:H b≠none \/ ∃ o0,g.get? b=some o0):B.get? b=some o:=by
 obtain ⟨o',e⟩:=c b n i
 have:=st b o' e
 rw [q] at this
 cases this
 exact e
theorem CS (u:Un (ke l) [] H H1 g h) (c:Up g l H1 B) (st:B.StaysIn h) (cZ:B.StaysIn h') (up:h.UpToSlots h') (fr:h.FunFrames base l):Un (ke l) [] H H1 g h' where
 keep:=λb o q n hb hx=>cZ b o (c.at st (u.keep b o q n hb hx) hb (.inr ⟨_,q⟩))
 slot:=λb o q n hb hx=>by
  obtain ⟨sl,e⟩:=u.slot b o q n hb hx
  obtain ⟨_,o1,wA,ZE⟩:=fr.mem hb
  rw [e] at wA
  cases wA
  obtain ⟨TV,e'⟩:=up b _ e ZE
  exact ⟨TV,e'⟩
 free:=u.free
 there:=λb o q hx=>by
  by_cases hb:b∈ke l
  .obtain ⟨_,o1,wA,ZE⟩:=fr.mem hb
   obtain ⟨TV,e'⟩:=up b _ wA ZE
   exact ⟨_,e'⟩
  .obtain ⟨o',e⟩:=u.there b o q hx
   exact ⟨o',cZ b o' (c.at st e hb (.inr ⟨_,q⟩))⟩
 oA:=u.oA
 pT:=u.pT
 rb:=u.rb
theorem yO (x:ml P w H h) (c:Up g l H B) (st:B.StaysIn h) (cZ:B.StaysIn h') (nf:∀ b∈ke l,H b=none):ml P w H h':=λa o e=>by
 refine (x a o e).ra (λb u hb q=>?_) (λ_ q=>q) λ_ _ q=>q
 have ht:H b≠none:=by grind
 exact cZ b u (c.at st q (λz=>ht (nf b z)) (.inl ht))
def BY (P:Program) (w:World):LZ:=λouter H s E e s'=>∃ (a t C:Addr) (B:Heap) (H1:Hp),e=.ref a /\ s'.os=s.os /\ AllBare s'.gens /\ Un (ke outer) [] H H1 s.heap s'.heap /\ ml P w H1 s'.heap /\
 s.heap.get? a=none /\ H1 a=none /\ Up s.heap outer H1 B /\ Heap.FlyingW B outer a (.ref C) (.ref t) s'.heap /\ sS s'.heap a /\ E (.ref C) none H1
section
variable {P:Program} {w:World} {K:au} {mg:dG} {base:Heap} {N:List Str} {qual:Str} {scope:Scope} {f:Addr} {cd:Value} {A:Around} {outer:List Env} {s:Shared} {H:Hp} {E:XK}
theorem Inv.tracked (I:Inv X pins σ H1 s1) (n:H1 b≠none):∃ o,s1.heap.get? b=some o:=by
 cases q:H1 b with
 | none=>exact absurd q n
 | some o=>exact (I.cm b o q).there
theorem Nc (I:Inv (jk (BY P w) P w K mg base N qual scope f cd A outer s H E) pins σ H1 s1)
  (hx:Heap.MadeExcOf s1.heap h' a (.ref C) vs) (hE:E (.ref C) none H1):(jk (BY P w) P w K mg base N qual scope f cd A outer s H E).xe (.ref a) { s1 with heap:=h' }:=by
 have st:(hideAll s1.heap (ke (envOfC qual scope s.heap.objs.size f cd :: outer))).StaysIn s1.heap:=λb o q=>of_hideAll _ q
 have CU:∀ b,b∉ke outer->(H1 b≠none \/ ∃ o0,s.heap.get? b=some o0)->∃ o,(hideAll s1.heap (ke (envOfC qual scope s.heap.objs.size f cd :: outer))).get? b=some o:=λb nb i=>by
  have hb:b∉ke (envOfC qual scope s.heap.objs.size f cd :: outer):=λz=>by
   rcases aaG.mp (I.k8 b z) with e | z
   .rcases i with i | ⟨o0,i⟩
    .exact i (by rw [e]; exact I.free)
    .exact absurd (aaC (aaB i) (by rw [e]; exact I.ok.above)) (abp _)
   .exact nb z
  have ex:∃ o,s1.heap.get? b=some o:=by
   rcases i with i | ⟨o0,i⟩
   .exact I.tracked i
   .exact I.base.there b o0 i (λz=>nomatch z)
  obtain ⟨o,e⟩:=ex
  exact ⟨o,hideAll_get _ e hb⟩
 have fh:=funFrames_hide I.stack λenv he b hb=>ad0.mpr ⟨env,he,hb⟩
 refine aa5 (vB (wpAny_leaves_madeW (E:=λ_ _=>False) (Q:=λ_ s2=>∃ h2 t,s2={ s1 with heap:=h2 } /\ Heap.FlyingW (hideAll s1.heap (ke (envOfC qual scope s.heap.objs.size f cd :: outer))) outer a (.ref C) (.ref t) h2 /\ Heap.UpToSlots h' h2)
  (h:=s1.heap) I.ok.frames rfl st fh hx λh2 t Gs _ _ up=>⟨h2,t,rfl,Gs,up⟩)) (λ_ s2 ⟨⟨h2,t,e2,Gs,up⟩,nc⟩=>?_) λ_ _ z=>z.1.elim
 subst e2
 have ZF:=(Heap.UpToSlots.of_keeps hx.keeps).trans up
 refine ⟨a,t,C,_,H1,rfl,I.os,I.bare,CS I.base CU st Gs.1 ZF I.jH,yO I.cm CU st Gs.1 (λb hb=>?_),?_,?_,CU,Gs,nc,hE⟩
 .obtain ⟨_,o,ho,_⟩:=I.ok.jH.mem hb
  exact I.base.free b o ho (I.ok.B1 b hb) λz=>nomatch z
 .cases q:s.heap.get? a with
  | none=>rfl
  | some o=>
    obtain ⟨o',e⟩:=I.base.there a o q (λz=>nomatch z)
    rw [hx.new] at e; cases e
 .cases q:H1 a with
  | none=>rfl
  | some o=>
    obtain ⟨o',e⟩:=I.tracked (b:=a) (by rw [q]; exact λz=>nomatch z)
    rw [hx.new] at e; cases e
theorem rN:rj (BY P w) (jk (BY P w) P w K mg base N qual scope f cd A outer s H E) E:=by
 rintro pins σ H0 s0 e s' I ⟨a,t,C,B,H1,rfl,os,bare,un,cm,na,ta,XM,Gs,nc0,hE⟩
 have I':=I.He (ch:=[]) os un cm bare (λb z=>nomatch z)
 have CU:Up s.heap outer H1 B:=λb nb i=>by
  refine XM b (λz=>?_) ?_
  .rcases aaG.mp (I.k8 b z) with e | z
   .rcases i with i | ⟨o0,i⟩
    .exact i (by rw [e]; exact I'.free)
    .exact absurd (aaC (aaB i) (by rw [e]; exact I.ok.above)) (abp _)
   .exact nb z
  .rcases i with i | ⟨o0,i⟩
   .grind
   .exact .inr (I.base.there b o0 i λz=>nomatch z)
 refine aa5 (vB (wpAny_leaves_onW (E:=λ_ _=>False) (Q:=λ_ s2=>∃ h2,s2={ s' with heap:=h2 } /\ Heap.FlyingW B outer a (.ref C) (.ref t) h2 /\ s'.heap.UpToSlots h2) I.ok.frames rfl Gs λh2 A7 up=>⟨h2,rfl,A7,up⟩)) (λ_ s2 ⟨⟨h2,e2,A7,up⟩,nc⟩=>?_) λ_ _ z=>z.1.elim
 subst e2
 refine ⟨a,t,C,B,H1,rfl,I'.os,I'.bare,CS I'.base CU Gs.1 A7.1 up I'.jH,yO I'.cm CU Gs.1 A7.1 (λb hb=>?_),?_,ta,CU,A7,nc,hE⟩
 .obtain ⟨_,o,ho,_⟩:=I'.ok.jH.mem hb
  exact I'.base.free b o ho (I'.ok.B1 b hb) λz=>nomatch z
 .cases q:s.heap.get? a with
  | none=>rfl
  | some o=>
    obtain ⟨o',e⟩:=I.base.there a o q (λz=>nomatch z)
    rw [na] at e; cases e
structure Ju (K:au) (mg:dG) (x:Str) (C:Addr) (bm tl:cc) (newId:String):Prop where
 bound:mg x=some (.ref C)
 obj:∃ (n:Addr) (nm q:Str) (bs:cc) (hdct:Bool) (sn:List Str) (sub:cc) (ab:Bool) (col:Option Bool) (dd:Option Addr) (k0 k1 k2 k3 k5:Option Value) (mN:dG),
  mN "__init__"=none /\ ∀ h:Heap,K.In h->h.get? C=some (excClassObj nm q C n bs tl hdct sn sub ab col dd k0 k1 k2 k3 k5 newId) /\ h.Ns n mN /\ OwnTail h bm tl
theorem Jv {rest:List Expr} (hC:Ju K mg x C bm tl newId) (Fn:ExcBaseFacts Bn newId inN bmN) (ZG:bm.contains (.type Bn)=true)
  (FB:ExcBaseFacts B nid initId bm) (ha:PA (jk (BY P w) P w K mg base N qual scope f cd A outer s H E) (tL :: rest) t) (hg:Gl (jk (BY P w) P w K mg base N qual scope f cd A outer s H E) x:=by rfl)
  (he:starEach (tL :: rest) (envOfC qual scope s.heap.objs.size f cd)=(false,eval tL (envOfC qual scope s.heap.objs.size f cd)) :: starEach rest (envOfC qual scope s.heap.objs.size f cd):=by rfl)
  (Ce:(backTo fI (starEach rest (envOfC qual scope s.heap.objs.size f cd))).any (·.1)=false:=by rfl) (hd:(x == ("__debug__":Str))=false:=by decide):
  PS (jk (BY P w) P w K mg base N qual scope f cd A outer s H E) (.Raise (some (.Call (.Name x np) (tL :: rest) [] fI)) none pos) (λ_ σ H0=>t σ H0 λvs H1=>vs.length<=sizeLine /\ E (.ref C) none H1):=by
 intro pins s1 σ H1 D I h
 obtain ⟨n,nm,q,bs,hdct,sn,sub,ab,col,dd,k0,k1,k2,k3,k5,mN,Uq,all⟩:=hC.obj
 obtain ⟨_,_,T⟩:=all _ I.oB
 refine wpAny_Raise_call_subU (C:=C) (nm:=nm) (q:=q) (N:=n) (bs:=bs) (bm:=tl) (hdct:=hdct) (sn:=sn) (sub:=sub) (ab:=ab) (col:=col) (dd:=dd) (k0:=k0) (k1:=k1) (k2:=k2) (k3:=k3) (k5:=k5)
  Fn ZG FB (mN:=mN) (T.hasType FB.hasBase) (I.ok.hd rfl) ?_ Uq (pW I hg hC.bound ⟨rfl,?_⟩ hd)
 .show (backTo fI (starEach (tL :: rest) (envOfC qual scope s.heap.objs.size f cd))).any (·.1)=false
  rw [he]; show (false || (backTo fI (starEach rest (envOfC qual scope s.heap.objs.size f cd))).any (·.1))=false; rw [Ce]; rfl
 .show wpAny _ _ (evalArgs (.ref C) true (backTo fI (starEach (tL :: rest) (envOfC qual scope s.heap.objs.size f cd))) []) _ _ s1
  have hp:=ha fI pins s1 σ H1 _ I h
  have Xy:wpAny (model P w) (A.deeper (envOfC qual scope s.heap.objs.size f cd)) (spliced (backTo fI (starEach (tL :: rest) (envOfC qual scope s.heap.objs.size f cd)))) _ _ s1:=hp
  rw [he] at Xy ⊢
  refine adK (aa5 Xy (λus s2 ⟨vs,H2,I2,r2,hz,hE⟩=>⟨rfl,by show us.length<=_; rw [<- r2.length]; exact hz,(all _ I2.oB).1,(all _ I2.oB).2.1,(all _ I2.oB).2.2,λh' e hm=>Nc I2 hm hE⟩) λ_ _ y=>y)
end
abbrev Cx.Lz (X:Cx) (a:Addr):Cx:={ X with A:=X.A.mark (some (.ref a)),calm:=false,xe:=λ_ _=>False }
theorem Cx.Ok.Lz {X:Cx} (ok:X.Ok) (a:Addr):(X.Lz a).Ok:=
 ⟨ok.mod,ok.kind,ok.glob,ok.blt,ok.above,ok.inj,ok.has,ok.Ha,(λz=>nomatch z),ok.frames,ok.LK,ok.Qw,ok.bs,ok.xY,ok.wC,ok.xZ,ok.jH,ok.B1⟩
theorem Inv.Lz (I:Inv X pins σ H s) (a:Addr):Inv (X.Lz a) pins σ H s:=⟨I.ok.Lz a,I.os,I.bare,I.base,I.loc,I.cell,I.free,I.gT,I.pin,I.cm,I.len⟩
theorem Inv.ZH (I:Inv (X.Lz a) pins σ H s) (ok:X.Ok):Inv X pins σ H s:=⟨ok,I.os,I.bare,I.base,I.loc,I.cell,I.free,I.gT,I.pin,I.cm,I.len⟩
theorem Inv.SA (I:Inv X pins σ H1 s1) (I0:Inv X pins dw H0 s0) (na:s0.heap.get? a=none) (ta:H1 a=none) (new:cN X.prog X.w (upd H1 a o) s1.heap a o):
  Inv X pins σ (upd H1 a o) s1:=by
 have ne:∀ b ob,s0.heap.get? b=some ob->b≠a:=λb ob q e=>by rw [e,na] at q; cases q
 have nt:∀ b u,H1 b=some u->b≠a:=λb u q e=>by rw [e,ta] at q; cases q
 have nL:X.env.locals≠a:=by
  obtain ⟨m,⟨ol,_,_,e,_⟩,_⟩:=I0.loc
  exact ne _ _ e
 refine ⟨I.ok,I.os,I.bare,⟨I.base.keep,I.base.slot,λb ob q n hx=>?_,I.base.there,λb xs q=>?_,λb ob u q=>?_,λb ps q=>?_⟩,I.loc,I.cell,?_,λx c e=>?_,λp hp=>?_,λb u q=>?_,I.len⟩
 .obtain ⟨o',e⟩:=I0.base.there b ob q hx
  rw [aN (ne b o' e)]; exact I.base.free b ob q n hx
 .have:=I.base.oA b xs q
  rw [aN (nt _ _ this)]; exact this
 .have:=I.base.pT b ob u q
  rw [aN (nt _ _ this)]; exact this
 .obtain ⟨more,this⟩:=I.base.rb b ps q
  exact ⟨more,by rw [aN (nt _ _ this)]; exact this⟩
 .rw [aN nL]; exact I.free
 .obtain ⟨v,oc,e1,_⟩:=I0.cell x c e
  rw [aN (ne _ _ e1)]; exact I.gT x c e
 .obtain ⟨e,n,r1,r2,r3⟩:=I.pin p hp
  exact ⟨e,by rw [aN (ne _ _ (I0.pin p hp).1)]; exact n,r1,r2,r3⟩
 .by_cases hb:b=a
  .subst hb; rw [cf] at q; cases q; exact new
  .rw [aN hb] at q
   refine (I.cm b u q).ra (λ_ _ _ z=>z) (λc z=>by rw [aN (nt _ _ z)]; exact z) λc xs z=>z.ne (by rcases z with z | ⟨_,z⟩ <;> exact nt _ _ z)
theorem Inv.forget (I:Inv X pins σ H s) (hn:h'.Ns X.env.locals m) (hs:Heap.SameBut X.env.locals s.heap h'):
  Inv X pins (List.replicate X.N.length none) H { s with heap:=h',toks:=tk }:=by
 have Hb:=I.Hb
 have lt:∀ b o,X.gQ.heap.get? b=some o->b≠X.env.locals:=λb o e=>aaR (aaC (aaB e) I.ok.above)
 refine ⟨I.ok,I.os,I.bare,⟨λb o e n hb hx=>(hs.2 b (lt b o e)).trans (I.base.keep b o e n hb hx),λb o e n hb hx=>?_,I.base.free,λb o e hx=>?_,I.base.oA,I.base.pT,I.base.rb⟩,⟨m,hn,λj y v e1 e2 _=>?_⟩,λy c e=>?_,I.free,I.gT,λp hp=>?_,λb u q=>?_,by simp⟩
 .obtain ⟨sl,e1⟩:=I.base.slot b o e n hb hx
  exact ⟨sl,(hs.2 b (lt b o e)).trans e1⟩
 .obtain ⟨o',e1⟩:=I.base.there b o e hx
  exact ⟨o',(hs.2 b (lt b o e)).trans e1⟩
 .grind
 .obtain ⟨w',z⟩:=I.cell y c e
  exact ⟨w',z.sameBut hs (Hb y c e)⟩
 .obtain ⟨e,n,ne,nf,d⟩:=I.pin p hp
  exact ⟨(hs.2 p.1 ne).trans e,n,ne,nf,d⟩
 .refine (I.cm b u q).ra (λc w' hc z=>(hs.2 c ?_).trans z) (λ_ z=>z) λ_ _ z=>z
  rintro rfl
  rcases hc with e | hc
  .rw [<- e,I.free] at q; cases q
  .rw [I.free] at hc; cases hc
section
variable {X:Cx} {k:Nat} {f:Addr} {fd:FuncData} {ps:List Str} {sp:Sp} {g T n:Str} {gp fI adD tp yu pos:Pos} {e:Expr} {es:List Expr} {ta:TA} {SD:Stmt} {Jw:List Stmt} {i:Nat} {Tv:Value} {ts:Addr->TS}
end
end L2
namespace L2
open PySem PySem.Spec PySem.W PyProof.Rows PySem.Builtin PySem.Builtin.ObjectAttr PySem.Builtin.Getset_descriptor
section
variable {prog:Program} {w:World} {A:Around} {E:cW} {h:Heap} {g:Array GenState} {d:Drawn} {t:Nat} {os:OsState} {a C:Addr} {o:Obj} {K:Frag}
theorem Nd (X:K.In h) (hx:h.get? a=some o) (hc:o.cls=.ref C) (hs:subIn K (.ref C) (.type "object")=some true) (hq:R (.ok (.ret (.ref C))) ⟨h,g,d,t,os⟩):
  codeAny (model prog w) A (.call (.builtin "getset_descriptor.__get__") ⟨[.builtin "object.__class__",.ref a,.ref C],[]⟩) R ⟨h,g,d,t,os⟩:=by
 have L1:Looks (model prog w) h (isSubtype (.ref C) (.type "object")) true:=looks_subIn X hs
 refine acD KF.slot_gs.plain KF.entry_gs (KF.slot_gs.check _ _ _ _ _ _ _ _ KF.type_class (KF.args_gs _ _ _) ?_)
 have L0:Looks (model prog w) h (typeOf (.ref a)) (.ref C):=by rw [<- hc]; exact (Looks.ld hx).andThen Looks.now
 refine aaa (aay ?_)
 unfold descrGetter descrCheckInstance descrNameAndClass isInstance
 simp only [KF.owner_class]
 repeat lk
 refine ⟨Code.quiet_builtin _ (by decide +kernel),abX KF.entry_class ?_⟩
 repeat lk
 exact hq
theorem Gu (X:K.In h) (hx:h.get? a=some o) (hc:o.cls=.ref C) (hs:subIn K (.ref C) (.type "object")=some true) (hf:findIn K (.ref C) "__class__"=some (some (.builtin "object.__class__"))) (hq:Q (.done (.ret (.ref C))) ⟨h,g,d,t,os⟩):
  wpAny (model prog w) A (Builtin.«object.__getattribute__» ⟨[.ref a,.str "__class__" tk],[]⟩) Q E ⟨h,g,d,t,os⟩:=by
 have hT5:=F.typeOf_object_class
 have f6:=F.slot_gs_get.lookup
 have f7:=F.slot_gs_set.lookup
 have L1:Looks (model prog w) h (typeLookup (.ref C) "__class__") (some (.builtin "object.__class__")):=looks_findIn X hf
 repeat (any_goals (first | assumption | (with_reducible refine wpAny_loadPart_at hx ?_; rw [hc]) | with_reducible refine L1.at ?_ | wp_step))
 refine Nd X hx hc hs ?_
 repeat (any_goals (first | assumption | wp_step))
theorem Gv (X:K.In h) (hx:h.get? a=some o) (hc:o.cls=.ref C) (hs:subIn K (.ref C) (.type "BaseException")=some true) (hq:Q () ⟨h,g,d,t,os⟩):
  wpAny M A (checkBuiltinCall "BaseException.__getattribute__" ⟨[.ref a,Wl],[]⟩) Q E ⟨h,g,d,t,os⟩:=by
 have hk:builtinKind "BaseException.__getattribute__"=some .slot:=by decide +kernel
 have yP:splitId "BaseException.__getattribute__"=some ("BaseException","__getattribute__"):=by decide +kernel
 have L1:Looks M h (isSubtype (.ref C) (.type "BaseException")) true:=looks_subIn X hs
 have ha:=F.args_bexc_ga (.ref a) Wl
 simp only [checkBuiltinCall,hk,yP]
 refine aaa ?_
 unfold isInstance
 repeat (first | (with_reducible refine wpAny_loadPart_at hx ?_; rw [hc]) | with_reducible refine L1.at ?_ | wp_step)
 exact hq
theorem SE (X:K.In h) (hx:h.get? a=some o) (hc:o.cls=.ref C) (hs:subIn K (.ref C) (.type "object")=some true) (og:subIn K (.ref C) (.type "BaseException")=some true)
  (hf:findIn K (.ref C) "__class__"=some (some (.builtin "object.__class__"))) (ZI:findIn K (.ref C) "__getattribute__"=some (some (.builtin "BaseException.__getattribute__"))) (Wc:findIn K (.ref C) "__getattr__"=some none) (hq:Q (.ref C) ⟨h,g,d,t,os⟩):
  wpAny (model prog w) A (getAttrBy (.ref a) (.str "__class__" tk) false) Q E ⟨h,g,d,t,os⟩:=by
 have f3:=PySem.F.attrBase_ValueError.ga.bind (.ref a)
 have L1:Looks (model prog w) h (typeLookup (.ref C) "__getattribute__") (some (.builtin "BaseException.__getattribute__")):=looks_findIn X ZI
 have L2:Looks (model prog w) h (typeLookup (.ref C) "__getattr__") none:=looks_findIn X Wc
 repeat (any_goals (first | assumption | (with_reducible refine wpAny_loadPart_at hx ?_; rw [hc]) | with_reducible refine L1.at ?_ | with_reducible refine L2.at ?_ | wp_step))
 refine acD PySem.F.attrBase_ValueError.ga.plain F.entry_bexc_ga (Gv X hx hc og (Gu X hx hc hs hf ?_))
 repeat (any_goals (first | assumption | wp_step))
theorem Jx (X:K.In h) (hx:h.get? a=some o) (hc:o.cls=.ref C) (hs:subIn K (.ref C) (.type "object")=some true) (og:subIn K (.ref C) (.type "BaseException")=some true)
  (hf:findIn K (.ref C) "__class__"=some (some (.builtin "object.__class__"))) (ZI:findIn K (.ref C) "__getattribute__"=some (some (.builtin "BaseException.__getattribute__"))) (Wc:findIn K (.ref C) "__getattr__"=some none) (hq:Q (some (.ref C)) ⟨h,g,d,t + 1,os⟩):
  wpAny (model prog w) A (getAttr? (.ref a) "__class__") Q E ⟨h,g,d,t,os⟩:=by
 unfold getAttr? getAttrBy?
 repeat (any_goals (first | assumption | with_reducible apply SE X hx hc hs og hf ZI Wc | wp_step))
end
end L2
namespace L2
open PySem PySem.Spec PySem.W PyProof.Rows
structure Jy (K:Frag) (C:Addr):Prop where
 obj:∃ c d cd sl,K.lookup C=some ⟨c,d,.cls cd,sl⟩
 sO:subIn K (.ref C) (.type "object")=some true
 sB:subIn K (.ref C) (.type "BaseException")=some true
 fc:findIn K (.ref C) "__class__"=some (some (.builtin "object.__class__"))
 fg:findIn K (.ref C) "__getattribute__"=some (some (.builtin "BaseException.__getattribute__"))
 fn:findIn K (.ref C) "__getattr__"=some none
theorem A8 {K:Frag} (c:Jy K C):KitX K (.ref a) (.ref C) (λh=>∃ o,h.get? a=some o /\ o.cls=.ref C) where
 ty:=λ_ _ _ ⟨o,hx,hc⟩=>by rw [<- hc]; exact (Looks.ld hx).andThen Looks.now
 it:=λ_ _ X _=>by
  obtain ⟨c',d',cd',TV,ho⟩:=c.obj
  intro A' Q' E' s' k q
  exact aaa (wpAny_loadPart (k _ _ (X _ _ ho)) (aay q))
 ne:=λh tp dd its n sl X htp=>by
  obtain ⟨c',d',cd',TV,ho⟩:=c.obj
  refine aep.mpr λq=>?_
  have e:=Value.ref.inj (adC.mp q)
  subst e
  have z:=(X _ _ ho).symm.trans htp
  cases z
 ca:=λ{_ _ _ _ _ s} X ⟨o,hx,hc⟩ k=>by
  exact Jx X hx hc c.sO c.sB c.fc c.fg c.fn k
def ZJ (K:Frag):List V->Hp->VK->Prop:=λvs H Q=>∃ a C cv b,vs=[.ref a,cv] /\ H a=some (T5 a C) /\ Jy K C /\ Q (.bl b) H /\
 ((∃ c,(∀ u,RelV cv u->u=c) /\ kitOne K (.ref C) c=some b) \/ ∃ tp cvs,cv=.ref tp /\ H tp=some (.tup cvs) /\ ∀ its,bg cvs its->kitAny K (.ref C) its=some b)
theorem xQ:fT X (.builtin "isinstance") (ZJ X.K):=by
 rintro pins s σ H vs us Q I r ⟨a,C,cv,b,rfl,ha,hc,q,h⟩
 have ⟨u1,u2,e,r1,r2⟩:∃ u1 u2,us=[u1,u2] /\ RelV (.ref a) u1 /\ RelV cv u2:=by
  cases r with
  | cons r1 r'=>cases r' with
    | cons r2 EB=>cases EB with
      | nil=>exact ⟨_,_,rfl,r1,r2⟩
 subst e
 cases (show u1=Value.ref a from r1)
 have hx:=(I.cm a _ ha).1.1
 rcases h with ⟨c,Je,e⟩ | ⟨tp,cvs,rfl,ht,e⟩
 .cases Je u2 r2
  exact kia_one (A8 hc) I.oB hx e (λz=>nomatch z) λtk=>⟨.bl b,H,I.tok tk,rfl,q⟩
 .cases (show u2=Value.ref tp from r2)
  obtain ⟨_,its,rv,o,ho,gP,n,ig⟩:=(show cN X.prog X.w H s.heap tp (.tup cvs) from I.cm tp _ ht)
  obtain ⟨oc,od,odt,FC⟩:=o
  cases gP
  cases ig
  exact kia_tup (A8 hc) I.oB hx ho (e its rv) (λz=>nomatch z) λtk=>⟨.bl b,H,I.tok tk,rfl,q⟩
structure mH (k:Nat) (A:Around):Prop where
 dp:A.depth + 3 * k + 5 < recursionLimit
 un:A.units + 16 * k + 200 < cLine
theorem dH.markX (r:dH k A) (v:Option Value):mH k (A.mark v):=⟨r.dp,r.un⟩
theorem mH.mono (r:mH k A) (h:j<=k):mH j A:=⟨by have:=r.dp; lia,by have:=r.un; lia⟩
theorem mH.deeper (r:mH (k + 1) A) (env:Env):mH k (A.deeper env):=
 ⟨by have:=r.dp; show A.depth + 1 + 3 * k + 5 < _; lia,by have:=r.un; show A.units + 3 + 16 * k + 200 < _; lia⟩
def ZK (P:Program) (w:World) (K:Frag) (mg:dG) (base:Heap) (N:List Str) (qual:Str) (scope:Scope) (f:Addr) (cd:Value) (A:Around) (outer:List Env) (s:Shared) (H:Hp):Cx:=
 { jk rp P w K mg base N qual scope f cd A outer s H E0 with calm:=false,xe:=λ_ _=>False }
section
variable {P:Program} {w:World} {K:Frag} {mg:dG} {base:Heap}
end
def G5 (P:Program) (w:World) (K:Frag) (mg:dG) (base:Heap) (k:Nat) (x:Str) (ps:List Str) (sp:Sp):Prop:=
 ∃ f fd,nU P w K mg base (BY P w) k f fd ps sp /\ mg x=some (.ref f) /\ keepIn K (.ref f)=true /\ Binds K fd ps []
section
variable {P:Program} {w:World} {K:Frag} {mg:dG} {base:Heap} {x:Str} {st:Stmt} {N ps:List Str} {k:Nat} {sp:Sp}
theorem Df.okR (F:Df K mg x st ps) (S:aA N ps (aj st)) (len:∀ vs H Q E,sp vs H Q E->vs.length=ps.length)
  (jK:∀ (f:Addr) (cx:Value) (A:Around) (outer:List Env) (s:Shared) (H:Hp) (vs:List V) (Q:VK) (E:XK),dH k (A.deeper (envOfC x (aj st) s.heap.objs.size f cx))->sp vs H Q E->
   ∃ t,mn (jk (BY P w) P w K mg base N x (aj st) f cx A outer s H E) (cU st) t /\ t { nx:=λ_ H'=>Q .ia H',rt:=Q } (start N vs) H):G5 P w K mg base (k + 1) x ps sp:=by
 obtain ⟨f,fd,F,m,b⟩:=F
 have kp:=F.kp
 obtain ⟨oc,od,kV,doc,pm,an,cx,ct,FC,rfl,lk,qY⟩:=F.ex
 exact ⟨f,_,HA lk qY S len (jK f cx),m,kp,b⟩
end
set_option tactic.hygienic true in
theorem CV {K:Frag} (hm:mg x=some (.ref C)) (q:excIn K C bm newId=true):∃ tl,Ju K mg x C bm tl newId:=by
 unfold excIn at q
 split at q
 .rename_i dd cd sl ho
  split at q
  .rename_i C' tl k0 k1 k2 k3 n k5 hr hs
   simp at q
   obtain ⟨⟨⟨⟨⟨e1,e2⟩,hdel⟩,ht⟩,cm⟩,Uq⟩:=q
   subst e1 e2
   obtain ⟨nm,bs,mro,ns,qn,hd,sn,sub,ab,col,del⟩:=cd
   subst hr hdel
   have hsl:sl=#[k0,k1,k2,k3,some (.builtin n),k5]:=by grind
   subst hsl
   have hno:∃ c d es ep Q0,K.lookup ns=some ⟨c,d,.dict es ep,Q0⟩ /\ (es.all λe=>match e.key with | .str _ _=>true | _=>false)=true:=by
    unfold nsOkIn at cm
    split at cm
    .grind
    .grind
   obtain ⟨c2,d2,Xw,ep2,Q0,FF,Vh⟩:=hno
   refine ⟨tl,hm,ns,nm,qn,bs,hd,sn,sub,ab,col,dd,k0,k1,k2,k3,k5,nsFind Xw,?_,λh X=>⟨X _ _ ho,?_,tail_of_in X ht⟩⟩
   .unfold nsIn at Uq
    rw [FF] at Uq
    dsimp only at Uq
    split at Uq
    .grind
    .rename_i he
     unfold nsFind findBy
     rw [<- Array.find?_toList,he]
     rfl
   .have yI:h.Ns ns (h.nsMap ns):=.of_isNs (isNs_of_in X cm)
    obtain ⟨o,es,ep,h1,h2,h3,h4⟩:=yI
    rw [X _ _ FF] at h1
    cases h1
    cases h2
    exact ⟨_,_,_,X _ _ FF,rfl,h3,λ_=>rfl⟩
  .cases q
 .cases q
def yQ:D->Option Str
 | .dict [(.none,.str c)]=>some c
 | _=>none
theorem rO (h:yQ d=some c):d=mh c:=by
 unfold yQ at h
 split at h
 .cases h; rfl
 .cases h
theorem yR {bf:List (List Key×V)} {d':D} (k:((d,d') :: r).map (·.1)=bf.map (λp=>PyData.tuple (p.1.map nV))) (h:∀ l,d≠.tuple l):False:=by
 cases bf with
 | nil=>cases k
 | cons p q=>exact h _ (List.cons.inj k).1
theorem Jz {K:Frag} (h:HD K H v (mh c)):False:=by
 cases h with
 | sT _ k _=>exact yR k λ_ z=>nomatch z
def Gw (d:D) (r:Res):Res:=match yQ d with
 | some _=>.rt d
 | none=>r
theorem rP (h:yQ d=none):Gw d r=r:=by unfold Gw; rw [h]
theorem XN {c:Str} {r:Res}:Gw (mh c) r=.rt (mh c):=rfl
def CW (mg:dG) (E:XK):Str->Hp->Prop:=λc H=>∀ C,mg c=some (.ref C)->E (.ref C) none H
def oT (c:Str):aK:=λ_=>some (.rt (mh c))
def BZ (K:Frag) (mg:dG) (n:Nat) (G:List D->Option D):Sp:=λvs H Q E=>vs.length=n /\ ∃ A ds d,Ls A H /\ cO K (wo H A) vs ds /\ G ds=some d /\
 (∀ v H',aG H H'->HD K (wo H' A) v d->Q v H') /\ ∀ c H',d=mh c->aG H H'->CW mg E c H'
section
variable {P:Program} {w:World} {K:Frag} {mg:dG} {base:Heap} {N ps:List Str} {x qual:Str} {st:Stmt} {scope:Scope} {f:Addr} {cd:Value} {A:Around} {outer:List Env} {s:Shared} {H:Hp} {E:XK} {O:List Nat} {k:Nat}
theorem mI (hC:Ju K mg c C bm tl newId) (Fn:ExcBaseFacts Bn newId inN bmN) (ZG:bm.contains (.type Bn)=true) (FB:ExcBaseFacts B nid initId bm)
  (ha:PE (jk (BY P w) P w K mg base N qual scope f cd A outer s H E) tL (tC v)) (hg:Gl (jk (BY P w) P w K mg base N qual scope f cd A outer s H E) c:=by rfl)
  (he:starEach [tL] (envOfC qual scope s.heap.objs.size f cd)=[(false,eval tL (envOfC qual scope s.heap.objs.size f cd))]:=by rfl) (ZL:starEach ([]:List Expr) (envOfC qual scope s.heap.objs.size f cd)=[]:=by rfl) (hd:(c == ("__debug__":Str))=false:=by decide):
  PS (jk (BY P w) P w K mg base N qual scope f cd A outer s H E) (.Raise (some (.Call (.Name c np) [tL] [] fI)) none pos) (tS K O (b,CW mg E) (oT c)):=
 (Jv hC Fn ZG FB (bE ha c6 (by show starEach [tL] (envOfC qual scope s.heap.objs.size f cd)=(false,eval tL (envOfC qual scope s.heap.objs.size f cd)) :: starEach [] (envOfC qual scope s.heap.objs.size f cd); rw [he,ZL])) hg (by rw [he,ZL]) (by rw [ZL]; rfl) hd).mono λD σ H1 hh=>hh.e λH0 U A0 δ r R F ed Q=>by
  cases ed
  exact ⟨by show 1<=sizeLine; decide,Q.2 c H1 rfl F.same C hC.bound⟩
theorem jo (O:List Nat) (g:aK) (F:Df K mg x st ps) (S:aA N ps (aj st))
  (body:∀ (f:Addr) (cx:Value) (A:Around) (outer:List Env) (s:Shared) (H:Hp) (E:XK),dH k (A.deeper (envOfC x (aj st) s.heap.objs.size f cx))->mn (jk (BY P w) P w K mg base N x (aj st) f cx A outer s H E) (cU st) (tS K O (false,CW mg E) g))
  (hO:∀ i∈O,ps.length<=i:=by decide) (hN:N.length=n:=by rfl) (hP:ps.length=m:=by rfl):G5 P w K mg base (k + 1) x ps (BZ K mg m (df n g)):=by
 subst hN hP
 refine F.okR S (λvs H Q E h=>h.1) (λf cx A outer s H vs Q E hr h=>⟨_,body f cx A outer s H E hr,?_⟩)
 obtain ⟨hn,A',ds,d,al,hd,e,q,qx⟩:=h
 obtain ⟨r,e1,e2⟩:=bind1 e
 refine ⟨H,[],A',_,r,Rel.start al hd (λi hi=>by have:=hO i hi; rw [<- hd.len,hn]; exact this),Fx.start al,e1,?_⟩
 cases r with
 | nx δ=>cases e2; exact λU σ H' R F'=>q .ia H' F'.same .ia
 | rt d=>cases e2; exact ⟨λv H' h=>by unfold tB at h; rw [if_neg Bool.false_ne_true] at h; exact q v H' h.1 h.2,λc H' e s=>qx c H' e s⟩
 | bk _=>cases e2
 | ct _=>cases e2
end
def qv (i:Nat) (g:aF):aK:=λδ=>(g δ).bind λd=>some (Gw d (.nx (δ.set i (some d))))
def jP (g:aF):aK:=λδ=>(g δ).bind λd=>some (Gw d (.nx δ))
section
variable {X:Cx} {O:List Nat} {E:XK} {k kk n i:Nat} {x:Str} {ps:List Str} {p pos:Pos} {e:Expr} {es:List Expr} {gr:cg} {G:List D->Option D} {st:Stmt} {b:Bool}
theorem gg (F:G5 X.prog X.w X.K X.mg X.base k x ps (BZ X.K X.mg n G)) (hr:dH kk X.A) (hk:k<=kk) (hx:rj (BY X.prog X.w) X E) (ha:PA X (e :: es) (xt X.K O gr)) (hg:Gl X x:=by rfl)
  (tw:(x == ("__debug__":Str))=false:=by decide) (he:starEach (e :: es) X.env=(false,eval e X.env) :: starEach es X.env:=by rfl) (kf:(backTo pos (starEach es X.env)).any (·.1)=false:=by rfl):
  PE X (.Call (.Name x p) (e :: es) [] pos) (xi (BZ X.K X.mg n G) [] E (xt X.K O gr)):=by
 obtain ⟨f,fd,F,m,kp,b⟩:=F
 exact D6 F (hr.mono hk) hg m kp b .nil hx ha tw he kf
set_option tactic.hygienic true in
theorem JA {K:Frag} (R:Rel K O U A0 σ δ H) (e:ay G n gr δ=some d) (qn:∀ v H',aG H H'->HD K (wo H' (U ++ A0)) v d->Q v H')
  (qx:∀ c H',d=mh c->aG H H'->CW mg E c H'):xi (BZ K mg n G) [] E (xt K O gr) σ H Q:=by
 obtain ⟨ds,e1,e2⟩:=bind1 e
 split at e2
 .rename_i hn
  refine ⟨U,A0,δ,ds,R,e1,λvs H' s h=>?_⟩
  show BZ K mg n G (vs ++ []) H' Q E
  rw [abh]
  exact ⟨by rw [h.len]; exact hn,U ++ A0,ds,d,(R.same s).al,h,e2,λv H2 s2 h2=>qn v H2 (s.trans s2) h2,λc H2 ed s2=>qx c H2 ed (s.trans s2)⟩
 .grind
theorem t8 (h:PS X st (uv (xi (BZ X.K X.mg n G) [] E (xt X.K O gr)) (kL i))) (hi:i∉O:=by decide):PS X st (tS X.K O (b,CW X.mg E) (qv i (ay G n gr))):=h.mono λD σ H hh=>hh.e λH0 U A0 δ r R F ed P=>by
 obtain ⟨d,e1,e2⟩:=bind1 ed
 have e3:=abe e2
 refine JA R e1 (λv H' s hv=>?_) (λc H' hd s=>?_)
 .cases hx:yQ d with
  | some c=>rw [rO hx] at hv; exact (Jz hv).elim
  | none=>
    rw [rP hx] at e3
    subst e3
    exact P U _ H' ((R.same s).set hi hv) (F.grow s)
 .subst hd
  subst e3
  exact P.2 c H' rfl (F.same.trans s)
theorem kN (h:PS X st (uu (xi (BZ X.K X.mg n G) [] E (xt X.K O gr)))):PS X st (tS X.K O (b,CW X.mg E) (jP (ay G n gr))):=h.mono λD σ H hh=>hh.e λH0 U A0 δ r R F ed P=>by
 obtain ⟨d,e1,e2⟩:=bind1 ed
 have e3:=abe e2
 refine JA R e1 (λv H' s hv=>?_) (λc H' hd s=>?_)
 .cases hx:yQ d with
  | some c=>rw [rO hx] at hv; exact (Jz hv).elim
  | none=>
    rw [rP hx] at e3
    subst e3
    exact P U _ H' (R.same s) (F.grow s)
 .subst hd
  subst e3
  exact P.2 c H' rfl (F.same.trans s)
end
theorem JB {K:Frag} (h:tB K b H0 A0 v (mh c) H'):False:=by
 unfold tB at h
 split at h
 .obtain ⟨r,o,_,_,_,_,q⟩:=h
  cases q with
  | sT k _=>exact yR k λ_ z=>nomatch z
 .exact Jz h.2
abbrev Cx.tr (X:Cx) (kO:cq) (E:XK):Cx:={ X with pn:=X.pn ++ kO,xe:=λv s1=>∃ σ H0 s0,Inv X kO σ H0 s0 /\ BY X.prog X.w X.stack H0 s0 E v s1 }
section
variable {X:Cx} {pins kO:cq} {σ:St} {H:Hp} {s:Shared} {E:XK}
theorem Cx.Ok.tr (ok:X.Ok):(X.tr kO E).Ok:=
 ⟨ok.mod,ok.kind,ok.glob,ok.blt,ok.above,ok.inj,ok.has,ok.Ha,ok.hd,ok.frames,ok.LK,ok.Qw,ok.bs,ok.xY,ok.wC,ok.xZ,ok.jH,ok.B1⟩
theorem Cx.Ok.CY (ok:(X.tr kO E).Ok):X.Ok:=
 ⟨ok.mod,ok.kind,ok.glob,ok.blt,ok.above,ok.inj,ok.has,ok.Ha,ok.hd,ok.frames,ok.LK,ok.Qw,ok.bs,ok.xY,ok.wC,ok.xZ,ok.jH,ok.B1⟩
theorem Inv.tr (I:Inv X kO σ H s):Inv (X.tr kO E) [] σ H s:=⟨I.ok.tr,I.os,I.bare,I.base,I.loc,I.cell,I.free,I.gT,λp hp=>I.pin p (by rw [abh] at hp; exact hp),I.cm,I.len⟩
theorem Inv.CY (I:Inv (X.tr kO E) pins σ H s):Inv X kO σ H s:=⟨I.ok.CY,I.os,I.bare,I.base,I.loc,I.cell,I.free,I.gT,λp hp=>I.pin p (abB _ hp),I.cm,I.len⟩
theorem t9:rj (BY X.prog X.w) (X.tr kO E) E:=λ_ σ H s _ _ I h=>⟨σ,H,s,I.CY,h⟩
end
abbrev Ur (a:Addr) (c:Str):D:=.dict [(.list [],.tuple [.int (a:Nat),.str c])]
def yS (gb:aK) (hand:Str->Option D):aK:=λδ=>(gb δ).bind λr=>match r with
 | .rt d=>(match yQ d with
   | some c=>(hand c).bind λd'=>some (.rt d')
   | none=>some (.rt d))
 | r=>some r
theorem Rel.SF {K:Frag} {σ:St} (hl:σ.length=n) (hi:i < n) (hO:i∉O) (al:Ls A0 H1) (ta:H1 a=none) (yI:nsIn K mainGlobals c=some (some (.ref C))):
  Rel K O [] A0 (σ.set i (some (.ref a))) ((List.replicate n none).set i (some (Ur a c))) (upd H1 a (T5 a C)):=by
 have get:∀ (j:Nat) d,((List.replicate n (none:Option D)).set i (some (Ur a c)))[j]?=some (some d)->j=i /\ d=Ur a c:=λj d q=>by grind
 exact {
  len:=by rw [abK,abK,acu]; exact hl
  fz:=λj d _ q=>by
   obtain ⟨rfl,rfl⟩:=get j d q
   exact ⟨.ref a,abj (by rw [hl]; exact hi),.exc yI (by show wo (upd H1 a (T5 a C)) A0 a=_; rw [cG (λz=>al.free ta z)]; exact cf)⟩
  ow:=λj d hj q=>absurd hj (by rw [(get j d q).1]; exact hO)
  inj:=λj k d e l hj _ _ q _ _ _=>absurd hj (by rw [(get j d q).1]; exact hO)
  al:=al.same (cF ta _) }
section
variable {X:Cx} {O:List Nat} {T n:Str} {Tv:Value} {tp yu pos:Pos} {body Jw:List Stmt} {SD:Stmt} {gb:aK} {gs:Addr->aK} {hand:Str->Option D} {xk:Str->Hp->Prop} {i:Nat}
theorem SG (hb:∀ kO E,mn (X.tr kO E) body (tS X.K O (b,CW X.mg E) gb)) (hs:∀ a,mn (X.Lz a) (SD :: Jw) (tS X.K O (b,λ_ _=>True) (gs a)))
  (qp:∀ c d,hand c=some d->∃ C,nsIn X.K mainGlobals c=some (some (.ref C)) /\ X.mg c=some (.ref C) /\ exmOne X.K (.ref C) Tv=some true)
  (hh:∀ a c d,hand c=some d->gs a ((List.replicate X.N.length none).set i (some (Ur a c)))=some (.rt d)) (hT:X.mg T=some Tv) (hN:X.N.Nodup) (hi:X.N[i]?=some n:=by rfl) (hiO:i∉O:=by decide)
  (hl:X.env.scope.names.lookup n=some .local:=by rfl) (ZM:Gl X T:=by rfl) (OM:X.stack=X.env :: X.outer:=by rfl) (nY:X.env.frame=some X.env.locals:=by rfl) (ZN:(T == ("__debug__":Str))=false:=by decide):
  PS X (.Try body [.ExceptHandler (some (.Name T tp)) (some n) (SD :: Jw) yu] [] [] pos) (tS X.K O (b,xk) (yS gb hand)):=by
 rintro pins s σ H D I ⟨ZO,U,A0,δ,r,R,F,ed,P⟩
 obtain ⟨r0,e1,e2⟩:=bind1 ed
 refine wpAny_Try_except ?_
 refine aa5 (hb pins (λcv _ H2=>∃ c C,r0=.rt (mh c) /\ cv=.ref C /\ X.mg c=some (.ref C) /\ aG ZO H2) [] s σ H D I.tr ⟨ZO,U,A0,δ,r0,R,F,e1,?_⟩) (λfl s1 hq=>?_) ?_
 .cases r0 with
  | nx δ'=>cases e2; exact P
  | bk δ'=>cases e2; exact P
  | ct δ'=>cases e2; exact P
  | rt d=>
    cases hx:yQ d with
    | none=>
      simp only [hx] at e2
      cases e2
      exact ⟨P.1,λc H' hd s=>by subst hd; cases hx⟩
    | some c=>
      have hd:=rO hx
      subst hd
      exact ⟨λv H' h=>(JB h).elim,λc' H' hd s C hC=>⟨c',C,by rw [hd],rfl,hC,s⟩⟩
 .cases fl with
  | next=>obtain ⟨dw,H',I',q⟩:=hq; exact adf ⟨dw,H',I'.CY,q⟩
  | brk=>obtain ⟨dw,H',I',q⟩:=hq; exact ⟨dw,H',I'.CY,q⟩
  | cont=>obtain ⟨dw,H',I',q⟩:=hq; exact ⟨dw,H',I'.CY,q⟩
  | ret u=>obtain ⟨v,dw,H',I',rv,q⟩:=hq; exact ⟨v,dw,H',I'.CY,rv,q⟩
 rintro v s1 ⟨σ0,H0,s0,I0,a,t,C,B,H1,rfl,os,bare,un,cm,na,ta,XM,Gs,nc0,c,C',er,hC,hm,Pq⟩
 cases hC
 subst er
 have e3:=e2
 obtain ⟨d,hd,hr⟩:=bind1 e3
 cases hr
 obtain ⟨C2,yI,Es,hex⟩:=qp c d hd
 rw [hm] at Es
 cases Es
 have fr:=Gs.2.2.1
 have st:=Gs.1
 have ZP:Heap.FlyingW B (X.env :: X.outer) a (.ref C) (.ref t) s1.heap:=by rw [<- OM]; exact Gs
 have nf:∀ b∈ke X.stack,H1 b=none:=λb hb=>by
  obtain ⟨_,o,ho,_⟩:=I0.stack.mem hb
  exact un.free b o ho (I0.tV b hb) λz=>nomatch z
 have again:∀ {h2:Heap},Heap.FlyingW B (X.env :: X.outer) a (.ref C) (.ref t) h2->s1.heap.UpToSlots h2->Inv X pins σ0 H1 { s1 with heap:=h2 }:=λ{h2} A7 ZF=>
  I0.He (ch:=[]) os (CS un XM st A7.1 ZF fr) (yO cm XM st A7.1 nf) bare (λb z=>nomatch z)
 refine Gr (I0.ok.frames.trans (abJ some OM)) nY ZP nc0 λh4 held nc4 up4=>?_
 refine Sy held nc4 λh5 SH nc5 up5=>?_
 have I5:=again SH (up4.trans up5)
 have LT:Looks (model X.prog X.w) h5 (typeOf (.ref a)) (.ref C):=by
  obtain ⟨ob,hob,hc⟩:=SH.there
  rw [<- hc]
  exact (Looks.ld hob).andThen Looks.now
 refine wpAny_handleBy_cons (codeAny_handlers_test (pW (I5.Lz a) ZM hT ?_ ZN)) (by intro q; cases q)
 refine (exm_one (M:=model X.prog X.w) I5.oB LT hex).here ?_
 refine codeAny_handlers_suite_as (yN SH nc5 λh6 Wm nc6 up6=>?_)
 have I6:=again Wm ((up4.trans up5).trans up6)
 have Md:=Wm.there
 have I6t:=I6.SA (o:=T5 a C) I0 na ta ⟨⟨Md,nc6⟩,let ⟨o,q,_⟩:=Md; ⟨o,q⟩,λh1 h2 ⟨⟨o,q,c⟩,_⟩ kk=>⟨⟨o,kk o q,c⟩,trivial⟩⟩
 refine mm (X:=X.Lz a) (v:=.ref a) (I6t.Lz a) hN hi (.inl hl) rfl (λs7 I7=>?_) (.inr hl)
 have YZ:=(aaK.mp hi).1
 refine aa5 (hs a pins s7 _ _ { nx:=λ_ _=>False,rt:=D.rt } I7 ⟨ZO,[],A0,_,.rt d,Rel.SF I0.len YZ hiO (F.old.same Pq) ta yI,⟨Pq.trans (cF ta _),λ_ z=>(by simp at z),F.old⟩,hh a c d hd,⟨λv H' h=>P.1 v H' h,λ_ _ _ _=>trivial⟩⟩) (λfl s8 hq=>?_) λ_ _ z=>z.elim
 cases fl with
 | ret u=>
   obtain ⟨v,dw,H',J,rv,q⟩:=hq
   obtain ⟨m,hn,_⟩:=id J.loc
   exact wpAny_nameGoes hl hn (by rw [I0.ok.kind]; rfl) λh9 m' Ye oj=>⟨v,_,H',(J.ZH I0.ok).forget Ye oj,rv,q⟩
 | next=>obtain ⟨_,_,_,q⟩:=hq; exact q.elim
 | brk=>obtain ⟨_,_,_,q⟩:=hq; exact q.elim
 | cont=>obtain ⟨_,_,_,q⟩:=hq; exact q.elim
end
def Pr (c T:Str):Bool:=decide (c=T) || decide (T="ValueError") || decide (T="LotError")
def XO:D->Option (Int×Str)
 | .dict (p :: _)=>(match p.1 with
   | .list _=>(match p.2 with
     | .tuple (.int a :: .str c :: _)=>some (a,c)
     | _=>none)
   | _=>none)
 | _=>none
def xR (cs:List Str) (T:Str) (g:aF):aF:=λδ=>(g δ).bind λd=>(XO d).bind λy=>if y.2∈cs then some (.bool (Pr y.2 T)) else none
def XQ (K:Frag) (cs:List Str) (T:Str) (Tv:Value):Prop:=∀ c∈cs,∀ C,nsIn K mainGlobals c=some (some (.ref C))->Jy K C /\ kitOne K (.ref C) Tv=some (Pr c T)
theorem EN {bf:List (List Key×V)} (k:kds.map (·.1)=bf.map (λp=>PyData.tuple (p.1.map nV))) (e:XO (.dict kds)=some y):False:=by
 cases kds with
 | nil=>cases e
 | cons p r=>
   obtain ⟨d,d'⟩:=p
   refine yR k λl z=>?_
   subst z
   cases e
theorem i8.Wn {K:Frag} (h:i8 K A H v d) (e:XO d=some y):∃ a C:Addr,y.1=(a:Nat) /\ v=.ref a /\ nsIn K mainGlobals y.2=some (some (.ref C)) /\ H a=some (T5 a C):=by
 rcases h with h | ⟨l,o,rfl,e',q⟩
 .cases h with
  | sT _ k _=>exact (EN k e).elim
  | exc k h=>cases e; exact ⟨_,_,rfl,rfl,k,(k9 h).2⟩
  | _=>cases e
 .cases q with
  | sT k _=>exact (EN k e).elim
  | lst _=>cases e
section
variable {X:Cx} {O:List Nat} {e:Expr} {ga:aF} {pos p p2:Pos} {T:Str} {Tv:Value} {cv:V}
set_option tactic.hygienic true in
theorem EO (cs:List Str) (hB:X.mg "isinstance"=none) (ha:PE X e (gm X.K O ga)) (ht:PE X (.Name T p2) (tC cv)) (Je:∀ u,RelV cv u->u=Tv) (hT:XQ X.K cs T Tv) (hg:Gl X "isinstance":=by rfl)
  (he:starEach [e,.Name T p2] X.env=(false,eval e X.env) :: starEach [.Name T p2] X.env:=by rfl) (Il:starEach [.Name T p2] X.env=(false,eval (.Name T p2) X.env) :: starEach [] X.env:=by rfl) (kf:(backTo pos (starEach [.Name T p2] X.env)).any (·.1)=false:=by rfl):
  PE X (.Call (.Name "isinstance" p) [e,.Name T p2] [] pos) (tE X.K O (xR cs T ga)):=
 (mw xQ hg hB kC (bE ha (bE ht c6 Il) he) (by decide) (by decide) he kf).mono λσ H Q hh=>hh.e λU A0 δ d R ed q=>by
  obtain ⟨x,e1,e2⟩:=bind1 ed
  obtain ⟨y,e3,e4⟩:=bind1 e2
  split at e4
  .rename_i hz
   cases e4
   refine ⟨U,A0,δ,_,R,e1,λv H' s h=>?_⟩
   obtain ⟨a,C,_,rfl,yI,hH⟩:=h.Wn e3
   obtain ⟨xc,kt⟩:=hT _ hz C yI
   exact ⟨a,C,cv,_,rfl,hH,xc,q _ H' s (.bl _),.inl ⟨Tv,Je,kt⟩⟩
  .grind
end
section
variable {X:Cx} {O:List Nat} {scope:Scope} {elt iter tg:Expr} {ifs:List Expr} {pos:Pos} {gi:cg} {ge:aF} {gt:D->DS->Option DS} {gc:me} {k:Nat}
end
structure FnW (P:Program) (w:World) (K:Frag) (mg:dG) (base:Heap) (k:Nat) (f:Addr) (fd:FuncData) (ps:List Str) (sp:Addr->Sp):Prop where
 len:∀ x vs H Q E,sp x vs H Q E->vs.length=ps.length
 run:∀ (x:Addr) (A:Around) (outer:List Env) (s:Shared) (H:Hp) (args:Args) (us:cc) (vs:List V) (Q:VK) (E:XK),mH k A->A.handled=some (.ref x)->Cb P w K mg base A outer s H->BindsTo s fd args (ps.zip us)->bg vs us->sp x vs H Q E->
  codeAny (model P w) A (.call (.ref f) args) (CR rp outer P w H s Q E) s
section
variable {P:Program} {w:World} {K:Frag} {mg:dG} {base:Heap}
theorem SI {dV kV doc pm cx ct oc:Value} 
  (lk:K.lookup f=some ⟨oc,od,.func (fnOf name qual params body scope dV kV doc pm an cx ct),FC⟩) (qY:codeIn K cx qual=true) (S:aA N ps scope) (len:∀ x vs H Q E,sp x vs H Q E->vs.length=ps.length)
  (jK:∀ (x:Addr) (A:Around) (outer:List Env) (s:Shared) (H:Hp) (vs:List V) (Q:VK) (E:XK),mH k (A.deeper (envOfC qual scope s.heap.objs.size f cx))->A.handled=some (.ref x)->sp x vs H Q E->
   ∃ t,mn (ZK P w K mg base N qual scope f cx A outer s H) body t /\ t { nx:=λ_ H'=>Q .ia H',rt:=Q } (start N vs) H):
  FnW P w K mg base (k + 1) f (fnOf name qual params body scope dV kV doc pm an cx ct) ps sp:=by
 refine ⟨len,λx A outer s H args us vs Q E hr hx e0 hb r Au=>?_⟩
 have KX:=e0.mod.TU.keeps λb o e=>(e0.bs b o e).1
 have lim:=e0.mod.nolimit.keeps λb o e=>(e0.bs b o e).1
 obtain ⟨t,ht,hq⟩:=jK x A outer s H vs Q E (hr.deeper _) hx Au
 have HB:∀ y∈ps.zip us,scope.names.lookup y.1=some .local \/ (scope.names.lookup y.1=some .cell /\ ((cellsFrom (s.heap.objs.size + 1) scope.names []).lookup y.1).isSome=true):=λ⟨n,v⟩ hy=>
  (S.par n (ab9 hy).1).elim .inl λq=>.inr ⟨q,cellsFrom_some _ _ _ (.inl q)⟩
 refine codeAny_call_function (by have:=hr.dp; lia) (KX _ _ lk) rfl S.co S.gen rfl (codeRec_of KX qY) (hb _ _ _ _ (wpAny_newFunctionEnv_cells S.kind HB λenv he s1 x=>?_))
 subst he
 refine ⟨lim.keeps x.toInCall.keep,codeAny_func ?_⟩
 have e1:Cb P w K mg base { A with handled:=none } outer s H:=⟨e0.frames,e0.mod,e0.bs,e0.xY,e0.jH,e0.B1,e0.cm,e0.bare⟩
 have J:Inv (jk rp P w K mg base N qual scope f cx { A with handled:=none } outer s H E0) [] (start N vs) H s1:=xo S rfl e1 (len _ _ _ _ _ Au) r x
 have I:Inv (ZK P w K mg base N qual scope f cx A outer s H) [] (start N vs) H s1:=
  ⟨⟨J.ok.mod,J.ok.kind,J.ok.glob,J.ok.blt,J.ok.above,J.ok.inj,J.ok.has,J.ok.Ha,(λz=>nomatch z),adJ e0.frames,J.ok.LK,J.ok.Qw,J.ok.bs,J.ok.xY,J.ok.wC,J.ok.xZ,J.ok.jH,J.ok.B1⟩,
    J.os,J.bare,J.base,J.loc,J.cell,J.free,J.gT,J.pin,J.cm,J.len⟩
 refine aa5 (ht [] s1 (start N vs) H _ I hq) (λfl s' hs=>?_) λe s' hs=>hs.elim
 cases fl with
 | ret u=>
   obtain ⟨v,dw,H',J',rv,q⟩:=hs
   exact ⟨v,H',J'.os,J'.bare,J'.base,J'.cm,rv,q⟩
 | next=>
   obtain ⟨dw,H',J',q⟩:=hs
   exact ⟨.ia,H',J'.os,J'.bare,J'.base,J'.cm,rfl,q⟩
 | brk=>obtain ⟨_,_,_,q⟩:=hs; exact q.elim
 | cont=>obtain ⟨_,_,_,q⟩:=hs; exact q.elim
def ZQ (P:Program) (w:World) (K:Frag) (mg:dG) (base:Heap) (k:Nat) (x:Str) (ps:List Str) (sp:Addr->Sp):Prop:=
 ∃ f fd,FnW P w K mg base k f fd ps sp /\ mg x=some (.ref f) /\ keepIn K (.ref f)=true /\ Binds K fd ps []
theorem Nf {st:Stmt} (O:List Nat) (g:Addr->aK) (F:Df K mg x st ps) (S:aA N ps (aj st))
  (body:∀ (y f:Addr) (cx:Value) (A:Around) (outer:List Env) (s:Shared) (H:Hp),mH k (A.deeper (envOfC x (aj st) s.heap.objs.size f cx))->A.handled=some (.ref y)->mn (ZK P w K mg base N x (aj st) f cx A outer s H) (cU st) (tS K O (false,λ_ _=>True) (g y)))
  (hO:∀ i∈O,ps.length<=i:=by decide) (hN:N.length=n:=by rfl) (hP:ps.length=m:=by rfl):ZQ P w K mg base (k + 1) x ps (λy=>jL K m (df n (g y))):=by
 subst hN hP
 obtain ⟨f,fd,F,m,b⟩:=F
 have kp:=F.kp
 obtain ⟨oc,od,kV,doc,pm,an,cx,ct,FC,rfl,lk,qY⟩:=F.ex
 refine ⟨f,_,SI lk qY S (λy vs H Q E h=>h.1) (λy A outer s H vs Q E hr hy h=>⟨_,body y f cx A outer s H hr hy,?_⟩),m,kp,b⟩
 obtain ⟨hn,A',ds,d,al,hd,e,q⟩:=h
 obtain ⟨r,e1,e2⟩:=bind1 e
 refine ⟨H,[],A',_,r,Rel.start al hd (λi hi=>by have:=hO i hi; rw [<- hd.len,hn]; exact this),Fx.start al,e1,?_⟩
 cases r with
 | nx δ=>cases e2; exact λU σ H' R F'=>q .ia H' F'.same .ia
 | rt d=>cases e2; exact ⟨λv H' h=>by unfold tB at h; rw [if_neg Bool.false_ne_true] at h; exact q v H' h.1 h.2,λ_ _ _ _=>trivial⟩
 | bk _=>cases e2
 | ct _=>cases e2
end
set_option tactic.hygienic true in
theorem JC {G:Addr->List D->Option D} (F:ZQ X.prog X.w X.K X.mg X.base k x ps (λy=>jL X.K n (G y))) (hr:mH kk X.A) (hk:k<=kk) (hy:X.A.handled=some (.ref y))
  (ha:PA X (e :: es) (xt X.K O gr)) (hg:Gl X x:=by rfl) (tw:(x == ("__debug__":Str))=false:=by decide) (he:starEach (e :: es) X.env=(false,eval e X.env) :: starEach es X.env:=by rfl) (kf:(backTo pos (starEach es X.env)).any (·.1)=false:=by rfl):
  PE X (.Call (.Name x p) (e :: es) [] pos) (tE X.K O (ay (G y) n gr)):=by
 obtain ⟨f,fd,F,hm,kp,hb⟩:=F
 rintro pins s σ H Q I ⟨U,A0,δ,d,R,ed,q⟩
 obtain ⟨ds,e1,e2⟩:=bind1 ed
 split at e2
 rotate_left
 .grind
 rename_i hn
 refine acd (pW I hg hm ?_ tw)
 refine callWith_K (h₀:=X.base) I.ok.mod.TU kp (dj (ha pos pins s σ H (λvs H1=>jL X.K n (G y) vs H1 Q E0) I ⟨U,A0,δ,ds,R,e1,λvs H' s h=>⟨by rw [h.len]; exact hn,U ++ A0,ds,d,(R.same s).al,h,e2,λv H2 s2 h2=>q v H2 (s.trans s2) h2⟩⟩) λus s1 ⟨vs,H1,I1,r,q⟩=>⟨I1.oB,?_⟩) he kf
 have hlen:us.length=ps.length:=by rw [<- r.length]; exact F.len _ _ _ _ _ q
 refine wpAny_call (ack (F.run y X.A X.stack s1 H1 ⟨us,[]⟩ us vs _ _ (hr.mono hk) hy I1.U7 (by have:=hb s1 us I1.oB (by rw [abh]; exact hlen); rwa [abh] at this) r q) λrr s' hq=>?_)
 cases rr with
 | error v=>exact False.elim hq
 | ok fl=>
   cases fl with
   | ret u=>exact I1.after hq
   | next=>exact False.elim hq
   | brk=>exact False.elim hq
   | cont=>exact False.elim hq
def jQ (cs:List Str) (f:Str->D):Str->Option D:=λc=>if c∈cs then some (f c) else none
theorem sX (h:jQ cs f c=some d):c∈cs /\ d=f c:=by
 unfold jQ at h
 split at h
 .grind
 .cases h
theorem CZ (h:jQ cs f c=some d):c∈cs:=(sX h).1
theorem Ng (e:af i δ=some x) (h:W [x]=some d):bQ (ay W 1 (ae (af i) ag)) δ=some (.rt d):=by
 have e2:ay W 1 (ae (af i) ag) δ=some d:=by
  unfold ay ae ag
  rw [e]
  exact h
 unfold bQ
 rw [e2]; rfl
def Nh (K:Frag) (mg:dG) (cs TS:List Str):Prop:=∀ T∈TS,∃ C,mg T=some (.ref C) /\ XQ K cs T (.ref C)
def Wo (K:Frag) (mg:dG) (L:Addr) (cs:List Str):Prop:=∀ c∈cs,∃ C,nsIn K mainGlobals c=some (some (.ref C)) /\ mg c=some (.ref C) /\ exmOne K (.ref C) (.ref L)=some true
theorem yT (cs TS:List Str) (CT:Nh X.K X.mg cs TS) (hTS:T∈TS) (hB:X.mg "isinstance"=none) (ha:PE X e (gm X.K O ga)) (ZM:Gl X T:=by rfl) (ZN:(T == ("__debug__":Str))=false:=by decide) (hg:Gl X "isinstance":=by rfl)
  (he:starEach [e,.Name T p2] X.env=(false,eval e X.env) :: starEach [.Name T p2] X.env:=by rfl) (Il:starEach [.Name T p2] X.env=(false,eval (.Name T p2) X.env) :: starEach [] X.env:=by rfl) (kf:(backTo pos (starEach [.Name T p2] X.env)).any (·.1)=false:=by rfl):
  PE X (.Call (.Name "isinstance" p) [e,.Name T p2] [] pos) (tE X.K O (xR cs T ga)):=by
 obtain ⟨C,m,k⟩:=CT T hTS
 exact EO cs hB ha (eh (v:=.ref C) ⟨_,m,rfl⟩ ZM ZN) (λu r=>r) k hg he Il kf
def Pt:Option Obj->Bool
 | some ⟨_,_,.cls _,_⟩=>true
 | _=>false
def JD (K:Frag) (C:Addr):Bool:=Pt (K.lookup C) && subIn K (.ref C) (.type "object") == some true && subIn K (.ref C) (.type "BaseException") == some true && findIn K (.ref C) "__class__" == some (some (.builtin "object.__class__")) &&
 findIn K (.ref C) "__getattribute__" == some (some (.builtin "BaseException.__getattribute__")) && findIn K (.ref C) "__getattr__" == some none
theorem Ni {K:Frag} (q:JD K C=true):Jy K C:=by
 unfold JD at q
 simp only [aaS,adC] at q
 obtain ⟨⟨⟨⟨⟨a,b⟩,c⟩,d⟩,e⟩,f⟩:=q
 refine ⟨?_,b,c,d,e,f⟩
 unfold Pt at a
 split at a
 .grind
 .cases a
def refOf:Option (Option Value)->Option Addr
 | some (some (.ref C))=>some C
 | _=>none
theorem vC (h:refOf v=some C):v=some (some (.ref C)):=by
 unfold refOf at h
 split at h
 .grind
 .cases h
def C0 (K:Frag) (L:Addr) (cs TS:List Str):Bool:=(TS.all λT=>(refOf (nsIn K mainGlobals T)).isSome) && cs.all λc=>match refOf (nsIn K mainGlobals c) with
 | some C=>JD K C && exmOne K (.ref C) (.ref L) == some true && kitOne K (.ref C) (.type "ValueError") == some true && TS.all λT=>match refOf (nsIn K mainGlobals T) with
   | some CT=>kitOne K (.ref C) (.ref CT) == some (Pr c T)
   | none=>false
 | none=>false
section
variable {K:Frag} {L:Addr} {cs TS:List Str} {c:Str} {h:Heap} {mg:dG}
set_option tactic.hygienic true in
theorem vD (q:C0 K L cs TS=true) (hc:c∈cs):∃ C,nsIn K mainGlobals c=some (some (.ref C)) /\ Jy K C /\ exmOne K (.ref C) (.ref L)=some true /\ kitOne K (.ref C) (.type "ValueError")=some true /\
  ∀ T∈TS,∀ CT,nsIn K mainGlobals T=some (some (.ref CT))->kitOne K (.ref C) (.ref CT)=some (Pr c T):=by
 unfold C0 at q
 rw [aaS] at q
 have q1:=adE.mp q.2 c hc
 split at q1
 .rename_i C hC
  simp only [aaS,adC] at q1
  obtain ⟨⟨⟨a,b⟩,d⟩,e⟩:=q1
  refine ⟨C,vC hC,Ni a,b,d,λT hT CT Wa=>?_⟩
  have e1:=adE.mp e T hT
  rw [Wa] at e1
  exact adC.mp e1
 .grind
theorem Nj (X:K.In h) (G:h.Ns mainGlobals mg) (q:C0 K L cs TS=true):Nh K mg cs TS:=λT hT=>by
 have q0:=q
 unfold C0 at q0
 rw [aaS] at q0
 have q1:=adE.mp q0.1 T hT
 obtain ⟨CT,Wa⟩:=ac7.mp q1
 have hn:=vC Wa
 refine ⟨CT,mg_of X G hn,λc hc C hC=>?_⟩
 obtain ⟨C',h1,h2,_,_,h5⟩:=vD q hc
 rw [hC] at h1
 cases h1
 exact ⟨h2,h5 T hT CT hn⟩
theorem Nk (q:C0 K L cs TS=true):XQ K cs "ValueError" (.type "ValueError"):=λc hc C hC=>by
 obtain ⟨C',h1,h2,_,h4,_⟩:=vD q hc
 rw [hC] at h1
 cases h1
 refine ⟨h2,h4.trans ?_⟩
 unfold Pr
 simp
theorem Nl (X:K.In h) (G:h.Ns mainGlobals mg) (q:C0 K L cs TS=true):Wo K mg L cs:=λc hc=>by
 obtain ⟨C,h1,_,h3,_⟩:=vD q hc
 exact ⟨C,h1,mg_of X G h1,h3⟩
theorem ER (X:K.In h):(ee K).In h:=λb o e=>by
 rw [jN] at e
 split at e
 .exact X b o e
 .cases e
end
theorem Wp:bootBuiltins "ValueError"=some (.type "ValueError"):=by decide +kernel
abbrev VE:cc:=[.type "ValueError",.type "Exception",.type "BaseException",.type "object"]
def JE (cs:List Str) (T1 T2 T3:Str) (g:aF):aF:=λδ=>(g δ).bind λd=>(XO d).bind λy=>if y.2∈cs then some (.bool (Pr y.2 T1 || (Pr y.2 T2 || (Pr y.2 T3 || false)))) else none
theorem mJ {K:Frag} (h:kitOne K t v=some b) (h2:kitAny K t r=some c):kitAny K t (v :: r)=some (b || c):=by
 rw [kitAny,h]
 cases b
 .grind
 .rfl
set_option tactic.hygienic true in
theorem JF {pos p p1 p2 p3 pt:Pos} {st:Nat} (cs TS:List Str) (CT:Nh X.K X.mg cs TS) (m1:T1∈TS) (m2:T2∈TS) (m3:T3∈TS) (hB:X.mg "isinstance"=none) (ha:PE X e (gm X.K O ga))
  (g1:Gl X T1:=by rfl) (g2:Gl X T2:=by rfl) (g3:Gl X T3:=by rfl) (d1:(T1 == ("__debug__":Str))=false:=by decide) (d2:(T2 == ("__debug__":Str))=false:=by decide) (d3:(T3 == ("__debug__":Str))=false:=by decide) (hg:Gl X "isinstance":=by rfl)
  (he:starEach [e,.Tuple [.Name T1 p1,.Name T2 p2,.Name T3 p3] st pt] X.env=(false,eval e X.env) :: starEach [.Tuple [.Name T1 p1,.Name T2 p2,.Name T3 p3] st pt] X.env:=by rfl) (kf:(backTo pos (starEach [.Tuple [.Name T1 p1,.Name T2 p2,.Name T3 p3] st pt] X.env)).any (·.1)=false:=by rfl):
  PE X (.Call (.Name "isinstance" p) [e,.Tuple [.Name T1 p1,.Name T2 p2,.Name T3 p3] st pt] [] pos) (tE X.K O (JE cs T1 T2 T3 ga)):=by
 obtain ⟨C1,q1,k1⟩:=CT T1 m1
 obtain ⟨C2,q2,k2⟩:=CT T2 m2
 obtain ⟨C3,q3,k3⟩:=CT T3 m3
 refine (mw xQ hg hB kC (bE ha (bE (Hz (bE (eh (v:=.ref C1) ⟨_,q1,rfl⟩ g1 d1) (bE (eh (v:=.ref C2) ⟨_,q2,rfl⟩ g2 d2) (bE (eh (v:=.ref C3) ⟨_,q3,rfl⟩ g3 d3) c6 rfl) rfl) rfl)) c6 rfl) he) (by decide) (by decide) he kf).mono ?_
 rintro σ H Q ⟨U,A0,δ,d,R,ed,q⟩
 obtain ⟨x,e1,e2⟩:=bind1 ed
 obtain ⟨y,e3,e4⟩:=bind1 e2
 split at e4
 .rename_i hz
  cases e4
  refine ⟨U,A0,δ,_,R,e1,λv H' s h=>⟨aa6 (m:=3) (aaF 3) (by decide),λtp hp=>?_⟩⟩
  obtain ⟨a,C,_,rfl,yI,hH⟩:=h.Wn e3
  obtain ⟨xc,kt1⟩:=k1 _ hz C yI
  have kt2:=(k2 _ hz C yI).2
  have kt3:=(k3 _ hz C yI).2
  refine ⟨a,C,.ref tp,_,rfl,cF hp _ _ _ hH,xc,q _ _ (s.trans (cF hp _)) (.bl _),.inr ⟨tp,_,rfl,cf,λits rv=>?_⟩⟩
  cases rv with
  | cons r1 rv=>cases rv with
    | cons r2 rv=>cases rv with
      | cons r3 rv=>
        cases rv
        cases r1; cases r2; cases r3
        exact mJ kt1 (mJ kt2 (mJ kt3 rfl))
 .grind
section
variable {P:Program} {w:World} {K:Frag} {mg:dG} {base:Heap} {N ps:List Str} {x:Str} {st:Stmt} {k:Nat}
end
section
variable {X:Cx} {O:List Nat} {E:XK} {k kk n i:Nat} {x:Str} {ps:List Str} {p pos:Pos} {e:Expr} {es:List Expr} {gr:cg} {G:List D->Option D} {st:Stmt} {b:Bool}
end
end L2
namespace Q1
structure sY (n d t b:Int):Prop where
 pos:1<=d
 LA:Int.gcd n d=1
 eq:n * b=t * d
theorem ES:Int.gcd a b=1↔Nat.Coprime a.natAbs b.natAbs:=Iff.rfl
theorem gY (h:Int.gcd a b=1):Int.gcd b a=1:=by rw [Int.gcd_comm]; exact h
theorem qw (h1:Int.gcd a c=1) (h2:Int.gcd b c=1):Int.gcd (a * b) c=1:=by
 rw [ES] at *
 rw [Int.natAbs_mul]
 exact Nat.Coprime.mul_left h1 h2
theorem kP (h1:Int.gcd a b=1) (h2:Int.gcd a c=1):Int.gcd a (b * c)=1:=gY (qw (gY h1) (gY h2))
theorem ua (h:Int.gcd b c=1) (d:a ∣ b):Int.gcd a c=1:=by
 exact Nat.Coprime.coprime_dvd_left (adA.mpr d) h
theorem qy (h:Int.gcd c b=1) (d:a ∣ b):Int.gcd c a=1:=gY (ua (gY h) d)
theorem lr (h:Int.gcd a b=1) (d:a ∣ b * c):a ∣ c:=by
 rw [<- Int.natAbs_dvd_natAbs] at *
 rw [Int.natAbs_mul] at d
 exact Nat.Coprime.dvd_of_dvd_mul_left h d
theorem sY.ub (h:sY n d t b):n ∣ t:=lr h.LA ⟨b,by rw [h.eq]; exact abY _ _⟩
theorem sY.uc (h:sY n d t b):d ∣ b:=lr (gY h.LA) ⟨t,by rw [h.eq]; exact abY _ _⟩
theorem cz {a b:Int} (h:a ∣ b) (hb:b≠0):a.natAbs<=b.natAbs:=ade (by lia) (adA.mpr h)
theorem sY.C4 (h:sY n d t b) (hb:b≠0):n.natAbs<=t.natAbs:=by
 by_cases ht:t=0
 .have e:=h.eq
  rw [ht,aeR] at e
  rcases adN.mp e with z | z
  .grind
  .grind
 .exact cz h.ub ht
theorem sY.bot_le (h:sY n d t b) (hb:b≠0):d.natAbs<=b.natAbs:=cz h.uc hb
theorem sY.uniq (h:sY n d t b) (h':sY n' d' t b) (hb:b≠0):n=n' /\ d=d':=by
 have e:n * d'=n' * d:=by
  have e1:=h.eq
  have e2:=h'.eq
  have:b * (n * d')=b * (n' * d):=by grind
  exact ac1 hb this
 have hd:d=d':=by
  have a1:=lr (gY h.LA) ⟨n',by rw [e]; exact abY _ _⟩
  have a2:=lr (gY h'.LA) ⟨n,by rw [<- e]; exact abY _ _⟩
  have p:=h.pos
  have p':=h'.pos
  have b1:=cz a1 (by lia)
  have b2:=cz a2 (by lia)
  lia
 subst hd
 have p:=h.pos
 exact ⟨Int.eq_of_mul_eq_mul_right (by lia) e,rfl⟩
theorem xS (hb:b≠0):∃ t' b':Int,0 < (Int.gcd t b:Int) /\ t=t' * (Int.gcd t b:Int) /\ b=b' * (Int.gcd t b:Int) /\ Int.gcd t' b'=1:=by
 have hp:0 < Int.gcd t b:=acT _ hb
 refine ⟨t / (Int.gcd t b:Int),b / (Int.gcd t b:Int),by lia,(Int.ediv_mul_cancel (Int.gcd_dvd_left _ _)).symm,(Int.ediv_mul_cancel (Int.gcd_dvd_right _ _)).symm,Int.gcd_ediv_gcd_ediv_gcd hp⟩
def dv (t b:Int):Int:=if b < 0 then -(Int.gcd t b:Int) else (Int.gcd t b:Int)
theorem Wq (hb:b≠0):dv t b≠0:=by
 have hp:0 < Int.gcd t b:=acT _ hb
 unfold dv; split <;> lia
theorem Nm (hb:b≠0):sY (t.fdiv (dv t b)) (b.fdiv (dv t b)) t b:=by
 obtain ⟨t',b',hp,et,eb,c⟩:=xS (t:=t) hb
 unfold dv
 generalize (Int.gcd t b:Int)=g at *
 subst et eb
 by_cases hs:b' * g < 0
 .rw [aaL hs]
  have e1:(t' * g).fdiv (-g)= -t':=by
   have:t' * g=(-t') * (-g):=by grind
   rw [this]; exact ac5 _ (by lia)
  have e2:(b' * g).fdiv (-g)= -b':=by
   have:b' * g=(-b') * (-g):=by grind
   rw [this]; exact ac5 _ (by lia)
  rw [e1,e2]
  have CN:b' < 0:=by
   rcases adx b' 0 with z | z | z
   .exact z
   .grind
   .have:=abV z hp; lia
  refine ⟨by lia,?_,by grind⟩
  rw [Int.neg_gcd,Int.gcd_neg]; exact c
 .rw [aaO hs]
  rw [ac5 _ (by lia),ac5 _ (by lia)]
  have CN:0 < b':=by
   rcases adx b' 0 with z | z | z
   .exact absurd (ac2 z hp) hs
   .grind
   .exact z
  exact ⟨by lia,c,by grind⟩
theorem JG (h1:Int.gcd n1 d1=1) (h2:Int.gcd n2 d2=1) (hl:sY l0 l1 n1 d2) (hr:sY r0 r1 n2 d1):sY (l0 * r0) (l1 * r1) (n1 * n2) (d1 * d2):=by
 have p1:=hl.pos
 have p2:=hr.pos
 have e1:=hl.eq
 have e2:=hr.eq
 refine ⟨?_,qw (kP hl.LA ?_) (kP ?_ hr.LA),?_⟩
 .have:=abV (show 0 < l1 by lia) (show 0 < r1 by lia); lia
 .exact ua (qy h1 hr.uc) hl.ub
 .exact ua (qy h2 hl.uc) hr.ub
 .grind
theorem sZ (h:Int.gcd (a * b) p=1):Int.gcd (a * b + c * p) p=1:=by simp_all
theorem Nn (h1:Int.gcd n1 d1=1) (h2:Int.gcd n2 d2=1) (RU:1<=d1) (hd2:1<=d2) (hg:0 < g) (e1:d1=p1 * g) (e2:d2=p2 * g) (hc:Int.gcd p1 p2=1) (hr:sY r0 r1 (n1 * p2 + n2 * p1) g):
  sY r0 (p1 * p2 * r1) (n1 * d2 + n2 * d1) (d1 * d2):=by
 have p:=hr.pos
 have q1:0 < p1:=by
  rcases adx p1 0 with z | z | z
  .have:=ac2 z hg; lia
  .grind
  .exact z
 have q2:0 < p2:=by
  rcases adx p2 0 with z | z | z
  .have:=ac2 z hg; lia
  .grind
  .exact z
 have c1:=qy h1 ⟨g,e1⟩
 have c2:=qy h2 ⟨g,e2⟩
 have t1:Int.gcd (n1 * p2 + n2 * p1) p1=1:=sZ (qw c1 (gY hc))
 have t2:Int.gcd (n1 * p2 + n2 * p1) p2=1:=by rw [Int.add_comm]; exact sZ (qw c2 hc)
 refine ⟨?_,?_,?_⟩
 .have a:=abV q1 q2
  have b:=abV a (show 0 < r1 by lia)
  lia
 .exact kP (ua (kP t1 t2) hr.ub) hr.LA
 .have e:=hr.eq
  grind
theorem JH:Int.gcd b (a % b)=Int.gcd a b:=by
 have e:a=a % b + (a / b) * b:=by have:=Int.emod_add_ediv_mul a b; lia
 have h:Int.gcd (a % b + (a / b) * b) b=Int.gcd (a % b) b:=Int.gcd_add_mul_right_left ..
 rw [<- e] at h
 rw [h,Int.gcd_comm]
end Q1
namespace Q1
def aE (t b:Int):Int×Int:=(t.fdiv (dv t b),b.fdiv (dv t b))
theorem bS (hb:b≠0):sY (aE t b).1 (aE t b).2 t b:=Nm hb
theorem sY.qm (h:sY n d t b) (hb:b≠0):(n,d)=aE t b:=by
 obtain ⟨a,c⟩:=h.uniq (bS hb) hb
 exact Prod.ext a c
abbrev Qz:Int×Int:=(0,1)
theorem vE (hb:b≠0):aE t b=Qz↔t=0:=by
 constructor
 .intro h
  have e:=(bS (t:=t) hb).eq
  rw [h] at e
  simpa using e.symm
 .rintro rfl
  exact ((⟨by decide,by decide,by simp⟩:sY 0 1 0 b).qm hb).symm
def trim (l:fH):fH:=(l.reverse.dropWhile (λq=>decide (q=Qz))).reverse
theorem SJ (l:fH):trim (l ++ [Qz])=trim l:=by
 unfold trim
 simp
theorem SK (l:fH) (h:q≠Qz):trim (l ++ [q])=l ++ [q]:=by
 unfold trim
 simp [h]
theorem snoc_cases (l:fH):l=[] \/ ∃ m q,l=m ++ [q]:=by
 rcases List.eq_nil_or_concat l with h | ⟨m,q,h⟩
 .grind
 .grind
def C5 (a b:Int×Int):Int×Int:=aE (a.1 * b.2 + b.1 * a.2) (a.2 * b.2)
def vG (a b:Int×Int):Int×Int:=aE (a.1 * b.1) (a.2 * b.2)
def XR (l:fH) (k:Nat):Int×Int:=l.getD k Qz
def Us (q:Int×Int):Prop:=1<=q.2 /\ Int.gcd q.1 q.2=1
theorem JI (hb:b≠0):Us (aE t b):=⟨(bS hb).pos,(bS hb).LA⟩
theorem A9 (h:Us q):aE q.1 q.2=q:=((⟨h.1,h.2,rfl⟩:sY q.1 q.2 q.1 q.2).qm (by have:=h.1; lia)).symm
theorem jR (hb:b≠0) (CN:b'≠0) (h:t * b'=t' * b):aE t b=aE t' b':=by
 have q:=bS (t:=t) hb
 refine (sY.qm (n:=(aE t b).1) (d:=(aE t b).2) ⟨q.pos,q.LA,?_⟩ CN)
 have e:=q.eq
 refine ac1 hb ?_
 grind
end Q1
namespace Q1
end Q1
namespace Q1
def tab (n:Nat) (T:Nat->Int):List Int:=(List.range n).map T
theorem Np:(tab n T).set p v=tab n λk=>if p=k then v else T k:=by
 unfold tab
 apply List.ext_getElem?
 intro i
 by_cases hi:i < n
 .grind
 .grind
theorem Nq (h:p < n):(tab n T)[p]?=some (T p):=by
 unfold tab; rw [List.getElem?_map,List.getElem?_range h]; rfl
theorem ET:(tab n T).length=n:=by unfold tab; simp
theorem rQ (h:∀ k,k < n->T k=S k):tab n T=tab n S:=List.map_congr_left λk hk=>h k (acf.mp hk)
def fi:List (Int×Int)->Nat->Nat
 | [],B=>B
 | q :: l,B=>fi l (Nat.lcm B q.2.natAbs)
theorem Bb:∀ (l:fH) (B:Nat),B ∣ fi l B /\ ∀ q∈l,q.2 ∣ (fi l B:Int)
 | [],B=>⟨Nat.dvd_refl B,λq hq=>by simp at hq⟩
 | a :: l,B=>by
   obtain ⟨h1,h2⟩:=Bb l (Nat.lcm B a.2.natAbs)
   refine ⟨Nat.dvd_trans (Nat.dvd_lcm_left _ _) h1,λq hq=>?_⟩
   rcases aaG.mp hq with z | z
   .subst z
    have:q.2.natAbs ∣ fi l (Nat.lcm B q.2.natAbs):=Nat.dvd_trans (Nat.dvd_lcm_right _ _) h1
    rw [<- Int.natAbs_dvd]
    exact Int.natCast_dvd_natCast.mpr this
   .exact h2 q z
theorem mK:∀ (l:fH) (B:Nat),0 < B->(∀ q∈l,q.2≠0)->0 < fi l B
 | [],_,h,_=>h
 | a :: l,B,h,hq=>mK l _ (Nat.lcm_pos h (by have:=hq a aaD; lia)) λq z=>hq q (aaE _ z)
theorem EU (hM:1<=M):∀ (l:fH) (B:Nat),(∀ q∈l,q.2.natAbs<=M)->fi l B<=B * M ^ l.length
 | [],B,_=>by simp [fi]
 | a :: l,B,h=>by
   have ih:=EU hM l (Nat.lcm B a.2.natAbs) λq z=>h q (aaE _ z)
   refine aa6 ih ?_
   have h1:Nat.lcm B a.2.natAbs<=B * M:=aa6 (Nat.div_le_self _ _) (adR _ (h a aaD))
   calc Nat.lcm B a.2.natAbs * M ^ l.length<=(B * M) * M ^ l.length:=Nat.mul_le_mul_right _ h1
    _=B * (M ^ l.length * M):=by rw [Nat.mul_assoc,Nat.mul_comm M]
theorem Bc (l m:fH) (B:Nat):fi (l ++ m) B=fi m (fi l B):=by
 induction l generalizing B with
 | nil=>rfl
 | cons a l ih=>rw [aeE,fi,ih,fi]
end Q1
namespace Q1
def n0 (b g:Nat) (s:Int×Int):Int×Int:=(s.1 ^ b * (s.2 - s.1) ^ g,s.2 ^ b * s.2 ^ g)
structure Gx (s:Int×Int):Prop where
 low:Us s
 pos:0 < s.1
 ZR:s.1 < s.2
theorem Gx.rest (h:Gx s):Int.gcd (s.2 - s.1) s.2=1:=by
 have:=h.low.2
 rw [show s.2 - s.1= -s.1 + 1 * s.2 by lia,Int.gcd_add_mul_right_left,Int.neg_gcd]
 exact this
theorem qz (h:Int.gcd x y=1) (m n:Nat):Int.gcd (x ^ m) (y ^ n)=1:=by
 rw [ES] at *
 rw [Int.natAbs_pow,Int.natAbs_pow]
 exact Nat.Coprime.pow m n h
theorem ud (h:Gx s) (b g:Nat):Us (n0 b g s):=by
 have h1:0 < s.2:=by have:=h.low.1; lia
 refine ⟨?_,qw (kP (qz h.low.2 b b) (qz h.low.2 b g)) (kP (qz h.rest g b) (qz h.rest g g))⟩
 have a:=(ach h1:0 < s.2 ^ b)
 have c:=(ach h1:0 < s.2 ^ g)
 have:=abV a c
 show 1<=s.2 ^ b * s.2 ^ g
 lia
theorem yU (h:Gx s) (b g:Nat):0 < (n0 b g s).1:=abV (ach h.pos) (ach (by have:=h.ZR; lia))
theorem vH (h1:0 < t) (h2:t < c):Gx (aE t c):=by
 have ok:=bS (t:=t) (show c≠0 by lia)
 have p:=ok.pos
 have e:=ok.eq
 refine ⟨JI (by lia),?_,?_⟩
 .have:0 < t * (aE t c).2:=abV h1 (by lia)
  rw [<- e] at this
  exact Int.pos_of_mul_pos_left this (by lia)
 .have:t * (aE t c).2 < c * (aE t c).2:=abI h2 (by lia)
  rw [<- e,abY c] at this
  exact abz this (by lia)
theorem JJ (h:Gx s):C5 (1,1) (-s.1,s.2)=(s.2 - s.1,s.2):=by
 have h1:0 < s.2:=by have:=h.low.1; lia
 refine ((⟨by show 1<=s.2; lia,h.rest,?_⟩:sY (s.2 - s.1) s.2 (1 * s.2 + -s.1 * 1) (1 * s.2)).qm (by lia)).symm
 grind
theorem C6 (h1:0 < t) (h2:t < c) (b g:Nat):(n0 b g (aE t c)).1 * (c ^ b * c ^ g)=(t ^ b * (c - t) ^ g) * (n0 b g (aE t c)).2:=by
 have e:=(bS (t:=t) (show c≠0 by lia)).eq
 unfold n0
 generalize aE t c=s at *
 have e1:s.1 ^ b * c ^ b=t ^ b * s.2 ^ b:=by rw [<- Int.mul_pow,e,Int.mul_pow]
 have e2:(s.2 - s.1) ^ g * c ^ g=(c - t) ^ g * s.2 ^ g:=by
  rw [<- Int.mul_pow,<- Int.mul_pow]
  grind
 grind
def rat (b g:Nat) (lo hi:Int×Int):Int×Int:=vG (n0 b g hi) ((n0 b g lo).2,(n0 b g lo).1)
theorem SM (h1:0 < l) (h2:l < c) (h3:0 < h) (h4:h < c) (b g:Nat):sY (rat b g (aE l c) (aE h c)).1 (rat b g (aE l c) (aE h c)).2 (h ^ b * (c - h) ^ g) (l ^ b * (c - l) ^ g):=by
 have s1:=vH h1 h2
 have s2:=vH h3 h4
 have p1:=yU s1 b g
 have p2:=(ud s2 b g).1
 have p3:=(ud s1 b g).1
 have e1:=C6 h1 h2 b g
 have e2:=C6 h3 h4 b g
 have ok:=bS (t:=(n0 b g (aE h c)).1 * (n0 b g (aE l c)).2) (b:=(n0 b g (aE h c)).2 * (n0 b g (aE l c)).1) (abl (by lia) (by lia))
 unfold rat vG
 refine ⟨ok.pos,ok.LA,?_⟩
 have e:=ok.eq
 have hc:0 < c ^ b * c ^ g:=abV (ach (by lia)) (ach (by lia))
 generalize (n0 b g (aE h c)).2=D' at *
 generalize (n0 b g (aE l c)).2=D at *
 generalize c ^ b * c ^ g=C at *
 have jE:C * (D' * D)≠0:=abl (by lia) (abl (by lia) (by lia))
 refine ac1 jE ?_
 grind
end Q1
namespace Q1
def ZS (ts:List Int) (B:Int):fH:=trim (ts.map λt=>aE t B)
end Q1
namespace JK
def ch:Nat->Nat->Nat
 | _,0=>1
 | 0,_ + 1=>0
 | n + 1,k + 1=>ch n k + ch n (k + 1)
theorem qA (n:Nat):ch n 0=1:=by cases n <;> rfl
theorem xT:∀ n k,n < k->ch n k=0
 | _,0,h=>absurd h (Nat.not_lt_zero _)
 | 0,_ + 1,_=>rfl
 | n + 1,k + 1,h=>by
   show ch n k + ch n (k + 1)=0
   rw [xT n k (by lia),xT n (k + 1) (by lia)]
theorem qB:∀ n k,k<=n->(k + 1) * ch n (k + 1)=(n - k) * ch n k
 | 0,k,h=>by
   have:k=0:=by lia
   subst this; rfl
 | n + 1,0,_=>by
   show (0 + 1) * (ch n 0 + ch n 1)=(n + 1 - 0) * ch (n + 1) 0
   have ih:=qB n 0 (abS _)
   rw [qA] at ih
   rw [qA,qA]
   have ih':(0 + 1) * ch n 1=(n - 0) * 1:=ih
   lia
 | n + 1,k + 1,h=>by
   show (k + 1 + 1) * (ch n (k + 1) + ch n (k + 1 + 1))=(n + 1 - (k + 1)) * (ch n k + ch n (k + 1))
   have i1:=qB n k (by lia)
   have e:n + 1 - (k + 1)=n - k:=by lia
   rw [e,Nat.mul_add,Nat.mul_add,<- i1]
   by_cases hk:k + 1<=n
   .have i2:=qB n (k + 1) hk
    rw [i2,<- Nat.add_mul,<- Nat.add_mul]
    congr 1
    lia
   .have O8:k=n:=by lia
    subst O8
    rw [xT k (k + 1) (by lia),xT k (k + 1 + 1) (by lia)]
    simp
def sg (k:Nat):Int:=1 - 2 * ((k:Int) % 2)
theorem Nr (k:Nat):sg (k + 1)= - sg k:=by unfold sg; lia
def tp (n k:Nat):Int:=(ch n k:Int) * sg k
theorem nB (n:Nat):tp n 0=1:=by unfold tp; rw [qA]; rfl
theorem EV (n k:Nat) (h:k<=n): -(tp n k) * ((n:Int) - (k:Int)) / ((k:Int) + 1)=tp n (k + 1):=by
 have e: -(tp n k) * ((n:Int) - (k:Int))=tp n (k + 1) * ((k:Int) + 1):=by
  unfold tp
  rw [Nr]
  have i:=qB n k h
  have i':((k:Int) + 1) * (ch n (k + 1):Int)=((n:Int) - (k:Int)) * (ch n k:Int):=by
   have:(((k + 1) * ch n (k + 1):Nat):Int)=(((n - k) * ch n k:Nat):Int):=by rw [i]
   rw [Int.natCast_mul,Int.natCast_mul,Int.natCast_sub h] at this
   simpa using this
  have a1: -((ch n k:Int) * sg k) * ((n:Int) - (k:Int))= -(((n:Int) - (k:Int)) * (ch n k:Int) * sg k):=by grind
  have a2:(ch n (k + 1):Int) * -sg k * ((k:Int) + 1)= -(((k:Int) + 1) * (ch n (k + 1):Int) * sg k):=by grind
  rw [a1,a2,i']
 rw [e]
 exact acI _ (by lia)
def row (n:Nat):List Int:=(List.range (n + 1)).map λj=>(ch n j:Int)
def part (n j:Nat):List Int:=(List.range (j + 1)).map λi=>(ch (n + 1) i:Int)
end JK
namespace Q1
theorem EW (hb:b≠0) (hd:d≠0):vG (aE a b) (aE c d)=aE (a * c) (b * d):=by
 have e1:=(bS (t:=a) hb).eq
 have e2:=(bS (t:=c) hd).eq
 have p1:=(bS (t:=a) hb).pos
 have p2:=(bS (t:=c) hd).pos
 refine jR (abl (by lia) (by lia)) (abl hb hd) ?_
 grind
theorem Nt (hb:b≠0) (hd:d≠0):C5 (aE a b) (aE c d)=aE (a * d + c * b) (b * d):=by
 have e1:=(bS (t:=a) hb).eq
 have e2:=(bS (t:=c) hd).eq
 have p1:=(bS (t:=a) hb).pos
 have p2:=(bS (t:=c) hd).pos
 refine jR (abl (by lia) (by lia)) (abl hb hd) ?_
 grind
end Q1
namespace az
open PySem L2 Q1
abbrev bt (x:Int):Nat:=Builtin.Int.intBits x
theorem bY (h:x.natAbs < 2 ^ m):bt x<=m:=intBits_le_iff.mpr h
theorem Pu (h:bt x<=m):x.natAbs < 2 ^ m:=intBits_le_iff.mp h
theorem fw (h1:bt x<=m) (h2:bt y<=n):bt (x * y)<=m + n:=intBits_mul_le h1 h2
theorem SN (h:bt x<=m):bt (-x)<=m:=intBits_neg_le h
theorem ff (h:x.natAbs<=y.natAbs) (hy:bt y<=m):bt x<=m:=intBits_le_of_natAbs h hy
theorem aY (h:bt x<=m) (h2:m<=n):bt x<=n:=aa6 h h2
theorem JL (h:bt x<=m) (k:Nat):bt (x ^ k)<=m * k + 1:=by
 have:=intBits_pow_le h k
 lia
theorem cT (h1:bt x<=m) (h2:bt y<=n) (h:m + n<=134217728:=by lia):IntMulOk x y:=IntMulOk.of_le h1 h2 h
theorem yV (i:Int):(if i < 0 then -i else i)=(i.natAbs:Nat):=by split <;> lia
theorem dM (h:IntMulOk a b):cw (.int a) (.int b)=some (.int (a * b)):=uG h
theorem cY (h:0 < b):da (.int a) (.int b)=some (.int (a % b)):=by
 rw [<- Int.fmod_eq_emod_of_nonneg _ (Int.le_of_lt h)]
 exact uG (C:=λ_ j=>j≠0) (by lia)
theorem om (h:0 < b) (hb:bt b<=9000):fY (.int a) (.int b)=some (.int (a / b)):=by
 rw [<- Int.fdiv_eq_ediv_of_nonneg _ (Int.le_of_lt h)]
 exact uG (C:=Ed) ⟨by lia,xr hb⟩
theorem yW (h:b≠0) (hb:bt b<=9000):fY (.int a) (.int b)=some (.int (a.fdiv b)):=uG (C:=Ed) ⟨h,xr hb⟩
theorem EX {k:Nat} (h:a.natAbs < 2 ^ 64) (hk:k<=1000000):uH (.int a) (.int k)=some (.int (a ^ k)):=by
 have:=uG (C:=QR) (g:=λi j=>.int (i ^ j.toNat)) (a:=a) (b:=k) ⟨by lia,by lia,h⟩
 simpa using this
theorem rR:p0 (x :: xs) 0=some x:=eM (j:=0) rfl
theorem yX:p0 (x :: y :: xs) 1=some y:=eM (j:=1) rfl
theorem Nu (h:xs[xs.length - 1]?=some x):p0 xs (-1)=some x:=HX h
def fj {β:Type} (x:Option β) (P:β->Prop):Prop:=∃ d,x=some d /\ P d
theorem aV (h:fj x λy=>y=d):x=some d:=by
 obtain ⟨y,e,rfl⟩:=h; exact e
theorem fj.mk {d:β} (e:x=some d) (h:P d):fj x P:=⟨d,e,h⟩
theorem iM (h:a δ=some (.nx δ')):ax a b δ=b δ':=by
 unfold ax; rw [h]; rfl
theorem EY (h:a δ=some (.rt d)):ax a b δ=some (.rt d):=by
 unfold ax; rw [h]; rfl
theorem C7 (W:Nat->DS->Prop) (Z:DS->Prop) (m:Nat) (h:W m δ)
  (hs:∀ m δ,W m δ->(c δ=some false /\ Z δ) \/ (c δ=some true /\ ∃ δ' m',b δ=some (.nx δ') /\ m' < m /\ W m' δ')):∃ δ',il c b δ=some (.nx δ') /\ Z δ':=by
 obtain ⟨q,h1,δ',rfl,h2⟩:=FQ W (λ_ q=>∃ δ',q=.nx δ' /\ Z δ') m δ h (λm δ hW=>by
  rcases hs m δ hW with ⟨a,z⟩ | ⟨a,δ',m',e,l,w⟩
  .exact .inl ⟨a,δ,rfl,z⟩
  .exact .inr ⟨a,.inl ⟨δ',m',.inl e,l,w,λq hq=>hq⟩⟩)
 exact ⟨δ',h1,h2⟩
theorem Bd (W:Nat->DS->Prop):∀ (ds:List D) (k:Nat) {δ:DS},W k δ->(∀ i d δ,ds[i]?=some d->W (k + i) δ->∃ fG δ',t d δ=some fG /\ b fG=some (.nx δ') /\ W (k + i + 1) δ')->
  ∃ δ',kE t b ds δ=some (.nx δ') /\ W (k + ds.length) δ'
 | [],k,δ,h,_=>⟨δ,rfl,h⟩
 | d :: ds,k,δ,h,hs=>by
   obtain ⟨fG,δ',e1,e2,h'⟩:=hs 0 d δ rfl h
   obtain ⟨XS,e3,h2⟩:=Bd W ds (k + 1) h' (λi d δ e w=>by
    have:=hs (i + 1) d δ (by simpa using e) (by rw [show k + (i + 1)=k + 1 + i by lia]; exact w)
    rw [show k + (i + 1) + 1=k + 1 + i + 1 by lia] at this
    exact this)
   refine ⟨XS,?_,by rw [aa0,show k + (ds.length + 1)=k + 1 + ds.length by lia]; exact h2⟩
   rw [kE,e1,aac,e2,aac]
   exact e3
theorem qC {α:Type} (enc:α->D) (W:Nat->DS->Prop) (xs:List α) (h:W 0 δ)
  (hs:∀ i x δ,xs[i]?=some x->W i δ->∃ fG δ',t (enc x) δ=some fG /\ b fG=some (.nx δ') /\ W (i + 1) δ'):∃ δ',kE t b (xs.map enc) δ=some (.nx δ') /\ W xs.length δ':=by
 obtain ⟨δ',e,w⟩:=Bd (t:=t) (b:=b) W (xs.map enc) 0 h (λi d δ e w=>by
  rw [aaU] at e
  cases ex:xs[i]? with
  | none=>rw [ex] at e; cases e
  | some x=>
    rw [ex] at e; cases e
    rw [acE] at w ⊢
    exact hs i x δ ex w)
 rw [acE,aax] at w
 exact ⟨δ',e,w⟩
theorem JM (W:Nat->DS->Prop) (h:W 0 δ)
  (hs:∀ i δ,i < n->W i δ->∃ fG δ',t (.int (lo + i)) δ=some fG /\ b fG=some (.nx δ') /\ W (i + 1) δ'):∃ δ',kE t b (ip lo n) δ=some (.nx δ') /\ W n δ':=by
 obtain ⟨δ',e,w⟩:=qC (t:=t) (b:=b) (λk:Nat=>PyData.int (lo + k)) W (List.range n) h (λi x δ e w=>by
  have hi:=(aaK.mp e).1
  rw [ab7] at hi
  rw [List.getElem?_range hi] at e
  cases e
  exact hs i δ hi w)
 rw [ab7] at w
 exact ⟨δ',e,w⟩
theorem nD {b rest:aK} {R:β->Prop} (W:Nat->DS->Prop) (Z:DS->Prop) (m:Nat) (h:W m δ)
  (hs:∀ m δ,W m δ->(c δ=some false /\ Z δ) \/ (c δ=some true /\ ∃ δ' m',b δ=some (.nx δ') /\ m' < m /\ W m' δ')) (k:∀ δ',Z δ'->fj ((rest δ').bind f) R):fj ((ax (il c b) rest δ).bind f) R:=by
 obtain ⟨δ',h1,h2⟩:=C7 W Z m h hs
 rw [iM h1]
 exact k δ' h2
theorem km {α:Type} {b rest:aK} {R:β->Prop} (enc:α->D) (xs:List α) (W:Nat->DS->Prop) (hi:gi δ=some (xs.map enc)) (h:W 0 δ)
  (hs:∀ i x δ,xs[i]?=some x->W i δ->∃ fG δ',t (enc x) δ=some fG /\ b fG=some (.nx δ') /\ W (i + 1) δ') (k:∀ δ',W xs.length δ'->fj ((rest δ').bind f) R):fj ((ax (fu gi t b) rest δ).bind f) R:=by
 obtain ⟨δ',h1,h2⟩:=qC (t:=t) (b:=b) enc W xs h hs
 rw [iM (δ':=δ') (by unfold fu; rw [hi]; exact h1)]
 exact k δ' h2
theorem jS {b rest:aK} {R:β->Prop} (lo:Int) (n:Nat) (W:Nat->DS->Prop) (hi:gi δ=some (ip lo n)) (h:W 0 δ)
  (hs:∀ i δ,i < n->W i δ->∃ fG δ',t (.int (lo + i)) δ=some fG /\ b fG=some (.nx δ') /\ W (i + 1) δ') (k:∀ δ',W n δ'->fj ((rest δ').bind f) R):fj ((ax (fu gi t b) rest δ).bind f) R:=by
 obtain ⟨δ',h1,h2⟩:=JM (t:=t) (b:=b) W h hs
 rw [iM (δ':=δ') (by unfold fu; rw [hi]; exact h1)]
 exact k δ' h2
theorem aI {a rest:aK} {R:β->Prop} (δ':DS) (h:a δ=some (.nx δ')) (k:fj ((rest δ').bind f) R):fj ((ax a rest δ).bind f) R:=by
 rw [iM h]; exact k
theorem C8 {a rest:aK} {R:β->Prop} (h:c δ=some false) (k:fj ((rest δ).bind f) R):fj ((ax (fW c a bP) rest δ).bind f) R:=by
 rw [iM (δ':=δ) (by unfold fW; rw [h]; rfl)]; exact k
theorem nF {a b rest:aK} {R:β->Prop} (x:Bool) (h:c δ=some x) (k1:x=true->fj ((ax a rest δ).bind f) R) (k2:x=false->fj ((ax b rest δ).bind f) R):fj ((ax (fW c a b) rest δ).bind f) R:=by
 have e:fW c a b δ=if x=true then a δ else b δ:=by unfold fW; rw [h]; rfl
 cases x with
 | true=>rw [if_pos rfl] at e; have:=k1 rfl; unfold ax at this ⊢; rw [e]; exact this
 | false=>rw [if_neg Bool.false_ne_true] at e; have:=k2 rfl; unfold ax at this ⊢; rw [e]; exact this
theorem qD {rest:aK} {R:β->Prop} (d:D) (h:g δ=some d) (k:fj (f (.rt d)) R):fj ((ax (bQ g) rest δ).bind f) R:=by
 rw [EY (d:=d) (by unfold bQ; rw [h]; rfl)]; exact k
theorem ret (d:D) (h:g δ=some d) (k:fj (f (.rt d)) R):fj ((bQ g δ).bind f) R:=by
 unfold bQ; rw [h]; exact k
theorem bZ (δ':DS) (h:a δ=some (.nx δ')) (k:b δ'=r):ax a b δ=r:=(iM h).trans k
theorem kn (h:c δ=some false):fW c a bP δ=some (.nx δ):=by unfold fW; rw [h]; rfl
theorem JN {rest:aK} :ax bP rest δ=rest δ:=rfl
theorem seq_assoc:ax (ax a b) c δ=ax a (ax b c) δ:=by
 unfold ax
 cases a δ with
 | none=>rfl
 | some r=>cases r <;> rfl
theorem EZ {α β:Type} (enc:α->D) (oU:β->D) (h:α->β):∀ (l:List α),(∀ a∈l,f (enc a)=some (oU (h a)))->Ir f (l.map enc)=some ((l.map h).map oU)
 | [],_=>rfl
 | a :: l,hf=>by
   rw [aaY,Ir,hf a aaD,aac,EZ enc oU h l λb hb=>hf b (aaE _ hb)]
   rfl
theorem ko {α β:Type} (enc:α->D) (oU:β->D) (h:α->β) (l:List α) (hi:gi δ=some (l.map enc)) (hn:l.length<=100000)
  (hf:∀ a∈l,ge (some (enc a) :: gU ix δ)=some (oU (h a))):f9 gi ix ge δ=some ((l.map h).map oU):=by
 unfold f9
 rw [hi,aac,aaL (by rw [aax]; exact hn)]
 exact EZ enc oU h l hf
theorem Wr (a b:eZ):oK (dF a) (dF b)=some (.bool (decide (a=b))):=by
 show (if (SeqAt.shaped (dF a) && SeqAt.shaped (dF b))=true then some (PyData.bool (PyData.eqv (dF a) (dF b))) else none)=_
 rw [O0,O0,Rq]; rfl
theorem Nv (i:Int):Cj "int" [.int i]=some (.bool true):=rfl
theorem Nw (i:Int):Cj "bool" [.int i]=some (.bool false):=rfl
theorem Ny (l:List D):Cj "tuple" [.tuple l]=some (.bool true):=rfl
theorem Nz (l:List D):Cj "list" [.list l]=some (.bool true):=rfl
theorem NA (i:Bool):Cj "bool" [.bool i]=some (.bool true):=rfl
theorem NB (i:Str):Cj "str" [.str i]=some (.bool true):=rfl
theorem jT (a b:Int):oK (.int a) (.int b)=some (.bool (decide (a=b))):=rfl
theorem yY (a b:Int):AF (.int a) (.int b)=some (.bool (!decide (a=b))):=rfl
theorem C9 (h:oK a b=some (.bool c)):AF a b=some (.bool (!c)):=by unfold AF; rw [h]; rfl
theorem E1 (h1:ga δ=some ds) (h2:gb δ=some (.int (n:Nat))) (h3:n<=100000) (h4:ds.length * n<=100000):AG ga gb δ=some (List.replicate n ds).flatten:=by
 unfold AG
 rw [h1,h2,aac,aac]
 show (if ((n:Nat):Int) < 2 ^ 62 /\ -(2 ^ 62) < ((n:Nat):Int) /\ ds.length * ((n:Nat):Int).toNat<=100000 then some (List.replicate ((n:Nat):Int).toNat ds).flatten else none)=_
 rw [abb,aaL ⟨by lia,by lia,h4⟩]
theorem iy (h:g δ=some [.int (n:Nat)]) (hn:n<=100000):iI g δ=some (ip 0 n):=by
 unfold iI
 rw [h,aac]
 show (if -(2 ^ 62)<=((n:Nat):Int) /\ ((n:Nat):Int) < 2 ^ 62 then some (ip 0 ((n:Nat):Int).toNat) else none)=_
 rw [abb,aaL ⟨by lia,by lia⟩]
theorem Gy (h:g δ=some [.int a,.int b]) (h1: -100000<=a) (h2:a<=100000) (h3: -100000<=b) (h4:b<=100000):t4 g δ=some (ip a (b - a).toNat):=by
 unfold t4
 rw [h,aac]
 show (if -(2 ^ 62)<=a /\ a < 2 ^ 62 /\ -(2 ^ 62)<=b /\ b < 2 ^ 62 then some (ip a (b - a).toNat) else none)=_
 rw [aaL ⟨by lia,by lia,by lia,by lia⟩]
theorem call_of (h:g δ=some ds) (hn:ds.length=n) (hG:G ds=r):ay G n g δ=r:=by
 unfold ay; rw [h,Option.bind_some,if_pos hn]; exact hG
theorem cj (h:g δ=some ds) (hn:ds.length=n) (hG:G ds=r):bW G n g δ=r:=by
 unfold bW; rw [h,Option.bind_some,if_pos hn]; exact hG
theorem aU (h:g δ=some l):bj g δ=some (.list l):=by unfold bj; rw [h]; rfl
theorem cons_of (h:a δ=some x) (h2:r δ=some xs):ae a r δ=some (x :: xs):=by unfold ae; rw [h,h2]; rfl
theorem aJ (h:g δ=some d):aT i g δ=some (.nx (δ.set i (some d))):=by unfold aT; rw [h]; rfl
theorem yZ (h:g δ=some d):ib i g δ=some (.nx (δ.set i (some (.list d)))):=by unfold ib; rw [h]; rfl
theorem ls (l:List D):dX [.list l]=some (.int l.length):=rfl
theorem oV (l:List D):dX [.tuple l]=some (.int l.length):=rfl
theorem JO (l:List eZ):dX [dP l]=some (.int (l.length:Nat)):=by unfold dP; rw [ls,List.length_map]
theorem NC (a b:Int):Ie (.int a) (.int b)=some (.int (a + b)):=rfl
theorem E2 (l:List D) (i:Int):a9 (.list l) (.int i)=p0 l i:=rfl
theorem Ws (l:List D) (i:Int):a9 (.tuple l) (.int i)=p0 l i:=rfl
theorem Wt (l:List eZ) (i:Int):a9 (dP l) (.int i)=p0 (l.map dF) i:=rfl
theorem fU (q:eZ):a9 (dF q) (.int 0)=some (.int q.1):=rfl
theorem eP (q:eZ):a9 (dF q) (.int 1)=some (.int q.2):=rfl
theorem ND (a b:List D):yn (.list a) (.list b)=if a.length + b.length<=100000 then some (a ++ b) else none:=rfl
theorem NF (a b:List D):Ie (.list a) (.list b)=if a.length + b.length<=100000 then some (.list (a ++ b)) else none:=rfl
theorem Dc (h1:a δ=some true) (h2:b δ=r):nW a b δ=r:=by unfold nW; rw [h1]; exact h2
theorem lu (h:a δ=some x):nX a δ=some (!x):=by unfold nX; rw [h]; rfl
theorem cI (h:g δ=some (.bool b)):gB g δ=some b:=by unfold gB; rw [h]; rfl
theorem gZ (h:g δ=some (.bool b)):ka g δ=some b:=by unfold ka; rw [h]; rfl
theorem ai (h1:a δ=some x) (h2:b δ=some y) (h3:f x y=r):g2 f a b δ=r:=by unfold g2; rw [h1,h2]; exact h3
theorem NG (h1:a δ=some (.bool true)) (h2:b δ=r):kg a b δ=r:=by unfold kg; rw [cI h1]; exact h2
theorem Be (h1:a δ=some x) (h2:b δ=some y) (h3:f x y=some (.bool true)) (h4:c δ=some z) (h5:f' y z=r):ir f f' a b c δ=r:=by
 unfold ir; rw [h1,h2,Option.bind_some,Option.bind_some,h3,Option.bind_some,h4]; exact h5
abbrev tf:List Str:=["NoLot","NoEnd","NoShares"]
abbrev Ut:List Str:=["NoLot","NoEnd","NoShares","NoNumber","NoPlan","NoTelling"]
abbrev sI (x:Int):Option D:=some (.int x)
abbrev sL (x:List D):Option D:=some (.list x)
abbrev JP:aK:=(ax (aT 2 (g2 gz (g1 AK (af 0)) (gC (.int (240)))))
  (ax (aT 3 (bG (ae (g2 RF (af 0) (af 2)) (ae (gC (.int (1))) (ae (gC (.int (0))) ag)))))
  (ax (aT 4 (bG (ae (g2 RF (af 1) (af 2)) (ae (gC (.int (0))) (ae (gC (.int (1))) ag)))))
  (ax (il (gB (g2 AF (g2 RF (g2 a9 (af 4) (gC (.int (0)))) (gC (.int (120)))) (gC (.int (0))))) (ax (aT 5 (g2 fY (g2 a9 (af 3) (gC (.int (0)))) (g2 a9 (af 4) (gC (.int (0))))))
  (ax (aT 6 (bG (ae (g2 gz (g2 a9 (af 3) (gC (.int (0)))) (g2 cw (af 5) (g2 a9 (af 4) (gC (.int (0)))))) (ae (g2 gz (g2 a9 (af 3) (gC (.int (1)))) (g2 cw (af 5) (g2 a9 (af 4) (gC (.int (1)))))) (ae (g2 gz (g2 a9 (af 3) (gC (.int (2)))) (g2 cw (af 5) (g2 a9 (af 4) (gC (.int (2)))))) ag)))))
  (ax (aT 3 (af 4))
  (aT 4 (af 6))))))
  (bQ (bG (ae (eQ oN (ae (g2 bD (g2 cw (g2 a9 (af 3) (gC (.int (1)))) (af 0)) (g2 cw (g2 a9 (af 3) (gC (.int (2)))) (af 1))) ag)) (ae (eQ oN (ae (g2 bD (g2 cw (g2 a9 (af 4) (gC (.int (1)))) (af 0)) (g2 cw (g2 a9 (af 4) (gC (.int (2)))) (af 1))) ag)) ag))))))))
def JQ:List D->Option D:=df 7 JP
abbrev gA:aK:=(ax (aT 0 (eQ oN (ae (af 0) ag)))
  (ax (aT 1 (eQ oN (ae (af 1) ag)))
  (ax (il (gB (g2 AF (af 1) (gC (.int (0))))) (ax (aT 2 (g2 da (af 0) (af 1)))
  (ax (aT 0 (af 1))
  (ax (aT 1 (af 2))
  (fW (gB (g2 AE (g1 AK (af 1)) (gC (.int (4000))))) (ax (aT 3 (ay JQ 2 (ae (af 0) (ae (af 1) ag))))
  (ax (aT 0 (g2 a9 (af 3) (gC (.int (0)))))
  (aT 1 (g2 a9 (af 3) (gC (.int (1))))))) bP)))))
  (bQ (af 0)))))
def cR:List D->Option D:=df 4 gA
theorem oW (a0 a1:D):cR [a0,a1]=(gA [some a0,some a1,none,none]).bind du:=rfl
abbrev Dd:aK:=(ax (fW (gB (g2 oK (af 1) (gC (.int (0))))) (λ_=>none) bP)
  (ax (aT 2 (ay cR 2 (ae (af 0) (ae (af 1) ag))))
  (ax (fW (gB (g2 uI (af 1) (gC (.int (0))))) (aT 2 (g1 wJ (af 2))) bP)
  (bQ (bG (ae (g2 fY (af 0) (af 2)) (ae (g2 fY (af 1) (af 2)) ag)))))))
def ly:List D->Option D:=df 3 Dd
theorem SO (a0 a1:D):ly [a0,a1]=(Dd [some a0,some a1,none]).bind du:=rfl
abbrev De:aK:=(ax (aT 2 (ay cR 2 (ae (g2 a9 (af 0) (gC (.int (1)))) (ae (g2 a9 (af 1) (gC (.int (1)))) ag))))
  (ax (aT 3 (g2 fY (g2 a9 (af 0) (gC (.int (1)))) (af 2)))
  (ax (aT 4 (g2 fY (g2 a9 (af 1) (gC (.int (1)))) (af 2)))
  (ax (aT 5 (ay ly 2 (ae (g2 bD (g2 cw (g2 a9 (af 0) (gC (.int (0)))) (af 4)) (g2 cw (g2 a9 (af 1) (gC (.int (0)))) (af 3))) (ae (af 2) ag))))
  (bQ (bG (ae (g2 a9 (af 5) (gC (.int (0)))) (ae (g2 cw (g2 cw (af 3) (af 4)) (g2 a9 (af 5) (gC (.int (1))))) ag))))))))
def oX:List D->Option D:=df 6 De
theorem ZT (a0 a1:D):oX [a0,a1]=(De [some a0,some a1,none,none,none,none]).bind du:=rfl
abbrev y3:aK:=(bQ (ay oX 2 (ae (af 0) (ae (bG (ae (g1 wJ (g2 a9 (af 1) (gC (.int (0))))) (ae (g2 a9 (af 1) (gC (.int (1)))) ag))) ag))))
def ue:List D->Option D:=df 2 y3
theorem XT (a0 a1:D):ue [a0,a1]=(y3 [some a0,some a1]).bind du:=rfl
abbrev y4:aK:=(ax (aT 2 (ay ly 2 (ae (g2 a9 (af 0) (gC (.int (0)))) (ae (g2 a9 (af 1) (gC (.int (1)))) ag))))
  (ax (aT 3 (ay ly 2 (ae (g2 a9 (af 1) (gC (.int (0)))) (ae (g2 a9 (af 0) (gC (.int (1)))) ag))))
  (bQ (bG (ae (g2 cw (g2 a9 (af 2) (gC (.int (0)))) (g2 a9 (af 3) (gC (.int (0))))) (ae (g2 cw (g2 a9 (af 2) (gC (.int (1)))) (g2 a9 (af 3) (gC (.int (1))))) ag))))))
def nG:List D->Option D:=df 4 y4
theorem NH (a0 a1:D):nG [a0,a1]=(y4 [some a0,some a1,none,none]).bind du:=rfl
abbrev Dg:aK:=(bQ (ay nG 2 (ae (af 0) (ae (ay ly 2 (ae (g2 a9 (af 1) (gC (.int (1)))) (ae (g2 a9 (af 1) (gC (.int (0)))) ag))) ag))))
def rS:List D->Option D:=df 2 Dg
theorem ZU (a0 a1:D):rS [a0,a1]=(Dg [some a0,some a1]).bind du:=rfl
abbrev y6:aK:=(ax (aT 2 (gC (.int (1))))
  (ax (aT 3 (gC (.int (1))))
  (ax (fu (iI (ae (af 1) ag)) (aP 4)
   (ax (aT 2 (g2 cw (af 2) (g2 a9 (af 0) (gC (.int (0))))))
  (aT 3 (g2 cw (af 3) (g2 a9 (af 0) (gC (.int (1))))))))
  (bQ (bG (ae (af 2) (ae (af 3) ag)))))))
def qE:List D->Option D:=df 5 y6
theorem NI (a0 a1:D):qE [a0,a1]=(y6 [some a0,some a1,none,none,none]).bind du:=rfl
abbrev y7:aK:=(bQ (g2 uI (g2 cw (g2 a9 (af 0) (gC (.int (0)))) (g2 a9 (af 1) (gC (.int (1))))) (g2 cw (g2 a9 (af 1) (gC (.int (0)))) (g2 a9 (af 0) (gC (.int (1)))))))
def dh:List D->Option D:=df 2 y7
theorem XU (a0 a1:D):dh [a0,a1]=(y7 [some a0,some a1]).bind du:=rfl
abbrev rT:aK:=(ax (aT 2 (g2 bD (g2 a9 (af 1) (gC (.int (0)))) (g2 a9 (af 1) (gC (.int (1))))))
  (bQ (kg (ir ym uI (gC (.int (0))) (af 2) (eQ dX (ae (af 0) ag))) (g2 RG (g2 a9 (af 1) (gC (.int (0)))) (g2 a9 (af 0) (af 2))))))
def kQ:List D->Option D:=df 3 rT
theorem Uu (a0 a1:D):kQ [a0,a1]=(rT [some a0,some a1,none]).bind du:=rfl
abbrev vI:aK:=(bQ (bj (RX (bj (Lo yn (bj (tD kD (ae (af 0) ag))) (bj (f9 (bz (af 0)) [] (g2 bD (af 0) (gC (.int (1)))))))))))
def kR:List D->dJ:=jh 1 vI
theorem Wu (a0:D):kR [a0]=(vI [some a0]).bind jg:=rfl
abbrev rV:aK:=(ax (ib 1 (c7 (ae (bG (ae (gC (.int (0))) (ae (gC (.int (0))) ag))) ag)))
  (ax (fu (IX (af 0)) (iR 2 (cD (aP 2) (cD (aP 3) jf)))
   (FW 1 (f9 (bz (bj (bW kR 1 (ae (af 3) ag)))) [2] (bG (ae (af 0) (ae (g2 gz (af 1) (af 0)) ag))))))
  (bQ (af 1))))
def jF:List D->dJ:=jh 4 rV
theorem Uv (a0:D):jF [a0]=(rV [some a0,none,none,none]).bind jg:=rfl
abbrev Dh:aK:=(bQ (bj (d9 (bz (bj (bW jF 1 (ae (af 0) ag)))) 1 [0] (aP 0) (nX (ka (ay kQ 2 (ae (af 1) (ae (af 0) ag))))) (af 0))))
def ja:List D->dJ:=jh 1 Dh
theorem ZV (a0:D):ja [a0]=(Dh [some a0]).bind jg:=rfl
abbrev oY:aK:=(ax (ib 1 (c7 ag))
  (ax (fu (IQ (af 0)) (iR 2 (cD (aP 2) (cD (aP 3) jf)))
   (FW 1 (f9 (bz (af 3)) [2] (bG (ae (af 0) (ae (g2 gz (af 1) (af 0)) ag))))))
  (bQ (af 1))))
def jU:List D->dJ:=jh 4 oY
theorem SQ (a0:D):jU [a0]=(oY [some a0,none,none,none]).bind jg:=rfl
abbrev jq:aK:=(ax (aT 2 (bj (bW ja 1 (ae (af 0) ag))))
  (fu (bz (af 1)) (aP 3)
   (fW (gB (g2 (rJ true) (af 3) (af 2))) (oT "NoEnd") bP)))
def jr:List D->Option D:=df 4 jq
theorem wQ (a0 a1:D):jr [a0,a1]=(jq [some a0,some a1,none,none]).bind du:=rfl
abbrev lz:aK:=(ax (aT 2 (bj (bW ja 1 (ae (af 0) ag))))
  (fu (bz (af 1)) (aP 3)
   (fW (gB (g2 (rJ true) (af 3) (af 2))) (λ_=>none) bP)))
def js:List D->Option D:=df 4 lz
theorem NJ (a0 a1:D):js [a0,a1]=(lz [some a0,some a1,none,none]).bind du:=rfl
abbrev y8:aK:=(ax (fW (gB (g2 oK (af 1) (gC (.str "b")))) (bQ (bG (ae (g2 bD (g2 a9 (af 0) (gC (.int (0)))) (gC (.int (1)))) (ae (g2 a9 (af 0) (gC (.int (1)))) ag)))) bP)
  (bQ (bG (ae (g2 a9 (af 0) (gC (.int (0)))) (ae (g2 bD (g2 a9 (af 0) (gC (.int (1)))) (gC (.int (1)))) ag)))))
def iN:List D->Option D:=df 2 y8
theorem XW (a0 a1:D):iN [a0,a1]=(y8 [some a0,some a1]).bind du:=rfl
abbrev oZ:aK:=(ax (ib 2 (AG (c7 (ae (gC (.tuple [(.int (0)),(.int (1))])) ag)) (af 0)))
  (ax (aT 3 (gC (.int (1))))
  (ax (fu (iI (ae (g2 bD (af 1) (gC (.int (1)))) ag)) (aP 4)
   (ax (tF 2 (bG (ae (af 3) (ae (gC (.int (1))) ag))))
  (aT 3 (g2 fY (g2 cw (g1 wJ (af 3)) (g2 gz (af 1) (af 4))) (g2 bD (af 4) (gC (.int (1))))))))
  (bQ (af 2)))))
def jV:List D->dJ:=jh 5 oZ
theorem Di (a0 a1:D):jV [a0,a1]=(oZ [some a0,some a1,none,none,none]).bind jg:=rfl
abbrev rW:aK:=(ax (ib 1 (tD kD (ae (af 0) ag)))
  (ax (il (nW (gB (g2 AE (eQ dX (ae (af 1) ag)) (gC (.int (0))))) (gB (g2 oK (g2 a9 (af 1) (g1 wJ (gC (.int (1))))) (gC (.tuple [(.int (0)),(.int (1))]))))) (Mz 1))
  (bQ (af 1))))
def nH:List D->dJ:=jh 2 rW
theorem Gz (a0:D):nH [a0]=(rW [some a0,none]).bind jg:=rfl
abbrev jb:aK:=(ax (aT 1 (gC (.int (1))))
  (ax (fu (bz (af 0)) (aP 2)
   (aT 1 (g2 cw (g2 fY (af 1) (ay cR 2 (ae (af 1) (ae (g2 a9 (af 2) (gC (.int (1)))) ag)))) (g2 a9 (af 2) (gC (.int (1)))))))
  (bQ (af 1))))
def dN:List D->Option D:=df 3 jb
theorem G6 (a0:D):dN [a0]=(jb [some a0,none,none]).bind du:=rfl
abbrev mM:aK:=(bQ (bj (f9 (bz (af 0)) [1] (g2 cw (g2 a9 (af 0) (gC (.int (0)))) (g2 fY (af 1) (g2 a9 (af 0) (gC (.int (1)))))))))
def iU:List D->dJ:=jh 2 mM
theorem Bf (a0 a1:D):iU [a0,a1]=(mM [some a0,some a1]).bind jg:=rfl
abbrev mO:aK:=(ax (Pj 2 (IT (af 1) (gC (.int (1)))))
  (ax (fu (bz (bj (bW jU 1 (ae (af 0) ag)))) (aP 3)
   (ax (aT 4 (rH (af 2) (af 3) (gC (.int (0)))))
  (fu (bz (bG (ae (ay iN 2 (ae (af 3) (ae (gC (.str "b")) ag))) (ae (ay iN 2 (ae (af 3) (ae (gC (.str "g")) ag))) ag)))) (aP 5)
   (Ex 2 (af 5) (g2 bD (rH (af 2) (af 5) (gC (.int (0)))) (af 4))))))
  (bQ (af 2))))
def fA:List D->Option D:=df 6 mO
theorem Pw (a0 a1:D):fA [a0,a1]=(mO [some a0,some a1,none,none,none,none]).bind du:=rfl
abbrev rX:aK:=(bQ (rH (ay fA 2 (ae (af 0) (ae (bG (ae (gC (.int (0))) (ae (gC (.int (0))) ag))) ag))) (af 1) (gC (.int (0)))))
def nI:List D->Option D:=df 2 rX
theorem Uw (a0 a1:D):nI [a0,a1]=(rX [some a0,some a1]).bind du:=rfl
abbrev l7:aK:=(fW (gB (g2 AF (eQ dX (ae (af 1) ag)) (eQ dX (ae (bj (bW ja 1 (ae (af 0) ag))) ag)))) (λ_=>none) bP)
def tM:List D->Option D:=df 2 l7
abbrev gq:aK:=(fW (gB (g2 AF (eQ dX (ae (af 1) ag)) (eQ dX (ae (bj (bW ja 1 (ae (af 0) ag))) ag)))) (λ_=>none) bP)
def gu:List D->Option D:=df 2 gq
theorem tO (a0 a1:D):gu [a0,a1]=(gq [some a0,some a1]).bind du:=rfl
abbrev rY:aK:=(ax (qg (ay gu 2 (ae (af 0) (ae (af 1) ag))))
  (ax (aT 2 (ay fA 2 (ae (af 0) (ae (bG (ae (gC (.int (0))) (ae (gC (.int (0))) ag))) ag))))
  (ax (aT 3 (ay dN 1 (ae (af 1) ag)))
  (ax (ib 4 (AG (c7 (ae (gC (.int (0))) ag)) (g2 bD (eQ dX (ae (af 0) ag)) (gC (.int (1))))))
  (ax (fu (MR (bj (bW ja 1 (ae (af 0) ag))) (bj (bW iU 2 (ae (af 1) (ae (af 3) ag))))) (iR 2 (cD (aP 5) (cD (aP 6) jf)))
   (fu (dz (bj (bW jV 2 (ae (g2 a9 (af 5) (gC (.int (0)))) (ae (g2 a9 (af 5) (gC (.int (1)))) ag))))) (iR 2 (cD (aP 7) (cD (aP 8) jf)))
   (uL 4 (λi j=>i + j) (af 7) (g2 cw (g2 cw (af 6) (xK (af 2) (af 5))) (g2 a9 (af 8) (gC (.int (0))))))))
  (bQ (bj (bW nH 1 (ae (bj (f9 (bz (af 4)) [3] (ay ly 2 (ae (af 0) (ae (af 1) ag))))) ag)))))))))
def kT:List D->dJ:=jh 9 rY
theorem Ux (a0 a1:D):kT [a0,a1]=(rY [some a0,some a1,none,none,none,none,none,none,none]).bind jg:=rfl
abbrev lA:aK:=(ax (jP (ay jr 2 (ae (af 0) (ae (af 1) ag))))
  (bQ (bj (bW kT 2 (ae (af 0) (ae (bj (f9 (bz (bj (bW ja 1 (ae (af 0) ag)))) [1] (Ii (gB (g2 (rJ false) (af 0) (af 1))) (gC (.tuple [(.int (1)),(.int (1))])) (gC (.tuple [(.int (0)),(.int (1))]))))) ag))))))
def jW:List D->Option D:=df 2 lA
theorem Bg (a0 a1:D):jW [a0,a1]=(lA [some a0,some a1]).bind du:=rfl
abbrev g0:aK:=(fW (nX (nW (ka (ay dh 2 (ae (gC (.tuple [(.int (0)),(.int (1))])) (ae (af 0) ag)))) (nW (ka (ay dh 2 (ae (af 0) (ae (af 1) ag)))) (ka (ay dh 2 (ae (af 1) (ae (gC (.tuple [(.int (1)),(.int (1))])) ag))))))) (oT "NoShares") bP)
def eF:List D->Option D:=df 2 g0
theorem tP (a0 a1:D):eF [a0,a1]=(g0 [some a0,some a1]).bind du:=rfl
abbrev g4:aK:=(fW (nX (nW (ka (ay dh 2 (ae (gC (.tuple [(.int (0)),(.int (1))])) (ae (af 0) ag)))) (nW (ka (ay dh 2 (ae (af 0) (ae (af 1) ag)))) (ka (ay dh 2 (ae (af 1) (ae (gC (.tuple [(.int (1)),(.int (1))])) ag))))))) (λ_=>none) bP)
def g5:List D->Option D:=df 2 g4
theorem vJ (a0 a1:D):g5 [a0,a1]=(g4 [some a0,some a1]).bind du:=rfl
abbrev y9:aK:=(ax (aT 2 (ay qE 2 (ae (af 1) (ae (g2 a9 (af 0) (gC (.int (0)))) ag))))
  (ax (aT 3 (ay qE 2 (ae (ay ue 2 (ae (gC (.tuple [(.int (1)),(.int (1))])) (ae (af 1) ag))) (ae (g2 a9 (af 0) (gC (.int (1)))) ag))))
  (bQ (bG (ae (g2 cw (g2 a9 (af 2) (gC (.int (0)))) (g2 a9 (af 3) (gC (.int (0))))) (ae (g2 cw (g2 a9 (af 2) (gC (.int (1)))) (g2 a9 (af 3) (gC (.int (1))))) ag))))))
def jt:List D->Option D:=df 4 y9
theorem NK (a0 a1:D):jt [a0,a1]=(y9 [some a0,some a1,none,none]).bind du:=rfl
abbrev uf:aK:=(ax (jP (ay eF 2 (ae (af 1) (ae (af 2) ag))))
  (bQ (ay rS 2 (ae (ay jt 2 (ae (af 0) (ae (af 2) ag))) (ae (ay jt 2 (ae (af 0) (ae (af 1) ag))) ag)))))
def qF:List D->Option D:=df 3 uf
theorem JR (a0 a1 a2:D):qF [a0,a1,a2]=(uf [some a0,some a1,some a2]).bind du:=rfl
abbrev za:aK:=(ax (qg (ay g5 2 (ae (af 1) (ae (af 2) ag))))
  (bQ (ay rS 2 (ae (ay jt 2 (ae (af 0) (ae (af 2) ag))) (ae (ay jt 2 (ae (af 0) (ae (af 1) ag))) ag)))))
def ug:List D->Option D:=df 3 za
theorem XX (a0 a1 a2:D):ug [a0,a1,a2]=(za [some a0,some a1,some a2]).bind du:=rfl
abbrev gD:aK:=(ax (aT 1 (bj (f9 (bz (af 0)) [] (g2 a9 (af 0) (gC (.int (1)))))))
  (ax (aT 2 (bj (bW iU 2 (ae (af 1) (ae (ay dN 1 (ae (af 1) ag)) ag)))))
  (ax (aT 3 (bj (vA (Na (ae (eQ dX (ae (af 0) ag)) ag)) [2] (g1 wJ (g2 a9 (af 1) (af 0))))))
  (bQ (bj (f9 (bz (af 3)) [0] (g2 a9 (af 1) (af 0))))))))
def dA:List D->dJ:=jh 4 gD
theorem o3 (a0:D):dA [a0]=(gD [some a0,none,none,none]).bind jg:=rfl
abbrev ju:aK:=(fW (O4 (ka (ay dh 2 (ae (af 0) (ae (gC (.tuple [(.int (0)),(.int (1))])) ag)))) (ka (ay dh 2 (ae (gC (.tuple [(.int (1)),(.int (1))])) (ae (af 0) ag))))) (oT "NoShares") bP)
def fM:List D->Option D:=df 1 ju
theorem wR (a0:D):fM [a0]=(ju [some a0]).bind du:=rfl
abbrev qG:aK:=(fW (O4 (ka (ay dh 2 (ae (af 0) (ae (gC (.tuple [(.int (0)),(.int (1))])) ag)))) (ka (ay dh 2 (ae (gC (.tuple [(.int (1)),(.int (1))])) (ae (af 0) ag))))) (λ_=>none) bP)
def zb:List D->Option D:=df 1 qG
abbrev o6:aK:=(bQ (bj (vA (M9 (af 0)) [] (bG (ae (g2 bD (g2 a9 (af 0) (gC (.int (0)))) (g2 a9 (af 0) (gC (.int (1))))) (ae (g2 a9 (af 0) (gC (.int (0)))) ag))))))
def iz:List D->dJ:=jh 1 o6
theorem SR (a0:D):iz [a0]=(o6 [some a0]).bind jg:=rfl
abbrev zc:aK:=(ax (ib 2 (c7 ag))
  (ax (aT 3 (gC (.tuple [(.int (0)),(.int (1))])))
  (ax (aT 4 (gC (.tuple [(.int (0)),(.int (1))])))
  (ax (fu (bz (af 0)) (iR 4 (cD (aP 5) (cD (aP 6) (cD (aP 7) (cD (aP 8) jf)))))
   (ax (aT 9 (ay oX 2 (ae (af 3) (ae (af 7) ag))))
  (ax (fW (ka (ay dh 2 (ae (af 1) (ae (af 9) ag)))) (bQ (bG (ae (bj (iS iz 1 (ae (af 2) ag))) (ae (af 6) (ae (af 3) (ae (af 4) ag)))))) bP)
  (ax (tF 2 (af 5))
  (ax (aT 3 (af 9))
  (aT 4 (ay oX 2 (ae (af 4) (ae (af 8) ag)))))))))
  (bQ (bG (ae (bj (iS iz 1 (ae (af 2) ag))) (ae (gC (.tuple [(.int (0)),(.int (1))])) (ae (af 3) (ae (af 4) ag))))))))))
def lB:List D->Option D:=df 10 zc
theorem XY (a0 a1:D):lB [a0,a1]=(zc [some a0,some a1,none,none,none,none,none,none,none,none]).bind du:=rfl
abbrev eU:aK:=(ax (jP (ay eF 2 (ae (af 1) (ae (af 2) ag))))
  (ax (jP (ay fM 1 (ae (af 3) ag)))
  (ax (aT 4 (ay fA 2 (ae (af 0) (ae (bG (ae (gC (.int (0))) (ae (gC (.int (0))) ag))) ag))))
  (ax (ib 5 (c7 ag))
  (ax (fu (bz (bj (bW ja 1 (ae (af 0) ag)))) (aP 6)
   (ax (aT 7 (bG (ae (xK (af 4) (af 6)) (ae (gC (.int (1))) ag))))
  (tF 5 (bG (ae (af 6) (ae (ay ug 3 (ae (af 6) (ae (af 1) (ae (af 2) ag)))) (ae (ay nG 2 (ae (af 7) (ae (ay jt 2 (ae (af 6) (ae (af 1) ag))) ag))) (ae (ay nG 2 (ae (af 7) (ae (ay jt 2 (ae (af 6) (ae (af 2) ag))) ag))) ag))))))))
  (bQ (ay lB 2 (ae (bj (iS dA 1 (ae (af 5) ag))) (ae (af 3) ag)))))))))
def dO:List D->Option D:=df 8 eU
theorem kU (a0 a1 a2 a3:D):dO [a0,a1,a2,a3]=(eU [some a0,some a1,some a2,some a3,none,none,none,none]).bind du:=rfl
abbrev g6:aK:=(fW (nX (gB (ir ym ym (eQ dX (ae (af 0) ag)) (af 1) (gC (.int (200)))))) (oT "NoLot") bP)
def jv:List D->Option D:=df 2 g6
theorem wU (a0 a1:D):jv [a0,a1]=(g6 [some a0,some a1]).bind du:=rfl
abbrev jw:aK:=(fW (nX (gB (ir ym ym (eQ dX (ae (af 0) ag)) (af 1) (gC (.int (200)))))) (λ_=>none) bP)
def jx:List D->Option D:=df 2 jw
theorem zd (a0 a1:D):jx [a0,a1]=(jw [some a0,some a1]).bind du:=rfl
abbrev kq:aK:=(ax (qg (ay jx 2 (ae (af 0) (ae (af 1) ag))))
  (fW (nX (gB (ir ym ym (gC (.int (0))) (af 2) (af 1)))) (λ_=>none) bP))
def kr:List D->Option D:=df 3 kq
theorem Bh (a0 a1 a2:D):kr [a0,a1,a2]=(kq [some a0,some a1,some a2]).bind du:=rfl
abbrev rZ:aK:=(ax (aT 2 (gC (.int (1))))
  (ax (fu (iI (ae (af 1) ag)) (aP 3)
   (aT 2 (g2 cw (af 2) (g2 gz (af 0) (af 3)))))
  (bQ (af 2))))
def jG:List D->Option D:=df 4 rZ
theorem GA (a0 a1:D):jG [a0,a1]=(rZ [some a0,some a1,none,none]).bind du:=rfl
abbrev r8:aK:=(bQ (g2 cw (ay jG 2 (ae (af 2) (ae (g2 a9 (af 0) (gC (.int (0)))) ag))) (ay jG 2 (ae (g2 gz (af 1) (af 2)) (ae (g2 a9 (af 0) (gC (.int (1)))) ag)))))
def nJ:List D->Option D:=df 3 r8
theorem GB (a0 a1 a2:D):nJ [a0,a1,a2]=(r8 [some a0,some a1,some a2]).bind du:=rfl
abbrev o7:aK:=(ax (qg (ay kr 3 (ae (af 0) (ae (af 2) (ae (af 3) ag)))))
  (ax (qg (ay js 2 (ae (af 0) (ae (bj (c7 (ae (af 1) ag))) ag))))
  (bQ (ay ly 2 (ae (g2 cw (ay nI 2 (ae (af 0) (ae (af 1) ag))) (ay nJ 3 (ae (af 1) (ae (af 2) (ae (af 3) ag))))) (ae (ay jG 2 (ae (af 2) (ae (g2 bD (g2 a9 (af 1) (gC (.int (0)))) (g2 a9 (af 1) (gC (.int (1))))) ag))) ag))))))
def jX:List D->Option D:=df 4 o7
theorem SS (a0 a1 a2 a3:D):jX [a0,a1,a2,a3]=(o7 [some a0,some a1,some a2,some a3]).bind du:=rfl
abbrev iA:aK:=(ax (jP (ay jv 2 (ae (af 0) (ae (af 1) ag))))
  (ax (fW (nX (gB (kl ym uI ym (gC (.int (0))) (af 2) (af 3) (af 1)))) (oT "NoShares") bP)
  (ax (jP (ay fM 1 (ae (af 4) ag)))
  (ax (ib 5 (c7 ag))
  (ax (ib 6 (c7 ag))
  (ax (fu (bz (bj (bW ja 1 (ae (af 0) ag)))) (aP 7)
   (ax (aT 8 (ay jX 4 (ae (af 0) (ae (af 7) (ae (af 1) (ae (af 2) ag))))))
  (ax (aT 9 (ay jX 4 (ae (af 0) (ae (af 7) (ae (af 1) (ae (af 3) ag))))))
  (fW (gB (g2 AF (af 8) (gC (.tuple [(.int (0)),(.int (1))])))) (tF 6 (bG (ae (af 7) (ae (ay rS 2 (ae (af 9) (ae (af 8) ag))) (ae (af 8) (ae (af 9) ag)))))) (fW (gB (g2 AF (af 9) (gC (.tuple [(.int (0)),(.int (1))])))) (tF 5 (bG (ae (af 7) (ae (gC (.tuple [(.int (0)),(.int (1))])) (ae (af 8) (ae (af 9) ag)))))) bP)))))
  (bQ (ay lB 2 (ae (bj (Lo yn (af 5) (bj (iS dA 1 (ae (af 6) ag))))) (ae (af 4) ag))))))))))
def iB:List D->Option D:=df 10 iA
theorem ku (a0 a1 a2 a3 a4:D):iB [a0,a1,a2,a3,a4]=(iA [some a0,some a1,some a2,some a3,some a4,none,none,none,none,none]).bind du:=rfl
abbrev o8:aK:=(ax (fW (gB (g2 uI (af 1) (eQ dX (ae (af 0) ag)))) (bQ (g2 a9 (af 0) (af 1))) bP)
  (bQ (gC (.int (0)))))
def iC:List D->Option D:=df 2 o8
theorem Dj (a0 a1:D):iC [a0,a1]=(o8 [some a0,some a1]).bind du:=rfl
abbrev lC:aK:=(ax (ib 3 (c7 ag))
  (ax (fu (iI (ae (af 2) ag)) (aP 4)
   (ax (tF 3 (g2 da (af 0) (af 1)))
  (aT 0 (g2 fY (af 0) (af 1)))))
  (bQ (af 3))))
def fN:List D->dJ:=jh 5 lC
theorem ze (a0 a1 a2:D):fN [a0,a1,a2]=(lC [some a0,some a1,some a2,none,none]).bind jg:=rfl
abbrev mP:aK:=(ax (ib 3 (c7 ag))
  (ax (fu (iI (ae (af 2) ag)) (aP 4)
   (ax (aT 5 (g2 da (g2 bD (g2 bD (g2 cw (g2 da (af 0) (gC (.int (1000003)))) (gC (.int (48271)))) (g2 cw (g2 cw (af 4) (af 4)) (gC (.int (69621))))) (g2 cw (af 4) (gC (.int (16807))))) (gC (.int (2147483647)))))
  (tF 3 (g2 da (g2 fY (g2 da (g2 bD (g2 cw (af 5) (gC (.int (39373)))) (af 0)) (gC (.int (2147483629)))) (gC (.int (13)))) (af 1)))))
  (bQ (af 3))))
def iV:List D->dJ:=jh 6 mP
theorem Bi (a0 a1 a2:D):iV [a0,a1,a2]=(mP [some a0,some a1,some a2,none,none,none]).bind jg:=rfl
abbrev o9:aK:=(ax (aT 2 (g2 fY (af 0) (gC (.int (4)))))
  (ax (aT 3 (g2 bD (gC (.int (100))) (g2 cw (gC (.int (200))) (eQ qe (ae (g2 AE (af 1) (gC (.int (12)))) ag)))))
  (ax (aT 4 (bj (bW iV 3 (ae (af 2) (ae (gC (.int (3))) (ae (af 3) ag))))))
  (ax (fW (gB (g2 Xv (eQ oN (ae (af 0) ag)) (g2 uH (gC (.int (10))) (gC (.int (18)))))) (aT 4 (bj (bW fN 3 (ae (af 2) (ae (gC (.int (3))) (ae (af 3) ag)))))) bP)
  (ax (ib 5 (c7 (ae (bG (ae (gC (.int (0))) ag)) ag)))
  (ax (aT 6 (bj (c7 (ae (gC (.int (0))) (ae (gC (.int (1))) ag)))))
  (ax (aT 7 (gC (.int (0))))
  (ax (il (nW (gB (g2 uI (eQ dX (ae (af 5) ag)) (af 1))) (gB (g2 AE (eQ dX (ae (af 6) ag)) (gC (.int (0)))))) (ax (aT 8 (bj (d9 (dz (af 6)) 2 [4,3,7] (iR 2 (cD (aP 0) (cD (aP 1) jf))) (gB (g2 AE (g2 a9 (af 2) (g2 da (g2 bD (af 4) (af 0)) (af 3))) (gC (.int (0))))) (af 1))))
  (ax (aT 7 (g2 bD (af 7) (eQ dX (ae (af 6) ag))))
  (ax (fW (gB (g2 AE (g2 da (af 0) (gC (.int (4)))) (gC (.int (1))))) (aT 8 (bj (Im (af 6) (oi (g2 a9 (af 4) (g2 da (af 7) (af 3)))) (oi (eQ uK (ae (gC (.int (0))) (ae (g2 gz (eQ dX (ae (af 6) ag)) (g2 a9 (af 4) (g2 da (g2 bD (af 7) (gC (.int (1)))) (af 3)))) ag))))))) bP)
  (ax (aT 6 (bj (RX (bj (Lo yn (af 8) (bj (f9 (bz (af 8)) [] (g2 bD (af 0) (gC (.int (1)))))))))))
  (fW (gB (g2 AE (eQ dX (ae (af 8) ag)) (gC (.int (0))))) (tF 5 (eQ mD (ae (af 8) ag))) bP))))))
  (bQ (eQ mD (ae (af 5) ag)))))))))))
def lD:List D->Option D:=df 9 o9
theorem SU (a0 a1:D):lD [a0,a1]=(o9 [some a0,some a1,none,none,none,none,none,none,none]).bind du:=rfl
abbrev pe:aK:=(ax (ib 1 (c7 ag))
  (ax (fu (t4 (ae (gC (.int (1))) (ae (g2 bD (eQ dX (ae (af 0) ag)) (gC (.int (1)))) ag))) (aP 2)
   (ax (aT 3 (bG ag))
  (ax (fW (gB (g2 uI (af 2) (eQ dX (ae (af 0) ag)))) (aT 3 (g2 a9 (af 0) (af 2))) bP)
  (ax (aT 4 (bj (RX (bj (Lo yn (bj (tD kD (ae (g2 a9 (af 0) (g2 gz (af 2) (gC (.int (1))))) ag))) (bj (f9 (bz (g2 a9 (af 0) (g2 gz (af 2) (gC (.int (1)))))) [] (g2 bD (af 0) (gC (.int (1)))))))))))
  (FW 1 (d9 (bz (af 4)) 1 [2,3] (aP 0) (gB (g2 yw (af 0) (af 2))) (bG (ae (af 0) (ae (g2 gz (af 1) (af 0)) ag)))))))))
  (bQ (af 1))))
def iD:List D->dJ:=jh 5 pe
theorem Dk (a0:D):iD [a0]=(pe [some a0,none,none,none,none]).bind jg:=rfl
abbrev kF:aK:=(ax (il (gB (g2 AF (af 1) (gC (.int (0))))) (MB 0 1 (ae (af 1) (ae (g2 da (af 0) (af 1)) ag))))
  (bQ (eQ oN (ae (af 0) ag))))
def iO:List D->Option D:=df 2 kF
theorem wV (a0 a1:D):iO [a0,a1]=(kF [some a0,some a1]).bind du:=rfl
abbrev pf:aK:=(ax (aT 2 (ay iO 2 (ae (af 0) (ae (af 1) ag))))
  (bQ (bG (ae (g2 fY (af 0) (af 2)) (ae (g2 fY (af 1) (af 2)) ag)))))
def iE:List D->Option D:=df 3 pf
theorem Dl (a0 a1:D):iE [a0,a1]=(pf [some a0,some a1,none]).bind du:=rfl
abbrev vK (y:Addr):aK:=(ax (aT 1 (gC (.str "")))
  (ax (fW (ka (xR tf "NoLot" (af 0))) (aT 1 (g2 bD (af 1) (gC (.str "lot")))) bP)
  (ax (fW (ka (xR tf "NoEnd" (af 0))) (aT 1 (g2 bD (af 1) (gC (.str "end")))) bP)
  (ax (fW (ka (xR tf "NoShares" (af 0))) (aT 1 (g2 bD (af 1) (gC (.str "shares")))) bP)
  (ax (fW (O4 (ka (JE tf "NoNumber" "NoPlan" "NoTelling" (af 0))) (nX (ka (xR tf "ValueError" (af 0))))) (aT 1 (g2 bD (af 1) (gC (.str "other")))) bP)
  (bQ (af 1)))))))
def lE (y:Addr):List D->Option D:=df 2 (vK y)
def l8 (c:Str):D:=if c="NoLot" then .str "lot" else if c="NoEnd" then .str "end" else .str "shares"
theorem SV (a:Addr) (c:Str) (hc:c∈tf):lE a [Ur a c]=some (l8 c):=by
 rcases aaG.mp hc with rfl | hc
 .kernel_rfl
 rcases aaG.mp hc with rfl | hc
 .kernel_rfl
 rcases aaG.mp hc with rfl | hc
 .kernel_rfl
 cases hc
abbrev qH (a:Addr):aK:=(bQ (ay (lE a) 1 (ae (af 4) ag)))
theorem wW (a:Addr) (c:Str) (d:D) (h:jQ tf l8 c=some d):qH a ((List.replicate 5 none).set 4 (some (Ur a c)))=some (.rt d):=by
 obtain ⟨hc,rfl⟩:=sX h
 exact Ng rfl (SV a c hc)
abbrev lF:aK:=(ax (yS (fW (gB (g2 oK (af 0) (gC (.int (0))))) (qv 3 (ay jW 2 (ae (af 1) (ae (bj (tD kD (ae (g2 a9 (af 2) (gC (.int (0)))) ag))) ag)))) (fW (gB (g2 oK (af 0) (gC (.int (1))))) (qv 3 (ay qF 3 (ae (g2 a9 (af 2) (gC (.int (1)))) (ae (g2 a9 (af 2) (gC (.int (2)))) (ae (g2 a9 (af 2) (gC (.int (3)))) ag))))) (fW (gB (g2 oK (af 0) (gC (.int (2))))) (qv 3 (ay dO 4 (ae (af 1) (ae (g2 a9 (af 2) (gC (.int (2)))) (ae (g2 a9 (af 2) (gC (.int (3)))) (ae (g2 a9 (af 2) (gC (.int (4)))) ag)))))) (qv 3 (ay iB 5 (ae (af 1) (ae (g2 a9 (af 2) (gC (.int (5)))) (ae (g2 a9 (af 2) (gC (.int (6)))) (ae (g2 a9 (af 2) (gC (.int (7)))) (ae (g2 a9 (af 2) (gC (.int (4)))) ag)))))))))) (jQ tf l8))
  (ax (fW (gB (g2 oK (af 0) (gC (.int (0))))) (bQ (g2 a9 (bj (c7 (ae (gC (.str "none")) (ae (gC (.str "")) ag)))) (eQ qe (ae (yr "list" (af 3)) ag)))) bP)
  (bQ (g2 a9 (bj (c7 (ae (gC (.str "none")) (ae (gC (.str "")) ag)))) (eQ qe (ae (kg (yr "tuple" (af 3)) (g2 oK (eQ dX (ae (af 3) ag)) (g2 a9 (bj (c7 (ae (gC (.int (2))) (ae (gC (.int (4))) (ae (gC (.int (4))) ag))))) (g2 gz (af 0) (gC (.int (1))))))) ag))))))
def g7:List D->Option D:=df 5 lF
theorem NL (a0 a1 a2:D):g7 [a0,a1,a2]=(lF [some a0,some a1,some a2,none,none]).bind du:=rfl
abbrev mQ:aK:=(bQ (g2 uI (g2 cw (g2 a9 (af 0) (gC (.int (0)))) (g2 a9 (af 1) (gC (.int (1))))) (g2 cw (g2 a9 (af 1) (gC (.int (0)))) (g2 a9 (af 0) (gC (.int (1)))))))
def eI:List D->Option D:=df 2 mQ
theorem Px (a0 a1:D):eI [a0,a1]=(mQ [some a0,some a1]).bind du:=rfl
abbrev r9:aK:=(ax (fW (gB (g2 oK (af 0) (gC (.int (0))))) (ax (aT 3 (bj (bW iD 1 (ae (af 1) ag))))
  (bQ (g2 a9 (bj (c7 (ae (gC (.str "")) (ae (gC (.str "end")) ag)))) (eQ qe (ae (g2 AE (eQ dX (ae (bj (d9 (bz (g2 a9 (af 2) (gC (.int (0))))) 1 [3] (aP 0) (gB (g2 (rJ true) (af 0) (af 1))) (af 0))) ag)) (gC (.int (0)))) ag))))) bP)
  (ax (aT 4 (kg (g1 Mt (ay eI 2 (ae (g2 a9 (af 2) (gC (.int (4)))) (ae (bG (ae (gC (.int (0))) (ae (gC (.int (1))) ag))) ag)))) (g1 Mt (ay eI 2 (ae (bG (ae (gC (.int (1))) (ae (gC (.int (1))) ag))) (ae (g2 a9 (af 2) (gC (.int (4)))) ag))))))
  (ax (fW (gB (g2 uI (af 0) (gC (.int (3))))) (ax (aT 5 (kg (ay eI 2 (ae (bG (ae (gC (.int (0))) (ae (gC (.int (1))) ag))) (ae (g2 a9 (af 2) (gC (.int (2)))) ag))) (kg (ay eI 2 (ae (g2 a9 (af 2) (gC (.int (2)))) (ae (g2 a9 (af 2) (gC (.int (3)))) ag))) (ay eI 2 (ae (g2 a9 (af 2) (gC (.int (3)))) (ae (bG (ae (gC (.int (1))) (ae (gC (.int (1))) ag))) ag))))))
  (bQ (g2 a9 (bj (c7 (ae (gC (.str "shares")) (ae (gC (.str "")) ag)))) (eQ qe (ae (kg (af 5) (Ih (af 4) (g2 oK (af 0) (gC (.int (1)))))) ag))))) bP)
  (ax (fW (O4 (gB (g2 uI (g2 a9 (af 2) (gC (.int (5)))) (eQ dX (ae (af 1) ag)))) (gB (g2 AE (g2 a9 (af 2) (gC (.int (5)))) (gC (.int (200)))))) (bQ (gC (.str "lot"))) bP)
  (bQ (g2 a9 (bj (c7 (ae (gC (.str "shares")) (ae (gC (.str "")) ag)))) (eQ qe (ae (kg (kl ym uI ym (gC (.int (0))) (g2 a9 (af 2) (gC (.int (6)))) (g2 a9 (af 2) (gC (.int (7)))) (g2 a9 (af 2) (gC (.int (5))))) (af 4)) ag))))))))
def kW:List D->Option D:=df 6 r9
theorem Uy (a0 a1 a2:D):kW [a0,a1,a2]=(r9 [some a0,some a1,some a2,none,none,none]).bind du:=rfl
abbrev ph:aK:=(ax (aT 2 (bj (bW iD 1 (ae (af 0) ag))))
  (ax (aT 3 (bj (bW iV 3 (ae (g2 fY (af 1) (gC (.int (4)))) (ae (gC (.int (2))) (ae (gC (.int (40))) ag))))))
  (ax (fW (gB (g2 Xv (eQ oN (ae (af 1) ag)) (g2 uH (gC (.int (10))) (gC (.int (18)))))) (aT 3 (bj (bW fN 3 (ae (g2 fY (af 1) (gC (.int (4)))) (ae (gC (.int (2))) (ae (gC (.int (40))) ag)))))) bP)
  (ax (ib 4 (d9 (dz (af 2)) 2 [3] (iR 2 (cD (aP 0) (cD (aP 1) jf))) (gB (g2 oK (g2 a9 (af 2) (g2 da (af 0) (gC (.int (40))))) (gC (.int (1))))) (af 1)))
  (ax (fW (gB (g2 uI (g2 da (af 1) (gC (.int (4)))) (gC (.int (2))))) (ax (aT 5 (g2 da (g2 fY (af 1) (gC (.int (7)))) (eQ dX (ae (af 0) ag))))
  (ax (aT 6 (g2 a9 (g2 a9 (af 0) (af 5)) (g2 da (g2 fY (af 1) (gC (.int (9)))) (eQ dX (ae (g2 a9 (af 0) (af 5)) ag)))))
  (ax (aT 7 (g2 a9 (bj (c7 (ae (bG (ae (af 6) (ae (g2 gz (af 5) (af 6)) ag))) (ae (bG (ae (g2 bD (g2 a9 (g2 a9 (af 2) (gC (.int (0)))) (gC (.int (0)))) (gC (.int (1)))) (ae (g2 bD (g2 a9 (g2 a9 (af 2) (gC (.int (0)))) (gC (.int (1)))) (gC (.int (25)))) ag))) ag)))) (g2 da (af 1) (gC (.int (2))))))
  (MT 4 (g2 da (g2 fY (af 1) (gC (.int (5)))) (g2 bD (eQ dX (ae (af 4) ag)) (gC (.int (1))))) (af 7))))) bP)
  (bQ (af 4)))))))
def jY:List D->dJ:=jh 8 ph
theorem Dm (a0 a1:D):jY [a0,a1]=(ph [some a0,some a1,none,none,none,none,none,none]).bind jg:=rfl
abbrev pj:aK:=(ax (aT 3 (g2 a9 (bj (c7 (ae (g2 bD (gC (.int (1))) (g2 da (af 1) (gC (.int (30))))) (ae (g2 bD (gC (.int (1))) (g2 da (af 1) (g2 uH (gC (.int (10))) (gC (.int (12)))))) ag)))) (g2 da (g2 fY (af 1) (gC (.int (3)))) (gC (.int (2))))))
  (ax (aT 4 (ay iE 2 (ae (g2 gz (g2 da (af 2) (g2 bD (af 3) (gC (.int (3))))) (gC (.int (1)))) (ae (af 3) ag))))
  (ax (aT 5 (ay iE 2 (ae (g2 gz (g2 da (g2 fY (g2 fY (af 2) (gC (.int (3)))) (g2 bD (af 3) (gC (.int (3))))) (g2 bD (af 3) (gC (.int (3))))) (gC (.int (1)))) (ae (af 3) ag))))
  (ax (fW (gB (g2 oK (g2 da (af 2) (gC (.int (7)))) (gC (.int (3))))) (aT 5 (af 4)) bP)
  (ax (aT 6 (ay iE 2 (ae (g2 a9 (bj (c7 (ae (gC (.int (0))) (ae (gC (.int (100))) (ae (g2 gz (g2 da (g2 fY (af 2) (gC (.int (11)))) (gC (.int (301)))) (gC (.int (100)))) (ae (g2 da (af 2) (gC (.int (101)))) ag)))))) (g2 da (g2 fY (af 2) (gC (.int (2)))) (gC (.int (4))))) (ae (gC (.int (100))) ag))))
  (ax (aT 7 (g2 bD (eQ dX (ae (af 0) ag)) (g2 da (g2 fY (af 1) (gC (.int (5)))) (gC (.int (20))))))
  (ax (fW (gB (g2 oK (g2 da (g2 fY (af 1) (gC (.int (7)))) (gC (.int (4)))) (gC (.int (1))))) (aT 7 (g2 a9 (bj (c7 (ae (g2 gz (eQ dX (ae (af 0) ag)) (gC (.int (1)))) (ae (gC (.int (201))) (ae (gC (.int (200))) (ae (g1 wJ (g2 da (af 1) (g2 uH (gC (.int (10))) (gC (.int (20)))))) ag)))))) (g2 da (g2 fY (af 1) (gC (.int (28)))) (gC (.int (4)))))) bP)
  (ax (aT 8 (g2 gz (g2 da (g2 fY (af 2) (gC (.int (13)))) (gC (.int (24)))) (gC (.int (1)))))
  (ax (aT 9 (g2 gz (g2 bD (af 8) (g2 da (g2 fY (af 2) (gC (.int (312)))) (gC (.int (12))))) (gC (.int (2)))))
  (bQ (bG (ae (bj (bW jY 2 (ae (af 0) (ae (af 1) ag)))) (ae (bG (ae (g2 da (af 2) (gC (.int (13)))) (ae (g2 da (af 1) (gC (.int (13)))) ag))) (ae (af 4) (ae (af 5) (ae (af 6) (ae (af 7) (ae (af 8) (ae (af 9) ag)))))))))))))))))))
def jZ:List D->Option D:=df 10 pj
theorem SW (a0 a1 a2:D):jZ [a0,a1,a2]=(pj [some a0,some a1,some a2,none,none,none,none,none,none,none]).bind du:=rfl
abbrev JS:aK:=(ax (fu (iI (ae (eQ uK (ae (gC (.int (1))) (ae (eQ Em (ae (gC (.int (10))) (ae (eQ dX (ae (af 0) ag)) ag))) ag))) ag)) (aP 1)
   (ax (aT 2 (ay iC 2 (ae (af 0) (ae (af 1) ag))))
  (ax (aT 3 (ay lD 2 (ae (af 2) (ae (g2 bD (gC (.int (1))) (g2 da (g2 fY (af 2) (gC (.int (3)))) (gC (.int (7))))) ag))))
  (ax (aT 4 (ay jZ 3 (ae (af 3) (ae (ay iC 2 (ae (af 0) (ae (g2 bD (af 1) (gC (.int (1)))) ag))) (ae (ay iC 2 (ae (af 0) (ae (g2 bD (af 1) (gC (.int (2)))) ag))) ag)))))
  (fu (iI (ae (gC (.int (4))) ag)) (aP 5)
   (fW (gB (g2 AF (ay g7 3 (ae (af 5) (ae (af 3) (ae (af 4) ag)))) (ay kW 3 (ae (af 5) (ae (af 3) (ae (af 4) ag)))))) (bQ (gC (.bool false))) bP))))))
  (bQ (gC (.bool true))))
def xU:List D->Option D:=df 6 JS
theorem abw (a0:D):xU [a0]=(JS [some a0,none,none,none,none,none]).bind du:=rfl
end az
open L2
local macro_rules | `(tactic| walk_at "pu")=>`(tactic| simp only [ax,bP,fW,aT,ib,bQ,qg,YR,af,gC,bj,g2,Lo,g1,gB,nX,nW,O4,kg,Ih,Ii,ka,Vw,ae,ag,bG,c7,ay,bW,Mu,iS,eQ,tD,MB,tF,Mz,RD,VA,fu,bz,FX,Im,oi,My,ir,yr,aP,iR,cD,jf,gU,xu,az.ls,az.oV,az.JO,az.NC,az.E2,az.Ws,az.Wt,az.fU,az.eP,az.ND,az.NF,oN,uK,Em,qe,kD,mD,wJ,Mt,az.Nv,az.Nw,az.Ny,az.Nz,az.NA,az.NB,az.rR,az.yX,az.jT,az.yY,du,jg,AK,Mo,uD,
 aaM,aaT,adk,aeb,aaY,aeK,aa2,aac,acS,aa0,List.length_nil,Option.bind_none,if_true,if_false,abo,aci,abA,Bool.not_true,Bool.not_false,reduceIte,Nat.reduceAdd,Nat.reduceLeDiff,Nat.reduceEqDiff,acR,Bool.and_true,Bool.and_self,acG,Bool.and_false,Bool.or_false,Bool.or_true,Bool.false_or,Bool.true_or])
namespace az
open PySem L2 Q1
theorem pk (ns:List Int) (k:Nat):iC [.list (ns.map .int),.int k]=some (.int (ns.getD k 0)):=by
 rw [Dj]
 simp only [ax,fW,gB,g2,af,aaT,aaM,aa2,eQ,ae,ag,aac,ls,xu,bQ,E2,abo]
 rw [aax,aaJ]
 by_cases h:k < ns.length
 .rw [aaL (by lia),eM (v:=.int ns[k]) (by rw [aaU,aad h]; rfl),aad h]
  rfl
 .rw [aaO (by lia),abW (by lia)]
  rfl
theorem wX (a b:Int) (hb:0<=b):iO [.int a,.int b]=some (.int (Int.gcd a b:Nat)):=by
 rw [wV]
 refine aV ?_
 refine nD (λm δ=>∃ x:Int,δ=[sI x,sI (m:Nat)] /\ Int.gcd x (m:Int)=Int.gcd a b) (λδ=>∃ x:Int,δ=[sI x,sI 0] /\ x.natAbs=Int.gcd a b) b.toNat ?_ ?_ ?_
 .grind
 .rintro m δ ⟨x,rfl,hg⟩
  by_cases hm:m=0
  .subst hm
   exact .inl ⟨by simp; rfl,x,rfl,by simpa using hg⟩
  .have h1:0<=x % (m:Int):=abL _ (by lia)
   have h2:x % (m:Int) < m:=abr _ (by lia)
   refine .inr ⟨by simp only [gB,g2,af,aaT,aaM,aa2,gC,aac,yY]; simp; lia,[sI m,sI (x % (m:Int))],(x % (m:Int)).toNat,by simp only [MB,ae,af,aaT,aaM,aa2,g2,aac]; rw [cY (by lia)]; rfl,by lia,m,by rw [Int.toNat_of_nonneg h1],?_⟩
   rw [Int.toNat_of_nonneg h1,JH,hg]
 .rintro δ' ⟨x,rfl,h2⟩
  exact ret _ (by simp only [eQ,ae,af,aaM,aa2,ag,aac,oN]; rw [yV,h2]) (.mk rfl rfl)
theorem pq (t b:Int) (hb:1<=b) (ZW:bt b<=9000):iE [.int t,.int b]=some (dF (aE t b)):=by
 rw [Dl]
 refine aV ?_
 have RR:b≠0:=by lia
 have hg:0 < Int.gcd t b:=acT _ RR
 have LB:bt ((Int.gcd t b:Nat):Int)<=9000:=by
  refine ff ?_ ZW
  have:(Int.gcd t b) ∣ b.natAbs:=ady _ _
  have:=ade (by lia) this
  lia
 have e:dv t b=(Int.gcd t b:Int):=by unfold dv; rw [if_neg (by lia)]
 refine aI [sI t,sI b,sI (Int.gcd t b:Nat)] (by walk_at "pu"; rw [wX t b (by lia)]; rfl) (ret (dF (aE t b)) ?_ (.mk rfl rfl))
 walk_at "pu"
 rw [yW (by lia) LB,yW (by lia) LB,<- e]
 rfl
def dR (r:List Int):D:=.tuple (r.map .int)
def bw (p:d6):D:=.tuple (p.map dR)
def wY (l:List Int):Prop:=l.Pairwise (· < ·)
def led (r:List Int):List Int:=ss (r ++ r.map (· + 1))
def Nx (r s:List Int):Prop:=s≠[] /\ wY s /\ ∀ x∈s,x∈led r
def LC:List Int->List (List Int)->Prop
 | _,[]=>True
 | r,s :: q=>Nx r s /\ LC s q
def lst:List Int->List (List Int)->List Int
 | r,[]=>r
 | _,s :: q=>lst s q
theorem Bj:∀ {q:d6} {r:List Int},LC r q->Nx (lst r q) s->LC r (q ++ [s])
 | [],_,_,h=>⟨h,trivial⟩
 | _ :: _,_,h1,h2=>⟨h1.1,Bj h1.2 h2⟩
theorem lst_snoc:∀ {q:d6} {r:List Int},lst r (q ++ [s])=s
 | [],_=>rfl
 | _ :: q,_=>lst_snoc (q:=q)
structure Pl (p:d6):Prop where
 ex:∃ q,p=[0] :: q /\ LC [0] q
theorem kx:x∈led r↔x∈r \/ x - 1∈r:=by
 unfold led
 rw [Cz,abd,aa3]
 constructor
 .grind
 .grind
theorem Bk:∀ {l:List Int} {a b:Int},wY l->(∀ x∈l,a<=x /\ x<=b)->(l.length:Int)<=max 0 (b - a + 1)
 | [],a,b,_,_=>by simp; lia
 | x :: l,a,b,h,hb=>by
   obtain ⟨h1,h2⟩:=abE.mp h
   have hx:=hb x aaD
   have:=Bk (l:=l) (a:=x + 1) (b:=b) h2 λy hy=>⟨by have:=h1 y hy; lia,(hb y (aaE _ hy)).2⟩
   rw [aa0]
   lia
theorem mR (h1:af i δ=some (.list ds)) (h2:g δ=some d) (h3:ds.length < 100000):tF i g δ=some (.nx (δ.set i (some (.list (ds ++ [d]))))):=by
 unfold tF
 rw [h1,h2]
 show (if ds.length < 100000 then _ else _)=_
 rw [aaL h3]
theorem Wv (h:g δ=some d) (h2:RW d=some (ns.map .int)) (h3:ns.length < 64):RX g δ=some ((ss ns).map .int):=by
 unfold RX
 rw [h,aac,h2,aac,xE,aac,aaL h3]
theorem JT (h1:a δ=some (.list x)) (h2:b δ=some (.list y)) (h3:x.length + y.length<=100000):Lo yn a b δ=some (x ++ y):=by
 unfold Lo
 rw [h1,h2]
 show (if x.length + y.length<=100000 then _ else _)=_
 rw [aaL h3]
theorem oo (x:Bool) (h:c δ=some x) (h1:x=true->a δ=r) (h2:x=false->b δ=r):fW c a b δ=r:=by
 unfold fW
 rw [h]
 cases x with
 | true=>exact h1 rfl
 | false=>exact h2 rfl
theorem JU {α:Type} (enc:α->D) (l:List α) (lo hi:Option Int):∃ m:List α,cutD (l.map enc) lo hi=m.map enc /\ m.Sublist l:=by
 refine ⟨(l.drop (HT.wF l.length 0 lo)).take (HT.wF l.length l.length hi - HT.wF l.length 0 lo),?_,(aek _ _).trans (List.drop_sublist _ _)⟩
 unfold cutD
 rw [aax,List.map_take,List.map_drop]
theorem iW (h:g δ=some ds) (h2:f ds=r):eQ f g δ=r:=by unfold eQ; rw [h]; exact h2
theorem part_of (h:g δ=some (.int i)):oi g δ=some (some i):=by unfold oi; rw [h]; rfl
theorem fO (a b:Int):bD (.int a) (.int b)=some (.int (a + b)):=rfl
theorem Dp (h1:a δ=some (.list (r.map .int))) (h2:b δ=some (.list (r.map .int)) \/ b δ=some (dR r)) (hl:r.length < 32):RX (bj (Lo yn a (bj (f9 (bz b) [] (g2 bD (af 0) (gC (.int 1))))))) δ=some ((led r).map .int):=by
 have hi:bz b δ=some (r.map .int):=by
  unfold bz
  rcases h2 with h2 | h2
  .grind
  .rw [h2]; rfl
 have hc:f9 (bz b) [] (g2 bD (af 0) (gC (.int 1))) δ=some ((r.map (· + 1)).map .int):=ko PyData.int PyData.int (λx=>x + 1) r hi (by lia) (λx _=>rfl)
 have ZX:=JT h1 (aU hc) (by simp; lia)
 refine Wv (aU ZX) ?_ (by simp; lia)
 rw [aba]
 rfl
theorem tj (c b:Int) (n:Nat) (hb:0 < b) (hn:n<=1000):fj (iV [.int c,.int b,.int (n:Nat)]) λds=>∃ l:List Int,ds=l.map .int /\ l.length=n /\ ∀ x∈l,0<=x /\ x < b:=by
 rw [Bi]
 refine aI [sI c,sI b,sI (n:Nat),sL ([]),none,none] rfl ?_
 refine jS 0 n (λi δ=>∃ (l:List Int) (x y:Option D),δ=[sI c,sI b,sI (n:Nat),sL (l.map .int),x,y] /\ l.length=i /\ ∀ x∈l,0<=x /\ x < b) (iy rfl (by lia)) ⟨[],none,none,rfl,rfl,by simp⟩ ?_ ?_
 .rintro i δ hi ⟨l,x,y,rfl,hl,hx⟩
  have m1:cw (.int (c % 1000003)) (.int 48271)=some (.int (c % 1000003 * 48271)):=dM (mul_right (by decide) (by decide))
  have m2:cw (.int (0 + (i:Int))) (.int (0 + (i:Int)))=some (.int ((0 + (i:Int)) * (0 + (i:Int)))):=dM (mul_right (by lia) (by lia))
  have m3:cw (.int ((0 + (i:Int)) * (0 + (i:Int)))) (.int 69621)=some (.int ((0 + (i:Int)) * (0 + (i:Int)) * 69621)):=dM (mul_right (by decide) (by decide))
  have m4:cw (.int (0 + (i:Int))) (.int 16807)=some (.int ((0 + (i:Int)) * 16807)):=dM (mul_right (by decide) (by decide))
  refine ⟨_,[sI c,sI b,sI (n:Nat),sL ((l ++ [_]).map .int),sI (0 + (i:Int)),sI ((c % 1000003 * 48271 + (0 + (i:Int)) * (0 + (i:Int)) * 69621 + (0 + (i:Int)) * 16807) % 2147483647)],rfl,
   bZ [sI c,sI b,sI (n:Nat),sL (l.map .int),sI (0 + (i:Int)),sI ((c % 1000003 * 48271 + (0 + (i:Int)) * (0 + (i:Int)) * 69621 + (0 + (i:Int)) * 16807) % 2147483647)]
    (aJ (ai (ai (ai (ai (ai rfl rfl (cY (by decide))) rfl m1) (ai (ai rfl rfl m2) rfl m3) rfl) (ai rfl rfl m4) rfl) rfl (cY (by decide))))
    ((mR (d:=.int (((c % 1000003 * 48271 + (0 + (i:Int)) * (0 + (i:Int)) * 69621 + (0 + (i:Int)) * 16807) % 2147483647 * 39373 + c) % 2147483629 / 13 % b)) rfl
      (ai (ai (ai (ai (ai rfl rfl (dM (mul_right (by decide) (by decide)))) rfl rfl) rfl (cY (by decide))) rfl (om (by decide) (aY (bY (m:=4) (by decide)) (by decide)))) rfl (cY hb)) (by simp; lia)).trans (by rw [aba]; rfl)),l ++ [_],_,_,rfl,by simp [hl],?_⟩
  intro z hz
  rcases abd.mp hz with q | q
  .grind
  .rw [aec.mp q]
   exact ⟨abL _ (by lia),abr _ hb⟩
 .rintro δ' ⟨l,x,y,rfl,hl,hx⟩
  exact ret (.list (l.map .int)) rfl (.mk rfl ⟨l,rfl,hl,hx⟩)
theorem qI (c b:Int) (n:Nat) (hb:0 < b) (ZW:bt b<=9000) (hn:n<=1000):fj (fN [.int c,.int b,.int (n:Nat)]) λds=>∃ l:List Int,ds=l.map .int /\ l.length=n /\ ∀ x∈l,0<=x /\ x < b:=by
 rw [ze]
 refine aI [sI c,sI b,sI (n:Nat),sL ([]),none] rfl ?_
 refine jS 0 n (λi δ=>∃ (c:Int) (l:List Int) (x:Option D),δ=[sI c,sI b,sI (n:Nat),sL (l.map .int),x] /\ l.length=i /\ ∀ x∈l,0<=x /\ x < b) (iy rfl (by lia)) ⟨c,[],none,rfl,rfl,by simp⟩ ?_ ?_
 .rintro i δ hi ⟨c,l,x,rfl,hl,hx⟩
  refine ⟨_,[sI (c / b),sI b,sI (n:Nat),sL ((l ++ [c % b]).map .int),sI (0 + (i:Int))],rfl,
   bZ [sI c,sI b,sI (n:Nat),sL ((l ++ [c % b]).map .int),sI (0 + (i:Int))] ((mR (d:=.int (c % b)) rfl (ai rfl rfl (cY hb)) (by simp; lia)).trans (by rw [aba]; rfl)) (aJ (ai rfl rfl (om hb ZW))),c / b,l ++ [c % b],_,rfl,by simp [hl],?_⟩
  intro z hz
  rcases abd.mp hz with q | q
  .grind
  .rw [aec.mp q]
   exact ⟨abL _ (by lia),abr _ hb⟩
 .rintro δ' ⟨c,l,x,rfl,hl,hx⟩
  exact ret (.list (l.map .int)) rfl (.mk rfl ⟨l,rfl,hl,hx⟩)
theorem E3 (hf:∀ (k:Nat) (x:Int),∃ b:Bool,f (.tuple [.int (k:Nat),.int x])=some (if b=true then some (.int x) else none)):∀ (l:List Int) (n:Nat),∃ m:List Int,rG f (((l.map PyData.int).zipIdx n).map λp=>.tuple [.int (p.2:Nat),p.1])=some (m.map .int) /\ m.Sublist l
 | [],n=>⟨[],rfl,.slnil⟩
 | x :: l,n=>by
   obtain ⟨m,e,hs⟩:=E3 hf l (n + 1)
   obtain ⟨b,hb⟩:=hf n x
   rw [aaY,List.zipIdx_cons,aaY,rG,hb,aac,e,aac]
   cases b with
   | true=>exact ⟨x :: m,rfl,hs.cons₂ x⟩
   | false=>exact ⟨m,rfl,hs.cons x⟩
theorem zf {l:List Int} {i:Int} (h0:0<=i) (h1:i < l.length):∃ x,x∈l /\ a9 (.list (l.map .int)) (.int i)=some (.int x):=by
 obtain ⟨k,rfl⟩:∃ k:Nat,i=(k:Int):=⟨i.toNat,by lia⟩
 have hk:k < l.length:=by lia
 exact ⟨l[k],acX hk,eM (by rw [aaU,aad hk]; rfl)⟩
theorem ZY:led [0]=[0,1]:=Pf (by simp) (by intro z; simp)
theorem Dq (c:Int) (m:Nat) (Ul:1<=m) (hm:m<=24):fj (lD [.int c,.int (m:Nat)]) λd=>∃ p,d=bw p /\ Pl p /\ p.length<=m /\ ∀ r∈p,r.length<=25:=by
 have ZZ:uH (.int 10) (.int 18)=some (.int (10 ^ 18)):=EX (k:=18) (by decide) (by decide)
 obtain ⟨many,Ww,SX,Wx⟩:∃ many:Nat,100<=many /\ many<=300 /\ g2 bD (gC (.int (100))) (g2 cw (gC (.int (200))) (eQ qe (ae (g2 AE (af 1) (gC (.int (12)))) ag))) [sI c,sI (m:Nat),sI (c / 4),none,none,none,none,none,none]=some (.int (many:Nat)):=by
  by_cases h:(12:Int) < (m:Int)
  .refine ⟨300,by decide,by decide,ai rfl (ai rfl (show _=some (.int 1) from ?_) (dM (mul_right (by decide) (by decide)))) rfl⟩
   show some (PyData.int (if decide ((12:Int) < (m:Int))=true then 1 else 0))=_
   rw [aaQ h]; rfl
  .refine ⟨100,by decide,by decide,ai rfl (ai rfl (show _=some (.int 0) from ?_) (dM (mul_right (by decide) (by decide)))) rfl⟩
   show some (PyData.int (if decide ((12:Int) < (m:Int))=true then 1 else 0))=_
   rw [aaX h]; rfl
 have NM:(0:Int) < (many:Int):=Int.ofNat_lt.mpr (aaC (by decide) Ww)
 have JV:many<=1000:=aa6 SX (by decide)
 refine aI [sI c,sI (m:Nat),sI (c / 4),none,none,none,none,none,none] (aJ (ai rfl rfl (om (by decide) (aY (bY (m:=4) (by decide)) (by decide))))) ?_
 refine aI [sI c,sI (m:Nat),sI (c / 4),sI (many:Nat),none,none,none,none,none] (aJ Wx) ?_
 obtain ⟨_,e1,l1,rfl,Ud,hx1⟩:=tj (c / 4) 3 many (by decide) JV
 refine aI [sI c,sI (m:Nat),sI (c / 4),sI (many:Nat),sL (l1.map .int),none,none,none,none] (aJ (aU (cj (cons_of rfl (cons_of rfl (cons_of rfl rfl))) rfl e1))) ?_
 have dig:∃ dg:List Int,dg.length=many /\ fW (gB (g2 Xv (eQ oN (ae (af 0) ag)) (g2 uH (gC (.int (10))) (gC (.int (18)))))) (aT 4 (bj (bW fN 3 (ae (af 2) (ae (gC (.int (3))) (ae (af 3) ag)))))) bP [sI c,sI (m:Nat),sI (c / 4),sI (many:Nat),sL (l1.map .int),none,none,none,none]
   =some (.nx [sI c,sI (m:Nat),sI (c / 4),sI (many:Nat),sL (dg.map .int),none,none,none,none]):=by
  obtain ⟨_,e2,l2,rfl,FF,hx2⟩:=qI (c / 4) 3 many (by decide) (aY (bY (m:=4) (by decide)) (by decide)) JV
  have hc:gB (g2 Xv (eQ oN (ae (af 0) ag)) (g2 uH (gC (.int (10))) (gC (.int (18))))) [sI c,sI (m:Nat),sI (c / 4),sI (many:Nat),sL (l1.map .int),none,none,none,none]=some (decide ((10 ^ 18:Int)<=(if c < 0 then -c else c))):=cI (ai rfl ZZ rfl)
  by_cases h:((10 ^ 18:Int)<=(if c < 0 then -c else c))
  .exact ⟨l2,FF,oo true (by rw [hc,aaQ h]) (λ_=>aJ (aU (cj (cons_of rfl (cons_of rfl (cons_of rfl rfl))) rfl e2))) (λz=>nomatch z)⟩
  .exact ⟨l1,Ud,oo false (by rw [hc,aaX h]) (λz=>nomatch z) (λ_=>rfl)⟩
 obtain ⟨dg,Wy,edg⟩:=dig
 refine aI _ edg ?_
 refine nD (λk δ=>∃ (q:d6) (dB:List Int) (pos:Nat) (z:Option D),δ=[sI c,sI (m:Nat),sI (c / 4),sI (many:Nat),sL (dg.map .int),sL (([0] :: q).map dR),sL (dB.map .int),sI (pos:Nat),z] /\
   LC [0] q /\ q.length + 1<=m /\ (dB=[] \/ dB=led (lst [0] q)) /\ wY dB /\ (∀ x∈dB,0<=x /\ x<=(q.length:Int) + 1) /\ (∀ r∈q,r.length<=25) /\ k=2 * (m - q.length) + (if dB=[] then 0 else 1))
  (λδ=>∃ (q:d6) (x y z:Option D),δ=[sI c,sI (m:Nat),sI (c / 4),sI (many:Nat),sL (dg.map .int),sL (([0] :: q).map dR),x,y,z] /\ LC [0] q /\ q.length + 1<=m /\ ∀ r∈q,r.length<=25)
  (2 * m + 1) ⟨[],[0,1],0,none,rfl,trivial,by simpa using Ul,.inr ZY.symm,by unfold wY; simp,by intro x hx; simp at hx; rcases hx with h | h <;> subst h <;> decide,by simp,by simp⟩ ?_ ?_
 .rintro k δ ⟨q,dB,pos,z,rfl,hq,XZ,Wz,hr,hb,fB,rfl⟩
  have hlen:dB.length<=q.length + 2:=by
   have:=Bk hr hb
   lia
  have cond:nW (gB (g2 uI (eQ dX (ae (af 5) ag)) (af 1))) (gB (g2 AE (eQ dX (ae (af 6) ag)) (gC (.int (0))))) [sI c,sI (m:Nat),sI (c / 4),sI (many:Nat),sL (dg.map .int),sL (([0] :: q).map dR),sL (dB.map .int),sI (pos:Nat),z]
    =some (decide ((((([0] :: q).map dR).length:Nat):Int) < (m:Int)) && decide ((0:Int) < (((dB.map PyData.int).length:Nat):Int))):=by
   by_cases h:((((([0] :: q).map dR).length:Nat):Int) < (m:Int))
   .rw [aaQ h,acG]
    exact Dc (cI (b:=true) (show _=_ from abJ (λb=>some (PyData.bool b)) (aaQ h))) (cI rfl)
   .rw [aaX h,adZ]
    have h1:gB (g2 uI (eQ dX (ae (af 5) ag)) (af 1)) [sI c,sI (m:Nat),sI (c / 4),sI (many:Nat),sL (dg.map .int),sL (([0] :: q).map dR),sL (dB.map .int),sI (pos:Nat),z]=some false:=
     cI (b:=false) (show _=_ from abJ (λb=>some (PyData.bool b)) (aaX h))
    unfold nW
    rw [h1]; rfl
  rw [cond]
  cases qY:(decide ((((([0] :: q).map dR).length:Nat):Int) < (m:Int)) && decide ((0:Int) < (((dB.map PyData.int).length:Nat):Int))) with
  | false=>exact .inl ⟨rfl,q,_,_,_,rfl,hq,XZ,fB⟩
  | true=>
    have adW:q.length + 1 < m:=by grind
    have jE:dB≠[]:=by grind
    have qp:=Wz.resolve_left jE
    refine .inr ⟨rfl,?_⟩
    have comp:∃ r1:List Int,d9 (dz (af 6)) 2 [4,3,7] (iR 2 (cD (aP 0) (cD (aP 1) jf))) (gB (g2 AE (g2 a9 (af 2) (g2 da (g2 bD (af 4) (af 0)) (af 3))) (gC (.int (0))))) (af 1)
      [sI c,sI (m:Nat),sI (c / 4),sI (many:Nat),sL (dg.map .int),sL (([0] :: q).map dR),sL (dB.map .int),sI (pos:Nat),z]=some (r1.map .int) /\ r1.Sublist dB:=by
     obtain ⟨f,ef⟩:∃ f:D->Option (Option D),f=λd=>(iR 2 (cD (aP 0) (cD (aP 1) jf)) d (List.replicate 2 none ++ gU [4,3,7] [sI c,sI (m:Nat),sI (c / 4),sI (many:Nat),sL (dg.map .int),sL (([0] :: q).map dR),sL (dB.map .int),sI (pos:Nat),z])).bind λfG=>
       (gB (g2 AE (g2 a9 (af 2) (g2 da (g2 bD (af 4) (af 0)) (af 3))) (gC (.int (0)))) fG).bind λb=>if b=true then (af 1 fG).map some else some none:=⟨_,rfl⟩
     have hf:∀ (k:Nat) (x:Int),∃ b:Bool,f (.tuple [.int (k:Nat),.int x])=some (if b=true then some (.int x) else none):=by
      intro k x
      obtain ⟨y,_,ey⟩:=zf (l:=dg) (i:=((pos:Nat) + (k:Nat):Int) % (many:Nat)) (abL _ (aeS NM)) (by rw [Wy]; exact abr _ NM)
      refine ⟨decide (0 < y),?_⟩
      rw [ef]
      show (Option.bind (some [some (PyData.int (k:Nat)),sI x,sL (dg.map .int),sI (many:Nat),sI (pos:Nat)]) _)=_
      rw [aac]
      have hb:gB (g2 AE (g2 a9 (af 2) (g2 da (g2 bD (af 4) (af 0)) (af 3))) (gC (.int (0)))) [some (PyData.int (k:Nat)),sI x,sL (dg.map .int),sI (many:Nat),sI (pos:Nat)]=some (decide (0 < y)):=
       cI (ai (ai rfl (ai (ai rfl rfl rfl) rfl (cY NM)) ey) rfl rfl)
      rw [hb,aac]
      cases decide (0 < y) <;> rfl
     obtain ⟨m1,WA,Et⟩:=E3 hf dB 0
     refine ⟨m1,?_,Et⟩
     unfold d9
     rw [show dz (af 6) [sI c,sI (m:Nat),sI (c / 4),sI (many:Nat),sL (dg.map .int),sL (([0] :: q).map dR),sL (dB.map .int),sI (pos:Nat),z]=some (ki (dB.map .int)) from rfl,aac,aaL (by rw [nu,aax]; lia)]
     rw [ef] at WA
     exact WA
    obtain ⟨r1,X0,Et⟩:=comp
    have slice:∃ r:List Int,r.Sublist dB /\ fW (gB (g2 AE (g2 da (af 0) (gC (.int (4)))) (gC (.int (1))))) (aT 8 (bj (Im (af 6) (oi (g2 a9 (af 4) (g2 da (af 7) (af 3)))) (oi (eQ uK (ae (gC (.int (0))) (ae (g2 gz (eQ dX (ae (af 6) ag)) (g2 a9 (af 4) (g2 da (g2 bD (af 7) (gC (.int (1)))) (af 3)))) ag))))))) bP
      [sI c,sI (m:Nat),sI (c / 4),sI (many:Nat),sL (dg.map .int),sL (([0] :: q).map dR),sL (dB.map .int),sI ((pos:Nat) + (dB.map PyData.int).length),sL (r1.map .int)]
      =some (.nx [sI c,sI (m:Nat),sI (c / 4),sI (many:Nat),sL (dg.map .int),sL (([0] :: q).map dR),sL (dB.map .int),sI ((pos:Nat) + (dB.map PyData.int).length),sL (r.map .int)]):=by
     obtain ⟨y1,_,ey1⟩:=zf (l:=dg) (i:=((pos:Nat) + (dB.map PyData.int).length:Int) % (many:Nat)) (abL _ (aeS NM)) (by rw [Wy]; exact abr _ NM)
     obtain ⟨y2,_,ey2⟩:=zf (l:=dg) (i:=((pos:Nat) + (dB.map PyData.int).length + 1:Int) % (many:Nat)) (abL _ (aeS NM)) (by rw [Wy]; exact abr _ NM)
     have hc:gB (g2 AE (g2 da (af 0) (gC (.int (4)))) (gC (.int (1)))) [sI c,sI (m:Nat),sI (c / 4),sI (many:Nat),sL (dg.map .int),sL (([0] :: q).map dR),sL (dB.map .int),sI ((pos:Nat) + (dB.map PyData.int).length),sL (r1.map .int)]=some (decide (1 < c % 4)):=
      cI (ai (ai rfl rfl (cY (by decide))) rfl rfl)
     by_cases h:1 < c % 4
     .obtain ⟨r2,er2,og⟩:=JU PyData.int dB (some y1) (some (if ((dB.map PyData.int).length:Int) - y2 > 0 then ((dB.map PyData.int).length:Int) - y2 else 0))
      refine ⟨r2,og,oo true (by rw [hc,aaQ h]) (λ_=>aJ (aU ?_)) (λz=>nomatch z)⟩
      have f1:oi (g2 a9 (af 4) (g2 da (af 7) (af 3))) [sI c,sI (m:Nat),sI (c / 4),sI (many:Nat),sL (dg.map .int),sL (([0] :: q).map dR),sL (dB.map .int),sI ((pos:Nat) + (dB.map PyData.int).length),sL (r1.map .int)]=some (some y1):=by
       exact part_of (ai rfl (ai rfl rfl (cY NM)) ey1)
      have f2:oi (eQ uK (ae (gC (.int (0))) (ae (g2 gz (eQ dX (ae (af 6) ag)) (g2 a9 (af 4) (g2 da (g2 bD (af 7) (gC (.int (1)))) (af 3)))) ag))) [sI c,sI (m:Nat),sI (c / 4),sI (many:Nat),sL (dg.map .int),sL (([0] :: q).map dR),sL (dB.map .int),sI ((pos:Nat) + (dB.map PyData.int).length),sL (r1.map .int)]
        =some (some (if ((dB.map PyData.int).length:Int) - y2 > 0 then ((dB.map PyData.int).length:Int) - y2 else 0)):=by
       have g:g2 gz (eQ dX (ae (af 6) ag)) (g2 a9 (af 4) (g2 da (g2 bD (af 7) (gC (.int (1)))) (af 3))) [sI c,sI (m:Nat),sI (c / 4),sI (many:Nat),sL (dg.map .int),sL (([0] :: q).map dR),sL (dB.map .int),sI ((pos:Nat) + (dB.map PyData.int).length),sL (r1.map .int)]=some (.int (((dB.map PyData.int).length:Int) - y2)):=
        ai rfl (ai rfl (ai (ai rfl rfl rfl) rfl (cY NM)) ey2) rfl
       exact part_of (iW (cons_of rfl (cons_of g rfl)) rfl)
      unfold Im
      rw [f1,f2]
      show some (cutD (dB.map .int) _ _)=_
      rw [er2]
     .exact ⟨r1,Et,oo false (by rw [hc,aaX h]) (λz=>nomatch z) (λ_=>rfl)⟩
    obtain ⟨r,hs,X1⟩:=slice
    have hrr:=hr.sublist hs
    have SY:r.length<=25:=by have:=hs.length_le; lia
    have e6:=Dp (a:=af 8) (b:=af 8) (δ:=[sI c,sI (m:Nat),sI (c / 4),sI (many:Nat),sL (dg.map .int),sL (([0] :: q).map dR),sL (dB.map .int),sI ((pos:Nat) + (dB.map PyData.int).length),sL (r.map .int)]) (r:=r) rfl (.inl rfl) (by lia)
    by_cases X2:r=[]
    .subst X2
     refine ⟨[sI c,sI (m:Nat),sI (c / 4),sI (many:Nat),sL (dg.map .int),sL (([0] :: q).map dR),sL (([]:List Int).map .int),sI (((pos + dB.length:Nat):Nat):Int),sL (([]:List Int).map .int)],2 * (m - q.length),?_,by rw [aaO jE]; lia,q,[],pos + dB.length,_,rfl,hq,XZ,.inl rfl,.nil,by simp,fB,by simp⟩
     refine bZ _ (aJ (aU X0)) (bZ _ (aJ (ai rfl rfl rfl)) (bZ _ X1 (bZ _ (aJ (aU e6)) ?_)))
     rw [aax]
     rfl
    .have hnx:Nx (lst [0] q) r:=⟨X2,hrr,λx hx=>qp ▸ hs.subset hx⟩
     refine ⟨[sI c,sI (m:Nat),sI (c / 4),sI (many:Nat),sL (dg.map .int),sL (([0] :: (q ++ [r])).map dR),sL ((led r).map .int),sI (((pos + dB.length:Nat):Nat):Int),sL (r.map .int)],2 * (m - (q ++ [r]).length) + (if led r=[] then 0 else 1),?_,?_,q ++ [r],led r,pos + dB.length,_,rfl,Bj hq hnx,by simp; lia,.inr (by rw [lst_snoc]),iu,?_,?_,rfl⟩
     .refine bZ _ (aJ (aU X0)) (bZ _ (aJ (ai rfl rfl rfl)) (bZ _ X1 (bZ _ (aJ (aU e6)) ?_)))
      have yu:(0:Int) < ((r.map PyData.int).length:Int):=by
       have:=adP.mpr X2
       simp; lia
      refine (oo true (cI (b:=true) (show _=_ from abJ (λb=>some (PyData.bool b)) (aaQ yu))) (λ_=>mR (ds:=([0] :: q).map dR) (d:=dR r) rfl rfl (by simp; lia)) λz=>nomatch z).trans ?_
      rw [aax,<- List.cons_append,aba]
      rfl
     .have hl:led r≠[]:=λe=>by
       obtain ⟨x,hx⟩:=List.exists_mem_of_ne_nil r X2
       have:=kx.mpr (.inl hx)
       rw [e] at this; simp at this
      rw [aaO hl,aaO jE]
      simp
      lia
     .intro x hx
      rcases kx.mp hx with h | h
      .grind
      .grind
     .grind
 .rintro δ' ⟨q,x,y,z,rfl,hq,XZ,fB⟩
  refine ret (bw ([0] :: q)) rfl (.mk rfl ⟨[0] :: q,rfl,⟨q,rfl,hq⟩,by simpa using XZ,λr hr=>?_⟩)
  rcases aaG.mp hr with h | h
  .grind
  .grind
theorem NN {T:List Int}:RG (.int i) (.list (T.map .int))=some (.bool (decide (i∈T))):=by
 have hf:(mF (.int i) && (T.map PyData.int).all mF)=true:=by simp [mF]
 show (if (mF (.int i) && (T.map PyData.int).all mF)=true then some (PyData.bool ((T.map PyData.int).any λz=>T8 z (.int i))) else none)=_
 rw [aaL hf,List.any_map]
 congr 2
 rw [Bool.eq_iff_iff,List.any_eq_true,abo]
 constructor
 .rintro ⟨x,hx,e⟩
  rw [Function.comp,Er,abo] at e
  rw [<- e]; exact hx
 .intro h
  exact ⟨i,h,by rw [Function.comp,Er]; simp⟩
theorem JW:RG (.int i) (dR T)=some (.bool (decide (i∈T))):=NN
theorem dd (b:Int) (h:0 < b) (h2:b.natAbs < 2 ^ 70):fY (.int a) (.int b)=some (.int (a / b)):=om h (aY (bY h2) (by decide))
theorem sd (h1:a δ=some (.bool x)) (h2:x=true->b δ=some (.bool y)):kg a b δ=some (.bool (x && y)):=by
 unfold kg
 rw [cI h1,aac]
 cases x with
 | true=>rw [aaL rfl,h2 rfl]; rfl
 | false=>rfl
theorem JX (h0:0<=i) (h1:i < (p.length:Int)):a9 (bw p) (.int i)=some (dR (p.getD i.toNat [])):=by
 obtain ⟨k,rfl⟩:∃ k:Nat,i=(k:Int):=⟨i.toNat,by lia⟩
 have hk:k < p.length:=by lia
 refine eM ?_
 rw [aaU,abb,aaJ,aad hk]
 rfl
abbrev WF:=Int->Int->Int
def dC (c:Int×Int):D:=.tuple [.int c.1,.int c.2]
def ie (F:WF) (c:Int×Int):WF:=λx y=>F x y + (if x=c.1 + 1 /\ y=c.2 then F c.1 c.2 else 0) + (if x=c.1 /\ y=c.2 + 1 then F c.1 c.2 else 0)
def vM (c:Int×Int):WF:=λx y=>if x=c.1 /\ y=c.2 then 1 else 0
def n4 (n:Nat) (r:List Int):fH:=r.map λb=>(b,(n:Int) - b)
def b7:Nat->List (List Int)->fH
 | _,[]=>[]
 | n,r :: p=>n4 n r ++ b7 (n + 1) p
theorem nK (r:List Int):∀ (p:d6) (n:Nat),b7 n (p ++ [r])=b7 n p ++ n4 (n + p.length) r
 | [],n=>by simp [b7]
 | s :: p,n=>by
   rw [aeE,b7,b7,nK r p (n + 1),aeo,aa0,show n + 1 + p.length=n + (p.length + 1) by lia]
theorem vN:∀ (p:d6) (n:Nat),(∀ r∈p,r.length<=25)->(b7 n p).length<=25 * p.length
 | [],_,_=>by simp [b7]
 | r :: p,n,h=>by
   have h1:=vN p (n + 1) λs hs=>h s (aaE _ hs)
   have h2:=h r aaD
   rw [b7,aa7,aa0,n4,aax]
   lia
def lv (A:Int->Int) (r:List Int) (b:Int):Int:=(if b - 1∈r then A (b - 1) else 0) + (if b∈r then A b else 0)
theorem S0 (A:Int->Int) (b:Int):lv A [] b=0:=by simp [lv]
theorem JY (h:∀ x,x∈r↔x∈s) (b:Int):lv A r b=lv A s b:=by simp only [lv,h]
def WW:(Int->Int)->List (List Int)->Nat->Int->Int
 | A,_,0,b=>A b
 | _,[],_ + 1,_=>0
 | A,r :: p,k + 1,b=>WW (lv A r) p k b
theorem WW_0 (A:Int->Int) (p:d6):WW A p 0=A:=by funext b; cases p <;> rfl
theorem qJ:∀ (p:d6) (A:Int->Int) (k:Nat) (b:Int),WW A p (k + 1) b=lv (WW A p k) (p.getD k []) b
 | [],A,k,b=>by
   rfl
 | r :: p,A,0,b=>by
   show WW (lv A r) p 0 b=lv (WW A (r :: p) 0) r b
   rw [WW_0,WW_0]
 | r :: p,A,k + 1,b=>by
   exact qJ p (lv A r) k b
structure WB (n:Nat) (F:WF) (A B:Int->Int):Prop where
 XR:∀ x y:Int,x + y=(n:Int)->F x y=A x
 at1:∀ x y:Int,x + y=(n:Int) + 1->F x y=B x
 up:∀ x y:Int,(n:Int) + 1 < x + y->F x y=0
theorem JZ (h:WB n F A (lv A bs)) (hb:b∉bs):WB n (ie F (b,(n:Int) - b)) A (lv A (b :: bs)) /\ ∀ x y:Int,x + y < (n:Int)->ie F (b,(n:Int) - b) x y=F x y:=by
 have e:∀ x y,ie F (b,(n:Int) - b) x y=F x y + (if x=b + 1 /\ y=(n:Int) - b then A b else 0) + (if x=b /\ y=(n:Int) - b + 1 then A b else 0):=by
  intro x y
  unfold ie
  rw [h.XR b ((n:Int) - b) (by lia)]
 refine ⟨⟨?_,?_,?_⟩,?_⟩
 .intro x y MI
  rw [e,aaO (by lia),aaO (by lia),h.XR x y MI]; lia
 .intro x y MI
  rw [e,h.at1 x y MI]
  have e1:(x=b + 1 /\ y=(n:Int) - b)↔x - 1=b:=by constructor <;> intro z <;> lia
  have e2:(x=b /\ y=(n:Int) - b + 1)↔x=b:=by constructor <;> intro z <;> lia
  simp only [lv]
  by_cases c1:x - 1=b
  .grind
  .grind
 .intro x y MI
  rw [e,aaO (by lia),aaO (by lia),h.up x y MI]; rfl
 .grind
theorem E4:∀ (r bs:List Int) (F:WF),WB n F A (lv A bs)->(∀ x∈r,x∉bs)->r.Nodup->WB n ((n4 n r).foldl ie F) A (lv A (r ++ bs)) /\ ∀ x y:Int,x + y < (n:Int)->(n4 n r).foldl ie F x y=F x y
 | [],bs,F,h,_,_=>⟨h,λ_ _ _=>rfl⟩
 | b :: r,bs,F,h,hd,nd=>by
   obtain ⟨h1,h2⟩:=JZ h (hd b aaD)
   obtain ⟨n1,n2⟩:=adM.mp nd
   obtain ⟨h3,h4⟩:=E4 r (b :: bs) _ h1 (λx hx z=>by
    rcases aaG.mp z with q | q
    .grind
    .exact hd x (aaE _ hx) q) n2
   refine ⟨?_,λx y MI=>(h4 x y MI).trans (h2 x y MI)⟩
   have:lv A (r ++ b :: bs)=lv A ((b :: r) ++ bs):=by
    funext x
    exact JY (λz=>by simp; constructor <;> rintro (q | q | q) <;> simp [q]) x
   rw [<- this]
   exact h3
theorem Bl:∀ (p:d6) (n:Nat) (A:Int->Int) (F:WF),(∀ r∈p,r.Nodup)->(∀ x y:Int,x + y=(n:Int)->F x y=A x)->(∀ x y:Int,(n:Int) < x + y->F x y=0)->
  ∀ x y:Int,(x + y < (n:Int)->(b7 n p).foldl ie F x y=F x y) /\ ∀ k:Nat,x + y=(n:Int) + (k:Int)->(b7 n p).foldl ie F x y=WW A p k x
 | [],n,A,F,_,h0,h1,x,y=>by
   refine ⟨λ_=>rfl,λk hk=>?_⟩
   cases k with
   | zero=>rw [WW_0]; exact h0 x y (by lia)
   | succ k=>exact h1 x y (by lia)
 | r :: p,n,A,F,hn,h0,h1,x,y=>by
   have L0:WB n F A (lv A []):=⟨h0,λx y q=>by rw [S0]; exact h1 x y (by lia),λx y q=>h1 x y (by lia)⟩
   obtain ⟨L1,K1⟩:=E4 r [] F L0 (λx _ z=>by simp at z) (hn r aaD)
   rw [abh] at L1
   have ih:=Bl p (n + 1) (lv A r) ((n4 n r).foldl ie F) (λs hs=>hn s (aaE _ hs)) (λx y q=>L1.at1 x y (by push_cast at q; lia)) (λx y q=>L1.up x y (by push_cast at q; lia)) x y
   rw [b7,List.foldl_append]
   refine ⟨λq=>(ih.1 (by push_cast; lia)).trans (K1 x y q),λk hk=>?_⟩
   cases k with
   | zero=>
     rw [WW_0,ih.1 (by push_cast; lia)]
     exact L1.XR x y (by lia)
   | succ k=>exact ih.2 k (by push_cast; push_cast at hk; lia)
theorem qK (h:wY l):l.Nodup:=h.imp λz e=>by lia
theorem E5:∀ {q:d6} {r:List Int} {n:Nat},(∀ x∈r,0<=x /\ x<=(n:Int))->LC r q->(∀ s∈q,s.Nodup) /\ ∀ k,∀ x∈q.getD k [],0<=x /\ x<=((n + 1 + k:Nat):Int)
 | [],_,_,_,_=>⟨by simp,λk x hx=>by simp at hx⟩
 | s :: q,r,n,hr,hc=>by
   have hs:∀ x∈s,0<=x /\ x<=((n + 1:Nat):Int):=λx hx=>by
    rcases kx.mp (hc.1.2.2 x hx) with h | h
    .grind
    .grind
   obtain ⟨i1,i2⟩:=E5 (n:=n + 1) hs hc.2
   refine ⟨λt ht=>?_,λk x hx=>?_⟩
   .rcases aaG.mp ht with z | z
    .rw [z]; exact qK hc.1.2.1
    .grind
   .cases k with
    | zero=>exact hs x (by simpa using hx)
    | succ k=>
      have:=i2 k x (by simpa using hx)
      lia
theorem uh (h:Pl p):(∀ s∈p,s.Nodup) /\ ∀ k,∀ x∈p.getD k [],0<=x /\ x<=(k:Int):=by
 obtain ⟨q,rfl,hc⟩:=h.ex
 obtain ⟨i1,i2⟩:=E5 (q:=q) (r:=[0]) (n:=0) (by simp) hc
 refine ⟨λs hs=>?_,λk x hx=>?_⟩
 .grind
 .cases k with
  | zero=>simp at hx; subst hx; simp
  | succ k=>
    have:=i2 k x (by simpa using hx)
    lia
structure Dt (kds:fq) (F:WF):Prop where
 fn:FO kds=false
 Z0:∀ b g:Int,(dY kds [.inl b,.inl g]).getD (.int 0)=.int (F b g)
instance {kds:fq} {F:WF}:CoeFun (Dt kds F) (λ_=>∀ b g:Int,(dY kds [.inl b,.inl g]).getD (.int 0)=.int (F b g)):=⟨Dt.Z0⟩
theorem NO (h:FO kds=false):FO (kM kds k d)=false:=by
 unfold kM
 split
 .cases kds with
  | nil=>rfl
  | cons p r=>
    obtain ⟨p1,p2⟩:=p
    rw [aaY]
    split <;> (cases p1 with
     | list l=>
       cases l with
       | nil=>cases h
       | cons _ _=>rfl
     | _=>rfl)
 .cases kds with
  | nil=>rfl
  | cons p r=>
    obtain ⟨p1,p2⟩:=p
    cases p1 with
    | list l=>
      cases l with
      | nil=>cases h
      | cons _ _=>rfl
    | _=>rfl
theorem qL (h1:gd δ=some (.dict kds)) (h2:gk δ=some (dC c)) (h3:ge δ=some z) (hf:FO kds=false:=by first | assumption | exact Dt.fn (by assumption)):rH gd gk ge δ=some ((dY kds [.inl c.1,.inl c.2]).getD z):=by
 unfold rH; rw [h1,h2,h3]
 show (if FO kds=true then none else _)=_
 rw [hf]; rfl
theorem E6 (h1:gd δ=some (.dict kds)) (h2:gk δ=some (dC c)) (hf:FO kds=false:=by first | assumption | exact Dt.fn (by assumption)):xK gd gk δ=dY kds [.inl c.1,.inl c.2]:=by
 unfold xK; rw [h1,h2]
 show (if FO kds=true then none else _)=_
 rw [hf]; rfl
theorem E7 (h1:af i δ=some (.dict kds)) (h2:gk δ=some (dC c)) (h3:ge δ=some d) (h4:kds.length < 100000):Ex i gk ge δ=some (.nx (δ.set i (some (.dict (kM kds [.inl c.1,.inl c.2] d))))):=by
 unfold Ex; rw [h1,h2,h3]
 show (if kds.length < 100000 then _ else _)=_
 rw [aaL h4]
theorem S4:(([.inl b,.inl g]:List Key)=[.inl x,.inl y])↔b=x /\ g=y:=by simp
theorem Z1 (fG XS δ3 δ4:DS) (h1:t d1 δ=some fG) (h2:b fG=some (.nx XS)) (h3:t d2 XS=some δ3) (h4:b δ3=some (.nx δ4)):kE t b [d1,d2] δ=some (.nx δ4):=by
 simp only [kE,h1,h2,h3,h4,aac]
theorem Dt.put (h:Dt kds F) (x y v:Int):Dt (kM kds [.inl x,.inl y] (.int v)) (λb g=>if b=x /\ g=y then v else F b g):=by
 refine ⟨NO h.fn,λb g=>?_⟩
 rw [Gc]
 by_cases e:b=x /\ g=y
 .grind
 .rw [aaO (λz=>e (S4.mp z)),aaO e]; exact h b g
theorem zg (q:eZ):oK (dF q) (.tuple [.int 0,.int 1])=some (.bool (decide (q=Qz))):=Wr q Qz
theorem GC (l:List eZ):nH [dP l]=some ((trim l).map dF):=by
 rw [Gz]
 refine aV ?_
 refine nD (λk δ=>∃ m:List eZ,δ=[some (dP l),sL (m.map dF)] /\ trim m=trim l /\ m.length=k) (λδ=>δ=[some (dP l),sL ((trim l).map dF)]) l.length ?_ ?_ ?_
 .grind
 .rintro k δ ⟨m,rfl,ht,rfl⟩
  rcases snoc_cases m with rfl | ⟨l',q,rfl⟩
  .exact .inl ⟨by simp; first | done | rfl,by rw [<- ht]; rfl⟩
  .have hl:p0 ((l' ++ [q]).map dF) (-1)=some (dF q):=Nu (by simp)
   have yu:(0:Int) < (((l' ++ [q]).map dF).length:Nat):=by rw [aax,aa7,List.length_singleton]; lia
   by_cases hq:q=Qz
   .refine .inr ⟨?_,[some (dP l),sL (l'.map dF)],l'.length,?_,by simp,l',rfl,by rw [<- ht,hq,SJ],rfl⟩
    .simp only [nW,gB,g2,eQ,ae,af,aaT,aaM,aa2,ag,aac,ls,gC,xu,g1,wJ,E2,abo]
     rw [aaL yu,hl,aac,zg,hq]
     rfl
    .simp only [Mz,af]
     simp
   .refine .inl ⟨?_,by rw [<- ht,SK l' hq]⟩
    simp only [nW,gB,g2,eQ,ae,af,aaT,aaM,aa2,ag,aac,ls,gC,xu,g1,wJ,E2,abo]
    rw [aaL yu,hl,aac,zg,aaX hq]
    rfl
 .rintro δ' rfl
  exact ret (.list ((trim l).map dF)) (by simp only [af,aaT,aaM,aa2]) (.mk rfl rfl)
theorem Dr (h1:af i δ=some (.list ds)) (h2:g δ=some zs) (h3:ds.length + zs.length<=100000):FW i g δ=some (.nx (δ.set i (some (.list (ds ++ zs))))):=by
 unfold FW
 rw [h1,h2]
 show (if ds.length + zs.length<=100000 then _ else _)=_
 rw [aaL h3]
theorem NP (p:d6):ki (p.map dR)=p.zipIdx.map λx=>.tuple [.int (x.2:Nat),dR x.1]:=by
 unfold ki
 rw [List.zipIdx_map,abO]
 rfl
theorem Ds (hl:p.length<=24) (fB:∀ r∈p,r.length<=25):jU [bw p]=some ((b7 0 p).map dC):=by
 refine aV ?_
 refine km (λx:List Int×Nat=>PyData.tuple [.int (x.2:Nat),dR x.1]) p.zipIdx (λi δ=>∃ a b,δ=[some (bw p),sL ((b7 0 (p.take i)).map dC),a,b]) ?_ ⟨none,none,rfl⟩ ?_ ?_
 .show some (ki (p.map dR))=_
  rw [NP]
 .rintro i ⟨r,n⟩ δ hi ⟨a,b,rfl⟩
  rw [acA] at hi
  cases er:p[i]? with
  | none=>rw [er] at hi; cases hi
  | some r'=>
    rw [er] at hi
    simp at hi
    obtain ⟨rfl,rfl⟩:=hi
    have Ui:=(aaK.mp er).1
    have hr:=fB r' (aaP er)
    have ht:p.take (i + 1)=p.take i ++ [r']:=by
     rw [abU,er]; rfl
    have S5:(p.take i).length=i:=by rw [abn]; lia
    have hc0:=vN (p.take i) 0 λs hs=>fB s (abC hs)
    refine ⟨_,[some (bw p),sL ((b7 0 (p.take (i + 1))).map dC),sI (i:Nat),some (dR r')],rfl,?_,_,_,rfl⟩
    have hc:f9 (bz (af 3)) [2] (bG (ae (af 0) (ae (g2 gz (af 1) (af 0)) ag))) [some (bw p),sL ((b7 0 (p.take i)).map dC),sI (i:Nat),some (dR r')]=some ((r'.map λb=>(b,(i:Int) - b)).map dC):=
     ko PyData.int dC (λb=>(b,(i:Int) - b)) r' rfl (by lia) λx _=>rfl
    refine (Dr rfl hc (by simp only [aax]; lia)).trans ?_
    rw [ht,nK,S5,acE,aba]
    rfl
 .rintro δ' ⟨a,b,rfl⟩
  refine ret (.list ((b7 0 p).map dC)) ?_ (.mk rfl rfl)
  rw [aed,abG]
  rfl
theorem Du (ha:PyData.strOk a=true) (hb:PyData.strOk b=true) (hc:(a == b)=c):oK (.str a) (.str b)=some (.bool c):=by
 unfold oK
 simp [SeqAt.shaped,PyData.canLay0,PyData.depth,PyData.eqv,ha,hb,hc]
theorem GD (c:Int×Int):iN [dC c,.str "b"]=some (dC (c.1 + 1,c.2)):=by
 exact aV (nF true (cI (b:=true) (ai rfl rfl (Du (by decide +kernel) (by decide +kernel) (by decide +kernel)))) (λ_=>qD (dC (c.1 + 1,c.2)) rfl (.mk rfl rfl)) λz=>nomatch z)
theorem GF (c:Int×Int):iN [dC c,.str "g"]=some (dC (c.1,c.2 + 1)):=by
 exact aV (C8 (cI (b:=false) (ai rfl rfl (Du (by decide +kernel) (by decide +kernel) (by decide +kernel)))) (ret (dC (c.1,c.2 + 1)) rfl (.mk rfl rfl)))
theorem mS (hl:p.length<=24) (fB:∀ r∈p,r.length<=25) (c:Int×Int):∃ kds,fA [bw p,dC c]=some (.dict kds) /\ Dt kds ((b7 0 p).foldl ie (vM c)):=by
 have qp:=vN p 0 fB
 have main:fj (fA [bw p,dC c]) λd=>∃ kds,d=.dict kds /\ Dt kds ((b7 0 p).foldl ie (vM c)):=by
  refine aI [some (bw p),some (dC c),some (.dict [(dC c,.int 1)]),none,none,none] rfl ?_
  refine km dC (b7 0 p) (λi δ=>∃ kds a b e,δ=[some (bw p),some (dC c),some (.dict kds),a,b,e] /\ Dt kds (((b7 0 p).take i).foldl ie (vM c)) /\ kds.length<=1 + 2 * i) ?_ ⟨_,_,_,_,rfl,?_,by simp⟩ ?_ ?_
  .have ec:bj (bW jU 1 (ae (af 0) ag)) [some (bw p),some (dC c),some (.dict [(dC c,.int 1)]),none,none,none]=some (.list ((b7 0 p).map dC)):=aU (cj (cons_of rfl rfl) rfl (Ds hl fB))
   unfold bz
   rw [ec]
   rfl
  .refine ⟨rfl,λb g=>?_⟩
   exact (Dt.put (kds:=[]) (F:=λ_ _=>0) ⟨rfl,λb g=>rfl⟩ c.1 c.2 1) b g
  .rintro i k δ hi ⟨kds,a,b,e,rfl,hd,hlen⟩
   have Ui:=(aaK.mp hi).1
   obtain ⟨F,hF⟩:∃ F,F=((b7 0 p).take i).foldl ie (vM c):=⟨_,rfl⟩
   rw [<- hF] at hd
   have J0:((b7 0 p).take (i + 1)).foldl ie (vM c)=ie F k:=by
    rw [abU,hi,List.foldl_append,<- hF]; rfl
   obtain ⟨k1,Lr⟩:∃ k1,k1=kM kds [.inl (k.1 + 1),.inl k.2] (.int (F (k.1 + 1) k.2 + F k.1 k.2)):=⟨_,rfl⟩
   have RU:=hd.put (k.1 + 1) k.2 (F (k.1 + 1) k.2 + F k.1 k.2)
   rw [<- Lr] at RU
   have hd2:=RU.put k.1 (k.2 + 1) (F k.1 (k.2 + 1) + F k.1 k.2)
   have l1:k1.length<=kds.length + 1:=by rw [Lr]; exact xJ _ _ _
   have l2:=xJ k1 [.inl k.1,.inl (k.2 + 1)] (.int (F k.1 (k.2 + 1) + F k.1 k.2))
   refine ⟨_,[some (bw p),some (dC c),some (.dict (kM k1 [.inl k.1,.inl (k.2 + 1)] (.int (F k.1 (k.2 + 1) + F k.1 k.2)))),some (dC k),sI (F k.1 k.2),some (dC (k.1,k.2 + 1))],rfl,?_,_,_,_,_,rfl,?_,by lia⟩
   .refine bZ [some (bw p),some (dC c),some (.dict kds),some (dC k),sI (F k.1 k.2),e] (aJ ((qL rfl rfl rfl).trans (abJ some (hd k.1 k.2)))) ?_
    unfold fu
    have hit:bz (bG (ae (ay iN 2 (ae (af 3) (ae (gC (.str "b")) ag))) (ae (ay iN 2 (ae (af 3) (ae (gC (.str "g")) ag))) ag))) [some (bw p),some (dC c),some (.dict kds),some (dC k),sI (F k.1 k.2),e]=some [dC (k.1 + 1,k.2),dC (k.1,k.2 + 1)]:=by
     have e1:ay iN 2 (ae (af 3) (ae (gC (.str "b")) ag)) [some (bw p),some (dC c),some (.dict kds),some (dC k),sI (F k.1 k.2),e]=some (dC (k.1 + 1,k.2)):=call_of (cons_of rfl (cons_of rfl rfl)) rfl (GD k)
     have e2:ay iN 2 (ae (af 3) (ae (gC (.str "g")) ag)) [some (bw p),some (dC c),some (.dict kds),some (dC k),sI (F k.1 k.2),e]=some (dC (k.1,k.2 + 1)):=call_of (cons_of rfl (cons_of rfl rfl)) rfl (GF k)
     unfold bz bG
     rw [cons_of e1 (cons_of e2 rfl)]
     rfl
    rw [hit,aac]
    refine Z1 [some (bw p),some (dC c),some (.dict kds),some (dC k),sI (F k.1 k.2),some (dC (k.1 + 1,k.2))] [some (bw p),some (dC c),some (.dict k1),some (dC k),sI (F k.1 k.2),some (dC (k.1 + 1,k.2))] [some (bw p),some (dC c),some (.dict k1),some (dC k),sI (F k.1 k.2),some (dC (k.1,k.2 + 1))] _ rfl ?_ rfl ?_
    .refine (E7 (c:=(k.1 + 1,k.2)) rfl rfl (ai ((qL (c:=(k.1 + 1,k.2)) rfl rfl rfl).trans (abJ some (hd (k.1 + 1) k.2))) rfl rfl) (by lia)).trans ?_
     rw [Lr]; rfl
    .have h5:(dY k1 [.inl k.1,.inl (k.2 + 1)]).getD (.int 0)=.int (F k.1 (k.2 + 1)):=by
      have:=RU k.1 (k.2 + 1)
      rw [this]
      rw [aaO (by lia)]
     exact E7 (c:=(k.1,k.2 + 1)) rfl rfl (ai ((qL (c:=(k.1,k.2 + 1)) rfl rfl rfl).trans (abJ some h5)) rfl rfl) (by lia)
   .rw [J0]
    refine ⟨hd2.fn,λx y=>?_⟩
    rw [hd2 x y]
    congr 1
    show (if x=k.1 /\ y=k.2 + 1 then _ else if x=k.1 + 1 /\ y=k.2 then _ else F x y)=F x y + _ + _
    by_cases c1:x=k.1 /\ y=k.2 + 1
    .grind
    .grind
  .rintro δ' ⟨kds,a,b,e,rfl,hd,_⟩
   rw [abG] at hd
   exact ret (.dict kds) rfl (.mk rfl ⟨kds,rfl,hd⟩)
 obtain ⟨_,e,kds,rfl,hd⟩:=main
 exact ⟨kds,e,hd⟩
theorem GH (hl:p.length<=24) (fB:∀ r∈p,r.length<=25) (c:Int×Int):nI [bw p,dC c]=some (.int ((b7 0 p).foldl ie (vM (0,0)) c.1 c.2)):=by
 obtain ⟨kds,e,hd⟩:=mS hl fB (0,0)
 exact aV (ret _ ((qL (c:=c) (call_of (cons_of rfl (cons_of rfl rfl)) rfl e) rfl rfl).trans (abJ some (hd c.1 c.2))) (.mk rfl rfl))
def A0:Int->Int:=λb=>if b=0 then 1 else 0
theorem J1 (h:Pl p) {k:Nat} (e:x + y=(k:Int)):(b7 0 p).foldl ie (vM (0,0)) x y=WW A0 p k x:=by
 refine (Bl p 0 A0 (vM (0,0)) (uh h).1 ?_ ?_ x y).2 k (by push_cast; lia)
 .intro x y q
  unfold vM A0
  by_cases c:x=0
  .grind
  .grind
 .intro x y q
  unfold vM
  lia
theorem J4 {α β:Type} (enc:α->D) (oU:β->D) (h:α->β) (P:α->Bool) :∀ l:List α,(∀ a∈l,f (enc a)=some (if P a=true then some (oU (h a)) else none))->rG f (l.map enc)=some (((l.filter P).map h).map oU)
 | [],_=>rfl
 | a :: l,q=>by
   have ih:=J4 enc oU h P l λb hb=>q b (aaE _ hb)
   rw [aaY,rG,q a aaD,aac,ih,aac,adG]
   cases P a <;> rfl
theorem vO {α β:Type} (enc:α->D) (oU:β->D) (h:α->β) (P:α->Bool) (l:List α) (hi:gi δ=some (l.map enc)) (hl:l.length<=100000)
  (hc:∀ a∈l,gc (some (enc a) :: gU ix δ)=some (P a)) (he:∀ a∈l,P a=true->ge (some (enc a) :: gU ix δ)=some (oU (h a))):d9 gi 1 ix (aP 0) gc ge δ=some (((l.filter P).map h).map oU):=by
 unfold d9
 rw [hi,aac,aaL (by rw [aax]; exact hl)]
 refine J4 enc oU h P l λa ha=>?_
 show (Option.bind (some (some (enc a) :: gU ix δ)) _)=_
 rw [aac,hc a ha,aac]
 cases q:P a with
 | true=>rw [aaL rfl,aaL rfl,he a ha q]; rfl
 | false=>rfl
theorem E8 (h1:a δ=some x) (h2:b δ=some y) (h3:f x y=some (.bool u)) (h4:c δ=some w) (h5:f' y w=some (.bool v)):ir f f' a b c δ=some (.bool (u && v)):=by
 unfold ir
 rw [h1,h2]
 simp only [aac,h3]
 cases u with
 | true=>simp only [h4,aac,h5,acG]
 | false=>rfl
theorem J5 (h:r.length < 32):kR [dR r]=some ((led r).map .int):=by
 exact aV (ret (.list ((led r).map .int)) (aU (Dp (a:=bj (tD kD (ae (af 0) ag))) (b:=af 0) (r:=r) rfl (.inr rfl) h)) (.mk rfl rfl))
def Dv (p:d6) (c:Int×Int):Bool:=(decide (0<=c.1 + c.2) && decide (c.1 + c.2 < (p.length:Int))) && decide (c.1∈p.getD (c.1 + c.2).toNat [])
theorem GI (p:d6) (c:Int×Int):kQ [bw p,dC c]=some (.bool (Dv p c)):=by
 refine aV ?_
 refine ret (.bool (Dv p c)) ?_ (.mk rfl rfl)
 refine sd (x:=decide (0<=c.1 + c.2) && decide (c.1 + c.2 < (p.length:Int))) ?_ λh=>?_
 .have e2:uI (.int (c.1 + c.2)) (.int (((p.map dR).length:Nat):Int))=some (.bool (decide (c.1 + c.2 < (p.length:Int)))):=by
   rw [aax]; rfl
  exact E8 rfl rfl rfl rfl e2
 .rw [aaS,abo,abo] at h
  exact ai rfl (ai rfl rfl (JX h.1 h.2)) JW
theorem kX:∀ (p:d6) (n:Nat),(∀ r∈p,r.length<=50)->(b7 n p).length<=50 * p.length
 | [],_,_=>by simp [b7]
 | r :: p,n,h=>by
   have h1:=kX p (n + 1) λs hs=>h s (aaE _ hs)
   have h2:=h r aaD
   rw [b7,aa7,aa0,n4,aax]
   lia
theorem J6 (p:d6):sV (p.map dR)=(p.zipIdx 1).map λx=>.tuple [.int (x.2:Nat),dR x.1]:=by
 unfold sV
 rw [List.zipIdx_map,abO]
 rfl
theorem E9 (x:Int):∀ l:List Int,(ins x l).length<=l.length + 1
 | []=>by simp [ins]
 | y :: l=>by
   have:=E9 x l
   rw [ins]
   split
   .simp
   .grind
theorem J7:∀ l:List Int,(ss l).length<=l.length
 | []=>by simp [ss]
 | x :: l=>by
   have h1:=J7 l
   have h2:=E9 x (ss l)
   rw [ss,aa0]; lia
theorem lG:(led r).length<=2 * r.length:=by
 have h:((led r):List Int).length<=(r ++ r.map (· + 1)).length:=J7 _
 rw [aa7,aax] at h
 lia
theorem GJ (hl:p.length<=24) (fB:∀ r∈p,r.length<=25):jF [bw p]=some (((0,0) :: b7 1 (p.map led)).map dC):=by
 refine aV ?_
 refine km (λx:List Int×Nat=>PyData.tuple [.int (x.2:Nat),dR x.1]) (p.zipIdx 1) (λi δ=>∃ a b,δ=[some (bw p),sL (((0,0) :: b7 1 ((p.take i).map led)).map dC),a,b]) ?_ ⟨none,none,rfl⟩ ?_ ?_
 .show some (sV (p.map dR))=_
  rw [J6]
 .rintro i ⟨r,n⟩ δ hi ⟨a,b,rfl⟩
  rw [acA] at hi
  cases er:p[i]? with
  | none=>rw [er] at hi; cases hi
  | some r'=>
    rw [er] at hi
    simp at hi
    obtain ⟨rfl,rfl⟩:=hi
    have Ui:=(aaK.mp er).1
    have hr:=fB r' (aaP er)
    have ht:p.take (i + 1)=p.take i ++ [r']:=by
     rw [abU,er]; rfl
    have S5:(p.take i).length=i:=by rw [abn]; lia
    have hll:(led r').length<=50:=by have:=lG (r:=r'); lia
    have qp:(b7 1 ((p.take i).map led)).length<=1200:=by
     have:=kX ((p.take i).map led) 1 (λs hs=>by
      obtain ⟨t,ht,rfl⟩:=aa3.mp hs
      have:=lG (r:=t)
      have:=fB t (abC ht)
      lia)
     rw [aax,S5] at this
     lia
    refine ⟨_,[some (bw p),sL (((0,0) :: b7 1 ((p.take (i + 1)).map led)).map dC),sI ((1 + i:Nat):Int),some (dR r')],rfl,?_,_,_,rfl⟩
    have hc:f9 (bz (bj (bW kR 1 (ae (af 3) ag)))) [2] (bG (ae (af 0) (ae (g2 gz (af 1) (af 0)) ag))) [some (bw p),sL (((0,0) :: b7 1 ((p.take i).map led)).map dC),sI ((1 + i:Nat):Int),some (dR r')]=some (((led r').map λb=>(b,((1 + i:Nat):Int) - b)).map dC):=by
     refine ko PyData.int dC (λb=>(b,((1 + i:Nat):Int) - b)) (led r') ?_ (by lia) λx _=>rfl
     have ec:bj (bW kR 1 (ae (af 3) ag)) [some (bw p),sL (((0,0) :: b7 1 ((p.take i).map led)).map dC),sI ((1 + i:Nat):Int),some (dR r')]=some (.list ((led r').map .int)):=aU (cj (cons_of rfl rfl) rfl (J5 (by lia)))
     unfold bz
     rw [ec]
     rfl
    refine (Dr rfl hc (by simp only [aax,aa0]; lia)).trans ?_
    have key:b7 1 ((p.take (i + 1)).map led)=b7 1 ((p.take i).map led) ++ n4 (1 + i) (led r'):=by
     rw [ht,aba,show List.map led [r']=[led r'] from rfl,nK,aax,S5]
    simp only [key,aaY,aba]
    rfl
 .rintro δ' ⟨a,b,rfl⟩
  refine ret (.list (((0,0) :: b7 1 (p.map led)).map dC)) ?_ (.mk rfl rfl)
  rw [aed,abG]
  rfl
def aC (p:d6):fH:=((0,0) :: b7 1 (p.map led)).filter λc=> !Dv p c
theorem pw (hl:p.length<=24) (fB:∀ r∈p,r.length<=25):ja [bw p]=some ((aC p).map dC):=by
 have qp:(b7 1 (p.map led)).length<=1200:=by
  have:=kX (p.map led) 1 (λs hs=>by
   obtain ⟨t,ht,rfl⟩:=aa3.mp hs
   have:=lG (r:=t)
   have:=fB t ht
   lia)
  rw [aax] at this
  lia
 have hc:d9 (bz (bj (bW jF 1 (ae (af 0) ag)))) 1 [0] (aP 0) (nX (ka (ay kQ 2 (ae (af 1) (ae (af 0) ag))))) (af 0) [some (bw p)]=some (((((0,0) :: b7 1 (p.map led)).filter λc=> !Dv p c).map id).map dC):=by
  refine vO dC dC id (λc=> !Dv p c) ((0,0) :: b7 1 (p.map led)) ?_ (by simp only [aa0]; lia) (λc _=>?_) λc _ _=>rfl
  .have ec:bj (bW jF 1 (ae (af 0) ag)) [some (bw p)]=some (.list (((0,0) :: b7 1 (p.map led)).map dC)):=aU (cj (cons_of rfl rfl) rfl (GJ hl fB))
   unfold bz
   rw [ec]
   rfl
  .exact lu (gZ (call_of (cons_of rfl (cons_of rfl rfl)) rfl (GI p c)))
 rw [List.map_id] at hc
 exact aV (ret (.list ((aC p).map dC)) (aU hc) (.mk rfl rfl))
theorem Py (c:Int×Int):SeqAt.shaped (dC c)=true:=rfl
theorem S6 (a c:Int×Int):PyData.eqv (dC a) (dC c)=decide (a=c):=by
 obtain ⟨a1,a2⟩:=a
 obtain ⟨c1,c2⟩:=c
 simp [dC,PyData.eqv,PyData.eqvAll]
 rfl
theorem zi (neg:Bool) (c:Int×Int) (es:fH):rJ neg (dC c) (.list (es.map dC))=some (.bool (decide (c∈es) != neg)):=by
 unfold rJ
 simp only
 rw [aaL (by rw [Py,acG,List.all_map]; simp [Py])]
 congr 3
 rw [List.any_map,Bool.eq_iff_iff]
 simp [S6]
theorem zj (hl:p.length<=24) (fB:∀ r∈p,r.length<=25) (cs:fH) (h:∀ c∈cs,c∈aC p):js [bw p,.list (cs.map dC)]=some .none:=by
 refine aV ?_
 refine aI [some (bw p),sL (cs.map dC),sL ((aC p).map dC),none] (aJ (aU (cj (cons_of rfl rfl) rfl (pw hl fB)))) ?_
 obtain ⟨δ',e,a,rfl⟩:=qC (t:=aP 3) (b:=fW (gB (g2 (rJ true) (af 3) (af 2))) (λ_=>none) bP) dC (λ_ δ=>∃ a,δ=[some (bw p),sL (cs.map dC),sL ((aC p).map dC),a]) cs (δ:=[some (bw p),sL (cs.map dC),sL ((aC p).map dC),none]) ⟨none,rfl⟩ (by
  rintro i c δ hi ⟨a,rfl⟩
  refine ⟨_,[some (bw p),sL (cs.map dC),sL ((aC p).map dC),some (dC c)],rfl,kn (cI (ai rfl rfl ((zi true c (aC p)).trans ?_))),_,rfl⟩
  rw [aaQ (h c (aaP hi))]
  rfl)
 refine .mk (d:=.none) ?_ rfl
 unfold fu
 rw [show bz (af 1) [some (bw p),sL (cs.map dC),sL ((aC p).map dC),none]=some (cs.map dC) from rfl,aac,e]
 rfl
def vP (p:d6) (c:Int×Int):Bool:=(decide (0<=c.1 + c.2) && decide (c.1 + c.2 < (p.length:Int))) && decide (c.1∈p.getD (c.1 + c.2).toNat [])
theorem NQ (p:d6) (n:Nat) (b:Int):vP p (b,(n:Int) - b)=decide (b∈p.getD n []):=by
 unfold vP
 rw [show b + ((n:Int) - b)=(n:Int) by lia,abb,aaQ (show (0:Int)<=(n:Int) by lia),acG]
 rcases Nat.lt_or_ge n p.length with q | q
 .grind
 .rw [aaX (show ¬ (n:Int) < (p.length:Int) by lia),adZ,aaJ,abW q]
  simp
theorem se (h:L<=24): -100000<=((L:Nat):Int) + 1 /\ ((L:Nat):Int) + 1<=100000 /\ ((((L:Nat):Int) + 1) - 1).toNat=L:=by lia
theorem NR {i L:Nat} (h:N=1 + (i:Int)) (hi:i < L):0<=N /\ N.toNat=i + 1 /\ 0<=N - 1 /\ N - 1 < (L:Int) /\ (N - 1).toNat=i /\ (¬ N < (L:Int)->L<=i + 1):=by lia
theorem NS (h1:a<=50 * i) (h2:b<=a) (hi:i < L) (hL:L<=24):b<=1200:=by lia
theorem zk (h:l<=2 * r) (hr:r<=25):l<=50 /\ r < 32 /\ (f<=l->∀ a,a<=1200->a + f<=100000):=by lia
theorem Dw (hl:p.length<=24) (fB:∀ r∈p,r.length<=25):iD [bw p]=some (((b7 1 (p.map led)).filter λc=> !vP p c).map dC):=by
 rw [Dk]
 refine aV ?_
 refine aI [some (bw p),sL ([]),none,none,none] rfl ?_
 refine jS 1 p.length (λi δ=>∃ a b c,δ=[some (bw p),sL (((b7 1 ((p.take i).map led)).filter λc=> !vP p c).map dC),a,b,c]) ?_ ⟨none,none,none,rfl⟩ ?_ ?_
 .have e:ae (gC (.int (1))) (ae (g2 bD (eQ dX (ae (af 0) ag)) (gC (.int (1)))) ag) [some (bw p),sL ([]),none,none,none]=some [.int 1,.int (((p.length:Nat):Int) + 1)]:=by
   show some [PyData.int 1,PyData.int ((((p.map dR).length:Nat):Int) + 1)]=_
   rw [aax]
  refine (Gy e (by decide) (by decide) (se hl).1 (se hl).2.1).trans ?_
  rw [(se hl).2.2]
 .rintro i δ hi ⟨a,b,c,rfl⟩
  obtain ⟨r,er⟩:∃ r,p[i]?=some r:=⟨_,aad hi⟩
  have hr:=fB r (aaP er)
  have ht:p.take (i + 1)=p.take i ++ [r]:=by rw [abU,er]; rfl
  have S5:(p.take i).length=i:=by rw [abn]; exact Nat.min_eq_left (abM hi)
  obtain ⟨acc,oQ⟩:∃ acc,acc=((b7 1 ((p.take i).map led)).filter λc=> !vP p c).map dC:=⟨_,rfl⟩
  rw [<- oQ]
  have WC:acc.length<=1200:=by
   have h1:=kX ((p.take i).map led) 1 (λs hs=>by
    obtain ⟨t,ht,rfl⟩:=aa3.mp hs
    exact (zk (f:=0) (lG (r:=t)) (fB t (abC ht))).1)
   rw [aax,S5] at h1
   have h2:=abH (λc=> !vP p c) (b7 1 ((p.take i).map led))
   rw [oQ,aax]
   exact NS h1 h2 hi hl
  obtain ⟨hll,h32,_⟩:=zk (f:=0) (lG (r:=r)) hr
  obtain ⟨N,hN⟩:∃ N:Int,N=1 + (i:Int):=⟨_,rfl⟩
  obtain ⟨m1,m2,m3,m4,m5,m6⟩:=NR hN hi
  rw [<- hN]
  obtain ⟨on,Z2⟩:∃ on,on=p.getD (i + 1) []:=⟨_,rfl⟩
  have st:fW (gB (g2 uI (af 2) (eQ dX (ae (af 0) ag)))) (aT 3 (g2 a9 (af 0) (af 2))) bP [some (bw p),sL acc,sI N,some (.tuple []),c]=some (.nx [some (bw p),sL acc,sI N,some (dR on),c]):=by
   have hc:gB (g2 uI (af 2) (eQ dX (ae (af 0) ag))) [some (bw p),sL acc,sI N,some (.tuple []),c]=some (decide (N < (p.length:Int))):=by
    refine cI ?_
    show some (PyData.bool (decide (N < (((p.map dR).length:Nat):Int))))=_
    rw [aax]
   by_cases q:N < (p.length:Int)
   .refine oo true (hc.trans (abJ some (aaQ q))) (λ_=>?_) λz=>nomatch z
    refine (aJ (ai rfl rfl (JX m1 q))).trans ?_
    rw [m2,<- Z2]
    rfl
   .refine oo false (hc.trans (abJ some (aaX q))) (λz=>nomatch z) λ_=>?_
    have:on=[]:=by rw [Z2,aaJ,abW (m6 q)]; rfl
    rw [this]; rfl
  have ix:g2 a9 (af 0) (g2 gz (af 2) (gC (.int (1)))) [some (bw p),sL acc,sI N,some (dR on),c]=some (dR r):=by
   refine (ai rfl rfl (JX (p:=p) (i:=N - 1) m3 m4)).trans ?_
   rw [m5,aaJ,er]
   rfl
  have ss4:=Dp (a:=bj (tD kD (ae (g2 a9 (af 0) (g2 gz (af 2) (gC (.int (1))))) ag))) (b:=g2 a9 (af 0) (g2 gz (af 2) (gC (.int (1))))) (δ:=[some (bw p),sL acc,sI N,some (dR on),c]) (r:=r) (by
   unfold bj tD
   rw [cons_of ix rfl]
   rfl) (.inr ix) h32
  refine ⟨_,[some (bw p),sL (((b7 1 ((p.take (i + 1)).map led)).filter λc=> !vP p c).map dC),sI N,some (dR on),sL ((led r).map .int)],rfl,?_,_,_,_,rfl⟩
  refine bZ [some (bw p),sL acc,sI N,some (.tuple []),c] rfl ?_
  refine bZ _ st ?_
  refine bZ [some (bw p),sL acc,sI N,some (dR on),sL ((led r).map .int)] (aJ (aU ss4)) ?_
  have hcp:d9 (bz (af 4)) 1 [2,3] (aP 0) (gB (g2 yw (af 0) (af 2))) (bG (ae (af 0) (ae (g2 gz (af 1) (af 0)) ag))) [some (bw p),sL acc,sI N,some (dR on),sL ((led r).map .int)]=some ((((led r).filter λb=> !decide (b∈on)).map λb=>(b,N - b)).map dC):=by
   refine vO PyData.int dC (λb=>(b,N - b)) (λb=> !decide (b∈on)) (led r) rfl (aa6 hll (by decide)) (λb _=>?_) λb _ _=>rfl
   refine cI (ai rfl rfl ?_)
   unfold yw
   rw [JW]
   rfl
  refine (Dr rfl hcp (by simp only [aax]; exact (zk (lG (r:=r)) hr).2.2 (abH (λb=> !decide (b∈on)) (led r)) _ WC)).trans ?_
  have key:((b7 1 ((p.take (i + 1)).map led)).filter λc=> !vP p c).map dC=acc ++ (((led r).filter λb=> !decide (b∈on)).map λb=>(b,N - b)).map dC:=by
   rw [ht,aba,show List.map led [r]=[led r] from rfl,nK,aax,S5,aee,aba,<- oQ]
   unfold n4
   rw [List.filter_map]
   have ef:((λc:Int×Int=> !vP p c) ∘ λb:Int=>(b,((1 + i:Nat):Int) - b))=λb=> !decide (b∈on):=by
    funext b
    show (!vP p (b,((1 + i:Nat):Int) - b))=_
    rw [NQ,Z2,Nat.add_comm 1 i]
   rw [ef]
   rw [hN]
   rfl
  rw [key]
  rfl
 .rintro δ' ⟨a,b,c,rfl⟩
  refine ret (.list (((b7 1 (p.map led)).filter λc=> !vP p c).map dC)) ?_ (.mk rfl rfl)
  rw [abG]
  rfl
theorem qM (h:g δ=some d):qg g δ=some (.nx δ):=by unfold qg; rw [h]; rfl
theorem fP (h1:a δ=some x) (h2:b δ=some y):bG (ae a (ae b ag)) δ=some (.tuple [x,y]):=by
 unfold bG; rw [cons_of h1 (cons_of h2 rfl)]; rfl
structure Sz (m:Nat) (q:eZ):Prop where
 low:Us q
 top:bt q.1<=m
 bot:bt q.2<=m
theorem Sz.ne (h:Sz m q):q.2≠0:=by have:=h.low.1; lia
theorem Sz.up (h:Sz m q) (hn:m<=n):Sz n q:=⟨h.low,aY h.top hn,aY h.bot hn⟩
theorem j0 (hb:b≠0) (h1:bt t<=m) (h2:bt b<=m):Sz m (aE t b):=⟨JI hb,ff ((bS hb).C4 hb) h1,ff ((bS hb).bot_le hb) h2⟩
theorem S7 (ha:Sz m a) (hb:Sz m b):Sz (m + m) (vG a b):=j0 (abl ha.ne hb.ne) (fw ha.top hb.top) (fw ha.bot hb.bot)
theorem zo (a b:Int) (hb:bt b<=4000):cR [.int a,.int b]=some (.int (Int.gcd a b:Nat)):=by
 rw [oW]
 refine aV ?_
 refine aI [sI (a.natAbs:Nat),sI b,none,none] (by simp only [aT,eQ,ae,af,aaM,aa2,ag,aac,oN,adk]; rw [yV]) ?_
 refine aI [sI (a.natAbs:Nat),sI (b.natAbs:Nat),none,none] (by simp only [aT,eQ,ae,af,aaT,aaM,aa2,ag,aac,oN,aeb,adk]; rw [yV]) ?_
 refine nD (λm δ=>∃ (x:Nat) (r p:Option D),δ=[sI (x:Nat),sI (m:Nat),r,p] /\ bt (m:Int)<=4000 /\ Nat.gcd x m=Int.gcd a b) (λδ=>∃ (x:Nat) (r p:Option D),δ=[sI (x:Nat),sI 0,r,p] /\ x=Int.gcd a b) b.natAbs ?_ ?_ ?_
 .exact ⟨_,none,none,rfl,ff (by simp) hb,rfl⟩
 .rintro m δ ⟨x,r,p,rfl,Zu,hg⟩
  by_cases hm:m=0
  .subst hm
   exact .inl ⟨by simp; rfl,x,r,p,rfl,by simpa using hg⟩
  .have i9:x % m < m:=Nat.mod_lt _ (by lia)
   have e:((x:Int) % (m:Int))=((x % m:Nat):Int):=by lia
   have CN:bt ((x % m:Nat):Int)<=4000:=ff (by simp; lia) Zu
   refine .inr ⟨by simp only [gB,g2,af,aaT,aaM,aa2,gC,aac,yY]; simp; lia,[sI m,sI ((x % m:Nat):Int),sI ((x % m:Nat):Int),p],x % m,?_,i9,m,_,_,rfl,CN,?_⟩
   .simp only [ax,aT,g2,af,aaM,aa2,aaT,aac,fW,gB,g1,gC,bP]
    rw [cY (by lia),e]
    simp only [aac,aaT,aaM,aa2,adk,aeb,AK,xu,abo]
    have ad5:Builtin.Int.intBits ((x % m:Nat):Int)<=4000:=CN
    rw [aaO (by lia)]
   .rw [<- hg,Nat.gcd_comm x m,Nat.gcd_rec m x,Nat.gcd_comm]
 .rintro δ' ⟨x,r,p,rfl,h2⟩
  exact ret _ (by simp only [af,aaM,aa2]; rw [h2]) (.mk rfl rfl)
theorem nM (t b:Int) (RR:b≠0) (hb:bt b<=4000):ly [.int t,.int b]=some (dF (aE t b)):=by
 rw [SO]
 refine aV ?_
 have hg:=zo t b hb
 have hd0:dv t b≠0:=Wq RR
 have LB:bt (dv t b)<=9000:=by
  refine aY (ff ?_ hb) (by decide)
  have:(Int.gcd t b) ∣ b.natAbs:=ady _ _
  have:=ade (by lia) this
  unfold dv; split <;> lia
 refine C8 (by simp only [gB,g2,af,aaT,aaM,aa2,gC,aac,jT]; rw [aaX RR]) ?_
 refine aI [sI t,sI b,sI (Int.gcd t b:Nat)] (by simp only [aT,ay,ae,af,aaM,aa2,aaT,ag,aac]; rw [hg]; rfl) ?_
 refine aI [sI t,sI b,sI (dv t b)] ?_ ?_
 .simp only [fW,gB,g2,af,aaT,aaM,aa2,gC,aac,xu,abo]
  unfold dv
  split <;> rfl
 .refine ret (dF (aE t b)) ?_ (.mk rfl rfl)
  simp only [bG,ae,g2,af,aaM,aa2,aaT,aac]
  rw [yW hd0 LB,yW hd0 LB]
  rfl
theorem vQ (a b:eZ) (ha:Sz 4000 a) (hb:Sz 4000 b):nG [dF a,dF b]=some (dF (vG a b)):=by
 rw [NH]
 refine aV ?_
 have f1:=nM a.1 b.2 hb.ne hb.bot
 have f2:=nM b.1 a.2 ha.ne ha.bot
 have o1:=bS (t:=a.1) hb.ne
 have o2:=bS (t:=b.1) ha.ne
 have hq:=(JG ha.low.2 hb.low.2 o1 o2).qm (abl ha.ne hb.ne)
 have c1:=ff (o1.C4 hb.ne) ha.top
 have c2:=ff (o1.bot_le hb.ne) hb.bot
 have c3:=ff (o2.C4 ha.ne) hb.top
 have c4:=ff (o2.bot_le ha.ne) ha.bot
 refine aI [some (dF a),some (dF b),some (dF (aE a.1 b.2)),none] (by simp only [aT,ay,ae,g2,af,aaM,aa2,gC,aac,fU,aaT,eP,ag]; rw [f1]; rfl) ?_
 refine aI [some (dF a),some (dF b),some (dF (aE a.1 b.2)),some (dF (aE b.1 a.2))] (by simp only [aT,ay,ae,g2,af,aaT,aaM,aa2,gC,aac,fU,eP,ag]; rw [f2]; rfl) ?_
 refine ret (dF (vG a b)) ?_ (.mk rfl rfl)
 unfold vG
 rw [<- hq]
 simp only [bG,ae,g2,af,aaT,aaM,aa2,gC,aac,fU,eP]
 rw [dM (cT c1 c3),dM (cT c2 c4)]
 rfl
theorem Bm (q:eZ) (k:Nat) (h1:bt q.1<=1000) (h2:bt q.2<=1000) (hk:k<=1000):qE [dF q,.int (k:Nat)]=some (dF (q.1 ^ k,q.2 ^ k)):=by
 rw [NI]
 refine aV ?_
 refine aI [some (dF q),sI (k:Nat),sI 1,none,none] rfl (aI [some (dF q),sI (k:Nat),sI 1,sI 1,none] rfl ?_)
 refine jS 0 k (λi δ=>∃ z:Option D,δ=[some (dF q),sI (k:Nat),sI (q.1 ^ i),sI (q.2 ^ i),z]) (iy rfl (by lia)) ⟨none,by rw [Int.pow_zero,Int.pow_zero]⟩ ?_ ?_
 .rintro i δ hi ⟨z,rfl⟩
  have hm:∀ {u:Int},bt u<=1000->IntMulOk (u ^ i) u:=λh=>cT (JL h i) h (by have:1000 * i<=1000 * 1000:=adR _ (by lia); lia)
  refine ⟨_,[some (dF q),sI (k:Nat),sI (q.1 ^ (i + 1)),sI (q.2 ^ (i + 1)),sI (0 + (i:Int))],rfl,?_,_,rfl⟩
  exact bZ [some (dF q),sI (k:Nat),sI (q.1 ^ (i + 1)),sI (q.2 ^ i),sI (0 + (i:Int))] (aJ (ai rfl (ai rfl rfl (fU q)) ((dM (hm h1)).trans (by rw [aeT])))) (aJ (ai rfl (ai rfl rfl (eP q)) ((dM (hm h2)).trans (by rw [aeT]))))
 .rintro δ' ⟨z,rfl⟩
  exact ret (dF (q.1 ^ k,q.2 ^ k)) rfl (.mk rfl rfl)
theorem hJ (a b:eZ) (m1:IntMulOk a.1 b.2) (m2:IntMulOk b.1 a.2):dh [dF a,dF b]=some (.bool (decide (a.1 * b.2 < b.1 * a.2))):=by
 exact aV (ret _ (ai (ai (ai rfl rfl (fU a)) (ai rfl rfl (eP b)) (dM m1)) (ai (ai rfl rfl (fU b)) (ai rfl rfl (eP a)) (dM m2)) rfl) (.mk rfl rfl))
theorem zp (a b:eZ) (ha:Sz 4000 a) (hb:Sz 4000 b):oX [dF a,dF b]=some (dF (C5 a b)):=by
 refine aV ?_
 obtain ⟨x,y,hg,e1,e2,hc⟩:=xS (t:=a.2) (b:=b.2) hb.ne
 have vg:=zo a.2 b.2 hb.bot
 have LB:=ff (cz ⟨y,by rw [abY]; exact e2⟩ hb.ne) hb.bot
 generalize (Int.gcd a.2 b.2:Int)=g at *
 have ex:a.2 / g=x:=by rw [e1]; exact acI _ (by lia)
 have ey:b.2 / g=y:=by rw [e2]; exact acI _ (by lia)
 have hx:=ff (cz ⟨g,e1⟩ ha.ne) ha.bot
 have hy:=ff (cz ⟨g,e2⟩ hb.ne) hb.bot
 have vf:=nM (a.1 * y + b.1 * x) g (by lia) LB
 have ok:=bS (t:=a.1 * y + b.1 * x) (show g≠0 by lia)
 have hq:=(Nn ha.low.2 hb.low.2 ha.low.1 hb.low.1 hg e1 e2 hc ok).qm (abl ha.ne hb.ne)
 have c2:=ff (ok.bot_le (by lia)) LB
 refine aI [some (dF a),some (dF b),sI g,none,none,none] (aJ (call_of (cons_of (ai rfl rfl (eP a)) (cons_of (ai rfl rfl (eP b)) rfl)) rfl vg)) ?_
 refine aI [some (dF a),some (dF b),sI g,sI x,none,none] (aJ ((ai (ai rfl rfl (eP a)) rfl (om hg (aY LB (by decide)))).trans (by rw [ex]))) ?_
 refine aI [some (dF a),some (dF b),sI g,sI x,sI y,none] (aJ ((ai (ai rfl rfl (eP b)) rfl (om hg (aY LB (by decide)))).trans (by rw [ey]))) ?_
 refine aI [some (dF a),some (dF b),sI g,sI x,sI y,some (dF (aE (a.1 * y + b.1 * x) g))]
  (aJ (call_of (cons_of (ai (ai (ai rfl rfl (fU a)) rfl (dM (cT ha.top hy))) (ai (ai rfl rfl (fU b)) rfl (dM (cT hb.top hx))) rfl) (cons_of rfl rfl)) rfl vf)) ?_
 refine ret (dF (C5 a b)) ?_ (.mk rfl rfl)
 unfold C5
 rw [<- hq]
 exact fP (ai rfl rfl (fU _)) (ai (ai rfl rfl (dM (cT hx hy))) (ai rfl rfl (eP _)) (dM (cT (fw hx hy) c2)))
theorem S8 (h:Sz m q):Sz m (-q.1,q.2):=⟨⟨h.low.1,by show Int.gcd (-q.1) q.2=1; rw [Int.neg_gcd]; exact h.low.2⟩,SN h.top,h.bot⟩
theorem J8 (a b:eZ) (ha:Sz 4000 a) (hb:Sz 4000 b):ue [dF a,dF b]=some (dF (C5 a (-b.1,b.2))):=by
 refine aV (ret _ (call_of (cons_of rfl (cons_of (fP (x:=.int (-b.1)) (y:=.int b.2) rfl rfl) rfl)) rfl (zp a (-b.1,b.2) ha (S8 hb))) (.mk rfl rfl))
theorem zq (a b:eZ) (ha:Sz 4000 a) (hb:Sz 4000 b) (h0:b.1≠0):rS [dF a,dF b]=some (dF (vG a (aE b.2 b.1))):=by
 refine aV (ret _ (call_of (cons_of rfl (cons_of (call_of (cons_of rfl (cons_of rfl rfl)) rfl (nM b.2 b.1 h0 hb.top)) rfl)) rfl (vQ a _ ha (j0 h0 hb.bot hb.top))) (.mk rfl rfl))
def tp (n k:Nat):Int:=(-1) ^ k * (JK.ch n k:Int)
theorem nB (n:Nat):tp n 0=1:=by unfold tp; rw [JK.qA]; rfl
theorem EV (h:k<=n): -tp n k * ((n:Int) - k)=((k:Int) + 1) * tp n (k + 1):=by
 have:=JK.qB n k h
 have e:((k:Int) + 1) * (JK.ch n (k + 1):Int)=((n:Int) - k) * (JK.ch n k:Int):=by
  exact_mod_cast this
 unfold tp
 grind
theorem NT (h:k<=n): -tp n k * ((n:Int) - k) / ((k:Int) + 1)=tp n (k + 1):=by
 rw [EV h,Int.mul_ediv_cancel_left _ (by lia)]
theorem J9 (n k:Nat):tp (n + 1) (k + 1)=tp n (k + 1) - tp n k:=by
 unfold tp
 rw [show JK.ch (n + 1) (k + 1)=JK.ch n k + JK.ch n (k + 1) from rfl,aeT]
 grind
def Ka (n:Nat):List Int:=(List.range (n + 1)).map (tp n)
theorem Kb (n:Nat):(Ka n).length=n + 1:=by simp [Ka]
theorem zr:∀ (n k:Nat),(tp n k).natAbs<=2 ^ n
 | n,0=>by rw [nB]; exact Nat.one_le_two_pow
 | 0,k + 1=>by unfold tp; rw [JK.xT 0 (k + 1) (by lia)]; simp
 | n + 1,k + 1=>by
   have h1:=zr n (k + 1)
   have h2:=zr n k
   rw [J9,Nat.pow_succ]
   lia
def tQ (b g:Nat):List Int:=List.replicate b 0 ++ Ka g
theorem Bo (b g:Nat):(tQ b g).length=b + g + 1:=by unfold tQ; rw [List.length_append,List.length_replicate,Kb]; lia
theorem NU (h:t∈tQ b g):bt t<=g + 1:=by
 rcases abd.mp h with z | z
 .rw [(List.mem_replicate.mp z).2]; exact bY (show (0:Int).natAbs < 2 ^ (g + 1) from Nat.two_pow_pos _)
 .obtain ⟨k,_,rfl⟩:=aa3.mp z
  exact bY (abq (zr g k) (Nat.pow_lt_pow_right (by decide) (by lia)))
theorem Bp (b g:Nat):(List.replicate b ((0,1):eZ) ++ (List.range (g + 1)).map λk=>(tp g k,1))=(tQ b g).map λt=>((t,1):eZ):=by
 unfold tQ Ka
 rw [aba,List.map_replicate,abO]
 rfl
theorem Dx (b g:Nat) (hb:b<=100) (hg:g<=100):jV [.int (b:Nat),.int (g:Nat)]=some ((List.replicate b ((0,1):eZ) ++ (List.range (g + 1)).map λk=>(tp g k,1)).map dF):=by
 rw [Di]
 refine aV ?_
 refine aI [sI (b:Nat),sI (g:Nat),sL ((List.replicate b ((0,1):eZ)).map dF),none,none] (yZ ?_) ?_
 .refine (E1 (ds:=[dF (0,1)]) (n:=b) rfl rfl (by lia) (by simp; lia)).trans ?_
  simp
 refine aI [sI (b:Nat),sI (g:Nat),sL ((List.replicate b ((0,1):eZ)).map dF),sI 1,none] rfl ?_
 refine jS 0 (g + 1) (λi δ=>∃ x,δ=[sI (b:Nat),sI (g:Nat),sL ((List.replicate b ((0,1):eZ) ++ (List.range i).map λk=>(tp g k,1)).map dF),sI (tp g i),x]) (iy ?_ (by lia)) ⟨none,?_⟩ ?_ ?_
 .show some [PyData.int (((g:Nat):Int) + 1)]=_
  rfl
 .rw [nB]; simp
 .rintro i δ hi ⟨x,rfl⟩
  refine ⟨_,[sI (b:Nat),sI (g:Nat),sL ((List.replicate b ((0,1):eZ) ++ (List.range (i + 1)).map λk=>(tp g k,1)).map dF),sI (tp g (i + 1)),sI (0 + (i:Int))],rfl,?_,_,rfl⟩
  refine bZ [sI (b:Nat),sI (g:Nat),sL ((List.replicate b ((0,1):eZ) ++ (List.range (i + 1)).map λk=>(tp g k,1)).map dF),sI (tp g i),sI (0 + (i:Int))] ((mR (d:=dF (tp g i,1)) rfl rfl (by simp; lia)).trans ?_) ?_
  .have key:(List.replicate b ((0,1):eZ) ++ (List.range (i + 1)).map λk=>(tp g k,1)).map dF=(List.replicate b ((0,1):eZ) ++ (List.range i).map λk=>(tp g k,1)).map dF ++ [dF (tp g i,1)]:=by
    rw [List.range_succ,aba (l₁:=List.range i),<- List.append_assoc,aba (l₂:=List.map _ [i])]
    rfl
   rw [key]
   rfl
  .refine (aJ (ai (ai rfl rfl (dM (mul_right (i:= -tp g i) (j:=(g:Int) - (0 + (i:Int))) (by lia) (by lia)))) rfl (om (by lia) ?_))).trans ?_
   .exact aY (bY (m:=20) (by lia)) (by decide)
   .rw [show (0 + (i:Int))=(i:Int) by lia,NT (by lia)]
    rfl
 .rintro δ' ⟨x,rfl⟩
  exact ret (.list ((List.replicate b ((0,1):eZ) ++ (List.range (g + 1)).map λk=>(tp g k,1)).map dF)) rfl (.mk rfl rfl)
theorem Kc (h1:gi δ=some ds) (h2:kE t b ds δ=r):fu gi t b δ=r:=by unfold fu; rw [h1]; exact h2
theorem WD (h:∀ x,0<=A x) (b:Int):0<=lv A r b:=by
 have h1:=h (b - 1)
 have h2:=h b
 unfold lv
 split <;> split <;> lia
theorem Fb (h:∀ x,0<=A x):∀ (k:Nat) (b:Int),0<=WW A p k b
 | 0,b=>by rw [WW_0]; exact h b
 | k + 1,b=>by rw [qJ]; exact WD (Fb h k) b
theorem Kd (x:Int):0<=A0 x:=by unfold A0; split <;> lia
theorem Ke (h:∀ x,0<=A x) (hr:∀ x∈r,0 < A x) (hb:b∈led r):0 < lv A r b:=by
 unfold lv
 rcases kx.mp hb with z | z
 .grind
 .grind
theorem Fc:∀ {q:d6} {r:List Int},LC r q->∀ k x,x∈(r :: q).getD (k + 1) []->x∈led ((r :: q).getD k [])
 | [],_,_,k,x,hx=>by simp at hx
 | s :: q,r,hc,0,x,hx=>hc.1.2.2 x (by simpa using hx)
 | s :: q,r,hc,k + 1,x,hx=>by
   have:=Fc hc.2 k x (by simpa using hx)
   simpa using this
theorem S9 (h:Pl p) (k:Nat) (x:Int) (hx:x∈p.getD (k + 1) []):x∈led (p.getD k []):=by
 obtain ⟨q,rfl,hc⟩:=h.ex
 exact Fc hc k x hx
theorem Kf (h:Pl p):∀ (k:Nat) (x:Int),x∈p.getD k []->0 < WW A0 p k x
 | 0,x,hx=>by
   obtain ⟨q,rfl,hc⟩:=h.ex
   rw [WW_0]
   have:x=0:=by simpa using hx
   subst this; decide
 | k + 1,x,hx=>by
   rw [qJ]
   exact Ke (Fb Kd k) (Kf h k) (S9 h k x hx)
theorem Ta (h:Pl p) (k:Nat) (x:Int) (hx:x∈led (p.getD k [])):0 < WW A0 p (k + 1) x:=by
 rw [qJ]
 exact Ke (Fb Kd k) (Kf h k) hx
theorem Dt.get (h:Dt kds F) (hp:F b g≠0):dY kds [.inl b,.inl g]=some (.int (F b g)):=by
 have:=h b g
 cases e:dY kds [.inl b,.inl g] with
 | none=>rw [e] at this; exact absurd (by injection this with z; exact z.symm) hp
 | some d=>rw [e] at this; rw [show d=.int (F b g) from this]
def dn (p:d6):WF:=(b7 0 p).foldl ie (vM (0,0))
theorem Bq (h:Pl p) {k:Nat} (e:x + y=(k:Int)):dn p x y=WW A0 p k x:=J1 h e
theorem qN:∀ {q:d6} {n:Nat},c∈b7 n q->∃ k,k < q.length /\ c.1∈q.getD k [] /\ c.1 + c.2=((n + k:Nat):Int)
 | [],n,h=>by simp [b7] at h
 | r :: q,n,h=>by
   rw [b7,abd] at h
   rcases h with h | h
   .obtain ⟨b,hb,rfl⟩:=aa3.mp h
    exact ⟨0,by simp,by simpa using hb,by show b + ((n:Int) - b)=_; lia⟩
   .obtain ⟨k,h1,h2,h3⟩:=qN h
    exact ⟨k + 1,by simpa using h1,by simpa using h2,by rw [h3]; lia⟩
theorem Kg:∀ (k:Nat) (b:Int),WW A0 p k b<=2 ^ k
 | 0,b=>by rw [WW_0]; unfold A0; split <;> decide
 | k + 1,b=>by
   have h1:=Kg (p:=p) k (b - 1)
   have h2:=Kg (p:=p) k b
   have h3:=Fb (p:=p) Kd k (b - 1)
   rw [qJ,aeT]
   unfold lv
   split <;> split <;> lia
structure mT (p:d6) (c:Int×Int) (b g:Nat):Prop where
 eq:c=((b:Int),(g:Int))
 dr:b + g<=p.length
 d1:1<=b + g
 led:(b:Int)∈led (p.getD (b + g - 1) [])
 ww:dn p c.1 c.2=WW A0 p (b + g) b
 pos:0 < dn p c.1 c.2
 le:dn p c.1 c.2<=2 ^ (b + g)
theorem NV {k:Nat} (h:(0<=x /\ x<=(k:Int)) \/ (0<=x - 1 /\ x - 1<=(k:Int))) (e:x + y=((1 + k:Nat):Int)):∃ b g:Nat,x=(b:Int) /\ y=(g:Int) /\ b + g=k + 1 /\ x + y=((b + g:Nat):Int):=⟨x.toNat,y.toNat,by lia,by lia,by lia,by lia⟩
theorem Tb (hp:Pl p) (h:c∈b7 1 (p.map led)):∃ b g:Nat,mT p c b g:=by
 obtain ⟨k,h1,h2,h3⟩:=qN h
 rw [aax] at h1
 have e:(p.map led).getD k []=led (p.getD k []):=by grind
 rw [e] at h2
 have hr:=(uh hp).2 k
 obtain ⟨b,g,CN,hg',hn,hs⟩:=NV ((kx.mp h2).imp (hr _) (hr _)) h3
 have hw:dn p c.1 c.2=WW A0 p (b + g) b:=by rw [Bq hp (k:=b + g) hs,CN]
 refine ⟨b,g,Prod.ext CN hg',hn ▸ h1,hn ▸ Nat.succ_le_succ (abS k),?_,hw,?_,?_⟩
 .grind
 .rw [hw,hn,<- CN]; exact Ta hp k _ h2
 .rw [hw]; exact Kg _ _
theorem Tc (p:d6) (n:Nat) (b:Int):Dv p (b,(n:Int) - b)=decide (b∈p.getD n []):=by
 unfold Dv
 rw [show b + ((n:Int) - b)=(n:Int) by lia,abb,aaQ (show (0:Int)<=(n:Int) by lia),acG]
 rcases Nat.lt_or_ge n p.length with q | q
 .grind
 .rw [aaX (show ¬ (n:Int) < (p.length:Int) by lia),adZ,aaJ,abW q]
  simp
theorem qO (hp:Pl p):aC p=(b7 1 (p.map led)).filter λc=> !Dv p c:=by
 obtain ⟨q,rfl,_⟩:=hp.ex
 unfold aC
 rw [List.filter_cons_of_neg]
 have:Dv ([0] :: q) (0,0)=true:=by unfold Dv; simp
 rw [this]; decide
theorem pz (hp:Pl p) (h:c∈aC p):∃ b g:Nat,mT p c b g:=by
 rw [qO hp] at h
 exact Tb hp (acj.mp h).1
theorem vR (hl:p.length<=24) (fB:∀ r∈p,r.length<=25):(aC p).length<=1201:=by
 refine aa6 (abH _ _) ?_
 have:=kX (p.map led) 1 (λs hs=>by
  obtain ⟨t,ht,rfl⟩:=aa3.mp hs
  have:=lG (r:=t)
  have:=fB t ht
  lia)
 rw [aax] at this
 rw [aa0]; lia
theorem tm (hp:Pl p) (hl:p.length<=24) (fB:∀ r∈p,r.length<=25):iD [bw p]=some ((aC p).map dC):=by
 rw [Dw hl fB,qO hp]; rfl
theorem lH (h:g δ=some ds) (hn:ds.length=n) (hG:G ds=some r) (hd:uD r=true):iS G n g δ=some r:=by
 unfold iS; rw [h,Option.bind_some,if_pos hn,hG,Option.bind_some,if_pos hd]
theorem zt:∀ l:fH,uD (l.map dC)=true
 | []=>rfl
 | c :: l=>by
   have:=zt l
   exact this
theorem qP (h:g δ=some (.list l)):bz g δ=some l:=by unfold bz; rw [h]; rfl
theorem vS (hl:p.length<=24) (he:mT p c b g):bt (dn p c.1 c.2)<=25:=by
 have h1:=he.pos
 have h2:=he.le
 have h3:=he.dr
 have:(2:Int) ^ (b + g)<=2 ^ 24:=by exact_mod_cast Nat.pow_le_pow_right (by decide) (by lia)
 exact bY (by lia)
theorem WE (h:k < n):D7 n (k:Int)=some k:=by
 unfold D7
 rw [aaL (by lia),aaL (by lia)]
 simp
theorem NW (h1:af i δ=some (.list ((tab n T).map .int))) (h2:gx δ=some (.int (k:Nat))) (h3:ge δ=some (.int y)) (hk:k < n):uL i f gx ge δ=some (.nx (δ.set i (some (.list ((tab n λj=>if k=j then f (T k) y else T j).map .int))))):=by
 unfold uL
 rw [h1,h2,h3]
 show (if (0:Int)<=(k:Nat) then (D7 ((tab n T).map PyData.int).length (k:Nat)).bind _ else none)=_
 rw [aaL (by lia),aax,ET,WE hk,aac,aaU,Nq hk,<- Np,List.map_set]
 rfl
theorem NX (h:g δ=some (.list l)) (hr:ki l=r):dz g δ=some r:=by unfold dz; rw [h,<- hr]; rfl
theorem Td (h1:ga δ=some (.list xs)) (h2:gb δ=some (.list ys)):MR ga gb δ=some (AV xs ys):=by unfold MR; rw [h1,h2]; rfl
theorem Fd {α β:Type} (e1:α->D) (e2:β->D):∀ (xs:List α) (ys:List β),AV (xs.map e1) (ys.map e2)=(xs.zip ys).map λx=>.tuple [e1 x.1,e2 x.2]
 | [],ys=>by simp [AV]
 | xs,[]=>by simp [AV]
 | x :: xs,y :: ys=>by
   have:=Fd e1 e2 xs ys
   unfold AV at this ⊢
   rw [aaY,aaY,List.zipWith_cons_cons,this]; rfl
theorem Kh {α:Type} (enc:α->D) (xs:List α):ki (xs.map enc)=xs.zipIdx.map λx=>.tuple [.int (x.2:Nat),enc x.1]:=by
 unfold ki
 rw [List.zipIdx_map,abO]
 rfl
end az
namespace az
def sm {α:Type} (f:α->Int) (l:List α):Int:=(l.map f).sum
theorem zu {α:Type} (f:α->Int):sm f []=0:=rfl
theorem fQ (f:α->Int) (a:α) (l:List α):sm f (a :: l)=f a + sm f l:=rfl
theorem Dy (f:α->Int) (l m:List α):sm f (l ++ m)=sm f l + sm f m:=by unfold sm; rw [List.map_append,List.sum_append]
theorem Dz (f:β->Int) (g:α->β) (l:List α):sm f (l.map g)=sm (λa=>f (g a)) l:=by unfold sm; rw [List.map_map]; rfl
theorem j3 (h:∀ a∈l,f a=g a):sm f l=sm g l:=by unfold sm; rw [List.map_congr_left h]
theorem vU (f g:α->Int):∀ l:List α,sm (λa=>f a + g a) l=sm f l + sm g l
 | []=>rfl
 | a :: l=>by rw [fQ,fQ,fQ,vU f g l]; lia
theorem NY (h:∀ a∈l,f a=0):sm f l=0:=by
 induction l with
 | nil=>rfl
 | cons a l ih=>rw [fQ,h a aaD,ih λb hb=>h b (aaE _ hb)]; rfl
theorem NZ (h:l.Perm m):sm f l=sm f m:=by
 induction h with
 | nil=>rfl
 | cons a _ ih=>rw [fQ,fQ,ih]
 | swap a b l=>rw [fQ,fQ,fQ,fQ]; lia
 | trans _ _ i j=>rw [i,j]
theorem sf (f:α->Int) (P:α->Bool):∀ l:List α,sm f (l.filter P)=sm (λa=>if P a=true then f a else 0) l
 | []=>rfl
 | a :: l=>by
   rw [adG,fQ,<- sf f P l]
   cases P a with
   | true=>rw [aaL rfl,aaL rfl,fQ]
   | false=>rw [aaO (by decide),aaO (by decide)]; lia
theorem DA {l s:List Int} (hl:l.Nodup) (hs:s.Nodup) (h:∀ x∈s,x∈l):sm (λa=>if a∈s then f a else 0) l=sm f s:=by
 have pm:List.Perm (l.filter λx=>decide (x∈s)) s:=(List.perm_ext_iff_of_nodup (hl.sublist List.filter_sublist) hs).mpr λz=>by grind
 rw [<- NZ pm,sf]
 exact j3 λa _=>by simp
theorem WG (hr:wY r) (f:Int->Int):sm (λb=>lv A r b * f b) (led r)=sm (λb=>A b * (f (b + 1) + f b)) r:=by
 have nl:(led r).Nodup:=qK iu
 have nr:=qK hr
 have e1:sm (λb=>if b∈r then A b * f b else 0) (led r)=sm (λb=>A b * f b) r:=DA nl nr λx hx=>kx.mpr (.inl hx)
 have e2:sm (λb=>if b∈r.map (· + 1) then A (b - 1) * f b else 0) (led r)=sm (λb=>A b * f (b + 1)) r:=by
  rw [DA (f:=λb=>A (b - 1) * f b) nl (ab4.mpr (nr.imp λh e=>h (by lia))) (λx hx=>by
   obtain ⟨y,hy,rfl⟩:=aa3.mp hx
   exact kx.mpr (.inr (by rw [show y + 1 - 1=y by lia]; exact hy))),Dz]
  exact j3 λa _=>by rw [show a + 1 - 1=a by lia]
 have e3:sm (λb=>A b * (f (b + 1) + f b)) r=sm (λb=>A b * f (b + 1)) r + sm (λb=>A b * f b) r:=by
  rw [<- vU]
  exact j3 λa _=>by rw [Int.mul_add]
 rw [e3,<- e1,<- e2,<- vU]
 refine j3 λb _=>?_
 have m:b∈r.map (· + 1)↔b - 1∈r:=by grind
 unfold lv
 simp only [m]
 split <;> split <;> simp [Int.add_mul]
def Uz (φ:Int->Int->Int) (c:Int×Int):Int:=φ (c.1 + 1) c.2 + φ c.1 (c.2 + 1) - φ c.1 c.2
theorem Br (φ:Int->Int->Int):∀ (q:d6) (r:List Int) (n:Nat) (A:Int->Int) (W:Int->Int->Int),(∀ j,p.getD (n + j) []=(r :: q).getD j [])->LC r q->wY r->
  (∀ (x y:Int) (j:Nat),x + y=(n:Int) + (j:Int)->W x y=WW A (r :: q) j x)->
  sm (λc=>W c.1 c.2 * φ c.1 c.2) ((b7 (n + 1) ((r :: q).map led)).filter λc=> !Dv p c)=sm (λb=>A b * φ b ((n:Int) - b)) r + sm (λc=>W c.1 c.2 * Uz φ c) (b7 n (r :: q))
 | q,r,n,A,W,hg,hc,hr,hW=>by
   have nl:(led r).Nodup:=qK iu
   have e1:=hg 1
   have RY:sm (λc=>W c.1 c.2 * φ c.1 c.2) ((n4 (n + 1) (led r)).filter λc=> !Dv p c)=sm (λb=>lv A r b * φ b ((n:Int) + 1 - b)) ((led r).filter λb=> !decide (b∈p.getD (n + 1) [])):=by
    unfold n4
    rw [List.filter_map,Dz]
    have ef:((λc:Int×Int=> !Dv p c) ∘ λb:Int=>(b,((n + 1:Nat):Int) - b))=λb=> !decide (b∈p.getD (n + 1) []):=by
     funext b
     show (!Dv p (b,((n + 1:Nat):Int) - b))=_
     rw [Tc]
    rw [ef]
    refine j3 λb _=>?_
    rw [hW b (((n + 1:Nat):Int) - b) 1 (by push_cast; lia),show ((n + 1:Nat):Int) - b=(n:Int) + 1 - b by push_cast; rfl]
    show WW (lv A r) q 0 b * _=_
    rw [WW_0]
   have hlv:=WG hr (A:=A) (λb=>φ b ((n:Int) + 1 - b))
   have yP:∀ s:List Int,s.Nodup->(∀ x∈s,x∈led r)->sm (λb=>lv A r b * φ b ((n:Int) + 1 - b)) ((led r).filter λb=> !decide (b∈s)) + sm (λb=>lv A r b * φ b ((n:Int) + 1 - b)) s=sm (λb=>lv A r b * φ b ((n:Int) + 1 - b)) (led r):=by
    intro s hs tH
    rw [sf,<- DA (f:=λb=>lv A r b * φ b ((n:Int) + 1 - b)) nl hs tH,<- vU]
    refine j3 λb _=>?_
    by_cases q:b∈s
    .grind
    .grind
   have ad7:sm (λc=>W c.1 c.2 * Uz φ c) (n4 n r) + sm (λb=>A b * φ b ((n:Int) - b)) r=sm (λb=>A b * (φ (b + 1) ((n:Int) + 1 - (b + 1)) + φ b ((n:Int) + 1 - b))) r:=by
    unfold n4
    rw [Dz,<- vU]
    refine j3 λb _=>?_
    rw [hW b ((n:Int) - b) 0 (by push_cast; lia),WW_0]
    show A b * (φ (b + 1) ((n:Int) - b) + φ b ((n:Int) - b + 1) - φ b ((n:Int) - b)) + _=_
    rw [show (n:Int) + 1 - (b + 1)=(n:Int) - b by lia,show (n:Int) + 1 - b=(n:Int) - b + 1 by lia,<- Int.mul_add]
    congr 1
    lia
   rw [aaY,b7,aee,Dy,RY,e1,b7,Dy]
   cases q with
   | nil=>
     have:=yP [] (by simp) (by simp)
     simp only [aeK,b7,List.filter_nil,zu]
     rw [zu] at this
     rw [show ([r]:d6).getD 1 []=[] from rfl]
     lia
   | cons s q=>
     have hs:=hc.1
     have h2:=yP s (qK hs.2.1) hs.2.2
     have ih:=Br (p:=p) φ q s (n + 1) (lv A r) W (λj=>by rw [show n + 1 + j=n + (j + 1) by lia,hg (j + 1)]; rfl) hc.2 hs.2.1 (λx y j h=>by
      rw [hW x y (j + 1) (by push_cast at h ⊢; lia)]; rfl)
     rw [show (r :: s :: q).getD 1 []=s from rfl,ih]
     rw [show sm (λb=>lv A r b * φ b (((n + 1:Nat):Int) - b)) s=sm (λb=>lv A r b * φ b ((n:Int) + 1 - b)) s from by push_cast; rfl]
     lia
theorem N0 (hp:Pl p) (φ:Int->Int->Int):sm (λc=>dn p c.1 c.2 * φ c.1 c.2) (aC p)=φ 0 0 + sm (λc=>dn p c.1 c.2 * Uz φ c) (b7 0 p):=by
 rw [qO hp]
 have hw:∀ (x y:Int) (j:Nat),x + y=((0:Nat):Int) + (j:Int)->dn p x y=WW A0 p j x:=λx y j h=>Bq hp (by lia)
 obtain ⟨q,rfl,hc⟩:=hp.ex
 have:=Br (p:=[0] :: q) φ q [0] 0 A0 (dn ([0] :: q)) (λj=>by rw [Nat.zero_add]) hc (by unfold wY; simp) hw
 rw [this]
 simp [sm,A0]
theorem Ki (hp:Pl p) (h:∀ c∈b7 0 p,Uz φ c=0):sm (λc=>dn p c.1 c.2 * φ c.1 c.2) (aC p)=φ 0 0:=by
 rw [N0 hp,NY λc hc=>by rw [h c hc,Int.mul_zero]]; lia
end az
namespace az
def co (b g k:Nat):Int:=if k < b then 0 else tp g (k - b)
theorem zv (h:n < k):tp n k=0:=by unfold tp; rw [JK.xT n k h]; simp
theorem Te (b g k:Nat):co (b + 1) g k + co b (g + 1) k=co b g k:=by
 unfold co
 by_cases h:k < b
 .grind
 .by_cases h2:k=b
  .subst h2
   rw [aaL (by lia),aaO h,aaO h,Nat.sub_self,nB,nB]; rfl
  .obtain ⟨j,rfl⟩:∃ j,k=b + 1 + j:=⟨k - b - 1,by lia⟩
   rw [aaO (by lia),aaO h,aaO h,show b + 1 + j - (b + 1)=j by lia,show b + 1 + j - b=j + 1 by lia,J9]
   lia
theorem Kj (b g k:Nat):(tQ b g).getD k 0=co b g k:=by
 unfold tQ co Ka
 rw [aaJ]
 by_cases h:k < b
 .grind
 .rw [ab5 (by rw [acu]; lia),acu,aaO h,aaU]
  by_cases h2:k - b < g + 1
  .grind
  .rw [abW (by rw [ab7]; lia),zv (by lia)]; rfl
def UA (k:Nat) (x y:Int):Int:=co x.toNat y.toNat k
theorem N1 (k:Nat) (h1:0<=c.1) (h2:0<=c.2):Uz (UA k) c=0:=by
 obtain ⟨b,hb⟩:∃ b:Nat,c.1=(b:Int):=⟨c.1.toNat,by lia⟩
 obtain ⟨g,hg⟩:∃ g:Nat,c.2=(g:Int):=⟨c.2.toNat,by lia⟩
 unfold Uz UA
 rw [hb,hg,show ((b:Int) + 1).toNat=b + 1 by lia,show ((g:Int) + 1).toNat=g + 1 by lia,abb,abb]
 have:=Te b g k
 lia
theorem Kk (hp:Pl p) (h:c∈b7 0 p):0<=c.1 /\ 0<=c.2:=by
 obtain ⟨k,h1,h2,h3⟩:=qN h
 have:=(uh hp).2 k _ h2
 lia
theorem N2 (hp:Pl p) (k:Nat):sm (λc=>dn p c.1 c.2 * UA k c.1 c.2) (aC p)=if k=0 then 1 else 0:=by
 rw [Ki hp λc hc=>N1 k (Kk hp hc).1 (Kk hp hc).2]
 show (if k < 0 then 0 else tp 0 (k - 0))=_
 rw [aaO (by lia)]
 cases k with
 | zero=>rw [aaL rfl,nB]
 | succ k=>rw [aaO (by lia),zv (by lia)]
end az
namespace az
open PySem L2 Q1
theorem Kl (h:∀ q∈l,bt q.2<=N):bt ((fi l 1:Nat):Int)<=N * l.length + 1:=by
 have h1:=EU (M:=2 ^ N) Nat.one_le_two_pow l 1 λq hq=>abM (Pu (h q hq))
 rw [Nat.one_mul,<- Nat.pow_mul] at h1
 exact bY (by rw [abt]; exact abq h1 (Nat.pow_lt_pow_right (by decide) (by lia)))
theorem WH (l:List eZ) (hp:∀ q∈l,1<=q.2) (h:∀ q∈l,bt q.2<=N) (hN:N * l.length < 3999):dN [dP l]=some (.int (fi l 1:Nat)):=by
 refine aV ?_
 refine km dF l (λi δ=>∃ (x:Option D),δ=[some (dP l),sI (fi (l.take i) 1:Nat),x]) rfl ⟨none,rfl⟩ ?_ ?_
 .rintro i q δ hq ⟨x,rfl⟩
  have h2:=hp q (aaP hq)
  have h3:=h q (aaP hq)
  have hi:=(aaK.mp hq).1
  have hNi:N * i<=N * l.length:=adR _ (by lia)
  have hN1:N<=N * l.length:=Nat.le_mul_of_pos_right _ (by lia)
  have hB:0 < fi (l.take i) 1:=mK _ 1 (by decide) λq hq=>by have:=hp q (abC hq); lia
  have e1:fi (l.take (i + 1)) 1=Nat.lcm (fi (l.take i) 1) q.2.natAbs:=by
   rw [List.take_succ,hq]
   rw [Bc]; rfl
  have hb:bt ((fi (l.take i) 1:Nat):Int)<=9000:=by
   have:=Kl (l:=l.take i) λq hq=>h q (abC hq)
   rw [abn,Nat.min_eq_left (by lia)] at this
   exact aY this (by lia)
  generalize fi (l.take i) 1=B at *
  obtain ⟨c,hc⟩:∃ c:Nat,q.2=c:=⟨q.2.toNat,by lia⟩
  rw [hc] at h3
  have hg:0 < Nat.gcd B c:=Nat.gcd_pos_of_pos_left _ hB
  have Z3:bt ((Nat.gcd B c:Nat):Int)<=9000:=by
   refine aY (ff ?_ h3) (by lia)
   have:=ade (by lia) (ady B c)
   lia
  have Z4:bt ((B / Nat.gcd B c:Nat):Int)<=9000:=ff (by rw [abt,abt]; exact Nat.div_le_self _ _) hb
  have ed:B / Nat.gcd B c * c=Nat.lcm B c:=by
   unfold Nat.lcm
   obtain ⟨k,hk⟩:=Nat.gcd_dvd_left B c
   conv=>lhs; lhs; lhs; rw [hk]
   conv=>rhs; lhs; rw [hk]
   rw [acO _ hg,Nat.mul_assoc,acO _ hg]
  have i1:a9 (dF q) (.int 1)=some (.int (c:Nat)):=by rw [eP,hc]
  refine ⟨_,[some (dP l),sI (fi (l.take (i + 1)) 1:Nat),some (dF q)],rfl,?_,some (dF q),rfl⟩
  rw [e1,hc,abt,<- ed]
  refine aJ (ai (ai rfl (call_of (cons_of rfl (cons_of (ai rfl rfl i1) rfl)) rfl (zo _ _ (aY h3 (by lia)))) (om (a:=(B:Int)) (b:=((Nat.gcd B c:Nat):Int)) (by lia) Z3)) (ai rfl rfl i1) ?_)
  rw [<- Int.natCast_ediv,dM (cT Z4 (aY h3 (show N<=9000 by lia))),<- Int.natCast_mul]
 .rintro δ' ⟨x,rfl⟩
  rw [abG]
  exact ret _ rfl (.mk rfl rfl)
def vV (l:List eZ) (B:Int):List Int:=l.map λq=>q.1 * (B / q.2)
theorem Fe (l:List eZ) (B:Nat) (hp:∀ q∈l,1<=q.2) (h:∀ q∈l,bt q.2<=9000) (h1:∀ q∈l,bt q.1<=100000) (hB:bt (B:Int)<=9001) (hn:l.length<=100000):iU [dP l,.int (B:Nat)]=some ((vV l B).map .int) /\ ∀ t∈vV l B,bt t<=109001:=by
 have hd:∀ q∈l,bt ((B:Int) / q.2)<=9001:=λq hq=>by
  rw [<- Int.fdiv_eq_ediv_of_nonneg _ (show 0<=q.2 by have:=hp q hq; lia)]
  exact intBits_fdiv_le hB
 constructor
 .rw [Bf]
  refine aV (ret (.list ((vV l B).map .int)) (aU ?_) (.mk rfl rfl))
  refine ko dF PyData.int (λq=>q.1 * ((B:Int) / q.2)) l rfl hn λq hq=>?_
  exact ai (ai rfl rfl (fU q)) (ai rfl (ai rfl rfl (eP q)) (om (by have:=hp q hq; lia) (h q hq))) (dM (cT (h1 q hq) (hd q hq)))
 .intro t ht
  obtain ⟨q,hq,rfl⟩:=aa3.mp ht
  exact fw (h1 q hq) (hd q hq)
theorem tR (hl:p.length<=24) (fB:∀ r∈p,r.length<=25) (l:List eZ) (hn:l.length=(aC p).length):gu [bw p,dP l]=some .none:=by
 rw [tO]
 have:gq [some (bw p),some (dP l)]=some (.nx [some (bw p),some (dP l)]):=
  kn (cI (ai (iW (cons_of rfl rfl) (JO l)) (iW (cons_of (aU (cj (cons_of rfl rfl) rfl (pw hl fB))) rfl) (ls _)) ((yY _ _).trans (by rw [aax,hn,aaQ rfl]; rfl))))
 rw [this]; rfl
theorem Km (hl:L<=24) (Z5:b + g<=L):b<=100 /\ g<=100 /\ g + 1<=100 /\ ∀ j,j < b + g + 1->j < L + 1:=by lia
def oq (p:d6) (zs:List ((Int×Int)×Int)) (k:Nat):Int:=sm (λz=>z.2 * dn p z.1.1 z.1.2 * UA k z.1.1 z.1.2) zs
theorem GK (hp:Pl p) (hl:p.length<=24) (fB:∀ r∈p,r.length<=25) (l:List eZ) (hn:l.length=(aC p).length) (hq:∀ q∈l,1<=q.2) (hN:∀ q∈l,bt q.2<=N) (hNl:N * l.length < 3999) (h1:∀ q∈l,bt q.1<=100000):
  kT [bw p,dP l]=some ((ZS (tab (p.length + 1) (oq p ((aC p).zip (vV l (fi l 1))))) (fi l 1)).map dF):=by
 refine aV ?_
 obtain ⟨B,hB⟩:∃ B,B=fi l 1:=⟨_,rfl⟩
 have hB0:0 < B:=by rw [hB]; exact mK _ 1 (by decide) λq h=>by have:=hq q h; lia
 have XG:bt (B:Int)<=4000:=by rw [hB]; exact aY (Kl hN) (by lia)
 have WI:=vR hl fB
 have vc:=WH l hq hN hNl
 have hN9:∀ q∈l,bt q.2<=9000:=λq h=>by
  refine aY (hN q h) ?_
  have:0 < l.length:=List.length_pos_of_mem h
  have:N<=N * l.length:=Nat.le_mul_of_pos_right _ this
  lia
 rw [<- hB] at vc ⊢
 obtain ⟨vt,bts⟩:=Fe l B hq hN9 h1 (aY XG (by decide)) (by lia)
 obtain ⟨kds,ew,hd⟩:=mS hl fB (0,0)
 have G0:Dt kds (dn p):=hd
 refine aI [some (bw p),some (dP l),none,none,none,none,none,none,none] ?_ ?_
 .exact qM (call_of (cons_of rfl (cons_of rfl rfl)) rfl (tR hl fB l hn))
 refine aI [some (bw p),some (dP l),some (.dict kds),none,none,none,none,none,none] (aJ (call_of (cons_of rfl (cons_of rfl rfl)) rfl ew)) ?_
 refine aI [some (bw p),some (dP l),some (.dict kds),sI (B:Nat),none,none,none,none,none] (aJ (call_of (cons_of rfl rfl) rfl vc)) ?_
 refine aI [some (bw p),some (dP l),some (.dict kds),sI (B:Nat),sL ((tab (p.length + 1) (oq p [])).map .int),none,none,none,none] (yZ ?_) ?_
 .refine (E1 (ds:=[.int 0]) (n:=p.length + 1) rfl (ai (iW (cons_of rfl rfl) (oV _)) rfl (by rw [aax]; rfl)) (by lia) (by simp; lia)).trans ?_
  have:tab (p.length + 1) (oq p [])=List.replicate (p.length + 1) 0:=by
   unfold tab
   rw [List.eq_replicate_iff]
   refine ⟨by simp,λb hb=>?_⟩
   obtain ⟨k,_,rfl⟩:=aa3.mp hb
   rfl
  rw [this,List.map_replicate]
  simp
 obtain ⟨zs,Jq⟩:∃ zs,zs=(aC p).zip (vV l B):=⟨_,rfl⟩
 rw [<- Jq]
 refine km (λz:(Int×Int)×Int=>PyData.tuple [dC z.1,.int z.2]) zs (λi δ=>∃ a b c d,δ=[some (bw p),some (dP l),some (.dict kds),sI (B:Nat),sL ((tab (p.length + 1) (oq p (zs.take i))).map .int),a,b,c,d]) ?_ ⟨_,_,_,_,rfl⟩ ?_ ?_
 .rw [Jq,<- Fd]
  exact Td (aU (cj (cons_of rfl rfl) rfl (pw hl fB))) (aU (cj (cons_of rfl (cons_of rfl rfl)) rfl vt))
 .rintro i ⟨c,t⟩ δ hi ⟨a',b',c',d',rfl⟩
  have hm:=aaP hi
  rw [Jq] at hm
  have hc:=(ab9 hm).1
  have ht:=bts t (ab9 hm).2
  obtain ⟨b,g,he⟩:=pz hp hc
  have Z5:=he.dr
  have hw:=vS hl he
  have Jh:=G0.get (b:=c.1) (g:=c.2) (aeS he.pos)
  have hcb:c.1=(b:Int):=by rw [he.eq]
  have hcg:c.2=(g:Int):=by rw [he.eq]
  obtain ⟨w,hwe⟩:∃ w,w=dn p c.1 c.2:=⟨_,rfl⟩
  rw [<- hwe] at hw Jh
  obtain ⟨m1,m2,m3,m4⟩:=Km hl Z5
  have vo:=Dx b g m1 m2
  rw [Bp,abO] at vo
  obtain ⟨S,hS⟩:∃ S,S=oq p (zs.take i):=⟨_,rfl⟩
  rw [<- hS]
  have J0:∀ k,oq p (zs.take (i + 1)) k=S k + t * w * co b g k:=by
   intro k
   unfold oq at hS ⊢
   rw [abU,hi,Dy,hS]
   have e1:sm (λz:(Int×Int)×Int=>z.2 * dn p z.1.1 z.1.2 * UA k z.1.1 z.1.2) (some (c,t)).toList=t * w * co b g k:=by
    show sm _ [(c,t)]=_
    rw [fQ,zu,Int.add_zero,hwe]
    have e2:UA k c.1 c.2=co b g k:=by rw [hcb,hcg]; rfl
    rw [e2]
   rw [e1]
  obtain ⟨δ',e2,x',y',rfl⟩:=qC (t:=iR 2 (cD (aP 7) (cD (aP 8) jf))) (b:=uL 4 (λi j=>i + j) (af 7) (g2 cw (g2 cw (af 6) (xK (af 2) (af 5))) (g2 a9 (af 8) (gC (.int (0)))))) (λx:Int×Nat=>PyData.tuple [.int (x.2:Nat),dF (x.1,1)])
   (λj δ=>∃ x y,δ=[some (bw p),some (dP l),some (.dict kds),sI (B:Nat),sL ((tab (p.length + 1) λk=>S k + if k < j then t * w * co b g k else 0).map .int),some (dC c),sI t,x,y]) (tQ b g).zipIdx (δ:=[some (bw p),some (dP l),some (.dict kds),sI (B:Nat),sL ((tab (p.length + 1) S).map .int),some (dC c),sI t,c',d']) ⟨c',d',by
    have e0:(tab (p.length + 1) λk=>S k + if k < 0 then t * w * co b g k else 0)=tab (p.length + 1) S:=rQ λk _=>by simp
    rw [e0]⟩ (by
    rintro j ⟨u,n⟩ δ hj ⟨x,y,rfl⟩
    rw [acA] at hj
    cases eu:(tQ b g)[j]? with
    | none=>rw [eu] at hj; cases hj
    | some u'=>
    rw [eu] at hj
    simp at hj
    obtain ⟨rfl,rfl⟩:=hj
    have hjl:=(aaK.mp eu).1
    rw [Bo] at hjl
    have hu:u'=co b g j:=by rw [<- Kj,aaJ,eu]; rfl
    have bu:=aY (NU (aaP eu)) m3
    refine ⟨_,[some (bw p),some (dP l),some (.dict kds),sI (B:Nat),sL ((tab (p.length + 1) λk=>S k + if k < j + 1 then t * w * co b g k else 0).map .int),some (dC c),sI t,sI (j:Nat),some (dF (u',1))],rfl,?_,_,_,rfl⟩
    refine (NW (y:=t * w * u') (k:=j) rfl rfl (ai (ai rfl ((E6 (c:=c) rfl rfl G0.fn).trans Jh) (dM (cT ht hw))) (ai rfl rfl (fU _)) (dM (cT (fw ht hw) bu))) (m4 j hjl)).trans ?_
    have:(tab (p.length + 1) λk=>if j=k then (S j + if j < j then t * w * co b g j else 0) + t * w * u' else S k + if k < j then t * w * co b g k else 0)=tab (p.length + 1) λk=>S k + if k < j + 1 then t * w * co b g k else 0:=rQ λk _=>by grind
    rw [<- this]
    rfl)
  refine ⟨_,[some (bw p),some (dP l),some (.dict kds),sI (B:Nat),sL ((tab (p.length + 1) (oq p (zs.take (i + 1)))).map .int),some (dC c),sI t,x',y'],rfl,?_,_,_,_,_,rfl⟩
  have Za:∀ {δ:DS},af 5 δ=some (dC c)->dz (bj (bW jV 2 (ae (g2 a9 (af 5) (gC (.int (0)))) (ae (g2 a9 (af 5) (gC (.int (1)))) ag)))) δ=some ((tQ b g).zipIdx.map λx=>PyData.tuple [.int (x.2:Nat),dF (x.1,1)]):=λ{δ} h5=>by
   refine NX (l:=(tQ b g).map (dF ∘ λt=>((t,1):eZ))) (aU (cj (cons_of (ai h5 rfl (show a9 (dC c) (.int 0)=some (.int (b:Nat)) by show some (PyData.int c.1)=_; rw [hcb])) (cons_of (ai h5 rfl (show a9 (dC c) (.int 1)=some (.int (g:Nat)) by show some (PyData.int c.2)=_; rw [hcg])) rfl)) rfl vo)) ?_
   rw [Kh]
   rfl
  refine Kc (Za rfl) (e2.trans ?_)
  have e9:(tab (p.length + 1) λk=>S k + if k < (tQ b g).zipIdx.length then t * w * co b g k else 0)=tab (p.length + 1) (oq p (zs.take (i + 1))):=rQ λk _=>by
   rw [J0 k,aed,Bo]
   by_cases h:k < b + g + 1
   .grind
   .rw [aaO h]
    have:co b g k=0:=by unfold co; rw [if_neg (by lia),zv (by lia)]
    rw [this]; simp
  rw [e9]
 .rintro δ' ⟨a',b',c',d',rfl⟩
  rw [abG]
  refine ret _ (aU (cj (cons_of (aU (ko PyData.int dF (λt=>aE t B) (tab (p.length + 1) (oq p zs)) rfl (by rw [ET]; lia) λt _=>?_)) rfl) rfl (GC _))) (.mk rfl rfl)
  exact call_of (cons_of rfl (cons_of rfl rfl)) rfl (nM t B (by lia) XG)
end az
namespace az
theorem xV:∀ (l:List Int) (a b:Int),wY l->(∀ x∈l,a<=x /\ x<=b)->a<=b + 1->(l.length:Int)<=b - a + 1
 | [],a,b,_,_,h=>by simp; lia
 | x :: l,a,b,hr,hx,h=>by
   have h1:=hx x aaD
   have ih:=xV l (x + 1) b (abE.mp hr).2 (λy hy=>⟨by have:=(abE.mp hr).1 y hy; lia,(hx y (aaE _ hy)).2⟩) (by lia)
   rw [aa0]
   lia
theorem Bt:∀ (q:d6) (n:Nat),(∀ k,k < q.length->(q.getD k []).length<=n + k + 1)->2 * (b7 n q).length<=q.length * (2 * n + q.length + 1)
 | [],n,_=>by simp [b7]
 | r :: q,n,h=>by
   have h0:=h 0 (by simp)
   have ih:=Bt q (n + 1) λk hk=>by
    have:=h (k + 1) (by simpa using hk)
    rw [show (r :: q).getD (k + 1) []=q.getD k [] from rfl] at this
    lia
   rw [b7,aa7,aa0]
   unfold n4
   rw [aax]
   have h0':r.length<=n + 0 + 1:=h0
   have e:(q.length + 1) * (2 * n + (q.length + 1) + 1)=q.length * (2 * (n + 1) + q.length + 1) + 2 * (n + 1):=by
    grind
   lia
theorem Kn (hp:Pl p) (k:Nat):(led (p.getD k [])).length<=k + 2:=by
 have hr:=(uh hp).2 k
 have:=xV (led (p.getD k [])) 0 ((k:Int) + 1) iu (λx hx=>by
  rcases kx.mp hx with z | z
  .grind
  .have:=hr _ z; lia) (by lia)
 lia
end az
namespace az
open PySem L2 Q1
def cn (n:Int):Nat->Int
 | 0=>1
 | k + 1=>cn n k * (n - k)
theorem j4:∀ {k:Nat},(k:Int)<=n->0 < cn n k
 | 0,_=>by show (0:Int) < 1; decide
 | k + 1,h=>abV (j4 (by lia)) (by lia)
theorem ui (h1: -1000<=n) (h2:n<=1000):∀ {k:Nat},k<=1000->bt (cn n k)<=11 * k + 1
 | 0,_=>bY (m:=1) (show (1:Int).natAbs < 2 ^ 1 by decide)
 | k + 1,hk=>aY (fw (ui h1 h2 (by lia)) (bY (m:=11) (by lia))) (by lia)
theorem iX (h1: -1000<=n) (h2:n<=1000) (hk:k<=60):bt (cn n k)<=1000:=aY (ui h1 h2 (by lia)) (by lia)
theorem si (n:Int) (k:Nat) (h1: -1000<=n) (h2:n<=1000) (hk:k<=60):jG [.int n,.int (k:Nat)]=some (.int (cn n k)):=by
 rw [GA]
 refine aV ?_
 refine aI [sI n,sI (k:Nat),sI 1,none] rfl ?_
 refine jS 0 k (λi δ=>∃ z:Option D,δ=[sI n,sI (k:Nat),sI (cn n i),z]) (iy rfl (by lia)) ⟨none,rfl⟩ ?_ ?_
 .rintro i δ hi ⟨z,rfl⟩
  rw [adX]
  exact ⟨_,[sI n,sI (k:Nat),sI (cn n (i + 1)),sI (i:Nat)],rfl,aJ (ai rfl (ai rfl rfl rfl) (dM (cT (iX h1 h2 (show i<=60 by lia)) (bY (m:=12) (by lia))))),_,rfl⟩
 .rintro δ' ⟨z,rfl⟩
  exact ret (.int (cn n k)) rfl (.mk rfl rfl)
structure Pz (p:d6) (s d:Int):Prop where
 s1:(p.length:Int)<=s
 s2:s<=200
 d1:0<=d
 d2:d<=s
theorem GL (b g:Nat) (h1:0<=d) (h2:d<=s) (h3:s<=200) (hb:b<=24) (hg:g<=24):nJ [dC ((b:Int),(g:Int)),.int s,.int d]=some (.int (cn d b * cn (s - d) g)):=by
 rw [GB]
 exact aV (ret _ (ai (call_of (cons_of rfl (cons_of (ai rfl rfl rR) rfl)) rfl (si d b (by lia) (by lia) (by lia))) (call_of (cons_of (ai rfl rfl rfl) (cons_of (ai rfl rfl yX) rfl)) rfl (si (s - d) g (by lia) (by lia) (by lia))) (dM (cT (iX (by lia) (by lia) (by lia)) (iX (by lia) (by lia) (by lia))))) (.mk rfl rfl))
theorem zw (h:Pz p s d):jx [bw p,.int s]=some .none:=by
 rw [zd]
 have ⟨h1,h2,h3,h4⟩:=h
 have:jw [some (bw p),sI s]=some (.nx [some (bw p),sI s]):=by
  refine kn (lu (x:=true) (cI (Be (iW (cons_of rfl rfl) (oV _)) rfl ?_ rfl ?_)))
  .show some (PyData.bool (decide ((((p.map dR).length:Nat):Int)<=s)))=_
   rw [aax,aaQ h1]
  .show some (PyData.bool (decide (s<=200)))=_
   rw [aaQ h2]
 rw [this]; rfl
theorem Bu (h:Pz p s d):kr [bw p,.int s,.int d]=some .none:=by
 rw [Bh]
 have ⟨h1,h2,h3,h4⟩:=h
 have e:kq [some (bw p),sI s,sI d]=some (.nx [some (bw p),sI s,sI d]):=by
  refine bZ [some (bw p),sI s,sI d] ?_ (kn (lu (x:=true) (cI (Be rfl rfl ?_ rfl ?_))))
  .exact qM (call_of (cons_of rfl (cons_of rfl rfl)) rfl (zw h))
  .show some (PyData.bool (decide (0<=d)))=_
   rw [aaQ h3]
  .show some (PyData.bool (decide (d<=s)))=_
   rw [aaQ h4]
 rw [e]; rfl
def X3 (p:d6) (b g:Nat) (s d:Int):Int:=dn p b g * (cn d b * cn (s - d) g)
theorem vW (hp:Pl p) (hl:p.length<=24) (fB:∀ r∈p,r.length<=25) (hc:c∈aC p) (he:mT p c b g) (h:Pz p s d):jX [bw p,dC c,.int s,.int d]=some (dF (aE (X3 p b g s d) (cn s (b + g)))):=by
 have ⟨h1,h2,h3,h4⟩:=h
 have Z5:=he.dr
 have vw:=GH hl fB c
 have hw:=vS hl he
 have ve:=zj hl fB [c] (λz hz=>by rw [aec.mp hz]; exact hc)
 have OK:=he.eq
 subst OK
 have hf:0 < cn s (b + g):=j4 (by lia)
 have vf:=nM (X3 p b g s d) (cn s (b + g)) (by lia) (aY (iX (by lia) (by lia) (by lia)) (by decide))
 refine aV ?_
 refine aI [some (bw p),some (dC ((b:Int),(g:Int))),sI s,sI d] ?_ (aI [some (bw p),some (dC ((b:Int),(g:Int))),sI s,sI d] ?_ (ret _ (call_of (cons_of (ai (call_of (cons_of rfl (cons_of rfl rfl)) rfl vw) (call_of (cons_of rfl (cons_of rfl (cons_of rfl rfl))) rfl (GL b g h3 h4 h2 (by lia) (by lia))) (dM (cT hw (fw (iX (by lia) (by lia) (by lia)) (iX (by lia) (by lia) (by lia)))))) (cons_of (call_of (cons_of rfl (cons_of (ai (ai rfl rfl rR) (ai rfl rfl yX) rfl) rfl)) rfl (si s (b + g) (by lia) (by lia) (by lia))) rfl)) rfl vf) (.mk rfl rfl)))
 .exact qM (call_of (cons_of rfl (cons_of rfl (cons_of rfl rfl))) rfl (Bu h))
 .exact qM (call_of (cons_of rfl (cons_of (aU rfl) rfl)) rfl ve)
theorem Ko (ts:List KS.T2):∃ r,yL ts r:=by
 let L:Nat->Nat->Prop:=λi j=>KS.nZ (ts.getD i (0,0)) (ts.getD j (0,0)) \/ ts.getD i (0,0)=ts.getD j (0,0) /\ i < j
 have dec:∀ i j,Decidable (L i j):=λi j=>by unfold L; exact inferInstance
 have tot:∀ i j,¬ L i j->¬ L j i->i=j:=λi j a b=>by
  have e:=KS.xP (λz=>a (.inl z)) (λz=>b (.inl z))
  have h1:¬ i < j:=λz=>a (.inr ⟨e,z⟩)
  have h2:¬ j < i:=λz=>b (.inr ⟨e.symm,z⟩)
  lia
 have ntr:∀ i j k,L i k->L i j \/ L j k:=λi j k h=>by
  rcases h with h | ⟨h,h'⟩
  .rcases KS.EG (ts.getD j (0,0)) h with z | z
   .grind
   .grind
  .grind
 let le:Nat->Nat->Bool:=λi j=> !(@decide (L j i) (dec j i))
 have hle:∀ i j,le i j=true↔¬ L j i:=λi j=>by grind
 refine ⟨(List.range ts.length).mergeSort le,List.mergeSort_perm _ _,?_⟩
 have h1:((List.range ts.length).mergeSort le).Pairwise λi j=>le i j=true:=List.pairwise_mergeSort (λa b c x y=>by
  rw [hle] at *
  intro z
  rcases ntr _ b _ z with q | q
  .grind
  .exact x q) (λa b=>by
  rw [Bool.or_eq_true,hle,hle]
  by_cases q:L b a
  .right
   intro z
   rcases q with q | ⟨q,q'⟩
   .rcases z with z | ⟨z,_⟩
    .exact KS.iw _ (KS.nA q z)
    .rw [z] at q; exact KS.iw _ q
   .rcases z with z | ⟨_,z'⟩
    .rw [q] at z; exact KS.iw _ z
    .lia
  .exact .inl q) _
 have h2:((List.range ts.length).mergeSort le).Nodup:=(List.mergeSort_perm _ _).nodup_iff.mpr List.nodup_range
 refine (h1.and h2).imp λ{i j} z=>?_
 obtain ⟨z1,z2⟩:=z
 rw [hle] at z1
 exact Classical.byContradiction λw=>z2 (tot i j w z1)
theorem Bv (h1:ga δ=some ds) (h2:M7 ix δ=some EJ) (h3:A4 (λd=>gb ((d :: EJ).map some)) ds=some kds) (h4:CQ ds kds=some rs):vA ga ix gb δ=some rs:=by
 unfold vA
 rw [h1]
 rw [h2]
 show (A4 _ ds).bind _=_
 rw [h3]
 exact h4
theorem zz {α:Type} (enc k:α->D) :∀ l:List α,(∀ a∈l,g (enc a)=some (k a))->A4 g (l.map enc)=some (l.map k)
 | [],_=>rfl
 | a :: l,h=>by
   rw [aaY,A4,h a aaD]
   rw [zz enc k l λb hb=>h b (aaE _ hb)]
   rfl
theorem Tf (h:g δ=some [.int (n:Nat)]) (hn:n<=100000):Na g δ=some ((List.range n).map λi:Nat=>.int (0 + i)):=by
 unfold Na
 rw [h]
 show (if _ then _ else _)=_
 rw [aaL ⟨by lia,by lia⟩,abb]
theorem Tg (h:g δ=some (.list l)):M9 g δ=some l:=by unfold M9; rw [h]; rfl
def LD (c:Int×Int):KS.T2:=(c.1 + c.2,c.1)
def Kp (a b:Int×Int):Prop:=KS.nZ (LD a) (LD b)
theorem N3 (h:LD a=LD b):a=b:=by
 unfold LD at h
 have h1:=abJ Prod.fst h
 have h2:=abJ Prod.snd h
 exact Prod.ext h2 (by lia)
theorem Ff (a:Int×Int):¬ Kp a a:=KS.iw _
theorem Th (a b c:Int×Int) (h:Kp a b) (k:Kp b c):Kp a c:=KS.nA h k
theorem Bw:∀ (q:d6) (n:Nat),(∀ r∈q,wY r)->(b7 n q).Pairwise Kp
 | [],n,_=>by simp [b7]
 | r :: q,n,h=>by
   rw [b7,adL]
   refine ⟨?_,Bw q (n + 1) λs hs=>h s (aaE _ hs),λa ha b hb=>?_⟩
   .unfold n4
    rw [ab4]
    refine (h r aaD).imp λ{x y} z=>?_
    unfold Kp KS.nZ LD
    lia
   .unfold n4 at ha
    obtain ⟨x,_,rfl⟩:=aa3.mp ha
    obtain ⟨k,_,_,e⟩:=qN hb
    unfold Kp KS.nZ LD
    lia
theorem vX (hp:Pl p):(aC p).Pairwise Kp:=by
 rw [qO hp]
 refine List.Pairwise.filter _ (Bw _ _ λr hr=>?_)
 obtain ⟨s,_,rfl⟩:=aa3.mp hr
 exact iu
theorem zA (hp:Pl p):(aC p).Nodup:=(vX hp).imp λ{a b} (h:Kp a b) (e:a=b)=>by rw [e] at h; exact Ff _ h
theorem vY (hp:Pl p):2 * (aC p).length<=p.length * (p.length + 3):=by
 rw [qO hp]
 have h0:=abH (λc=> !Dv p c) (b7 1 (p.map led))
 have:=Bt (p.map led) 1 λk hk=>by
  have e:(p.map led).getD k []=led (p.getD k []):=by grind
  rw [e]
  have:=Kn hp k
  lia
 rw [aax] at this
 rw [show 2 * 1 + p.length + 1=p.length + 3 by lia] at this
 lia
theorem getD_map {α:Type} (enc:α->D) (l:List α) (z:α) (i:Nat) (hi:i < l.length):(l.map enc).getD i .none=enc (l.getD i z):=by grind
theorem DB {E R:fH} (hE:E.Pairwise Kp) (hR:R.Nodup) (hs:∀ x∈R,x∈E) (xC:R.length < 64):iz [.list (R.map dC)]=some ((E.filter λx=>decide (x∈R)).map dC):=by
 obtain ⟨r,hr⟩:=Ko (R.map LD)
 have i9:∀ i∈r,i < R.length:=λi hi=>by
  have:=acf.mp (hr.1.mem_iff.mp hi)
  rwa [aax] at this
 have e1:CQ (R.map dC) (R.map λx=>.tuple [.int (x.1 + x.2),.int x.1])=some (r.map λi=>(R.map dC).getD i .none):=
  EK (by rw [aax]; exact xC) ⟨R,.inr rfl,hR⟩ (.inr (by rw [abO]; rfl)) hr
 have e2:(r.map λi=>(R.map dC).getD i .none)=(r.map λi=>R.getD i (0,0)).map dC:=by simp_all
 have gk:∀ i,i < R.length->(R.map LD).getD i (0,0)=LD (R.getD i (0,0)):=λi hi=>by grind
 have e3:(r.map λi=>R.getD i (0,0))=E.filter λx=>decide (x∈R):=by
  refine pw_ext Ff Th ?_ (List.Pairwise.filter _ hE) λz=>?_
  .rw [ab4]
   refine List.Pairwise.imp_of_mem (λ{i j} hi hj z=>?_) hr.2
   rw [gk i (i9 i hi),gk j (i9 j hj)] at z
   rcases z with z | ⟨z,z'⟩
   .exact z
   .have:=N3 z
    rw [aaJ,aaJ,aad (i9 i hi),aad (i9 j hj)] at this
    have:=(List.getElem?_inj (i:=i) (j:=j) (i9 i hi) hR).mp (by rw [aad (i9 i hi),aad (i9 j hj)]; exact abJ some this)
    lia
  .rw [acj,abF]
   constructor
   .grind
   .rintro ⟨_,h⟩
    obtain ⟨i,hi,e⟩:=ab8 h
    refine aa3.mpr ⟨i,hr.1.mem_iff.mpr (acf.mpr (by rw [aax]; exact hi)),?_⟩
    rw [aaJ,aad hi]; exact e
 refine aV (ret (.list ((E.filter λx=>decide (x∈R)).map dC)) (aU ?_) (.mk rfl rfl))
 rw [<- e3,<- e2]
 refine Bv (Tg rfl) rfl (zz dC (λx=>.tuple [.int (x.1 + x.2),.int x.1]) R λx _=>?_) e1
 exact fP (ai (ai rfl rfl rR) (ai rfl rfl yX) rfl) (ai rfl rfl rR)
theorem Ti (m:Nat) (h:1<=m):Sz m (1,1):=⟨⟨by decide,by decide⟩,aY (bY (m:=1) (by decide)) h,aY (bY (m:=1) (by decide)) h⟩
structure UB (l h c:Int):Prop where
 p1:0 < l
 p2:l < h
 p3:h < c
 p4:c < 2 ^ 40
theorem zB (hs:Gx s) (GN:bt s.2<=40):bt s.1<=40 /\ bt (s.2 - s.1)<=40:=by
 have hp:=hs.pos
 have hl:=hs.ZR
 exact ⟨ff (by lia) GN,ff (by lia) GN⟩
theorem pw_bt (h:bt u<=40) (hk:k<=24):bt (u ^ k)<=961:=aY (JL h _) (by lia)
theorem Kq (H:UB l h c):bt (aE l c).2<=40 /\ bt (aE h c).2<=40 /\ Gx (aE l c) /\ Gx (aE h c) /\ bt c<=40:=by
 have ⟨a1,a2,a3,a4⟩:=H
 have bc:bt c<=40:=bY (by lia)
 exact ⟨ff ((bS (t:=l) (show c≠0 by lia)).bot_le (by lia)) bc,ff ((bS (t:=h) (show c≠0 by lia)).bot_le (by lia)) bc,vH a1 (by lia),vH (by lia) a3,bc⟩
theorem sj (b g:Nat) (s:eZ) (hs:Gx s) (GN:bt s.2<=40) (hb:b<=24) (hg:g<=24):Sz 1922 (n0 b g s):=by
 obtain ⟨t1,t2⟩:=zB hs GN
 exact ⟨ud hs b g,fw (pw_bt t1 hb) (pw_bt t2 hg),fw (pw_bt GN hb) (pw_bt GN hg)⟩
theorem nN (b g:Nat) (s:eZ) (hs:Gx s) (GN:bt s.2<=40) (hb:b<=24) (hg:g<=24):jt [.tuple [.int (b:Nat),.int (g:Nat)],dF s]=some (dF (n0 b g s)):=by
 rw [NK]
 refine aV ?_
 obtain ⟨t1,t2⟩:=zB hs GN
 have vp:=Bm s b (aY t1 (by decide)) (aY GN (by decide)) (by lia)
 have vm:=J8 (1,1) s (Ti 4000 (by decide)) ⟨hs.low,aY t1 (by decide),aY GN (by decide)⟩
 rw [JJ hs] at vm
 have vq:=Bm (s.2 - s.1,s.2) g (aY t2 (by decide)) (aY GN (by decide)) (by lia)
 refine aI [some (.tuple [.int (b:Nat),.int (g:Nat)]),some (dF s),some (dF (s.1 ^ b,s.2 ^ b)),none] (aJ (call_of (cons_of rfl (cons_of (ai rfl rfl rR) rfl)) rfl vp)) ?_
 refine aI [some (.tuple [.int (b:Nat),.int (g:Nat)]),some (dF s),some (dF (s.1 ^ b,s.2 ^ b)),some (dF ((s.2 - s.1) ^ g,s.2 ^ g))] (aJ (call_of (cons_of (call_of (cons_of rfl (cons_of rfl rfl)) rfl vm) (cons_of (ai rfl rfl yX) rfl)) rfl vq)) ?_
 exact ret (dF (n0 b g s)) (fP (ai (ai rfl rfl (fU _)) (ai rfl rfl (fU _)) (dM (cT (pw_bt t1 hb) (pw_bt t2 hg)))) (ai (ai rfl rfl (eP _)) (ai rfl rfl (eP _)) (dM (cT (pw_bt GN hb) (pw_bt GN hg))))) (.mk rfl rfl)
theorem vZ (lo hi:eZ) (h1:Gx lo) (h2:Gx hi) (b1:bt lo.2<=40) (b2:bt hi.2<=40) (i9:lo.1 * hi.2 < hi.1 * lo.2):g5 [dF lo,dF hi]=some .none:=by
 rw [vJ]
 have p1:=h1.pos
 have q2:=h2.ZR
 obtain ⟨t1,_⟩:=zB h1 b1
 obtain ⟨t2,_⟩:=zB h2 b2
 have o0:bt (0:Int)<=40:=bY (by decide)
 have o1:bt (1:Int)<=40:=bY (by decide)
 have u1:=hJ (0,1) lo (cT o0 b1) (cT t1 o1)
 have u2:=hJ lo hi (cT t1 b2) (cT t2 b1)
 have u3:=hJ hi (1,1) (cT t2 o1) (cT o1 b2)
 rw [aaQ (by lia)] at u1 u3
 rw [aaQ i9] at u2
 have:g4 [some (dF lo),some (dF hi)]=some (.nx [some (dF lo),some (dF hi)]):=
  kn (lu (Dc (gZ (call_of (cons_of rfl (cons_of rfl rfl)) rfl u1)) (Dc (gZ (call_of (cons_of rfl (cons_of rfl rfl)) rfl u2)) (gZ (call_of (cons_of rfl (cons_of rfl rfl)) rfl u3)))))
 rw [this]
 rfl
theorem Tj (h1:0 < l) (h2:l < h) (h3:h < c):(aE l c).1 * (aE h c).2 < (aE h c).1 * (aE l c).2:=by
 have e1:=(bS (t:=l) (show c≠0 by lia)).eq
 have e2:=(bS (t:=h) (show c≠0 by lia)).eq
 have p1:=(bS (t:=l) (show c≠0 by lia)).pos
 have p2:=(bS (t:=h) (show c≠0 by lia)).pos
 generalize aE l c=a at *
 generalize aE h c=b at *
 refine abz (a:=c) ?_ (by lia)
 have k1:a.1 * b.2 * c=(a.2 * b.2) * l:=by
  grind
 have k2:b.1 * a.2 * c=(a.2 * b.2) * h:=by
  grind
 rw [k1,k2]
 exact Int.mul_lt_mul_of_pos_left h2 (abV (by lia) (by lia))
theorem Fg (H:UB l h c) (b g:Nat) (hb:b<=24) (hg:g<=24):ug [.tuple [.int (b:Nat),.int (g:Nat)],dF (aE l c),dF (aE h c)]=some (dF (rat b g (aE l c) (aE h c))) /\ Sz 3844 (rat b g (aE l c) (aE h c)):=by
 obtain ⟨b1,b2,s1,s2,_⟩:=Kq H
 have z1:=sj b g _ s1 b1 hb hg
 have z2:=sj b g _ s2 b2 hb hg
 have p1:=yU s1 b g
 have vo:=zq (n0 b g (aE h c)) (n0 b g (aE l c)) (z2.up (by decide)) (z1.up (by decide)) (by lia)
 have lw:Us ((n0 b g (aE l c)).2,(n0 b g (aE l c)).1):=⟨by show 1<=(n0 b g (aE l c)).1; lia,by show Int.gcd _ _=1; rw [Int.gcd_comm]; exact z1.low.2⟩
 have e:=A9 lw
 rw [e] at vo
 refine ⟨?_,S7 z2 ⟨lw,z1.bot,z1.top⟩⟩
 refine aV ?_
 refine aI [some (.tuple [.int (b:Nat),.int (g:Nat)]),some (dF (aE l c)),some (dF (aE h c))] ?_ (ret _ (call_of (cons_of (call_of (cons_of rfl (cons_of rfl rfl)) rfl (nN b g _ s2 b2 hb hg)) (cons_of (call_of (cons_of rfl (cons_of rfl rfl)) rfl (nN b g _ s1 b1 hb hg)) rfl)) rfl vo) (.mk rfl rfl))
 exact qM (call_of (cons_of rfl (cons_of rfl rfl)) rfl (vZ _ _ s1 s2 b1 b2 (Tj H.p1 H.p2 H.p3)))
theorem Fh (h:g δ=some x) (h2:f x=r):g1 f g δ=r:=by unfold g1; rw [h]; exact h2
theorem Kr {α:Type} (enc:α->D) (W:Nat->DS->Prop) (P:D->Prop):∀ (xs:List α) (k:Nat) {δ:DS},W k δ->(∀ i x δ,xs[i]?=some x->W (k + i) δ->∃ fG,t (enc x) δ=some fG /\ ((∃ δ',b fG=some (.nx δ') /\ W (k + i + 1) δ') \/ ∃ d,b fG=some (.rt d) /\ P d))->
  (∃ δ',kE t b (xs.map enc) δ=some (.nx δ') /\ W (k + xs.length) δ') \/ ∃ d,kE t b (xs.map enc) δ=some (.rt d) /\ P d
 | [],k,δ,h,_=>.inl ⟨δ,rfl,h⟩
 | x :: xs,k,δ,h,hs=>by
   obtain ⟨fG,e1,h1⟩:=hs 0 x δ rfl h
   rw [aaY,kE,e1]
   rcases h1 with ⟨δ',e2,h2⟩ | ⟨d,e2,h2⟩
   .show (∃ δ',(b fG).bind _=_ /\ _) \/ ∃ d,(b fG).bind _=_ /\ _
    rw [e2]
    have:=Kr enc W P xs (k + 1) (δ:=δ') h2 λi y δ hy hw=>by
     have:=hs (i + 1) y δ hy (by rw [show k + (i + 1)=k + 1 + i by lia]; exact hw)
     rwa [show k + (i + 1) + 1=k + 1 + i + 1 by lia] at this
    rw [show k + (x :: xs).length=k + 1 + xs.length by rw [aa0]; lia]
    exact this
   .grind
theorem Ks {α:Type} {b rest:aK} {R:β->Prop} (enc:α->D) (xs:List α) (W:Nat->DS->Prop) (P:D->Prop) (hi:gi δ=some (xs.map enc)) (h:W 0 δ)
  (hs:∀ i x δ,xs[i]?=some x->W i δ->∃ fG,t (enc x) δ=some fG /\ ((∃ δ',b fG=some (.nx δ') /\ W (i + 1) δ') \/ ∃ d,b fG=some (.rt d) /\ P d)) (k1:∀ δ',W xs.length δ'->fj ((rest δ').bind f) R) (k2:∀ d,P d->fj (f (.rt d)) R):fj ((ax (fu gi t b) rest δ).bind f) R:=by
 rcases Kr (t:=t) (b:=b) enc W P xs 0 h (λi x δ hx hw=>by rw [acE] at hw ⊢; exact hs i x δ hx hw) with ⟨δ',e,hw⟩ | ⟨d,e,hp⟩
 .rw [iM (δ':=δ') (by unfold fu; rw [hi]; exact e)]
  rw [acE] at hw
  exact k1 δ' hw
 .have:ax (fu gi t b) rest δ=some (.rt d):=by
   unfold ax fu
   rw [hi]
   show (kE t b (xs.map enc) δ).bind _=_
   rw [e]; rfl
  rw [this]
  exact k2 d hp
theorem zC:∀ (l:List eZ) (B M:Nat),B ∣ M->(∀ q∈l,q.2.natAbs ∣ M)->fi l B ∣ M
 | [],B,M,h,_=>h
 | q :: l,B,M,h,k=>zC l _ M (Nat.lcm_dvd h (k q aaD)) λr hr=>k r (aaE _ hr)
theorem WJ (l:List eZ) (M:Nat) (hM:0 < M) (hb:bt (M:Int)<=3990) (hp:∀ q∈l,1<=q.2) (hd:∀ q∈l,q.2 ∣ (M:Int)):dN [dP l]=some (.int (fi l 1:Nat)) /\ bt ((fi l 1:Nat):Int)<=3990:=by
 have Z6:∀ q∈l,q.2.natAbs ∣ M:=λq hq=>by
  have:=adA.mpr (hd q hq)
  rwa [abt] at this
 have small:∀ B:Nat,B ∣ M->bt (B:Int)<=3990:=λB h=>ff (by rw [abt,abt]; exact ade hM h) hb
 have pre:∀ i,fi (l.take i) 1 ∣ M:=λi=>zC _ _ _ (Nat.one_dvd _) λq hq=>Z6 q (abC hq)
 refine ⟨?_,small _ (zC _ _ _ (Nat.one_dvd _) Z6)⟩
 refine aV ?_
 refine km dF l (λi δ=>∃ (x:Option D),δ=[some (dP l),sI (fi (l.take i) 1:Nat),x]) rfl ⟨none,rfl⟩ ?_ ?_
 .rintro i q δ hq ⟨x,rfl⟩
  have hm:=aaP hq
  have h2:=hp q hm
  have hB:0 < fi (l.take i) 1:=mK _ 1 (by decide) λq hq=>by have:=hp q (abC hq); lia
  have e1:fi (l.take (i + 1)) 1=Nat.lcm (fi (l.take i) 1) q.2.natAbs:=by
   rw [List.take_succ,hq]
   rw [Bc]; rfl
  have hb:=small _ (pre i)
  generalize fi (l.take i) 1=B at *
  obtain ⟨c,hc⟩:∃ c:Nat,q.2=c:=⟨q.2.toNat,by lia⟩
  have h3:=small c (by have:=Z6 q hm; rwa [hc,abt] at this)
  have hg:0 < Nat.gcd B c:=Nat.gcd_pos_of_pos_left _ hB
  have Z3:bt ((Nat.gcd B c:Nat):Int)<=3990:=by
   refine ff ?_ h3
   have:=ade (by lia) (ady B c)
   lia
  have Z4:bt ((B / Nat.gcd B c:Nat):Int)<=3990:=ff (by rw [abt,abt]; exact Nat.div_le_self _ _) hb
  have ed:B / Nat.gcd B c * c=Nat.lcm B c:=by
   unfold Nat.lcm
   obtain ⟨k,hk⟩:=Nat.gcd_dvd_left B c
   conv=>lhs; lhs; lhs; rw [hk]
   conv=>rhs; lhs; rw [hk]
   rw [acO _ hg,Nat.mul_assoc,acO _ hg]
  have i1:a9 (dF q) (.int 1)=some (.int (c:Nat)):=by rw [eP,hc]
  refine ⟨_,[some (dP l),sI (fi (l.take (i + 1)) 1:Nat),some (dF q)],rfl,?_,some (dF q),rfl⟩
  rw [e1,hc,abt,<- ed]
  refine aJ (ai (ai rfl (call_of (cons_of rfl (cons_of (ai rfl rfl i1) rfl)) rfl (zo _ _ (aY h3 (by decide)))) (om (a:=(B:Int)) (b:=((Nat.gcd B c:Nat):Int)) (by lia) (aY Z3 (by decide)))) (ai rfl rfl i1) ?_)
  rw [<- Int.natCast_ediv,dM (cT Z4 h3),<- Int.natCast_mul]
 .rintro δ' ⟨x,rfl⟩
  rw [abG]
  exact ret _ rfl (.mk rfl rfl)
theorem N4 {x y:eZ} (hB:0 < B) (hx:1<=x.2) (hy:1<=y.2) (dx:x.2 ∣ B) (dy:y.2 ∣ B) (h:y.1 * (B / y.2)<=x.1 * (B / x.2)):y.1 * x.2<=x.1 * y.2:=by
 obtain ⟨k,hk⟩:=dx
 obtain ⟨m,hm⟩:=dy
 rw [show B / x.2=k by rw [hk,abY]; exact acI _ (by lia),show B / y.2=m by rw [hm,abY]; exact acI _ (by lia)] at h
 refine Int.le_of_mul_le_mul_right (a:=B) ?_ hB
 have h2:y.1 * m * (x.2 * y.2)<=x.1 * k * (x.2 * y.2):=Int.mul_le_mul_of_nonneg_right h (Int.mul_nonneg (by lia) (by lia))
 have e1:y.1 * m * (x.2 * y.2)=y.1 * x.2 * B:=by rw [hm]; grind
 have e2:x.1 * k * (x.2 * y.2)=x.1 * y.2 * B:=by rw [hk]; grind
 rw [e1,e2] at h2
 exact h2
theorem Bx {α:Type} (enc:α->D) (rt:α->eZ) (E:List α) (z:α) (M:Nat) (hM:0 < M) (hbM:bt (M:Int)<=3990) (h1:∀ a∈E,a9 (enc a) (.int 1)=some (dF (rt a))) (h2:∀ a∈E,1<=(rt a).2 /\ (rt a).2 ∣ (M:Int) /\ bt (rt a).1<=9000) (xC:E.length < 64):
  ∃ F:List α,dA [.list (E.map enc)]=some (F.map enc) /\ F.Perm E /\ F.Pairwise λa b=>(rt b).1 * (rt a).2<=(rt a).1 * (rt b).2:=by
 have hp:∀ q∈E.map rt,1<=q.2:=λq hq=>by obtain ⟨a,ha,rfl⟩:=aa3.mp hq; exact (h2 a ha).1
 have hd:∀ q∈E.map rt,q.2 ∣ (M:Int):=λq hq=>by obtain ⟨a,ha,rfl⟩:=aa3.mp hq; exact (h2 a ha).2.1
 obtain ⟨v1,b1⟩:=WJ (E.map rt) M hM hbM hp hd
 have hbq:∀ q∈E.map rt,bt q.2<=9000:=λq hq=>aY (ff (cz (hd q hq) (by lia)) hbM) (by decide)
 have hBp:=mK _ 1 (by decide) λq hq=>by have:=hp q hq; lia
 have hBd:=(Bb (E.map rt) 1).2
 obtain ⟨v2,b2⟩:=Fe (E.map rt) (fi (E.map rt) 1) hp hbq (λq hq=>by obtain ⟨a,ha,rfl⟩:=aa3.mp hq; exact aY (h2 a ha).2.2 (by decide)) (aY b1 (by decide)) (by rw [aax]; lia)
 generalize fi (E.map rt) 1=B at *
 have eT:vV (E.map rt) B=E.map λa=>(rt a).1 * ((B:Int) / (rt a).2):=by unfold vV; rw [List.map_map]; rfl
 rw [eT] at v2
 generalize hT:(λa:α=>(rt a).1 * ((B:Int) / (rt a).2))=T at v2
 obtain ⟨r,hr⟩:=Ko ((List.range E.length).map λi=>(-(T (E.getD i z)),0))
 have SY:∀ i∈r,i < E.length:=λi hi=>by
  have:=acf.mp (hr.1.mem_iff.mp hi)
  rwa [aax,ab7] at this
 have gE:∀ i,i < E.length->E[i]?=some (E.getD i z):=λi hi=>by rw [aaJ,aad hi]; rfl
 have gts:∀ i,i < E.length->((List.range E.length).map λi=>((-(T (E.getD i z)),0):KS.T2)).getD i (0,0)=(-(T (E.getD i z)),0):=λi hi=>by grind
 refine ⟨r.map λi=>E.getD i z,?_,?_,?_⟩
 .rw [o3]
  refine aV ?_
  refine aI [sL (E.map enc),some (dP (E.map rt)),none,none] (aJ (aU ?_)) ?_
  .show f9 _ _ _ _=some ((E.map rt).map dF)
   rw [abO]
   exact ko enc (λa=>dF (rt a)) id E rfl (by lia) (λa ha=>ai rfl rfl (h1 a ha)) |>.trans (by rw [List.map_id]; rfl)
  refine aI [sL (E.map enc),some (dP (E.map rt)),sL ((E.map T).map .int),none] (aJ (aU (cj (cons_of rfl (cons_of (call_of (cons_of rfl rfl) rfl v1) rfl)) rfl v2))) ?_
  refine aI [sL (E.map enc),some (dP (E.map rt)),sL ((E.map T).map .int),sL (r.map λi:Nat=>.int (0 + i))] (aJ (aU ?_)) ?_
  .have e1:(r.map λi=>(((List.range E.length).map λi:Nat=>(PyData.int (0 + i))):List D).getD i .none)=r.map λi:Nat=>.int (0 + i):=List.map_congr_left λi hi=>by
    rw [aaJ,aaU,List.getElem?_range (SY i hi)]; rfl
   rw [<- e1]
   refine Bv (Tf (cons_of (iW (cons_of rfl rfl) (by show some (PyData.int _)=_; rw [aax])) rfl) (by lia)) rfl (zz (λi:Nat=>.int (0 + i)) (λi=>.int (-(T (E.getD i z)))) _ λi hi=>?_) (EK (by rw [aax,ab7]; exact xC) ?_ (.inl ⟨(List.range E.length).map λi=> -(T (E.getD i z)),by rw [abO]; rfl,by rw [abO]; rfl⟩) hr)
   .have hi:=acf.mp hi
    have:a9 (.list ((E.map T).map .int)) (.int (0 + (i:Int)))=some (.int (T (E.getD i z))):=by
     rw [adX]
     exact eM (by rw [aaU,aaU,gE i hi]; rfl)
    exact Fh (ai rfl rfl this) rfl
   .refine ⟨((List.range E.length).map λi:Nat=>((0 + i:Int),0)),.inl ⟨(List.range E.length).map λi:Nat=>(0 + i:Int),by rw [abO]; rfl,by rw [abO]; rfl⟩,?_⟩
    rw [List.Nodup,ab4]
    refine List.nodup_range.imp λ{i j} h e=>h ?_
    have:=abJ Prod.fst e
    lia
  .refine ret (.list ((r.map λi=>E.getD i z).map enc)) (aU ?_) (.mk rfl rfl)
   exact ko (λi:Nat=>.int (0 + i)) enc (λi=>E.getD i z) r rfl (by rw [hr.1.length_eq,ab7,aax,ab7]; lia) λi hi=>ai rfl rfl (by
    rw [adX]
    exact eM (by rw [aaU,gE i (SY i hi)]; rfl))
 .refine (hr.1.map _).trans (List.Perm.of_eq ?_)
  refine aeC (by simp) λi h1 h2=>?_
  rw [adF,List.getElem_range,aaJ,aad h2]; rfl
 .rw [ab4]
  refine List.Pairwise.imp_of_mem (λ{i j} hi hj w=>?_) hr.2
  rw [gts i (SY i hi),gts j (SY j hj)] at w
  have hle:T (E.getD j z)<=T (E.getD i z):=by
   rcases w with w | ⟨w,_⟩
   .unfold KS.nZ at w; lia
   .grind
  rw [<- hT] at hle
  have mi:=aaP (gE i (SY i hi))
  have mj:=aaP (gE j (SY j hj))
  exact N4 (by lia) (h2 _ mi).1 (h2 _ mj).1 (hBd _ (aa3.mpr ⟨_,mi,rfl⟩)) (hBd _ (aa3.mpr ⟨_,mj,rfl⟩)) hle
theorem Kt (h:a δ=some (.rt d)):ax a b δ=some (.rt d):=by unfold ax; rw [h]; rfl
theorem mU (h:c δ=some true) (h2:a δ=r):fW c a b δ=r:=by unfold fW; rw [h]; exact h2
theorem Tn (h:g δ=some d):bQ g δ=some (.rt d):=by unfold bQ; rw [h]; rfl
theorem xW (hU:U≠0):C5 (aE a U) (aE b U)=aE (a + b) U:=by
 rw [Nt hU hU]
 refine jR (abl hU hU) hU ?_
 grind
theorem DC {m:eZ} (hU:0 < U):m.1 * (aE t U).2 < (aE t U).1 * m.2↔m.1 * U < t * m.2:=by
 have e:=(bS (t:=t) (show U≠0 by lia)).eq
 have p:=(bS (t:=t) (show U≠0 by lia)).pos
 generalize aE t U=q at *
 have k:(q.1 * m.2) * U=(t * m.2) * q.2:=by
  grind
 have k2:(m.1 * q.2) * U=(m.1 * U) * q.2:=by grind
 constructor
 .intro h
  have:(m.1 * q.2) * U < (q.1 * m.2) * U:=abI h hU
  rw [k,k2] at this
  exact abz this (by lia)
 .intro h
  have:(m.1 * U) * q.2 < (t * m.2) * q.2:=abI h (by lia)
  rw [<- k,<- k2] at this
  exact abz this (by lia)
theorem v7:∀ (l:List Int),(∀ x∈l,x.natAbs<=M)->l.sum.natAbs<=l.length * M
 | [],_=>by simp
 | x :: l,h=>by
   have h1:=h x aaD
   have h2:=v7 l λy hy=>h y (aaE _ hy)
   rw [List.sum_cons,aa0,Nat.succ_mul]
   lia
theorem To {l:List Int} (h:∀ x∈l,bt x<=m) (hl:l.length < 64):bt l.sum<=m + 6:=by
 refine bY ?_
 have h1:=v7 (M:=2 ^ m) l λx hx=>abM (Pu (h x hx))
 have h2:=Nat.mul_lt_mul_of_pos_right hl (Nat.two_pow_pos m)
 rw [Nat.pow_add]
 lia
def Ai (rt:Int×Int->eZ) (lo hi:Int×Int->Int) (U:Int) (e:Int×Int):D:=.tuple [dC e,dF (rt e),dF (aE (lo e) U),dF (aE (hi e) U)]
def UC (rt:Int×Int->eZ):List (Int×Int)->eZ
 | []=>(0,1)
 | e :: _=>rt e
theorem ix4_1 {a b c d:D}:a9 (.tuple [a,b,c,d]) (.int 1)=some b:=rfl
theorem qQ (h1:a δ=some x) (h2:b δ=some y) (h3:c δ=some z) (h4:d δ=some w):bG (ae a (ae b (ae c (ae d ag)))) δ=some (.tuple [x,y,z,w]):=by
 unfold bG
 rw [cons_of h1 (cons_of h2 (cons_of h3 (cons_of h4 rfl)))]; rfl
theorem Fi (rt:Int×Int->eZ) (lo hi:Int×Int->Int) (hU:0 < U) (bU:bt U<=3000) (E F:fH) (m:eZ) (hm:Sz 40 m) (h0:0<=m.1) (hE:E.Pairwise Kp) (G4:F.Nodup) (hs:∀ x∈F,x∈E) (xC:F.length < 64)
  (hb:∀ e∈F,bt (lo e)<=3000 /\ bt (hi e)<=3000):∃ R S,F=R ++ S /\ lB [.list (F.map (Ai rt lo hi U)),dF m]=some (.tuple [.list ((E.filter λx=>decide (x∈R)).map dC),dF (UC rt S),dF (aE (R.map lo).sum U),dF (aE (R.map hi).sum U)]) /\ (R.map lo).sum * m.2<=m.1 * U:=by
 have bs:∀ (f:Int×Int->Int) (i:Nat),(∀ e∈F,bt (f e)<=3000)->bt ((F.take i).map f).sum<=3006:=λf i hf=>To (λx hx=>by
  obtain ⟨e,he,rfl⟩:=aa3.mp hx
  exact hf e (abC he)) (by rw [aax,abn]; lia)
 have Rf:=λe he=>(hb e he).1
 have WK:=λe he=>(hb e he).2
 have WL:∀ {t:Int},bt t<=3006->Sz 4000 (aE t U):=λ{t} h=>j0 (by lia) (aY h (by decide)) (aY bU (by decide))
 have io:∀ i,iz [.list ((F.take i).map dC)]=some ((E.filter λx=>decide (x∈F.take i)).map dC):=λi=>
  DB hE (G4.sublist (aek i F)) (λx hx=>hs x (abC hx)) (by rw [abn]; lia)
 have q0:=((vE (t:=0) (show U≠0 by lia)).mpr rfl).symm
 suffices key:fj (lB [.list (F.map (Ai rt lo hi U)),dF m]) λd=>∃ R S,F=R ++ S /\ d=.tuple [.list ((E.filter λx=>decide (x∈R)).map dC),dF (UC rt S),dF (aE (R.map lo).sum U),dF (aE (R.map hi).sum U)] /\ (R.map lo).sum * m.2<=m.1 * U by
  obtain ⟨_,e,R,S,h1,rfl,h2⟩:=key
  exact ⟨R,S,h1,e,h2⟩
 refine aI [sL (F.map (Ai rt lo hi U)),some (dF m),sL ([]),none,none,none,none,none,none,none] rfl ?_
 refine aI [sL (F.map (Ai rt lo hi U)),some (dF m),sL ([]),some (dF (0,1)),none,none,none,none,none,none] rfl ?_
 refine aI [sL (F.map (Ai rt lo hi U)),some (dF m),sL ([]),some (dF (0,1)),some (dF (0,1)),none,none,none,none,none] rfl ?_
 refine Ks (Ai rt lo hi U) F (λi δ=>((F.take i).map lo).sum * m.2<=m.1 * U /\ ∃ a b c d e:Option D,δ=[sL (F.map (Ai rt lo hi U)),some (dF m),sL ((F.take i).map dC),some (dF (aE ((F.take i).map lo).sum U)),some (dF (aE ((F.take i).map hi).sum U)),a,b,c,d,e])
  (λd=>∃ R S,F=R ++ S /\ d=.tuple [.list ((E.filter λx=>decide (x∈R)).map dC),dF (UC rt S),dF (aE (R.map lo).sum U),dF (aE (R.map hi).sum U)] /\ (R.map lo).sum * m.2<=m.1 * U) rfl ?_ ?_ ?_ ?_
 .refine ⟨?_,none,none,none,none,none,?_⟩
  .show (0:Int) * m.2<=m.1 * U
   rw [aeR]; exact Int.mul_nonneg h0 (by lia)
  .show _=[_,_,sL ([]),some (dF (aE 0 U)),some (dF (aE 0 U)),none,none,none,none,none]
   rw [<- q0]
 .rintro i e δ he ⟨hle,a,b,c,d,x,rfl⟩
  have M5:=aaP he
  have Lv:=(aaK.mp he).1
  have et:F.take (i + 1)=F.take i ++ [e]:=by rw [abU,he]; rfl
  have X1:((F.take (i + 1)).map lo).sum=((F.take i).map lo).sum + lo e:=by rw [et,aba,List.sum_append]; simp
  have esh:((F.take (i + 1)).map hi).sum=((F.take i).map hi).sum + hi e:=by rw [et,aba,List.sum_append]; simp
  have vp:=zp (aE ((F.take i).map lo).sum U) (aE (lo e) U) (WL (bs lo i Rf)) (WL (aY (Rf e M5) (by decide)))
  rw [xW (by lia),<- X1] at vp
  have vh:=zp (aE ((F.take i).map hi).sum U) (aE (hi e) U) (WL (bs hi i WK)) (WL (aY (WK e M5) (by decide)))
  rw [xW (by lia),<- esh] at vh
  have z:=WL (bs lo (i + 1) Rf)
  have vu:=hJ m (aE ((F.take (i + 1)).map lo).sum U) (cT hm.top z.bot) (cT z.top hm.bot)
  refine ⟨[sL (F.map (Ai rt lo hi U)),some (dF m),sL ((F.take i).map dC),some (dF (aE ((F.take i).map lo).sum U)),some (dF (aE ((F.take i).map hi).sum U)),some (dC e),some (dF (rt e)),some (dF (aE (lo e) U)),some (dF (aE (hi e) U)),x],rfl,?_⟩
  have s1:aT 9 (ay oX 2 (ae (af 3) (ae (af 7) ag))) [sL (F.map (Ai rt lo hi U)),some (dF m),sL ((F.take i).map dC),some (dF (aE ((F.take i).map lo).sum U)),some (dF (aE ((F.take i).map hi).sum U)),some (dC e),some (dF (rt e)),some (dF (aE (lo e) U)),some (dF (aE (hi e) U)),x]=some (.nx [sL (F.map (Ai rt lo hi U)),some (dF m),sL ((F.take i).map dC),some (dF (aE ((F.take i).map lo).sum U)),some (dF (aE ((F.take i).map hi).sum U)),some (dC e),some (dF (rt e)),some (dF (aE (lo e) U)),some (dF (aE (hi e) U)),some (dF (aE ((F.take (i + 1)).map lo).sum U))]):=aJ (call_of (cons_of rfl (cons_of rfl rfl)) rfl vp)
  by_cases hc:m.1 * U < ((F.take (i + 1)).map lo).sum * m.2
  .right
   rw [aaQ ((DC hU).mpr hc)] at vu
   refine ⟨_,bZ _ s1 ?_,F.take i,F.drop i,(List.take_append_drop i F).symm,rfl,hle⟩
   have er:UC rt (F.drop i)=rt e:=by rw [acY Lv]; rw [aad Lv] at he; cases he; rfl
   rw [er]
   exact Kt (mU (gZ (call_of (cons_of rfl (cons_of rfl rfl)) rfl vu)) (Tn (qQ (aU (lH (cons_of rfl rfl) rfl (io i) (zt _))) rfl rfl rfl)))
  .left
   rw [aaX λw=>hc ((DC hU).mp w)] at vu
   refine ⟨_,bZ _ s1 (bZ _ (kn (gZ (call_of (cons_of rfl (cons_of rfl rfl)) rfl vu))) (bZ _ (mR rfl rfl (by rw [aax,abn]; lia)) (bZ _ (aJ rfl) (aJ (call_of (cons_of rfl (cons_of rfl rfl)) rfl vh))))),by lia,some (dC e),some (dF (rt e)),some (dF (aE (lo e) U)),some (dF (aE (hi e) U)),some (dF (aE ((F.take (i + 1)).map lo).sum U)),?_⟩
   rw [show (F.take (i + 1)).map dC=(F.take i).map dC ++ [dC e] by rw [et,aba]; rfl]
   rfl
 .rintro δ' ⟨hle,a,b,c,d,x,rfl⟩
  rw [abG] at hle
  have vi:=io F.length
  rw [abG] at vi ⊢
  refine ret (.tuple [.list ((E.filter λx=>decide (x∈F)).map dC),dF (0,1),dF (aE (F.map lo).sum U),dF (aE (F.map hi).sum U)]) (qQ (aU (lH (cons_of rfl rfl) rfl vi (zt _))) rfl rfl rfl) (.mk rfl ⟨F,[],by simp,rfl,hle⟩)
 .rintro d ⟨R,S,h1,rfl,h2⟩
  exact .mk rfl ⟨R,S,h1,rfl,h2⟩
def kb (p:d6) (t c:Int) (e:Int×Int):Int:=dn p e.1 e.2 * c ^ (p.length - e.1.toNat - e.2.toNat) * (t ^ e.1.toNat * (c - t) ^ e.2.toNat)
def lI (l h c:Int) (e:Int×Int):eZ:=rat e.1.toNat e.2.toNat (aE l c) (aE h c)
theorem N5 (h1:0 < t) (h2:t < c) (b g:Nat):n0 b g (aE t c)=aE (t ^ b * (c - t) ^ g) (c ^ b * c ^ g):=by
 have hs:=vH h1 h2
 have lw:=ud hs b g
 exact (⟨lw.1,lw.2,C6 h1 h2 b g⟩:sY (n0 b g (aE t c)).1 (n0 b g (aE t c)).2 _ _).qm (abl (adg (by lia)) (adg (by lia)))
theorem By (ok:mT p e b g) (h1:0 < t) (h2:t < c):vG (dn p e.1 e.2,1) (n0 b g (aE t c))=aE (kb p t c e) (c ^ p.length):=by
 have hb:e.1.toNat=b:=by rw [ok.eq]; exact abb b
 have hg:e.2.toNat=g:=by rw [ok.eq]; exact abb g
 have hc:c≠0:=by lia
 have hw:((dn p e.1 e.2,1):eZ)=aE (dn p e.1 e.2) 1:=(A9 (q:=(dn p e.1 e.2,1)) ⟨Int.le_refl 1,by show Int.gcd _ 1=1; exact Int.gcd_one_right _⟩).symm
 have OK:c ^ b * c ^ g≠0:=abl (adg hc) (adg hc)
 rw [hw,N5 h1 h2,EW (by decide) OK]
 unfold kb
 refine jR (abl (by decide) OK) (adg hc) ?_
 have e1:c ^ p.length=c ^ (p.length - b - g) * (c ^ b * c ^ g):=by
  rw [<- Int.pow_add,<- Int.pow_add]
  congr 1
  have:=ok.dr
  lia
 grind
theorem jy (ok:mT p e b g):e.1.toNat=b /\ e.2.toNat=g:=by
 rw [ok.eq]; exact ⟨abb b,abb g⟩
theorem Ku (hl:p.length<=24) (ok:mT p e b g) (h1:0 < t) (h2:t < c) (h3:c < 2 ^ 40):bt (kb p t c e)<=3000 /\ 0 < kb p t c e:=by
 obtain ⟨hb,hg⟩:=jy ok
 have hd:=ok.dr
 have bc:bt c<=40:=bY (by lia)
 have b1:bt t<=40:=bY (by lia)
 have b2:bt (c - t)<=40:=bY (by lia)
 unfold kb
 rw [hb,hg]
 exact ⟨aY (fw (fw (vS hl ok) (pw_bt bc (show p.length - b - g<=24 by lia))) (fw (pw_bt b1 (show b<=24 by lia)) (pw_bt b2 (show g<=24 by lia)))) (by decide),abV (abV ok.pos (ach (by lia))) (abV (ach h1) (ach (by lia)))⟩
theorem qR {x:Int} (h:m<=n):x ^ m ∣ x ^ n:=⟨x ^ (n - m),by rw [<- Int.pow_add]; congr 1; lia⟩
theorem N6 (ok:mT p e b g) (H:UB l h c):1<=(lI l h c e).2 /\ (lI l h c e).2 ∣ l ^ p.length * (c - l) ^ p.length:=by
 obtain ⟨hb,hg⟩:=jy ok
 have hd:=ok.dr
 unfold lI
 rw [hb,hg]
 have q:=SM H.p1 (show l < c by have:=H.p2; have:=H.p3; lia) (show 0 < h by have:=H.p1; have:=H.p2; lia) H.p3 b g
 refine ⟨q.pos,Int.dvd_trans q.uc ?_⟩
 exact Int.mul_dvd_mul (qR (by lia)) (qR (by lia))
theorem hV (h:g δ=some .none):jP g δ=some (.nx δ):=by unfold jP; rw [h]; rfl
theorem GO {rest:aK} (hx:x δ=some (mh c)):ax (jP x) rest δ=some (.rt (mh c)):=by
 unfold ax jP; rw [hx]; rfl
theorem v8 (h:g δ=some (mh c)):qv i g δ=some (.rt (mh c)):=by unfold qv; rw [h]; rfl
theorem zD (h:g δ=some d) (hd:yQ d=none):qv i g δ=some (.nx (δ.set i (some d))):=by
 unfold qv; rw [h]; show some (Gw d _)=_; rw [rP hd]
theorem Tp (h:gb δ=some (.rt (mh c))) (hh:hand c=some d):yS gb hand δ=some (.rt d):=by
 unfold yS; rw [h]; show (hand c).bind _=_; rw [hh]; rfl
theorem Kv (h:gb δ=some (.nx δ')):yS gb hand δ=some (.nx δ'):=by unfold yS; rw [h]; rfl
def hX (lo hi:eZ):Bool:=decide (0 * lo.2 < lo.1 * 1) && (decide (lo.1 * hi.2 < hi.1 * lo.2) && decide (hi.1 * 1 < 1 * hi.2))
def ez (m:eZ):Bool:= !decide (m.1 * 1 < 0 * m.2) && !decide (1 * m.2 < m.1 * 1)
theorem b0:bt (0:Int)<=60:=bY (by decide)
theorem Fj:bt (1:Int)<=60:=bY (by decide)
theorem Kw (h1:a δ=some x) (h2:b δ=some y):nW a b δ=some (x && y):=by
 unfold nW; rw [h1]; cases x <;> first | rfl | exact h2
theorem PB (h1:a δ=some x) (h2:b δ=some y):O4 a b δ=some (x || y):=by
 unfold O4; rw [h1]; cases x <;> first | rfl | exact h2
theorem sk (lo hi:eZ) (h1:Sz 60 lo) (h2:Sz 60 hi):eF [dF lo,dF hi]=some (if hX lo hi=true then .none else mh "NoShares"):=by
 rw [tP]
 have u1:=hJ (0,1) lo (cT b0 h1.bot) (cT h1.top Fj)
 have u2:=hJ lo hi (cT h1.top h2.bot) (cT h2.top h1.bot)
 have u3:=hJ hi (1,1) (cT h2.top Fj) (cT Fj h2.bot)
 have hc:=lu (Kw (gZ (call_of (n:=2) (G:=dh) (g:=ae (gC (.tuple [(.int (0)),(.int (1))])) (ae (af 0) ag)) (δ:=[some (dF lo),some (dF hi)]) (cons_of rfl (cons_of rfl rfl)) rfl u1)) (Kw (gZ (call_of (n:=2) (G:=dh) (g:=ae (af 0) (ae (af 1) ag)) (cons_of rfl (cons_of rfl rfl)) rfl u2)) (gZ (call_of (n:=2) (G:=dh) (g:=ae (af 1) (ae (gC (.tuple [(.int (1)),(.int (1))])) ag)) (cons_of rfl (cons_of rfl rfl)) rfl u3))))
 have e:g0 [some (dF lo),some (dF hi)]=some (if hX lo hi=true then .nx [some (dF lo),some (dF hi)] else .rt (mh "NoShares")):=by
  cases q:hX lo hi with
  | true=>exact kn (hc.trans (abJ (λb=>some (!b)) q))
  | false=>exact mU (hc.trans (abJ (λb=>some (!b)) q)) rfl
 rw [e]
 cases hX lo hi <;> rfl
theorem zF (m:eZ) (hm:Sz 60 m):fM [dF m]=some (if ez m=true then .none else mh "NoShares"):=by
 rw [wR]
 have u1:=hJ m (0,1) (cT hm.top Fj) (cT b0 hm.bot)
 have u2:=hJ (1,1) m (cT Fj hm.bot) (cT hm.top Fj)
 have hc:=PB (gZ (call_of (n:=2) (G:=dh) (g:=ae (af 0) (ae (gC (.tuple [(.int (0)),(.int (1))])) ag)) (δ:=[some (dF m)]) (cons_of rfl (cons_of rfl rfl)) rfl u1)) (gZ (call_of (n:=2) (G:=dh) (g:=ae (gC (.tuple [(.int (1)),(.int (1))])) (ae (af 0) ag)) (cons_of rfl (cons_of rfl rfl)) rfl u2))
 have e:ju [some (dF m)]=some (if ez m=true then .nx [some (dF m)] else .rt (mh "NoShares")):=by
  have hg:ez m= !(decide (m.1 * 1 < 0 * m.2) || decide (1 * m.2 < m.1 * 1)):=by unfold ez; cases decide (m.1 * 1 < 0 * m.2) <;> rfl
  have Lk:=hc
  rw [hg]
  cases q:(decide (m.1 * 1 < 0 * m.2) || decide (1 * m.2 < m.1 * 1)) with
  | true=>rw [q] at Lk; exact mU Lk rfl
  | false=>rw [q] at Lk; exact kn Lk
 rw [e]
 cases ez m <;> rfl
theorem zG (hB:0 < B):hX (aE x B) (aE y B)=true↔0 < x /\ x < y /\ y < B:=by
 have e1:=(bS (t:=x) (show B≠0 by lia)).eq
 have e2:=(bS (t:=y) (show B≠0 by lia)).eq
 have p1:=(bS (t:=x) (show B≠0 by lia)).pos
 have p2:=(bS (t:=y) (show B≠0 by lia)).pos
 have u1:=DC (m:=(0,1)) (t:=x) hB
 generalize aE x B=a at *
 generalize aE y B=b at *
 unfold hX
 rw [aaS,aaS,abF,abF,abF]
 have k1:a.1 * b.2 * B=a.2 * b.2 * x:=by
  grind
 have k2:b.1 * a.2 * B=a.2 * b.2 * y:=by
  grind
 have VM:0 < a.2 * b.2:=abV (by lia) (by lia)
 have c1:0 * a.2 < a.1 * 1↔0 < x:=by grind
 have c2:a.1 * b.2 < b.1 * a.2↔x < y:=by
  constructor
  .intro h
   have:=abI h hB
   rw [k1,k2] at this
   exact Int.lt_of_mul_lt_mul_left this (by lia)
  .intro h
   have:=Int.mul_lt_mul_of_pos_left h VM
   rw [<- k1,<- k2] at this
   exact abz this (by lia)
 have c3:b.1 * 1 < 1 * b.2↔y < B:=by
  have k3:=e2
  constructor
  .intro h
   have h':b.1 * B < b.2 * B:=abI (by lia) hB
   rw [k3,abY b.2] at h'
   exact abz h' (by lia)
  .intro h
   have h':y * b.2 < B * b.2:=abI h (by lia)
   rw [<- k3,abY B] at h'
   have:=abz h' (by lia)
   lia
 rw [c1,c2,c3]
theorem zH (H:UB l h c):eF [dF (aE l c),dF (aE h c)]=some .none:=by
 have ⟨a1,a2,a3,a4⟩:=H
 have bc:bt c<=60:=bY (by lia)
 rw [sk _ _ (j0 (by lia) (bY (by lia)) bc) (j0 (by lia) (bY (by lia)) bc),aaL ((zG (by lia)).mpr ⟨a1,a2,a3⟩)]
theorem DD (hm:Sz 40 m) (h0:0<=m.1) (h1:m.1<=m.2):fM [dF m]=some .none:=by
 rw [zF m (hm.up (by decide)),aaL]
 unfold ez
 rw [aaX (by lia),aaX (by lia)]; rfl
theorem N7 (hp:Pl p) (hl:p.length<=24) (fB:∀ r∈p,r.length<=25) (xC:(aC p).length < 64) (H:UB l h c) (m:eZ) (hm:Sz 40 m) (h0:0<=m.1) (h1:m.1<=m.2):
  ∃ F R S,F.Perm (aC p) /\ (F.Pairwise λa b=>(lI l h c b).1 * (lI l h c a).2<=(lI l h c a).1 * (lI l h c b).2) /\ F=R ++ S /\ dO [bw p,dF (aE l c),dF (aE h c),dF m]=some (.tuple [.list (((aC p).filter λx=>decide (x∈R)).map dC),dF (UC (lI l h c) S),dF (aE (R.map (kb p l c)).sum (c ^ p.length)),dF (aE (R.map (kb p h c)).sum (c ^ p.length))]) /\ (R.map (kb p l c)).sum * m.2<=m.1 * c ^ p.length:=by
 have ⟨a1,a2,a3,a4⟩:=H
 obtain ⟨b1,b2,s1,s2,bc⟩:=Kq H
 have hU:0 < c ^ p.length:=ach (by lia)
 have bU:bt (c ^ p.length)<=3000:=aY (pw_bt bc hl) (by decide)
 obtain ⟨kds,ew,hD⟩:=mS hl fB (0,0)
 have vs:=zH H
 have vm:=DD hm h0 h1
 have MM:0 < l ^ p.length * (c - l) ^ p.length:=abV (ach a1) (ach (by lia))
 obtain ⟨M,hM⟩:∃ M:Nat,(M:Int)=l ^ p.length * (c - l) ^ p.length:=⟨(l ^ p.length * (c - l) ^ p.length).toNat,by lia⟩
 have bM:bt (M:Int)<=3990:=by
  rw [hM]
  exact aY (fw (pw_bt (bY (m:=40) (by lia)) hl) (pw_bt (bY (m:=40) (by lia)) hl)) (by decide)
 obtain ⟨F,vF,gf,Fk⟩:=Bx (Ai (lI l h c) (kb p l c) (kb p h c) (c ^ p.length)) (lI l h c) (aC p) (0,0) M (by lia) bM (λa _=>ix4_1) (λe he=>by
  obtain ⟨b,g,ok⟩:=pz hp he
  obtain ⟨r1,r2⟩:=N6 ok H
  have hd:=ok.dr
  rw [hM]
  refine ⟨r1,r2,?_⟩
  have:=(Fg H b g (by lia) (by lia)).2.top
  unfold lI
  rw [(jy ok).1,(jy ok).2]
  exact aY this (by decide)) xC
 have Z7:F.length < 64:=by rw [gf.length_eq]; exact xC
 obtain ⟨R,S,X4,vT,hle⟩:=Fi (lI l h c) (kb p l c) (kb p h c) hU bU (aC p) F m hm h0 (vX hp) (gf.nodup_iff.mpr (zA hp)) (λx hx=>gf.mem_iff.mp hx) Z7 λe he=>by
  obtain ⟨b,g,ok⟩:=pz hp (gf.mem_iff.mp he)
  exact ⟨(Ku hl ok a1 (by lia) a4).1,(Ku hl ok (by lia) a3 a4).1⟩
 refine ⟨F,R,S,gf,Fk,X4,?_,hle⟩
 refine aV ?_
 refine aI [some (bw p),some (dF (aE l c)),some (dF (aE h c)),some (dF m),none,none,none,none] (hV (call_of (cons_of rfl (cons_of rfl rfl)) rfl vs)) ?_
 refine aI [some (bw p),some (dF (aE l c)),some (dF (aE h c)),some (dF m),none,none,none,none] (hV (call_of (cons_of rfl rfl) rfl vm)) ?_
 refine aI [some (bw p),some (dF (aE l c)),some (dF (aE h c)),some (dF m),some (.dict kds),none,none,none] (aJ (call_of (cons_of rfl (cons_of (fP rfl rfl) rfl)) rfl ew)) ?_
 refine km dC (aC p) (λi δ=>∃ x y:Option D,δ=[some (bw p),some (dF (aE l c)),some (dF (aE h c)),some (dF m),some (.dict kds),sL (((aC p).take i).map (Ai (lI l h c) (kb p l c) (kb p h c) (c ^ p.length))),x,y]) (qP (aU (cj (cons_of rfl rfl) rfl (pw hl fB)))) ⟨none,none,rfl⟩ ?_ ?_
 .rintro i e δ he ⟨x,y,rfl⟩
  obtain ⟨b,g,ok⟩:=pz hp (aaP he)
  have hd:=ok.dr
  have yu:=ok.pos
  have hw:=hD.get (by show dn p e.1 e.2≠0; lia)
  have eC:dC e=.tuple [.int (b:Nat),.int (g:Nat)]:=by rw [ok.eq]; rfl
  have vr:=(Fg H b g (by lia) (by lia)).1
  have WM:=nN b g _ s1 b1 (by lia) (by lia)
  have WN:=nN b g _ s2 b2 (by lia) (by lia)
  have szw:Sz 4000 ((dn p e.1 e.2,1):eZ):=⟨⟨Int.le_refl 1,by show Int.gcd _ 1=1; exact Int.gcd_one_right _⟩,aY (vS hl ok) (by decide),aY (show bt (1:Int)<=1 from bY (by decide)) (by decide)⟩
  have vt1:=vQ (dn p e.1 e.2,1) (n0 b g (aE l c)) szw ((sj b g _ s1 b1 (by lia) (by lia)).up (by decide))
  have vt2:=vQ (dn p e.1 e.2,1) (n0 b g (aE h c)) szw ((sj b g _ s2 b2 (by lia) (by lia)).up (by decide))
  rw [By ok a1 (by lia)] at vt1
  rw [By ok (show 0 < h by lia) a3] at vt2
  rw [<- eC] at vr WM WN
  have er:rat b g (aE l c) (aE h c)=lI l h c e:=by unfold lI; rw [(jy ok).1,(jy ok).2]
  rw [er] at vr
  refine ⟨_,[some (bw p),some (dF (aE l c)),some (dF (aE h c)),some (dF m),some (.dict kds),sL (((aC p).take i).map (Ai (lI l h c) (kb p l c) (kb p h c) (c ^ p.length)) ++ [Ai (lI l h c) (kb p l c) (kb p h c) (c ^ p.length) e]),some (dC e),some (dF (dn p e.1 e.2,1))],rfl,?_,some (dC e),some (dF (dn p e.1 e.2,1)),?_⟩
  .refine bZ [some (bw p),some (dF (aE l c)),some (dF (aE h c)),some (dF m),some (.dict kds),sL (((aC p).take i).map (Ai (lI l h c) (kb p l c) (kb p h c) (c ^ p.length))),some (dC e),some (dF (dn p e.1 e.2,1))] (aJ (fP ((E6 (c:=e) rfl rfl).trans hw) rfl)) ?_
   refine mR rfl (qQ rfl (call_of (cons_of rfl (cons_of rfl (cons_of rfl rfl))) rfl vr) (call_of (cons_of rfl (cons_of (call_of (cons_of rfl (cons_of rfl rfl)) rfl WM) rfl)) rfl vt1) (call_of (cons_of rfl (cons_of (call_of (cons_of rfl (cons_of rfl rfl)) rfl WN) rfl)) rfl vt2)) (by rw [aax,abn]; lia)
  .rw [abU,he,aba]; rfl
 .rintro δ' ⟨x,y,rfl⟩
  rw [abG]
  have nl:uD (F.map (Ai (lI l h c) (kb p l c) (kb p h c) (c ^ p.length)))=true:=by
   clear Fk X4 vT gf vF Z7
   induction F with
   | nil=>rfl
   | cons e F ih=>exact ih
  exact ret _ (call_of (cons_of (aU (lH (cons_of rfl rfl) rfl vF nl)) (cons_of rfl rfl)) rfl vT) (.mk rfl rfl)
theorem Bz {α:Type} (enc:α->D) (P:α->Bool) (r:D) (W:DS->Prop) (hs:∀ a δ,W δ->∃ fG,t (enc a) δ=some fG /\ (P a=true->∃ δ',b fG=some (.nx δ') /\ W δ') /\ (P a=false->b fG=some (.rt r))):
  ∀ (l:List α) (δ:DS),W δ->(l.all P=true->∃ δ',kE t b (l.map enc) δ=some (.nx δ') /\ W δ') /\ (l.all P=false->kE t b (l.map enc) δ=some (.rt r))
 | [],δ,h=>⟨λ_=>⟨δ,rfl,h⟩,λz=>nomatch z⟩
 | a :: l,δ,h=>by
   obtain ⟨fG,e1,h1,h2⟩:=hs a δ h
   rw [aaY,kE,e1,ac9]
   show (_->∃ δ',(b fG).bind _=_ /\ _) /\ (_->(b fG).bind _=_)
   cases q:P a with
   | true=>
     obtain ⟨δ',e2,h3⟩:=h1 q
     rw [e2,acG]
     exact Bz enc P r W hs l δ' h3
   | false=>grind
section
variable {p:d6} (hp:Pl p) (hl:p.length<=24) (fB:∀ r∈p,r.length<=25)
include hl fB
theorem N8 (cs:fH):jr [bw p,.list (cs.map dC)]=some (if cs.all (λc=>decide (c∈aC p))=true then .none else mh "NoEnd"):=by
 rw [wQ]
 have e1:aT 2 (bj (bW ja 1 (ae (af 0) ag))) [some (bw p),sL (cs.map dC),none,none]=some (.nx [some (bw p),sL (cs.map dC),sL ((aC p).map dC),none]):=aJ (aU (cj (cons_of rfl rfl) rfl (pw hl fB)))
 rw [show jq [some (bw p),sL (cs.map dC),none,none]=_ from iM e1]
 have hf:=Bz (t:=aP 3) (b:=fW (gB (g2 (rJ true) (af 3) (af 2))) (oT "NoEnd") bP) dC (λc=>decide (c∈aC p)) (mh "NoEnd") (λδ=>∃ a,δ=[some (bw p),sL (cs.map dC),sL ((aC p).map dC),a]) (λc δ ⟨a,e⟩=>by
  subst e
  have hc:gB (g2 (rJ true) (af 3) (af 2)) [some (bw p),sL (cs.map dC),sL ((aC p).map dC),some (dC c)]=some (!decide (c∈aC p)):=cI (ai rfl rfl ((zi true c (aC p)).trans (by cases decide (c∈aC p) <;> rfl)))
  refine ⟨[some (bw p),sL (cs.map dC),sL ((aC p).map dC),some (dC c)],rfl,λq=>⟨_,kn (hc.trans (by rw [q]; rfl)),_,rfl⟩,λq=>mU (hc.trans (by rw [q]; rfl)) rfl⟩) cs [some (bw p),sL (cs.map dC),sL ((aC p).map dC),none] ⟨none,rfl⟩
 unfold fu
 rw [show bz (af 1) [some (bw p),sL (cs.map dC),sL ((aC p).map dC),none]=some (cs.map dC) from rfl,aac]
 cases q:cs.all (λc=>decide (c∈aC p)) with
 | true=>
   obtain ⟨δ',e2,a,rfl⟩:=hf.1 q
   rw [e2]; rfl
 | false=>rw [hf.2 q]; rfl
theorem N9 (s:Int):jv [bw p,.int s]=some (if (p.length:Int)<=s /\ s<=200 then .none else mh "NoLot"):=by
 rw [wU]
 have hc:nX (gB (ir ym ym (eQ dX (ae (af 0) ag)) (af 1) (gC (.int (200))))) [some (bw p),sI s]=some (!(decide ((p.length:Int)<=s) && decide (s<=200))):=lu (cI (E8 (iW (cons_of rfl rfl) ((oV _).trans (by rw [aax]))) rfl rfl rfl rfl))
 by_cases q:(p.length:Int)<=s /\ s<=200
 .rw [aaQ q.1,aaQ q.2] at hc
  rw [aaL q,show g6 [some (bw p),sI s]=_ from kn hc]; rfl
 .have:(decide ((p.length:Int)<=s) && decide (s<=200))=false:=by
   rw [<- Bool.not_eq_true,aaS,abF,abF]; exact q
  rw [this] at hc
  rw [aaO q,show g6 [some (bw p),sI s]=some (.rt (mh "NoLot")) from mU hc rfl]; rfl
end
theorem Z8 (s:Int) (j:Nat):∀ k:Nat,cn s (j + k)=cn s j * cn (s - (j:Int)) k
 | 0=>by rw [Nat.add_zero,cn,Int.mul_one]
 | k + 1=>by
   rw [<- Nat.add_assoc,cn,Z8 s j k,cn,Int.mul_assoc]
   congr 2
   lia
section
variable {p:d6} (hp:Pl p) (hl:p.length<=24) (fB:∀ r∈p,r.length<=25)
include hp hl fB
theorem BA (cs:fH):(cs.all (λc=>decide (c∈aC p))=true->∃ l,jW [bw p,.list (cs.map dC)]=some (.list l)) /\ (cs.all (λc=>decide (c∈aC p))=false->jW [bw p,.list (cs.map dC)]=some (mh "NoEnd")):=by
 have ve:=N8 hl fB cs
 constructor
 .intro q
  rw [aaL q] at ve
  have WI:=vR hl fB
  have vm:=GK hp hl fB ((aC p).map λe=>if e∈cs then ((1,1):eZ) else (0,1)) (N:=1) (by rw [aax]) (λz hz=>by obtain ⟨e,_,rfl⟩:=aa3.mp hz; split <;> exact Int.le_refl 1) (λz hz=>by obtain ⟨e,_,rfl⟩:=aa3.mp hz; split <;> exact (show bt (1:Int)<=1 from bY (by decide))) (by rw [aax]; lia) (λz hz=>by
   obtain ⟨e,_,rfl⟩:=aa3.mp hz
   split
   .exact aY (show bt (1:Int)<=60 from Fj) (by decide)
   .exact aY (show bt (0:Int)<=60 from b0) (by decide))
  obtain ⟨L,vm⟩:∃ L,kT [bw p,dP ((aC p).map λe=>if e∈cs then ((1,1):eZ) else (0,1))]=some L:=⟨_,vm⟩
  refine ⟨L,?_⟩
  refine aV ?_
  refine aI [some (bw p),sL (cs.map dC)] (hV (call_of (cons_of rfl (cons_of rfl rfl)) rfl ve)) ?_
  refine ret _ (aU (cj (cons_of rfl (cons_of (aU (ko dC dF (λe=>if e∈cs then ((1,1):eZ) else (0,1)) (aC p) (qP (aU (cj (cons_of rfl rfl) rfl (pw hl fB)))) (by lia) λe _=>?_)) rfl)) rfl vm)) (.mk rfl rfl)
  have hc:gB (g2 (rJ false) (af 0) (af 1)) (some (dC e) :: gU [1] [some (bw p),sL (cs.map dC)])=some (decide (e∈cs)):=cI (ai rfl rfl ((zi false e cs).trans (by cases decide (e∈cs) <;> rfl)))
  by_cases he:e∈cs
  .rw [aaQ he] at hc
   rw [aaL he]
   exact (by unfold Ii; rw [hc]; rfl)
  .rw [aaX he] at hc
   rw [aaO he]
   exact (by unfold Ii; rw [hc]; rfl)
 .intro q
  rw [q] at ve
  rw [Bg,show lA [some (bw p),sL (cs.map dC)]=some (.rt (mh "NoEnd")) from GO (call_of (cons_of rfl (cons_of rfl rfl)) rfl ve)]; rfl
end
theorem Kx (hc:0 < c) (hc4:c < 2 ^ 40) (hx:x.natAbs < 2 ^ 42) (hy:y.natAbs < 2 ^ 42) (b g:Nat) (hb:b<=24) (hg:g<=24):(hX (aE x c) (aE y c)=true->∃ q,qF [.tuple [.int (b:Nat),.int (g:Nat)],dF (aE x c),dF (aE y c)]=some (dF q)) /\ (hX (aE x c) (aE y c)=false->qF [.tuple [.int (b:Nat),.int (g:Nat)],dF (aE x c),dF (aE y c)]=some (mh "NoShares")):=by
 have bc:bt c<=60:=bY (by lia)
 have vs:=sk (aE x c) (aE y c) (j0 (by lia) (bY (by lia)) bc) (j0 (by lia) (bY (by lia)) bc)
 constructor
 .intro h
  obtain ⟨h1,h2,h3⟩:=(zG hc).mp h
  have H:UB x y c:=⟨h1,h2,h3,hc4⟩
  obtain ⟨b1,b2,s1,s2,_⟩:=Kq H
  have z1:=sj b g _ s1 b1 hb hg
  have z2:=sj b g _ s2 b2 hb hg
  have p1:=yU s1 b g
  have vo:=zq (n0 b g (aE y c)) (n0 b g (aE x c)) (z2.up (by decide)) (z1.up (by decide)) (by lia)
  rw [aaL h] at vs
  refine ⟨vG (n0 b g (aE y c)) (aE (n0 b g (aE x c)).2 (n0 b g (aE x c)).1),?_⟩
  refine aV ?_
  refine aI [some (.tuple [.int (b:Nat),.int (g:Nat)]),some (dF (aE x c)),some (dF (aE y c))] (hV (call_of (cons_of rfl (cons_of rfl rfl)) rfl vs)) (ret _ (call_of (cons_of (call_of (cons_of rfl (cons_of rfl rfl)) rfl (nN b g _ s2 b2 hb hg)) (cons_of (call_of (cons_of rfl (cons_of rfl rfl)) rfl (nN b g _ s1 b1 hb hg)) rfl)) rfl vo) (.mk rfl rfl))
 .intro h
  rw [h] at vs
  rw [JR,show uf [some (.tuple [.int (b:Nat),.int (g:Nat)]),some (dF (aE x c)),some (dF (aE y c))]=some (.rt (mh "NoShares")) from GO (call_of (cons_of rfl (cons_of rfl rfl)) rfl vs)]; rfl
def zI (s d:Int) (e:Int×Int):Int:=cn d e.1.toNat * cn (s - d) e.2.toNat
def GP (s lo hi:Int) (e:Int×Int):eZ:=if zI s lo e=0 then (0,1) else aE (zI s hi e) (zI s lo e)
def lJ (p:d6) (s d:Int) (e:Int×Int):Int:=dn p e.1 e.2 * zI s d e * cn (s - ((e.1.toNat + e.2.toNat:Nat):Int)) (p.length - (e.1.toNat + e.2.toNat))
theorem PC (ok:mT p e b g) (h:Pz p s d):aE (X3 p b g s d) (cn s (b + g))=aE (lJ p s d e) (cn s p.length):=by
 obtain ⟨hb,hg⟩:=jy ok
 have hd:=ok.dr
 have ⟨h1,h2,h3,h4⟩:=h
 have f1:0 < cn s (b + g):=j4 (by push_cast; lia)
 have f2:0 < cn s p.length:=j4 (by lia)
 have e1:cn s p.length=cn s (b + g) * cn (s - ((b + g:Nat):Int)) (p.length - (b + g)):=by
  rw [<- Z8,show b + g + (p.length - (b + g))=p.length by lia]
 refine jR (by lia) (by lia) ?_
 unfold X3 lJ zI
 rw [hb,hg,e1,show dn p e.1 e.2=dn p b g by rw [ok.eq]]
 grind
theorem DE (h7:p.length<=7) (ok:mT p e b g) (h:Pz p s d):bt (zI s d e)<=79 /\ 0<=zI s d e:=by
 obtain ⟨hb,hg⟩:=jy ok
 have hd:=ok.dr
 have ⟨h1,h2,h3,h4⟩:=h
 unfold zI
 rw [hb,hg]
 have nn:∀ {n:Int} (hn:0<=n) (k:Nat),0<=cn n k:=λ{n} hn k=>by
  by_cases q:(k:Int)<=n
  .exact Int.le_of_lt (j4 q)
  .have:cn n k=0:=by
    have e:k=n.toNat + 1 + (k - n.toNat - 1):=by lia
    rw [e,Z8]
    have:cn n (n.toNat + 1)=0:=by
     rw [cn,show (n - ((n.toNat:Nat):Int))=0 by lia,Int.mul_zero]
    rw [this,aeR]
   lia
 refine ⟨aY (fw (ui (n:=d) (k:=b) (by lia) (by lia) (by lia)) (ui (n:=s - d) (k:=g) (by lia) (by lia) (by lia))) (by lia),Int.mul_nonneg (nn h3 _) (nn (by lia) _)⟩
theorem zJ (h7:p.length<=7) (ok:mT p e b g) (h:Pz p s d):bt (lJ p s d e)<=3000 /\ (lJ p s d e=0↔zI s d e=0):=by
 obtain ⟨hb,hg⟩:=jy ok
 have hd:=ok.dr
 have ⟨h1,h2,h3,h4⟩:=h
 have hw:=ok.pos
 have f1:0 < cn (s - ((e.1.toNat + e.2.toNat:Nat):Int)) (p.length - (e.1.toNat + e.2.toNat)):=j4 (by rw [hb,hg]; lia)
 refine ⟨?_,?_⟩
 .unfold lJ
  exact aY (fw (fw (vS (by lia) ok) (DE h7 ok h).1) (iX (by rw [hb,hg]; lia) (by lia) (by lia))) (by decide)
 .unfold lJ
  constructor
  .intro z
   rcases adN.mp z with z | z
   .rcases adN.mp z with z | z
    .lia
    .exact z
   .lia
  .grind
def v9:List eZ->Nat
 | []=>1
 | q :: l=>q.2.natAbs * v9 l
theorem BC:∀ l:List eZ,(∀ q∈l,1<=q.2 /\ bt q.2<=m)->0 < v9 l /\ bt ((v9 l:Nat):Int)<=m * l.length + 1 /\ ∀ q∈l,q.2 ∣ ((v9 l:Nat):Int)
 | [],_=>⟨by decide,by rw [List.length_nil,Nat.mul_zero]; exact (show bt (1:Int)<=1 from bY (by decide)),λq hq=>by simp at hq⟩
 | q :: l,h=>by
   obtain ⟨h1,h2,h3⟩:=BC l λr hr=>h r (aaE _ hr)
   obtain ⟨a,b⟩:=h q aaD
   have e:((v9 (q :: l):Nat):Int)=q.2 * ((v9 l:Nat):Int):=by rw [v9,Int.natCast_mul]; congr 1; lia
   refine ⟨Nat.mul_pos (by lia) h1,?_,λr hr=>?_⟩
   .rw [e,aa0,Nat.mul_succ]
    exact aY (fw b h2) (by lia)
   .rw [e]
    rcases aaG.mp hr with rfl | hr
    .simp_all
    .exact Int.dvd_trans (h3 r hr) ⟨q.2,abY _ _⟩
set_option tactic.hygienic true in
theorem DF (hp:Pl p) (h7:p.length<=7) (fB:∀ r∈p,r.length<=25) (s lo hi:Int) (m:eZ) (hm:Sz 40 m):
  (¬ ((p.length:Int)<=s /\ s<=200)->iB [bw p,.int s,.int lo,.int hi,dF m]=some (mh "NoLot")) /\ ((p.length:Int)<=s /\ s<=200->(0<=lo /\ lo < hi /\ hi<=s) /\ ez m=true->∃ a b c d,iB [bw p,.int s,.int lo,.int hi,dF m]=some (.tuple [a,b,c,d])) /\ ((p.length:Int)<=s /\ s<=200->¬ ((0<=lo /\ lo < hi /\ hi<=s) /\ ez m=true)->iB [bw p,.int s,.int lo,.int hi,dF m]=some (mh "NoShares")):=by
 have hl:p.length<=24:=by lia
 have vs:=N9 hl fB s
 have vm:=zF m (hm.up (by decide))
 have An:nX (gB (kl ym uI ym (gC (.int (0))) (af 2) (af 3) (af 1))) [some (bw p),sI s,sI lo,sI hi,some (dF m),none,none,none,none,none]=some (!decide (0<=lo /\ lo < hi /\ hi<=s)):=by
  refine lu (cI ?_)
  show (match PyData.bool (decide (0<=lo)) with | .bool true=>_ | .bool false=>_ | _=>_)=_
  by_cases a:0<=lo
  .rw [aaQ a]
   show (match PyData.bool (decide (lo < hi)) with | .bool true=>_ | .bool false=>_ | _=>_)=_
   by_cases b:lo < hi
   .rw [aaQ b]
    show some (PyData.bool (decide (hi<=s)))=_
    rw [ace.mpr (show hi<=s↔0<=lo /\ lo < hi /\ hi<=s from ⟨λz=>⟨a,b,z⟩,λz=>z.2.2⟩)]
   .rw [aaX b,aaX λz:0<=lo /\ lo < hi /\ hi<=s=>b z.2.1]
  .rw [aaX a,aaX λz:0<=lo /\ lo < hi /\ hi<=s=>a z.1]
 refine ⟨λq=>?_,λq h=>?_,λq h=>?_⟩
 .rw [aaO q] at vs
  rw [ku,show iA [some (bw p),sI s,sI lo,sI hi,some (dF m),none,none,none,none,none]=some (.rt (mh "NoLot")) from GO (call_of (cons_of rfl (cons_of rfl rfl)) rfl vs)]; rfl
 .obtain ⟨⟨l0,l1,l2⟩,hg⟩:=h
  have Ll:Pz p s lo:=⟨q.1,q.2,l0,by lia⟩
  have Lh:Pz p s hi:=⟨q.1,q.2,by lia,l2⟩
  rw [aaL q] at vs
  rw [aaL hg] at vm
  rw [aaQ ⟨l0,l1,l2⟩] at An
  have h0m:0<=m.1:=by
   unfold ez at hg
   rw [aaS,aci,abA] at hg
   have:=hg.1
   lia
  have WI:(aC p).length < 64:=by
   have h:=vY hp
   have:p.length * (p.length + 3)<=7 * (7 + 3):=Nat.mul_le_mul h7 (by lia)
   lia
  have hU:0 < cn s p.length:=j4 q.1
  have bU:bt (cn s p.length)<=3000:=aY (iX (by lia) (by lia) (by lia)) (by decide)
  obtain ⟨nw,WO⟩:∃ nw:Int×Int->Bool,nw=λe=>decide (zI s lo e=0) && !decide (zI s hi e=0):=⟨_,rfl⟩
  obtain ⟨ot,Pd⟩:∃ ot:Int×Int->Bool,ot=λe=> !decide (zI s lo e=0):=⟨_,rfl⟩
  obtain ⟨enc,Ky⟩:∃ enc,enc=Ai (GP s lo hi) (lJ p s lo) (lJ p s hi) (cn s p.length):=⟨_,rfl⟩
  have X5:∀ e∈aC p,1<=(GP s lo hi e).2 /\ bt (GP s lo hi e).2<=79 /\ bt (GP s lo hi e).1<=79:=λe he=>by
   obtain ⟨b,g,ok⟩:=pz hp he
   unfold GP
   split
   .exact ⟨Int.le_refl 1,aY (show bt (1:Int)<=60 from Fj) (by decide),aY (show bt (0:Int)<=60 from b0) (by decide)⟩
   .rename_i hz
    have z:=j0 (t:=zI s hi e) hz (DE h7 ok Lh).1 (DE h7 ok Ll).1
    exact ⟨z.low.1,z.bot,z.top⟩
  have WQ:∀ e∈(aC p).filter ot,e∈aC p:=λe he=>(acj.mp he).1
  have hOl:((aC p).filter ot).length < 64:=abq (abH _ _) WI
  have aeh:((aC p).filter ot).length<=35:=by
   have h:=vY hp
   have h2:p.length * (p.length + 3)<=7 * (7 + 3):=Nat.mul_le_mul h7 (by lia)
   have:=abH ot (aC p)
   lia
  obtain ⟨pp,pb,pd⟩:=BC (m:=79) (((aC p).filter ot).map (GP s lo hi)) λz hz=>by
   obtain ⟨e,he,rfl⟩:=aa3.mp hz
   exact ⟨(X5 e (WQ e he)).1,(X5 e (WQ e he)).2.1⟩
  obtain ⟨F,vF,gf,Fk⟩:=Bx enc (GP s lo hi) ((aC p).filter ot) (0,0) _ pp (aY pb (by rw [aax]; lia)) (λa _=>by rw [Ky]; exact ix4_1) (λe he=>⟨(X5 e (WQ e he)).1,pd _ (aa3.mpr ⟨e,he,rfl⟩),aY (X5 e (WQ e he)).2.2 (by decide)⟩) hOl
  have G4:((aC p).filter nw ++ F).Nodup:=by
   rw [List.nodup_append]
   refine ⟨(zA hp).filter _,gf.nodup_iff.mpr ((zA hp).filter _),λa ha b hb e=>?_⟩
   subst e
   have h1:=(acj.mp ha).2
   have h2:=(acj.mp (gf.mem_iff.mp hb)).2
   rw [WO] at h1
   rw [Pd] at h2
   simp only [aaS,abF,aci,abA] at h1 h2
   exact h2 h1.1
  have tH:∀ x∈(aC p).filter nw ++ F,x∈aC p:=λx hx=>by
   rcases abd.mp hx with z | z
   .exact (acj.mp z).1
   .exact WQ x (gf.mem_iff.mp z)
  have hlen:((aC p).filter nw ++ F).length < 64:=by
   have:((aC p).filter nw ++ F).length<=(aC p).length:=by
    rw [aa7,gf.length_eq]
    have:∀ l:fH,(l.filter nw).length + (l.filter ot).length<=l.length:=λl=>by
     induction l with
     | nil=>exact aaF 0
     | cons e l ih=>
       have:¬ (nw e=true /\ ot e=true):=by
        rw [WO,Pd]
        simp only [aaS,abF,aci,abA]
        exact λz=>z.2 z.1.1
       rw [adG,adG,aa0]
       cases h1:nw e <;> cases h2:ot e <;> simp only [acR,if_false,if_true,aa0]
       .lia
       .lia
       .lia
       .exact absurd ⟨h1,h2⟩ this
    exact this _
   lia
  obtain ⟨R,S,X4,vT,_⟩:=Fi (GP s lo hi) (lJ p s lo) (lJ p s hi) hU bU (aC p) ((aC p).filter nw ++ F) m hm h0m (vX hp) G4 tH hlen λe he=>by
   obtain ⟨b,g,ok⟩:=pz hp (tH e he)
   exact ⟨(zJ h7 ok Ll).1,(zJ h7 ok Lh).1⟩
  rw [<- Ky] at vT
  refine ⟨.list (((aC p).filter λx=>decide (x∈R)).map dC),dF (UC (GP s lo hi) S),dF (aE (R.map (lJ p s lo)).sum (cn s p.length)),dF (aE (R.map (lJ p s hi)).sum (cn s p.length)),?_⟩
  rw [ku]
  refine aV ?_
  refine aI [some (bw p),sI s,sI lo,sI hi,some (dF m),none,none,none,none,none] (hV (call_of (cons_of rfl (cons_of rfl rfl)) rfl vs)) ?_
  refine C8 An ?_
  refine aI [some (bw p),sI s,sI lo,sI hi,some (dF m),none,none,none,none,none] (hV (call_of (cons_of rfl rfl) rfl vm)) ?_
  refine aI [some (bw p),sI s,sI lo,sI hi,some (dF m),sL ([]),none,none,none,none] rfl ?_
  refine aI [some (bw p),sI s,sI lo,sI hi,some (dF m),sL ([]),sL ([]),none,none,none] rfl ?_
  refine km dC (aC p) (λi δ=>∃ x y z:Option D,δ=[some (bw p),sI s,sI lo,sI hi,some (dF m),sL ((((aC p).take i).filter nw).map enc),sL ((((aC p).take i).filter ot).map enc),x,y,z]) (qP (aU (cj (cons_of rfl rfl) rfl (pw hl fB)))) ⟨none,none,none,rfl⟩ ?_ ?_
  .rintro i e δ he ⟨x,y,z,rfl⟩
   have Z9:=aaP he
   obtain ⟨b,g,ok⟩:=pz hp Z9
   have Lv:i < (aC p).length:=(aaK.mp he).1
   have WM:=vW hp hl fB Z9 ok Ll
   have WN:=vW hp hl fB Z9 ok Lh
   rw [PC ok Ll] at WM
   rw [PC ok Lh] at WN
   obtain ⟨bl,zl⟩:=zJ h7 ok Ll
   obtain ⟨bh,zh⟩:=zJ h7 ok Lh
   have n8:AF (dF (aE (lJ p s lo e) (cn s p.length))) (.tuple [.int 0,.int 1])=some (.bool (!decide (zI s lo e=0))):=by
    refine (C9 (zg _)).trans ?_
    rw [ace.mpr ((vE (t:=lJ p s lo e) (show cn s p.length≠0 by lia)).trans zl)]
   have n9:AF (dF (aE (lJ p s hi e) (cn s p.length))) (.tuple [.int 0,.int 1])=some (.bool (!decide (zI s hi e=0))):=by
    refine (C9 (zg _)).trans ?_
    rw [ace.mpr ((vE (t:=lJ p s hi e) (show cn s p.length≠0 by lia)).trans zh)]
   have et:∀ P:Int×Int->Bool,(((aC p).take (i + 1)).filter P).map enc=(((aC p).take i).filter P).map enc ++ (if P e=true then [enc e] else []):=λP=>by
    rw [abU,he]
    show (((aC p).take i ++ [e]).filter P).map enc=_
    rw [aee,aba]
    cases hP:P e with
    | true=>rw [List.filter_cons_of_pos hP]; rfl
    | false=>rw [List.filter_cons_of_neg (by simp [hP])]; rfl
   have len:∀ P:Int×Int->Bool,((((aC p).take i).filter P).map enc).length < 100000:=λP=>by
    rw [aax]
    have:=abH P ((aC p).take i)
    rw [abn] at this
    lia
   refine ⟨_,[some (bw p),sI s,sI lo,sI hi,some (dF m),sL ((((aC p).take (i + 1)).filter nw).map enc),sL ((((aC p).take (i + 1)).filter ot).map enc),some (dC e),some (dF (aE (lJ p s lo e) (cn s p.length))),some (dF (aE (lJ p s hi e) (cn s p.length)))],rfl,?_,_,_,_,rfl⟩
   refine bZ [some (bw p),sI s,sI lo,sI hi,some (dF m),sL ((((aC p).take i).filter nw).map enc),sL ((((aC p).take i).filter ot).map enc),some (dC e),some (dF (aE (lJ p s lo e) (cn s p.length))),z] (aJ (call_of (cons_of rfl (cons_of rfl (cons_of rfl (cons_of rfl rfl)))) rfl WM)) ?_
   refine bZ [some (bw p),sI s,sI lo,sI hi,some (dF m),sL ((((aC p).take i).filter nw).map enc),sL ((((aC p).take i).filter ot).map enc),some (dC e),some (dF (aE (lJ p s lo e) (cn s p.length))),some (dF (aE (lJ p s hi e) (cn s p.length)))] (aJ (call_of (cons_of rfl (cons_of rfl (cons_of rfl (cons_of rfl rfl)))) rfl WN)) ?_
   rw [et nw,et ot]
   have g8:gB (g2 AF (af 8) (gC (.tuple [(.int (0)),(.int (1))]))) [some (bw p),sI s,sI lo,sI hi,some (dF m),sL ((((aC p).take i).filter nw).map enc),sL ((((aC p).take i).filter ot).map enc),some (dC e),some (dF (aE (lJ p s lo e) (cn s p.length))),some (dF (aE (lJ p s hi e) (cn s p.length)))]=some (!decide (zI s lo e=0)):=cI (ai rfl rfl n8)
   have g9:gB (g2 AF (af 9) (gC (.tuple [(.int (0)),(.int (1))]))) [some (bw p),sI s,sI lo,sI hi,some (dF m),sL ((((aC p).take i).filter nw).map enc),sL ((((aC p).take i).filter ot).map enc),some (dC e),some (dF (aE (lJ p s lo e) (cn s p.length))),some (dF (aE (lJ p s hi e) (cn s p.length)))]=some (!decide (zI s hi e=0)):=cI (ai rfl rfl n9)
   by_cases c1:zI s lo e=0
   .rw [aaQ c1] at g8
    have p1:ot e=false:=by rw [Pd]; simp [c1]
    have er:GP s lo hi e=(0,1):=by unfold GP; rw [if_pos c1]
    rw [p1,aaO aaW,abh]
    refine oo false g8 (λz=>nomatch z) λ_=>?_
    by_cases c2:zI s hi e=0
    .rw [aaQ c2] at g9
     have p2:nw e=false:=by rw [WO]; simp [c2]
     rw [p2,aaO aaW,abh]
     exact kn g9
    .rw [aaX c2] at g9
     have p2:nw e=true:=by rw [WO]; simp [c1,c2]
     rw [p2,aaL rfl]
     refine mU g9 (mR rfl ?_ (len nw))
     rw [Ky]
     unfold Ai
     rw [er]
     exact qQ rfl rfl rfl rfl
   .rw [aaX c1] at g8
    have p1:ot e=true:=by rw [Pd]; simp [c1]
    have p2:nw e=false:=by rw [WO]; simp [c1]
    rw [p1,p2,aaL rfl,aaO aaW,abh]
    refine mU g8 (mR rfl ?_ (len ot))
    have Oa:lJ p s lo e≠0:=λz=>c1 (zl.mp z)
    have q1:(aE (lJ p s lo e) (cn s p.length)).1≠0:=λz=>by
     have:=(bS (t:=lJ p s lo e) (show cn s p.length≠0 by lia)).eq
     rw [z,aeR] at this
     rcases adN.mp this.symm with w | w
     .exact Oa w
     .have:=(bS (t:=lJ p s lo e) (show cn s p.length≠0 by lia)).pos; lia
    have vv:=zq (aE (lJ p s hi e) (cn s p.length)) (aE (lJ p s lo e) (cn s p.length)) (j0 (by lia) (aY bh (by decide)) (aY bU (by decide))) (j0 (by lia) (aY bl (by decide)) (aY bU (by decide))) q1
    have er:vG (aE (lJ p s hi e) (cn s p.length)) (aE (aE (lJ p s lo e) (cn s p.length)).2 (aE (lJ p s lo e) (cn s p.length)).1)=GP s lo hi e:=by
     have okq:=bS (t:=lJ p s lo e) (show cn s p.length≠0 by lia)
     have e1:=okq.eq
     unfold GP
     rw [aaO c1]
     have e2:aE (aE (lJ p s lo e) (cn s p.length)).2 (aE (lJ p s lo e) (cn s p.length)).1=aE (cn s p.length) (lJ p s lo e):=jR q1 Oa (by rw [abY,abY (cn s p.length)]; exact e1.symm)
     rw [e2,EW (by lia) Oa]
     refine jR (abl (by lia) Oa) c1 ?_
     unfold lJ
     grind
    rw [er] at vv
    rw [Ky]
    exact qQ rfl (call_of (cons_of rfl (cons_of rfl rfl)) rfl vv) rfl rfl
  .rintro δ' ⟨x,y,z,rfl⟩
   rw [abG]
   have nl:uD (F.map enc)=true:=by
    rw [Ky]
    clear vT tH hlen G4 gf vF Fk X4
    induction F with
    | nil=>rfl
    | cons e F ih=>exact ih
   have Z7:F.length < 64:=by rw [gf.length_eq]; exact hOl
   refine ret _ (call_of (cons_of (aU (JT rfl (aU (lH (cons_of rfl rfl) rfl vF nl)) (by rw [aax,aax]; have:=abH nw (aC p); lia))) (cons_of rfl rfl)) rfl ((show lB [.list (((aC p).filter nw).map enc ++ F.map enc),dF m]=_ by rw [<- List.map_append]; exact vT))) (.mk rfl rfl)
 .rw [aaL q] at vs
  by_cases hr:0<=lo /\ lo < hi /\ hi<=s
  .rw [aaQ hr] at An
   have hg:ez m=false:=by cases z:ez m with
    | true=>exact absurd ⟨hr,z⟩ h
    | false=>rfl
   rw [hg] at vm
   rw [ku,show iA [some (bw p),sI s,sI lo,sI hi,some (dF m),none,none,none,none,none]=some (.rt (mh "NoShares")) from bZ _ (hV (call_of (cons_of rfl (cons_of rfl rfl)) rfl vs)) (bZ _ (kn An) (GO (call_of (cons_of rfl rfl) rfl vm)))]; rfl
  .rw [aaX hr] at An
   rw [ku,show iA [some (bw p),sI s,sI lo,sI hi,some (dF m),none,none,none,none,none]=some (.rt (mh "NoShares")) from bZ _ (hV (call_of (cons_of rfl (cons_of rfl rfl)) rfl vs)) (Kt (mU An rfl))]; rfl
theorem WR (h1:a δ=some (.bool x)) (h2:b δ=some (.bool y)):Ih a b δ=some (.bool (x || y)):=by
 unfold Ih
 rw [cI h1,aac]
 cases x with
 | true=>rfl
 | false=>rw [aaO aaW,h2]; rfl
theorem Tq (hp:Pl p):1<=p.length:=by
 obtain ⟨q,rfl,_⟩:=hp.ex
 simp
theorem zK (h:af i δ=some (bw p)):eQ dX (ae (af i) ag) δ=some (.int (p.length:Nat)):=by
 refine iW (cons_of h rfl) ?_
 unfold bw
 rw [oV,aax]
theorem Kz:∀ {q:d6} {r:List Int},LC r q->∀ s∈q,s≠[]
 | [],_,_,s,h=>by cases h
 | t :: q,r,c,s,h=>by
   rcases aaG.mp h with rfl | h
   .exact c.1.1
   .exact Kz c.2 s h
theorem WS (hp:Pl p):∀ r∈p,r≠[]:=by
 obtain ⟨q,rfl,c⟩:=hp.ex
 intro r h
 rcases aaG.mp h with rfl | h
 .grind
 .exact Kz c r h
theorem KA (h:g δ=some xs) (hl:xs.length<=100000):bG g δ=some (.tuple xs):=by
 unfold bG; rw [h,Option.bind_some,if_pos hl]
theorem uj (h:g δ=some xs) (hl:xs.length<=100000:=by simp):c7 g δ=some xs:=by
 unfold c7; rw [h,Option.bind_some,if_pos hl]
theorem Ob (hp:Pl p):0 < (aC p).length:=by
 rcases Nat.eq_zero_or_pos (aC p).length with z | z
 .have:=N2 hp 0
  rw [acM.mp z,zu,aaL rfl] at this
  lia
 .exact z
theorem nO {α β:Type} (enc:α->β) (l:List α) (h:0 < l.length) (m:Int):∃ a∈l,p0 (l.map enc) (m % (l.length:Int))=some (enc a):=by
 have h0:=abL m (show (l.length:Int)≠0 by lia)
 have h1:=abr m (show 0 < (l.length:Int) by lia)
 obtain ⟨k,hk⟩:∃ k:Nat,m % (l.length:Int)=(k:Nat):=⟨(m % (l.length:Int)).toNat,by lia⟩
 have hkl:k < l.length:=by lia
 refine ⟨l[k],acX hkl,?_⟩
 rw [hk]
 exact eM (by rw [aaU,aad hkl]; rfl)
theorem zL {a rest:aK} {R:β->Prop} (Z:DS->Prop) (h:∃ δ',a δ=some (.nx δ') /\ Z δ') (k:∀ δ',Z δ'->fj ((rest δ').bind f) R):fj ((ax a rest δ).bind f) R:=by
 obtain ⟨δ',e,z⟩:=h
 exact aI δ' e (k δ' z)
theorem Fl {Z:DS->Prop} (x:Bool) (h:c δ=some x) (hz:Z δ) (ha:∃ δ',a δ=some (.nx δ') /\ Z δ'):∃ δ',fW c a bP δ=some (.nx δ') /\ Z δ':=by
 cases x with
 | true=>obtain ⟨δ',e,z⟩:=ha; exact ⟨δ',oo true h (λ_=>e) (λz=>nomatch z),z⟩
 | false=>exact ⟨δ,kn h,hz⟩
theorem BD {α:Type} (enc:α->D) (hf:∀ (k:Nat) (x:α),∃ b:Bool,f (.tuple [.int (k:Nat),enc x])=some (if b=true then some (enc x) else none)):∀ (l:List α) (n:Nat),∃ m:List α,rG f (((l.map enc).zipIdx n).map λp=>.tuple [.int (p.2:Nat),p.1])=some (m.map enc) /\ m.Sublist l
 | [],n=>⟨[],rfl,.slnil⟩
 | x :: l,n=>by
   obtain ⟨m,e,hs⟩:=BD enc hf l (n + 1)
   obtain ⟨b,hb⟩:=hf n x
   rw [aaY,List.zipIdx_cons,aaY,rG,hb,aac,e,aac]
   cases b with
   | true=>exact ⟨x :: m,rfl,hs.cons₂ x⟩
   | false=>exact ⟨m,rfl,hs.cons x⟩
theorem Tr (h1:af i δ=some (.list ds)) (h2:gk δ=some (.int k)) (h3:g δ=some d) (XC:0<=k) (hk:k.toNat<=ds.length) (hl:ds.length < 100000):MT i gk g δ=some (.nx (δ.set i (some (.list (ds.take k.toNat ++ d :: ds.drop k.toNat))))):=by
 unfold MT
 rw [h1,h2,h3]
 exact aaL ⟨XC,hk,hl⟩
section
variable {p:d6} (hp:Pl p) (hl:p.length<=24) (fB:∀ r∈p,r.length<=25)
include hp hl fB
theorem DG (c:Int):∃ cs:fH,jY [bw p,.int c]=some (cs.map dC) /\ cs.length<=1202:=by
 suffices key:fj (jY [bw p,.int c]) λds=>∃ cs:fH,ds=cs.map dC /\ cs.length<=1202 by
  obtain ⟨_,e,cs,rfl,h⟩:=key
  exact ⟨cs,e,h⟩
 rw [Dm]
 have WI:=vR hl fB
 have ZZ:uH (.int 10) (.int 18)=some (.int (10 ^ 18)):=EX (k:=18) (by decide) (by decide)
 obtain ⟨es,hes⟩:∃ es,es=aC p:=⟨_,rfl⟩
 have vL:=tm hp hl fB
 have jE:=Ob hp
 rw [<- hes] at vL WI jE
 refine aI [some (bw p),sI c,sL (es.map dC),none,none,none,none,none] (aJ (aU (cj (cons_of rfl rfl) rfl vL))) ?_
 obtain ⟨_,e1,l1,rfl,Ud,_⟩:=tj (c / 4) 2 40 (by decide) (by decide)
 refine aI [some (bw p),sI c,sL (es.map dC),sL (l1.map .int),none,none,none,none] (aJ (aU (cj (cons_of (ai rfl rfl (dd 4 (by decide) (by decide))) (cons_of rfl (cons_of rfl rfl))) rfl e1))) ?_
 refine zL (λδ=>∃ dg:List Int,dg.length=40 /\ δ=[some (bw p),sI c,sL (es.map dC),sL (dg.map .int),none,none,none,none]) (Fl (decide ((10 ^ 18:Int)<=(if c < 0 then -c else c))) (cI (ai rfl ZZ rfl)) ⟨l1,Ud,rfl⟩ ?_) ?_
 .obtain ⟨_,e2,l2,rfl,FF,_⟩:=qI (c / 4) 2 40 (by decide) (aY (bY (m:=4) (by decide)) (by decide)) (by decide)
  exact ⟨_,aJ (aU (cj (cons_of (ai rfl rfl (dd 4 (by decide) (by decide))) (cons_of rfl (cons_of rfl rfl))) rfl e2)),l2,FF,rfl⟩
 rintro δ' ⟨dg,Wy,rfl⟩
 have comp:∃ r1:fH,d9 (dz (af 2)) 2 [3] (iR 2 (cD (aP 0) (cD (aP 1) jf))) (gB (g2 oK (g2 a9 (af 2) (g2 da (af 0) (gC (.int (40))))) (gC (.int (1))))) (af 1) [some (bw p),sI c,sL (es.map dC),sL (dg.map .int),none,none,none,none]=some (r1.map dC) /\ r1.Sublist es:=by
  obtain ⟨f,ef⟩:∃ f:D->Option (Option D),f=λd=>(iR 2 (cD (aP 0) (cD (aP 1) jf)) d (List.replicate 2 none ++ gU [3] [some (bw p),sI c,sL (es.map dC),sL (dg.map .int),none,none,none,none])).bind λfG=>
    (gB (g2 oK (g2 a9 (af 2) (g2 da (af 0) (gC (.int (40))))) (gC (.int (1)))) fG).bind λb=>if b=true then (af 1 fG).map some else some none:=⟨_,rfl⟩
  have hf:∀ (k:Nat) (x:Int×Int),∃ b:Bool,f (.tuple [.int (k:Nat),dC x])=some (if b=true then some (dC x) else none):=by
   intro k x
   obtain ⟨y,_,ey⟩:=zf (l:=dg) (i:=((k:Nat):Int) % 40) (abL _ (by decide)) (by rw [Wy]; exact abr _ (by decide))
   refine ⟨decide (y=1),?_⟩
   rw [ef]
   show (Option.bind (some [some (PyData.int (k:Nat)),some (dC x),sL (dg.map .int)]) _)=_
   rw [aac]
   have hb:gB (g2 oK (g2 a9 (af 2) (g2 da (af 0) (gC (.int (40))))) (gC (.int (1)))) [some (PyData.int (k:Nat)),some (dC x),sL (dg.map .int)]=some (decide (y=1)):=
    cI (ai (ai rfl (ai rfl rfl (cY (by decide))) ey) rfl (jT _ _))
   rw [hb,aac]
   cases decide (y=1) <;> rfl
  obtain ⟨m1,WA,Et⟩:=BD dC hf es 0
  refine ⟨m1,?_,Et⟩
  unfold d9
  rw [show dz (af 2) [some (bw p),sI c,sL (es.map dC),sL (dg.map .int),none,none,none,none]=some (ki (es.map dC)) from rfl,aac,aaL (by rw [nu,aax]; lia)]
  rw [ef] at WA
  exact WA
 obtain ⟨r1,X0,Et⟩:=comp
 have h1:=Et.length_le
 refine aI [some (bw p),sI c,sL (es.map dC),sL (dg.map .int),sL (r1.map dC),none,none,none] (yZ X0) ?_
 refine zL (λδ=>∃ (cs:fH) (x y z:Option D),cs.length<=1202 /\ δ=[some (bw p),sI c,sL (es.map dC),sL (dg.map .int),sL (cs.map dC),x,y,z]) (Fl (decide (c % 4 < 2)) (cI (ai (ai rfl rfl (cY (by decide))) rfl rfl)) ⟨r1,none,none,none,by lia,rfl⟩ ?_) ?_
 .have kf:=Tq hp
  obtain ⟨r,hr,er⟩:=nO dR p kf (c / 7)
  have hrn:=adP.mpr (WS hp r hr)
  obtain ⟨b,_,eb⟩:=nO PyData.int r hrn (c / 9)
  obtain ⟨e0,tW,rfl⟩:∃ e0 tW,es=e0 :: tW:=by
   cases es with
   | nil=>exact absurd jE (by decide)
   | cons a l=>exact ⟨a,l,rfl⟩
  obtain ⟨n,hn⟩:∃ n,n=c / 7 % (p.length:Int):=⟨_,rfl⟩
  obtain ⟨sg,_,esg⟩:=nO dC [(b,n - b),(e0.1 + 1,e0.2 + 25)] (aeU _) c
  have k0:=abL (c / 5) (show ((r1.length:Int) + 1)≠0 by lia)
  have k1:=abr (c / 5) (show 0 < (r1.length:Int) + 1 by lia)
  obtain ⟨k,hk⟩:∃ k,k=c / 5 % ((r1.length:Int) + 1):=⟨_,rfl⟩
  rw [<- hk] at k0 k1
  rw [<- hn] at er
  refine ⟨[some (bw p),sI c,sL ((e0 :: tW).map dC),sL (dg.map .int),sL ((r1.take k.toNat ++ sg :: r1.drop k.toNat).map dC),sI n,sI b,some (dC sg)],?_,_,_,_,_,?_,rfl⟩
  .refine bZ [some (bw p),sI c,sL ((e0 :: tW).map dC),sL (dg.map .int),sL (r1.map dC),sI n,none,none] (by rw [hn]; exact aJ (ai (ai rfl rfl (dd 7 (by decide) (by decide))) (zK rfl) (cY (by lia)))) ?_
   have ix:g2 a9 (af 0) (af 5) [some (bw p),sI c,sL ((e0 :: tW).map dC),sL (dg.map .int),sL (r1.map dC),sI n,none,none]=some (dR r):=ai rfl rfl er
   refine bZ [some (bw p),sI c,sL ((e0 :: tW).map dC),sL (dg.map .int),sL (r1.map dC),sI n,sI b,none] (aJ (ai ix (ai (ai rfl rfl (dd 9 (by decide) (by decide))) (iW (cons_of ix rfl) ((oV _).trans (by rw [aax]))) (cY (by lia))) eb)) ?_
   refine bZ [some (bw p),sI c,sL ((e0 :: tW).map dC),sL (dg.map .int),sL (r1.map dC),sI n,sI b,some (dC sg)] (aJ (ai (aU (uj (cons_of (fP rfl (ai rfl rfl rfl)) (cons_of (fP (ai (ai (ai rfl rfl rR) rfl rR) rfl (fO _ _)) (ai (ai (ai rfl rfl rR) rfl yX) rfl (fO _ _))) rfl)))) (ai rfl rfl (cY (by decide))) esg)) ?_
   refine (Tr (ds:=r1.map dC) (k:=k) (d:=dC sg) rfl (by rw [hk]; exact ai (ai rfl rfl (dd 5 (by decide) (by decide))) (ai (iW (cons_of rfl rfl) ((ls _).trans (by rw [aax]))) rfl (fO _ _)) (cY (by lia))) rfl k0 (by rw [aax]; lia) (by rw [aax]; lia)).trans ?_
   rw [<- List.map_take,<- List.map_drop,aba,aaY]
   rfl
  .grind
 .rintro δ' ⟨cs,x,y,z,KC,rfl⟩
  exact ret (.list (cs.map dC)) rfl (.mk rfl ⟨cs,rfl,KC⟩)
structure Part (b g:Nat) (x y B:Int) (m:eZ):Prop where
 b:b<=12
 g:g<=12
 lo:1<=B
 hi:B<=10 ^ 12
 x:x.natAbs < 2 ^ 41
 y:y.natAbs < 2 ^ 41
 m:Sz 40 m
theorem DH (c n:Int):∃ (cs:fH) (b g:Nat) (x y B:Int) (m:eZ) (s lo hi:Int),jZ [bw p,.int c,.int n]=some (.tuple [.list (cs.map dC),.tuple [.int (b:Nat),.int (g:Nat)],dF (aE x B),dF (aE y B),dF m,.int s,.int lo,.int hi]) /\ Part b g x y B m /\ cs.length<=1202:=by
 suffices key:fj (jZ [bw p,.int c,.int n]) λd=>∃ (cs:fH) (b g:Nat) (x y B:Int) (m:eZ) (s lo hi:Int),d=.tuple [.list (cs.map dC),.tuple [.int (b:Nat),.int (g:Nat)],dF (aE x B),dF (aE y B),dF m,.int s,.int lo,.int hi] /\ Part b g x y B m /\ cs.length<=1202 by
  obtain ⟨_,e,cs,b,g,x,y,B,m,s,lo,hi,rfl,h⟩:=key
  exact ⟨cs,b,g,x,y,B,m,s,lo,hi,e,h⟩
 obtain ⟨cs,ecs,KC⟩:=DG hp hl fB c
 have p12:uH (.int 10) (.int 12)=some (.int (10 ^ 12)):=EX (k:=12) (by decide) (by decide)
 have p20:uH (.int 10) (.int 20)=some (.int (10 ^ 20)):=EX (k:=20) (by decide) (by decide)
 obtain ⟨B,hB,eB⟩:=nO PyData.int [1 + c % 30,1 + c % 10 ^ 12] (aeU _) (c / 3)
 have X6:1<=B /\ B<=10 ^ 12:=by grind
 have bB:bt B<=9000:=aY (bY (m:=40) (by lia)) (by decide)
 refine aI [some (bw p),sI c,sI n,sI B,none,none,none,none,none,none] (aJ (ai (aU (uj (cons_of (ai rfl (ai rfl rfl (cY (by decide))) (fO _ _)) (cons_of (ai rfl (ai rfl p12 (cY (by decide))) (fO _ _)) rfl)))) (ai (ai rfl rfl (dd 3 (by decide) (by decide))) rfl (cY (by decide))) eB)) ?_
 obtain ⟨x,hx⟩:∃ x,x=n % (B + 3) - 1:=⟨_,rfl⟩
 obtain ⟨y0,hy0⟩:∃ y,y=n / 3 / (B + 3) % (B + 3) - 1:=⟨_,rfl⟩
 have x0:=abL n (show B + 3≠0 by lia)
 have x1:=abr n (show 0 < B + 3 by lia)
 have y1:=abL (n / 3 / (B + 3)) (show B + 3≠0 by lia)
 have y2:=abr (n / 3 / (B + 3)) (show 0 < B + 3 by lia)
 refine aI [some (bw p),sI c,sI n,sI B,some (dF (aE x B)),none,none,none,none,none] (by rw [hx]; exact aJ (call_of (cons_of (ai (ai rfl (ai rfl rfl (fO _ _)) (cY (by lia))) rfl rfl) (cons_of rfl rfl)) rfl (pq _ _ X6.1 bB))) ?_
 refine aI [some (bw p),sI c,sI n,sI B,some (dF (aE x B)),some (dF (aE y0 B)),none,none,none,none] (by rw [hy0]; exact aJ (call_of (cons_of (ai (ai (ai (ai rfl rfl (dd 3 (by decide) (by decide))) (ai rfl rfl (fO _ _)) (dd (B + 3) (by lia) (by lia))) (ai rfl rfl (fO _ _)) (cY (by lia))) rfl rfl) (cons_of rfl rfl)) rfl (pq _ _ X6.1 bB))) ?_
 refine zL (λδ=>∃ y:Int,y.natAbs < 2 ^ 41 /\ δ=[some (bw p),sI c,sI n,sI B,some (dF (aE x B)),some (dF (aE y B)),none,none,none,none]) (Fl (decide (n % 7=3)) (cI (ai (ai rfl rfl (cY (by decide))) rfl (jT _ _))) ⟨y0,by lia,rfl⟩ ⟨_,aJ rfl,x,by lia,rfl⟩) ?_
 rintro δ' ⟨y,hy,rfl⟩
 obtain ⟨t,ht,et⟩:=nO PyData.int [0,100,n / 11 % 301 - 100,n % 101] (aeU _) (n / 2)
 have MC:t.natAbs < 2 ^ 10:=by grind
 refine aI [some (bw p),sI c,sI n,sI B,some (dF (aE x B)),some (dF (aE y B)),some (dF (aE t 100)),none,none,none] (aJ (call_of (cons_of (ai (aU (uj (cons_of rfl (cons_of rfl (cons_of (ai (ai (ai rfl rfl (dd 11 (by decide) (by decide))) rfl (cY (by decide))) rfl rfl) (cons_of (ai rfl rfl (cY (by decide))) rfl)))))) (ai (ai rfl rfl (dd 2 (by decide) (by decide))) rfl (cY (by decide))) et) (cons_of rfl rfl)) rfl (pq _ _ (by decide) (aY (bY (m:=10) (by decide)) (by decide))))) ?_
 refine aI [some (bw p),sI c,sI n,sI B,some (dF (aE x B)),some (dF (aE y B)),some (dF (aE t 100)),sI ((p.length:Int) + c / 5 % 20),none,none] (aJ (ai (zK rfl) (ai (ai rfl rfl (dd 5 (by decide) (by decide))) rfl (cY (by decide))) (fO _ _))) ?_
 refine zL (λδ=>∃ s:Int,δ=[some (bw p),sI c,sI n,sI B,some (dF (aE x B)),some (dF (aE y B)),some (dF (aE t 100)),sI s,none,none]) (Fl (decide (c / 7 % 4=1)) (cI (ai (ai (ai rfl rfl (dd 7 (by decide) (by decide))) rfl (cY (by decide))) rfl (jT _ _))) ⟨_,rfl⟩ ?_) ?_
 .obtain ⟨s,_,e⟩:=nO PyData.int [(p.length:Int) - 1,201,200,-(c % 10 ^ 20)] (aeU _) (c / 28)
  exact ⟨_,aJ (ai (aU (uj (cons_of (ai (zK rfl) rfl rfl) (cons_of rfl (cons_of rfl (cons_of (Fh (ai rfl p20 (cY (by decide))) rfl) rfl)))))) (ai (ai rfl rfl (dd 28 (by decide) (by decide))) rfl (cY (by decide))) e),s,rfl⟩
 rintro δ' ⟨s,rfl⟩
 refine aI [some (bw p),sI c,sI n,sI B,some (dF (aE x B)),some (dF (aE y B)),some (dF (aE t 100)),sI s,sI (n / 13 % 24 - 1),none] (aJ (ai (ai (ai rfl rfl (dd 13 (by decide) (by decide))) rfl (cY (by decide))) rfl rfl)) ?_
 refine aI [some (bw p),sI c,sI n,sI B,some (dF (aE x B)),some (dF (aE y B)),some (dF (aE t 100)),sI s,sI (n / 13 % 24 - 1),sI (n / 13 % 24 - 1 + n / 312 % 12 - 2)] (aJ (ai (ai rfl (ai (ai rfl rfl (dd 312 (by decide) (by decide))) rfl (cY (by decide))) (fO _ _)) rfl rfl)) ?_
 obtain ⟨b,hb⟩:∃ b:Nat,n % 13=(b:Nat):=⟨(n % 13).toNat,by lia⟩
 obtain ⟨g,hg⟩:∃ g:Nat,c % 13=(g:Nat):=⟨(c % 13).toNat,by lia⟩
 refine ret _ (KA (cons_of (aU (cj (cons_of rfl (cons_of rfl rfl)) rfl ecs)) (cons_of (fP (ai rfl rfl (cY (by decide))) (ai rfl rfl (cY (by decide)))) (cons_of rfl (cons_of rfl (cons_of rfl (cons_of rfl (cons_of rfl (cons_of rfl rfl)))))))) (by show 8<=100000; decide)) (.mk rfl ⟨cs,b,g,x,y,B,aE t 100,s,_,_,by rw [hb,hg],⟨by lia,by lia,X6.1,X6.2,by lia,hy,j0 (by decide) (aY (bY MC) (by decide)) (aY (bY (m:=10) (by decide)) (by decide))⟩,KC⟩)
end
theorem iY (a b:eZ) (h1:bt a.1<=m) (h2:bt a.2<=m) (h3:bt b.1<=m) (h4:bt b.2<=m) (hm:m<=60):eI [dF a,dF b]=some (.bool (decide (a.1 * b.2 < b.1 * a.2))):=by
 have k:∀ {x y:Int},bt x<=m->bt y<=m->IntMulOk x y:=λhx hy=>cT (aY hx hm) (aY hy hm) (by decide)
 exact aV (ret _ (ai (ai (ai rfl rfl (fU a)) (ai rfl rfl (eP b)) (dM (k h1 h4))) (ai (ai rfl rfl (fU b)) (ai rfl rfl (eP a)) (dM (k h3 h2))) rfl) (.mk rfl rfl))
theorem at4:a9 (.tuple (x0 :: x1 :: x2 :: x3 :: x4 :: l)) (.int 4)=some x4:=eM (j:=4) rfl
theorem at2:a9 (.tuple (x0 :: x1 :: x2 :: l)) (.int 2)=some x2:=eM (j:=2) rfl
theorem at3:a9 (.tuple (x0 :: x1 :: x2 :: x3 :: l)) (.int 3)=some x3:=eM (j:=3) rfl
theorem X7:a9 (.tuple (x0 :: x1 :: x2 :: x3 :: x4 :: x5 :: l)) (.int 5)=some x5:=eM (j:=5) rfl
theorem at6:a9 (.tuple (x0 :: x1 :: x2 :: x3 :: x4 :: x5 :: x6 :: l)) (.int 6)=some x6:=eM (j:=6) rfl
theorem at7:a9 (.tuple (x0 :: x1 :: x2 :: x3 :: x4 :: x5 :: x6 :: x7 :: l)) (.int 7)=some x7:=eM (j:=7) rfl
def G7 (cs:fH) (b g:Nat) (lo hi m:eZ) (s l h:Int):D:=.tuple [.list (cs.map dC),.tuple [.int (b:Nat),.int (g:Nat)],dF lo,dF hi,dF m,.int s,.int l,.int h]
def BE (p:d6) (cs:fH) (lo hi m:eZ) (s l h:Int) (w:Nat):Str:=
 if w=0 then (if cs.all (λc=>decide (c∈aC p))=true then "" else "end") else if w=1 then (if hX lo hi=true then "" else "shares") else if w=2 then (if (hX lo hi && ez m)=true then "" else "shares") else if ¬ ((p.length:Int)<=s /\ s<=200) then "lot" else if (0<=l /\ l < h /\ h<=s) /\ ez m=true then "" else "shares"
theorem Ts (p:d6) (cs:fH) (lo hi m:eZ) (s l h:Int):BE p cs lo hi m s l h 3=(if ¬ ((p.length:Int)<=s /\ s<=200) then "lot" else if (0<=l /\ l < h /\ h<=s) /\ ez m=true then "" else "shares":Str):=rfl
theorem Tt (p:d6) (cs:fH) (lo hi m:eZ) (s l h:Int) (w:Nat):PyData.strOk (BE p cs lo hi m s l h w)=true:=by
 have k1:PyData.strOk "lot"=true:=by decide +kernel
 have k2:PyData.strOk "end"=true:=by decide +kernel
 have k3:PyData.strOk "shares"=true:=by decide +kernel
 have k4:PyData.strOk ""=true:=by decide +kernel
 unfold BE
 repeat' split
 all_goals assumption
theorem KD (h1:a δ=some (.int x)) (h2:b δ=some (.int y)) (h3:c δ=some (.int z)) (h4:e δ=some (.int w)):kl ym uI ym a b c e δ=some (.bool (decide (x<=y /\ y < z /\ z<=w))):=by
 unfold kl
 rw [h1,h2,aac,aac,show ym (.int x) (.int y)=some (.bool (decide (x<=y))) from rfl,aac]
 by_cases a:x<=y
 .rw [aaQ a]
  rw [h3,aac,show uI (.int y) (.int z)=some (.bool (decide (y < z))) from rfl,aac]
  by_cases b:y < z
  .rw [aaQ b]
   rw [h4,aac,show ym (.int z) (.int w)=some (.bool (decide (z<=w))) from rfl,ace.mpr (show z<=w↔x<=y /\ y < z /\ z<=w from ⟨λq=>⟨a,b,q⟩,λq=>q.2.2⟩)]
  .grind
 .grind
theorem pick (h:g δ=some (.bool b)):g2 a9 (bj (c7 (ae (gC (.str u)) (ae (gC (.str v)) ag)))) (eQ qe (ae g ag)) δ=some (.str (if b=true then v else u)):=by
 cases b with
 | true=>exact ai (aU rfl) (iW (cons_of h rfl) rfl) yX
 | false=>exact ai (aU rfl) (iW (cons_of h rfl) rfl) rR
section
variable {p:d6} (hp:Pl p) (h7:p.length<=7) (fB:∀ r∈p,r.length<=25) (cs:fH) (KC:cs.length<=1202) {b g:Nat} {x y B:Int} {m:eZ} (P:Part b g x y B m) (s l h:Int)
include hp h7 fB KC P
theorem GQ (w:Nat) (hw:w < 4):kW [.int (w:Nat),bw p,G7 cs b g (aE x B) (aE y B) m s l h]=some (.str (BE p cs (aE x B) (aE y B) m s l h w)):=by
 refine aV ?_
 have hl:p.length<=24:=by lia
 have Rf:=P.lo
 have WK:=P.hi
 have hx:=P.x
 have hy:=P.y
 have zx:=j0 (t:=x) (b:=B) (m:=60) (by lia) (bY (by lia)) (bY (by lia))
 have zy:=j0 (t:=y) (b:=B) (m:=60) (by lia) (bY (by lia)) (bY (by lia))
 have zm:=P.m.up (show 40<=60 by decide)
 have c0:gB (g2 oK (af 0) (gC (.int (0)))) [sI (w:Nat),some (bw p),some (G7 cs b g (aE x B) (aE y B) m s l h),none,none,none]=some (decide (w=0)):=cI (ai rfl rfl ((jT _ _).trans (by rw [ace.mpr (show ((w:Nat):Int)=0↔w=0 by lia)])))
 refine nF _ c0 (λq=>?_) λq=>?_
 .have:=ab6 q
  subst this
  have vc:d9 (bz (g2 a9 (af 2) (gC (.int (0))))) 1 [3] (aP 0) (gB (g2 (rJ true) (af 0) (af 1))) (af 0) [sI ((0:Nat):Int),some (bw p),some (G7 cs b g (aE x B) (aE y B) m s l h),sL ((aC p).map dC),none,none]=some ((cs.filter λc=> !decide (c∈aC p)).map dC):=by
   refine (vO dC dC id (λc=> !decide (c∈aC p)) cs (qP (ai rfl rfl rR)) (by lia) (λa _=>?_) λa _ _=>rfl).trans (by rw [List.map_id])
   exact (cI (ai rfl rfl (zi true a (aC p)))).trans (by rw [Bool.bne_true])
  refine (show ∀ {x y:Option D},x=y->fj y _->fj x _ from λe h=>e ▸ h) (abJ (λz:Option Res=>z.bind du) seq_assoc) ?_
  refine aI [sI ((0:Nat):Int),some (bw p),some (G7 cs b g (aE x B) (aE y B) m s l h),sL ((aC p).map dC),none,none] (aJ (aU (cj (cons_of rfl rfl) rfl (tm hp hl fB)))) ?_
  refine qD _ (pick (b:= !cs.all λc=>decide (c∈aC p)) (ai (iW (cons_of (aU vc) rfl) (ls _)) rfl ?_)) (.mk rfl ?_)
  .show some (PyData.bool (decide ((0:Int) < _)))=_
   cases z:cs.all λc=>decide (c∈aC p) with
   | true=>simp_all
   | false=>simp_all
  .unfold BE
   cases cs.all λc=>decide (c∈aC p) <;> rfl
 rw [JN]
 have u4:=iY m (0,1) zm.top zm.bot b0 Fj (aaF 60)
 have u5:=iY (1,1) m Fj Fj zm.top zm.bot (aaF 60)
 have u1:=iY (0,1) (aE x B) b0 Fj zx.top zx.bot (aaF 60)
 have u2:=iY (aE x B) (aE y B) zx.top zx.bot zy.top zy.bot (aaF 60)
 have u3:=iY (aE y B) (1,1) zy.top zy.bot Fj Fj (aaF 60)
 refine aI [sI (w:Nat),some (bw p),some (G7 cs b g (aE x B) (aE y B) m s l h),none,some (.bool (ez m)),none] (aJ (sd (Fh (call_of (cons_of (ai rfl rfl at4) (cons_of (fP rfl rfl) rfl)) rfl u4) rfl) λ_=>Fh (call_of (cons_of (fP rfl rfl) (cons_of (ai rfl rfl at4) rfl)) rfl u5) rfl)) ?_
 have c3:gB (g2 uI (af 0) (gC (.int (3)))) [sI (w:Nat),some (bw p),some (G7 cs b g (aE x B) (aE y B) m s l h),none,some (.bool (ez m)),none]=some (decide (w < 3)):=cI (ai rfl rfl (show uI _ _=_ by show some (PyData.bool (decide ((w:Int) < 3)))=_; rw [ace.mpr (show ((w:Nat):Int) < 3↔w < 3 by lia)]))
 refine nF _ c3 (λq=>?_) λq=>?_
 .have hw3:=ab6 q
  refine (show ∀ {x y:Option D},x=y->fj y _->fj x _ from λe h=>e ▸ h) (abJ (λz:Option Res=>z.bind du) seq_assoc) ?_
  refine aI [sI (w:Nat),some (bw p),some (G7 cs b g (aE x B) (aE y B) m s l h),none,some (.bool (ez m)),some (.bool (hX (aE x B) (aE y B)))] (aJ (sd (call_of (cons_of (fP rfl rfl) (cons_of (ai rfl rfl at2) rfl)) rfl u1) λ_=>sd (call_of (cons_of (ai rfl rfl at2) (cons_of (ai rfl rfl at3) rfl)) rfl u2) λ_=>call_of (cons_of (ai rfl rfl at3) (cons_of (fP rfl rfl) rfl)) rfl u3)) ?_
  refine qD _ (pick (b:=hX (aE x B) (aE y B) && (ez m || decide (w=1))) (sd rfl λ_=>WR rfl (ai rfl rfl ((jT _ _).trans (by rw [ace.mpr (show ((w:Nat):Int)=1↔w=1 by lia)]))))) (.mk rfl ?_)
  unfold BE
  by_cases q1:w=1
  .grind
  .grind
 have hw3:w=3:=by have:=acQ q; lia
 subst hw3
 have cl:=PB (cI (ai (f:=uI) (δ:=[sI ((3:Nat):Int),some (bw p),some (G7 cs b g (aE x B) (aE y B) m s l h),none,some (.bool (ez m)),none]) (ai (f:=a9) (a:=af 2) (b:=gC (.int 5)) rfl rfl X7) (zK (i:=1) rfl) rfl)) (cI (ai (f:=AE) (δ:=[sI ((3:Nat):Int),some (bw p),some (G7 cs b g (aE x B) (aE y B) m s l h),none,some (.bool (ez m)),none]) (ai (f:=a9) (a:=af 2) (b:=gC (.int 5)) rfl rfl X7) (show gC (.int (200)) _=some (.int 200) from rfl) rfl))
 refine nF _ cl (λq=>?_) λq=>?_
 .rw [Bool.or_eq_true,abF,abF] at q
  refine qD (.str "lot") rfl (.mk rfl ?_)
  rw [Ts,aaL (by lia)]
 .rw [Bool.or_eq_false_iff,abA,abA] at q
  refine ret _ (pick (b:=decide (0<=l /\ l < h /\ h<=s) && ez m) (sd (KD rfl (ai rfl rfl at6) (ai rfl rfl at7) (ai rfl rfl X7)) λ_=>rfl)) (.mk rfl ?_)
  rw [Ts,aaO (show ¬ ¬ ((p.length:Int)<=s /\ s<=200) by lia)]
  by_cases k:0<=l /\ l < h /\ h<=s
  .grind
  .grind
theorem KE:((hX (aE x B) (aE y B) && ez m)=true->∃ a b c d,dO [bw p,dF (aE x B),dF (aE y B),dF m]=some (.tuple [a,b,c,d])) /\ ((hX (aE x B) (aE y B) && ez m)=false->dO [bw p,dF (aE x B),dF (aE y B),dF m]=some (mh "NoShares")):=by
 have hl:p.length<=24:=by lia
 have Rf:=P.lo
 have WK:=P.hi
 have hx:=P.x
 have hy:=P.y
 have vs:=sk (aE x B) (aE y B) (j0 (by lia) (bY (by lia)) (bY (by lia))) (j0 (by lia) (bY (by lia)) (bY (by lia)))
 have vm:=zF m (P.m.up (by decide))
 constructor
 .intro q
  rw [aaS] at q
  obtain ⟨h1,h2,h3⟩:=(zG (by lia)).mp q.1
  have hg:=q.2
  unfold ez at hg
  rw [aaS,aci,aci,abA,abA] at hg
  have xC:(aC p).length < 64:=by
   have h:=vY hp
   have:p.length * (p.length + 3)<=7 * (7 + 3):=Nat.mul_le_mul h7 (by lia)
   lia
  obtain ⟨F,R,S,_,_,_,e,_⟩:=N7 hp hl fB xC (l:=x) (h:=y) (c:=B) ⟨h1,h2,h3,by lia⟩ m P.m (by lia) (by lia)
  exact ⟨_,_,_,_,e⟩
 .intro q
  by_cases hr:hX (aE x B) (aE y B)=true
  .have hg:ez m=false:=by rw [hr,acG] at q; exact q
   rw [aaL hr] at vs
   rw [hg] at vm
   rw [kU,show eU [some (bw p),some (dF (aE x B)),some (dF (aE y B)),some (dF m),none,none,none,none]=some (.rt (mh "NoShares")) from bZ _ (hV (call_of (cons_of rfl (cons_of rfl rfl)) rfl vs)) (GO (call_of (cons_of rfl rfl) rfl vm))]; rfl
  .rw [aaO hr] at vs
   rw [kU,show eU [some (bw p),some (dF (aE x B)),some (dF (aE y B)),some (dF m),none,none,none,none]=some (.rt (mh "NoShares")) from GO (call_of (cons_of rfl (cons_of rfl rfl)) rfl vs)]; rfl
end
theorem wa {body rest:aK} (h:body δ=some (.rt (mh x))) (hx:x∈tf):(ax (yS body (jQ tf l8)) rest δ).bind du=some (l8 x):=by
 rw [EY (Tp h (show jQ tf l8 x=some (l8 x) by unfold jQ; rw [if_pos hx]))]; rfl
section
variable {p:d6} (hp:Pl p) (h7:p.length<=7) (fB:∀ r∈p,r.length<=25) (cs:fH) (KC:cs.length<=1202) {b g:Nat} {x y B:Int} {m:eZ} (P:Part b g x y B m) (s l h:Int)
include hp h7 fB KC P
theorem zM (w:Nat) (hw:w < 4):g7 [.int (w:Nat),bw p,G7 cs b g (aE x B) (aE y B) m s l h]=some (.str (BE p cs (aE x B) (aE y B) m s l h w)):=by
 have hl:p.length<=24:=by lia
 have Rf:=P.lo
 have WK:=P.hi
 have m1:("NoLot":Str)∈tf:=.head _
 have m2:("NoEnd":Str)∈tf:=.tail _ (.head _)
 have m3:("NoShares":Str)∈tf:=.tail _ (.tail _ (.head _))
 have w1:l8 "NoLot"=.str "lot":=rfl
 have w3:l8 "NoShares"=.str "shares":=rfl
 have wZ:∀ (x:Nat) {a b:aK} {δ:DS} {r:Option Res},(w=x->a (some (.int (w:Nat)) :: δ)=r)->(w≠x->b (some (.int (w:Nat)) :: δ)=r)->fW (gB (g2 oK (af 0) (gC (.int (x:Nat))))) a b (some (.int (w:Nat)) :: δ)=r:=λx a b δ r h1 h2=>oo (decide (w=x)) (cI (ai rfl rfl ((jT _ _).trans (by rw [ace.mpr (show ((w:Nat):Int)=((x:Nat):Int)↔w=x by lia)])))) (λz=>h1 (ab6 z)) λz=>h2 (acQ z)
 have hb:w=0 \/ w=1 \/ w=2 \/ w=3:=by lia
 obtain ⟨K,hK⟩:∃ K,K=G7 cs b g (aE x B) (aE y B) m s l h:=⟨_,rfl⟩
 have tail:∀ (k:Nat) (d:List D) {body:aK},k≠0->a9 (.list [.int 2,.int 4,.int 4]) (.int ((k:Int) - 1))=some (.int (d.length:Nat))->body [sI (k:Nat),some (bw p),some K,none,none]=some (.nx [sI (k:Nat),some (bw p),some K,some (.tuple d),none])->
  (ax (yS body (jQ tf l8)) (ax (fW (gB (g2 oK (af 0) (gC (.int (0))))) (bQ (g2 a9 (bj (c7 (ae (gC (.str "none")) (ae (gC (.str "")) ag)))) (eQ qe (ae (yr "list" (af 3)) ag)))) bP)
  (bQ (g2 a9 (bj (c7 (ae (gC (.str "none")) (ae (gC (.str "")) ag)))) (eQ qe (ae (kg (yr "tuple" (af 3)) (g2 oK (eQ dX (ae (af 3) ag)) (g2 a9 (bj (c7 (ae (gC (.int (2))) (ae (gC (.int (4))) (ae (gC (.int (4))) ag))))) (g2 gz (af 0) (gC (.int (1))))))) ag))))) [sI (k:Nat),some (bw p),some K,none,none]).bind du=some (.str ""):=by
  intro k d body hk hd hb
  rw [iM (Kv hb)]
  refine aV ?_
  refine nF (decide (((k:Nat):Int)=0)) (cI (ai rfl rfl (jT _ _))) (λz=>absurd (ab6 z) (by lia)) λ_=>?_
  exact ret (.str "") (pick (b:=true) (NG (show yr "tuple" (af 3) _=some (.bool true) from rfl) (ai (iW (cons_of rfl rfl) (oV d)) (ai (aU rfl) (ai rfl rfl rfl) hd) ((jT _ _).trans (by rw [aaQ rfl]))))) (.mk rfl rfl)
 have WT:∀ (d:List D) {body rest:aK},body [sI ((0:Nat):Int),some (bw p),some K,none,none]=some (.nx [sI ((0:Nat):Int),some (bw p),some K,sL d,none])->
  (ax (yS body (jQ tf l8)) (ax (fW (gB (g2 oK (af 0) (gC (.int (0))))) (bQ (g2 a9 (bj (c7 (ae (gC (.str "none")) (ae (gC (.str "")) ag)))) (eQ qe (ae (yr "list" (af 3)) ag)))) bP) rest) [sI ((0:Nat):Int),some (bw p),some K,none,none]).bind du=some (.str ""):=by
  intro d body rest hb
  rw [iM (Kv hb)]
  refine aV ?_
  refine nF (decide (((0:Nat):Int)=0)) (cI (ai rfl rfl (jT _ _))) (λ_=>?_) λz=>absurd (acQ z) (by decide)
  exact qD (.str "") (pick (b:=true) (show yr "list" (af 3) _=some (.bool true) from rfl)) (.mk rfl rfl)
 have k1:a9 (.list [.int 2,.int 4,.int 4]) (.int (((1:Nat):Int) - 1))=some (.int ((2:Nat):Int)):=rR
 have k2:a9 (.list [.int 2,.int 4,.int 4]) (.int (((2:Nat):Int) - 1))=some (.int ((4:Nat):Int)):=yX
 have k3:a9 (.list [.int 2,.int 4,.int 4]) (.int (((3:Nat):Int) - 1))=some (.int ((4:Nat):Int)):=eM (j:=2) rfl
 have i0:∀ {δ:DS},af 2 δ=some K->g2 a9 (af 2) (gC (.int 0)) δ=some (.list (cs.map dC)):=λe=>by rw [hK] at e; exact ai e rfl rR
 have i1:∀ {δ:DS},af 2 δ=some K->g2 a9 (af 2) (gC (.int 1)) δ=some (.tuple [.int (b:Nat),.int (g:Nat)]):=λe=>by rw [hK] at e; exact ai e rfl yX
 have i2:∀ {δ:DS},af 2 δ=some K->g2 a9 (af 2) (gC (.int 2)) δ=some (dF (aE x B)):=λe=>by rw [hK] at e; exact ai e rfl at2
 have i3:∀ {δ:DS},af 2 δ=some K->g2 a9 (af 2) (gC (.int 3)) δ=some (dF (aE y B)):=λe=>by rw [hK] at e; exact ai e rfl at3
 have i4:∀ {δ:DS},af 2 δ=some K->g2 a9 (af 2) (gC (.int 4)) δ=some (dF m):=λe=>by rw [hK] at e; exact ai e rfl at4
 have i5:∀ {δ:DS},af 2 δ=some K->g2 a9 (af 2) (gC (.int 5)) δ=some (.int s):=λe=>by rw [hK] at e; exact ai e rfl X7
 have i6:∀ {δ:DS},af 2 δ=some K->g2 a9 (af 2) (gC (.int 6)) δ=some (.int l):=λe=>by rw [hK] at e; exact ai e rfl at6
 have i7:∀ {δ:DS},af 2 δ=some K->g2 a9 (af 2) (gC (.int 7)) δ=some (.int h):=λe=>by rw [hK] at e; exact ai e rfl at7
 rw [<- hK]
 rcases hb with rfl | rfl | rfl | rfl
 .have vr:=BA hp hl fB cs
  have a2:ae (af 1) (ae (bj (tD kD (ae (g2 a9 (af 2) (gC (.int (0)))) ag))) ag) [sI ((0:Nat):Int),some (bw p),some K,none,none]=some [bw p,.list (cs.map dC)]:=cons_of rfl (cons_of (aU (by unfold tD; rw [cons_of (i0 rfl) rfl]; rfl)) rfl)
  show _=some (PyData.str (if cs.all (λc=>decide (c∈aC p))=true then "" else "end"))
  cases q:cs.all λc=>decide (c∈aC p) with
  | true=>
    obtain ⟨L,e⟩:=vr.1 q
    exact WT L (wZ 0 (λ_=>zD (call_of a2 rfl e) rfl) λz=>absurd rfl z)
  | false=>
    exact wa (wZ 0 (λ_=>v8 (call_of a2 rfl (vr.2 q))) λz=>absurd rfl z) m2
 .have hx:=P.x
  have hy:=P.y
  have XE:=P.b
  have hgg:=P.g
  have vr:=Kx (x:=x) (y:=y) (c:=B) (by lia) (by lia) (by lia) (by lia) b g (by lia) (by lia)
  show _=some (PyData.str (if hX (aE x B) (aE y B)=true then "" else "shares"))
  cases q:hX (aE x B) (aE y B) with
  | true=>
    obtain ⟨z,e⟩:=vr.1 q
    exact tail 1 [.int z.1,.int z.2] (by decide) k1 (wZ 0 (λz=>absurd z (by decide)) λ_=>wZ 1 (λ_=>zD (call_of (cons_of (i1 rfl) (cons_of (i2 rfl) (cons_of (i3 rfl) rfl))) rfl e) rfl) λz=>absurd rfl z)
  | false=>
    exact wa (wZ 0 (λz=>absurd z (by decide)) λ_=>wZ 1 (λ_=>v8 (call_of (cons_of (i1 rfl) (cons_of (i2 rfl) (cons_of (i3 rfl) rfl))) rfl (vr.2 q))) λz=>absurd rfl z) m3
 .have vr:=KE hp h7 fB cs KC P
  show _=some (PyData.str (if (hX (aE x B) (aE y B) && ez m)=true then "" else "shares"))
  cases q:(hX (aE x B) (aE y B) && ez m) with
  | true=>
    obtain ⟨z1,z2,z3,z4,e⟩:=vr.1 q
    exact tail 2 [z1,z2,z3,z4] (by decide) k2 (wZ 0 (λz=>absurd z (by decide)) λ_=>wZ 1 (λz=>absurd z (by decide)) λ_=>wZ 2 (λ_=>zD (call_of (cons_of rfl (cons_of (i2 rfl) (cons_of (i3 rfl) (cons_of (i4 rfl) rfl)))) rfl e) rfl) λz=>absurd rfl z)
  | false=>
    exact wa (wZ 0 (λz=>absurd z (by decide)) λ_=>wZ 1 (λz=>absurd z (by decide)) λ_=>wZ 2 (λ_=>v8 (call_of (cons_of rfl (cons_of (i2 rfl) (cons_of (i3 rfl) (cons_of (i4 rfl) rfl)))) rfl (vr.2 q))) λz=>absurd rfl z) m3
 .have vr:=DF hp h7 fB s l h m P.m
  have a5:ae (af 1) (ae (g2 a9 (af 2) (gC (.int (5)))) (ae (g2 a9 (af 2) (gC (.int (6)))) (ae (g2 a9 (af 2) (gC (.int (7)))) (ae (g2 a9 (af 2) (gC (.int (4)))) ag)))) [sI ((3:Nat):Int),some (bw p),some K,none,none]=some [bw p,.int s,.int l,.int h,dF m]:=cons_of rfl (cons_of (i5 rfl) (cons_of (i6 rfl) (cons_of (i7 rfl) (cons_of (i4 rfl) rfl))))
  rw [Ts]
  by_cases q:(p.length:Int)<=s /\ s<=200
  .rw [aaO (show ¬ ¬ ((p.length:Int)<=s /\ s<=200) from λz=>z q)]
   by_cases q2:(0<=l /\ l < h /\ h<=s) /\ ez m=true
   .obtain ⟨z1,z2,z3,z4,e⟩:=vr.2.1 q q2
    rw [aaL q2]
    exact tail 3 [z1,z2,z3,z4] (by decide) k3 (wZ 0 (λz=>absurd z (by decide)) λ_=>wZ 1 (λz=>absurd z (by decide)) λ_=>wZ 2 (λz=>absurd z (by decide)) λ_=>zD (call_of a5 rfl e) rfl)
   .rw [aaO q2,<- w3]
    exact wa (wZ 0 (λz=>absurd z (by decide)) λ_=>wZ 1 (λz=>absurd z (by decide)) λ_=>wZ 2 (λz=>absurd z (by decide)) λ_=>v8 (call_of a5 rfl (vr.2.2 q q2))) m3
  .rw [aaL q,<- w1]
   exact wa (wZ 0 (λz=>absurd z (by decide)) λ_=>wZ 1 (λz=>absurd z (by decide)) λ_=>wZ 2 (λz=>absurd z (by decide)) λ_=>v8 (call_of a5 rfl (vr.1 q))) m1
end
theorem KG (ns:List Int) (h:ns.length<=63):xU [.list (ns.map .int)]=some (.bool true):=by
 refine aV ?_
 obtain ⟨u,hu⟩:∃ u:Int,u=(if (if (((ns.map PyData.int).length:Nat):Int) < 10 then (((ns.map PyData.int).length:Nat):Int) else 10) > 1 then (if (((ns.map PyData.int).length:Nat):Int) < 10 then (((ns.map PyData.int).length:Nat):Int) else 10) else 1):=⟨_,rfl⟩
 obtain ⟨N,hN⟩:∃ N:Nat,u=(N:Nat):=⟨u.toNat,by lia⟩
 refine jS 0 N (λ_ δ=>∃ a b c d e,δ=[sL (ns.map .int),a,b,c,d,e]) (iy (cons_of (iW (cons_of rfl (cons_of (iW (cons_of rfl (cons_of (iW (cons_of rfl rfl) (ls _)) rfl)) rfl) rfl)) (by rw [<- hN,hu]; rfl)) rfl) (by lia)) ⟨_,_,_,_,_,rfl⟩ ?_ ?_
 .rintro i δ hi ⟨a,b,c,d,e,rfl⟩
  rw [adX]
  obtain ⟨x,hx⟩:∃ x,x=ns.getD i 0:=⟨_,rfl⟩
  obtain ⟨y,hy⟩:∃ y,y=ns.getD (i + 1) 0:=⟨_,rfl⟩
  obtain ⟨z,hz⟩:∃ z,z=ns.getD (i + 2) 0:=⟨_,rfl⟩
  obtain ⟨k,hk⟩:∃ k:Nat,(1:Int) + x / 3 % 7=(k:Nat) /\ 1<=k /\ k<=7:=⟨(1 + x / 3 % 7).toNat,by lia,by lia,by lia⟩
  obtain ⟨_,ep,p,rfl,hp,kf,fB⟩:=Dq x k hk.2.1 (by lia)
  have h7:p.length<=7:=by lia
  obtain ⟨cs,bb,g,x',y',B,m,s,l,hh,ec,P,KC⟩:=DH hp (by lia) fB y z
  have e1:bD (.int (i:Nat)) (.int 1)=some (.int ((i + 1:Nat):Int)):=(fO _ _).trans (by push_cast; rfl)
  have e2:bD (.int (i:Nat)) (.int 2)=some (.int ((i + 2:Nat):Int)):=(fO _ _).trans (by push_cast; rfl)
  obtain ⟨K,hK⟩:∃ K,K=G7 cs bb g (aE x' B) (aE y' B) m s l hh:=⟨_,rfl⟩
  obtain ⟨δ',e3,j',rfl⟩:=qC (t:=aP 5) (b:=fW (gB (g2 AF (ay g7 3 (ae (af 5) (ae (af 3) (ae (af 4) ag)))) (ay kW 3 (ae (af 5) (ae (af 3) (ae (af 4) ag)))))) (bQ (gC (.bool false))) bP) (λk:Nat=>PyData.int (0 + k))
   (λ_ δ=>∃ j,δ=[sL (ns.map .int),sI (i:Nat),sI x,some (bw p),some K,j]) (List.range 4) (δ:=[sL (ns.map .int),sI (i:Nat),sI x,some (bw p),some K,e]) ⟨_,rfl⟩ (by
    rintro n w δ hw ⟨j,rfl⟩
    have hw4:=acf.mp (aaP hw)
    rw [adX]
    have va:=zM hp h7 fB cs KC P s l hh w hw4
    have vd:=GQ hp h7 fB cs KC P s l hh w hw4
    have vk:=Tt p cs (aE x' B) (aE y' B) m s l hh w
    rw [<- hK] at va vd
    generalize BE p cs (aE x' B) (aE y' B) m s l hh w=T at *
    refine ⟨_,[sL (ns.map .int),sI (i:Nat),sI x,some (bw p),some K,sI (w:Nat)],rfl,?_,_,rfl⟩
    exact kn (cI (ai (call_of (cons_of rfl (cons_of rfl (cons_of rfl rfl))) rfl va) (call_of (cons_of rfl (cons_of rfl (cons_of rfl rfl))) rfl vd) (C9 (c:=true) (Du vk vk (beq_self_eq_true T))))))
  refine ⟨_,[sL (ns.map .int),sI (i:Nat),sI x,some (bw p),some K,j'],rfl,?_,_,_,_,_,_,rfl⟩
  refine bZ [sL (ns.map .int),sI (i:Nat),sI x,c,d,e] (by rw [hx]; exact aJ (call_of (cons_of rfl (cons_of rfl rfl)) rfl (pk ns i))) ?_
  refine bZ [sL (ns.map .int),sI (i:Nat),sI x,some (bw p),d,e] (aJ (call_of (cons_of rfl (cons_of (ai rfl (ai (ai rfl rfl (dd 3 (by decide) (by decide))) rfl (cY (by decide))) ((fO _ _).trans (by rw [hk.1]))) rfl)) rfl ep)) ?_
  refine bZ [sL (ns.map .int),sI (i:Nat),sI x,some (bw p),some K,e] (by rw [hK]; exact aJ (call_of (cons_of rfl (cons_of (call_of (cons_of rfl (cons_of (ai rfl rfl e1) rfl)) rfl ((pk ns (i + 1)).trans (by rw [<- hy]))) (cons_of (call_of (cons_of rfl (cons_of (ai rfl rfl e2) rfl)) rfl ((pk ns (i + 2)).trans (by rw [<- hz]))) rfl))) rfl ec)) ?_
  exact Kc (iy (n:=4) (cons_of rfl rfl) (by decide)) e3
 .rintro δ' ⟨a,b,c,d,e,rfl⟩
  exact ret (.bool true) rfl (.mk rfl rfl)
theorem bH (a:sc.kind=.function:=by rfl) (b:sc.isCoroutine=false:=by rfl) (c:sc.isGenerator=false:=by rfl) (d:N.Nodup:=by decide +kernel) (e:N.take P.length=P:=by rfl) (f:∀ x∈P,sc.names.lookup x=some .local \/ sc.names.lookup x=some .cell:=by decide +kernel) (g:∀ y∈sc.names,y.2≠.free:=by decide +kernel):aA N P sc:=⟨a,b,c,d,e,f,g⟩
abbrev DI:Stmt:=top 12
theorem zN:aA ["top","bottom","shared"] ["top","bottom"] (aj DI):=bH
abbrev DJ:Stmt:=top 13
theorem qS:aA ["one","other","shared","one_part","other_part","rest"] ["one","other"] (aj DJ):=bH
abbrev zO:Stmt:=top 14
theorem KH:aA ["one","other"] ["one","other"] (aj zO):=bH
abbrev zP:Stmt:=top 15
theorem wb:aA ["one","other","left","right"] ["one","other"] (aj zP):=bH
abbrev DL:Stmt:=top 16
theorem Oc:aA ["one","other"] ["one","other"] (aj DL):=bH
abbrev zQ:Stmt:=top 17
theorem kY:aA ["one","many","top","bottom","turn"] ["one","many"] (aj zQ):=bH
abbrev zR:Stmt:=top 18
theorem KJ:aA ["one","other"] ["one","other"] (aj zR):=bH
abbrev gF:Stmt:=top 19
theorem bA:aA ["one","other","rest","pair"] ["one","other"] (aj gF):=bH
abbrev DM:Stmt:=top 20
theorem ky:aA ["one","other","cut","upper","lower","many","rest"] ["one","other"] (aj DM):=bH
abbrev so:Stmt:=top 22
theorem wc:aA ["plan","count","draws"] ["plan","count"] (aj so):=bH
abbrev nP:Stmt:=top 23
theorem lK:aA ["plan","told","draws","place"] ["plan"] (aj nP):=bH
abbrev zS:Stmt:=top 24
theorem Od:aA ["plan"] ["plan"] (aj zS):=bH
abbrev lL:Stmt:=top 25
theorem kz:aA ["plan","told","draws","place"] ["plan"] (aj lL):=bH
abbrev jz:Stmt:=top 26
theorem eV:aA ["plan","counts","there","count"] ["plan","counts"] (aj jz):=bH
abbrev qT:Stmt:=top 27
theorem GR:aA ["place"] ["place"] (aj qT):=bH
abbrev zT:Stmt:=top 28
theorem KL:aA ["count","sign"] ["count","sign"] (aj zT):=bH
abbrev pA:Stmt:=top 31
theorem iZ:aA ["bad","good","told","top","place"] ["bad","good"] (aj pA):=bH
abbrev sr:Stmt:=top 32
theorem we:aA ["fractions","kept"] ["fractions"] (aj sr):=bH
abbrev jc:Stmt:=top 33
theorem fR:aA ["fractions","common","fraction"] ["fractions"] (aj jc):=bH
abbrev kA:Stmt:=top 34
theorem zU:aA ["fractions","bottom"] ["fractions","bottom"] (aj kA):=bH
abbrev su:Stmt:=top 36
theorem DN:aA ["plan","count"] ["plan","count"] (aj su):=bH
abbrev mV:Stmt:=top 37
theorem hZ:aA ["plan","beginning","ways","count","many","led"] ["plan","beginning"] (aj mV):=bH
abbrev nQ:Stmt:=top 39
theorem fD:aA ["plan","numbers","ways","bottom","totals","end","top","place","fraction"] ["plan","numbers"] (aj nQ):=bH
abbrev gv:Stmt:=top 40
theorem kZ:aA ["plan","numbers"] ["plan","numbers"] (aj gv):=bH
abbrev lM:Stmt:=top 43
theorem BF:aA ["plan","rule"] ["plan","rule"] (aj lM):=bH
abbrev uk:Stmt:=top 44
theorem BG:aA ["count","low","high"] ["count","low","high"] (aj uk):=bH
abbrev jd:Stmt:=top 45
theorem eG:aA ["plan","low","high","most","ways","choice","end","many"] ["plan","low","high","most"] (aj jd):=bH
abbrev h8:Stmt:=top 46
theorem l9:aA ["low","high"] ["low","high"] (aj h8):=bH
abbrev jA:Stmt:=top 47
theorem ou:aA ["most"] ["most"] (aj jA):=bH
abbrev zV:Stmt:=top 48
theorem wg:aA ["count","share","bad_part","good_part"] ["count","share"] (aj zV):=bH
abbrev bJ:Stmt:=top 49
theorem eD:aA ["choice","ratios","tops","places"] ["choice"] (aj bJ):=bH
abbrev zW:Stmt:=top 50
theorem fE:aA ["choice","most","rule","wrong","caught","end","end_ratio","end_wrong","end_caught","more"] ["choice","most"] (aj zW):=bH
abbrev gG:Stmt:=top 51
theorem BH:aA ["rule"] ["rule"] (aj gG):=bH
abbrev pB:Stmt:=top 54
theorem BI:aA ["plan","end","size","bad"] ["plan","end","size","bad"] (aj pB):=bH
abbrev mW:Stmt:=top 55
theorem zX:aA ["plan","size","bad"] ["plan","size","bad"] (aj mW):=bH
abbrev jB:Stmt:=top 56
theorem oy:aA ["plan","size"] ["plan","size"] (aj jB):=bH
abbrev sv:Stmt:=top 57
theorem DO:aA ["count","size","bad"] ["count","size","bad"] (aj sv):=bH
abbrev sy:Stmt:=top 58
theorem lN:aA ["number","many","told","step"] ["number","many"] (aj sy):=bH
abbrev pE:Stmt:=top 60
theorem gK:aA ["plan","size","low","high","most","never_wrong","others","end","wrong","caught"] ["plan","size","low","high","most"] (aj pE):=bH
abbrev pF:Stmt:=top 62
theorem BJ:aA ["_law_script","_law_k"] ["_law_script","_law_k"] (aj pF):=bH
abbrev lO:Stmt:=top 63
theorem iP:aA ["_law_cell_here","_law_base","_law_many","_law_row","_law_k"] ["_law_cell_here","_law_base","_law_many"] (aj lO):=bH
abbrev mX:Stmt:=top 64
theorem jC:aA ["_law_cell_here","_law_base","_law_many","_law_row","_law_k","_law_number"] ["_law_cell_here","_law_base","_law_many"] (aj mX):=bH
abbrev j5:Stmt:=top 65
theorem cJ:aA ["_law_cell_here","_law_most_here","_law_rest","_law_many","_law_digits_here","_law_rows","_law_come","_law_at","_law_row"] ["_law_cell_here","_law_most_here"] (aj j5):=bH
abbrev j6:Stmt:=top 67
theorem gL:aA ["_law_plan_here","_law_found","_law_n","_law_on","_law_come"] ["_law_plan_here"] (aj j6):=bH
abbrev kG:Stmt:=top 69
theorem mY:aA ["_law_one","_law_other"] ["_law_one","_law_other"] (aj kG):=bH
abbrev pG:Stmt:=top 70
theorem tq:aA ["_law_top","_law_bottom","_law_common"] ["_law_top","_law_bottom"] (aj pG):=bH
abbrev pH:Stmt:=top 71
theorem gM:aA ["_law_e","_law_word_here"] ["_law_e"] (aj pH):=bH
abbrev lP:Stmt:=top 72
theorem eW:aA ["_law_what","_law_plan_here","_law_part_here","_law_found","_law_e"] ["_law_what","_law_plan_here","_law_part_here"] (aj lP):=bH
abbrev mZ:Stmt:=top 73
theorem zY:aA ["_law_one","_law_other"] ["_law_one","_law_other"] (aj mZ):=bH
abbrev nR:Stmt:=top 74
theorem lQ:aA ["_law_what","_law_plan_here","_law_part_here","_law_places","_law_good","_law_rise"] ["_law_what","_law_plan_here","_law_part_here"] (aj nR):=bH
abbrev lR:Stmt:=top 75
theorem eJ:aA ["_law_plan_here","_law_cell_here","_law_places","_law_digits_here","_law_some","_law_n","_law_bad","_law_strange"] ["_law_plan_here","_law_cell_here"] (aj lR):=bH
abbrev pJ:Stmt:=top 76
theorem dq:aA ["_law_plan_here","_law_cell_here","_law_more","_law_bottom","_law_low","_law_high","_law_most_here","_law_size","_law_few","_law_many"] ["_law_plan_here","_law_cell_here","_law_more"] (aj pJ):=bH
abbrev oz:Stmt:=top 77
theorem sC:aA ["_law_script","_law_k","_law_cell_here","_law_plan_here","_law_part_here","_law_what"] ["_law_script"] (aj oz):=bH
theorem pO (i:Nat) (hN:X.N[i]?=some x:=by rfl) (hv:Mf (X.env.scope.names.lookup x)=true:=by rfl) (hd:(x == ("__debug__":Str))=false:=by decide) (qY:(x == ("__classdict__":Str))=false:=by decide):PE X (.Name x pos) (gm X.K O (af i)):=Rw (pv i hN hv hd qY)
theorem pV (i:Nat) (hN:X.N[i]?=some x:=by rfl) (hv:Mf (X.env.scope.names.lookup x)=true:=by rfl) (hd:(x == ("__debug__":Str))=false:=by decide) (qY:(x == ("__classdict__":Str))=false:=by decide) (hi:i∉O:=by decide):PE X (.Name x pos) (tE X.K O (af i)):=Rv (pv i hN hv hd qY) hi
theorem pI:PE X (.Constant (.int i) j pos) (gm X.K O (gC (.int i))):=PE.sh (aO aS)
theorem pS (i:Nat) (hN:X.N.Nodup) (he:PE X e (tE X.K O ge)) (hi:X.N[i]?=some x:=by rfl) (hx:Loc X.env.scope x:=by first | exact Or.inl rfl | exact Or.inr rfl) (hs:swapsWith e (some (.Name x pos')) pos.line X.env=pure false:=by rfl) (hf:X.fn x=true \/ X.env.scope.names.lookup x=some .local:=by first | exact .inl rfl | exact .inr rfl | assumption) (ho:i∉O:=by decide):PS X (.Assign [.Name x pos'] e pos) (tS X.K O fr (aT i ge)):=Ck (eL hN hi hx he hs hf) ho
theorem pC (F:Dn X.prog X.w X.K X.mg X.base k x ps (jL X.K n G)) (hr:dH kk X.A) (ha:PA X (e :: es) (xt X.K O gr)) (hk:k<=kk:=by decide) (hg:Gl X x:=by rfl) (tw:(x == ("__debug__":Str))=false:=by decide) (he:starEach (e :: es) X.env=(false,eval e X.env) :: starEach es X.env:=by rfl) (kf:(backTo pos (starEach es X.env)).any (·.1)=false:=by rfl):PE X (.Call (.Name x p) (e :: es) [] pos) (tE X.K O (ay G n gr)):=Mv F hr hk ha hg tw he kf
section
variable (P:Program) (w:World) (K:au) (mg:dG) (base:Heap)
abbrev zZ:Prop:=Dn P w K mg base 3 "ends" ["plan"] (xw K 1 ja)
abbrev GS:Prop:=Dn P w K mg base 1 "under" ["one","other"] (jL K 2 dh)
abbrev GU:Prop:=Dn P w K mg base 3 "frac" ["top","bottom"] (jL K 2 ly)
abbrev Oe:Prop:=Dn P w K mg base 2 "greatest_divisor" ["one","other"] (jL K 2 cR)
abbrev Tu:Prop:=Dn P w K mg base 1 "_law_digits" ["_law_cell_here","_law_base","_law_many"] (xw K 3 fN)
abbrev Of:Prop:=Dn P w K mg base 2 "ways_from" ["plan","beginning"] (jL K 2 fA)
abbrev Tw:Prop:=Dn P w K mg base 1 "_law_mixes" ["_law_cell_here","_law_base","_law_many"] (xw K 3 iV)
abbrev Og:Prop:=Dn P w K mg base 6 "often" ["count","share"] (jL K 2 jt)
abbrev Oh:Prop:=Dn P w K mg base 5 "over" ["one","other"] (jL K 2 rS)
abbrev Tx:Prop:=G5 P w K mg base 2 "check_shares" ["low","high"] (BZ K mg 2 eF)
abbrev KN:Prop:=Dn P w K mg base 4 "by_falling_ratio" ["choice"] (xw K 1 dA)
abbrev KO:Prop:=Dn P w K mg base 1 "tops_over" ["fractions","bottom"] (xw K 2 iU)
abbrev KP:Prop:=Dn P w K mg base 3 "common_bottom" ["fractions"] (jL K 1 dN)
abbrev KQ:Prop:=Dn P w K mg base 1 "_law_ends" ["_law_plan_here"] (xw K 1 iD)
abbrev PD:Prop:=Dn P w K mg base 9 "_law_answer" ["_law_what","_law_plan_here","_law_part_here"] (jL K 3 g7)
abbrev KR:Prop:=G5 P w K mg base 2 "check_most" ["most"] (BZ K mg 1 fM)
abbrev KU:Prop:=Dn P w K mg base 1 "falling" ["number","many"] (jL K 2 jG)
abbrev PH:Prop:=Dn P w K mg base 3 "_law_part" ["_law_plan_here","_law_cell_here","_law_more"] (jL K 3 jZ)
abbrev PJ:Prop:=Dn P w K mg base 2 "_law_due" ["_law_what","_law_plan_here","_law_part_here"] (jL K 3 kW)
abbrev KW:Prop:=Dn P w K mg base 5 "taken" ["choice","most"] (jL K 2 lB)
abbrev PK:Prop:=G5 P w K mg base 8 "rule_by_ratio" ["plan","low","high","most"] (BZ K mg 4 dO)
abbrev KY:Prop:=Dn P w K mg base 4 "times" ["one","other"] (jL K 2 nG)
abbrev PL:Prop:=G5 P w K mg base 6 "lot_rule" ["plan","size","low","high","most"] (BZ K mg 5 iB)
abbrev KZ:Prop:=Dn P w K mg base 4 "plus" ["one","other"] (jL K 2 oX)
abbrev PM:Prop:=Dn P w K mg base 2 "_law_plan" ["_law_cell_here","_law_most_here"] (jL K 2 lD)
abbrev PN:Prop:=Dn P w K mg base 2 "_law_rule" ["_law_plan_here","_law_cell_here"] (xw K 2 jY)
abbrev PQ:Prop:=Dn P w K mg base 1 "_law_divisor" ["_law_one","_law_other"] (jL K 2 iO)
abbrev PR:Prop:=Dn P w K mg base 4 "check_telling" ["plan","numbers"] (jL K 2 gu)
abbrev PU:Prop:=Dn P w K mg base 1 "_law_under" ["_law_one","_law_other"] (jL K 2 eI)
abbrev PV:Prop:=Dn P w K mg base 5 "lot_odds" ["plan","end","size","bad"] (jL K 4 jX)
abbrev PX:Prop:=Dn P w K mg base 2 "_law_made" ["_law_top","_law_bottom"] (jL K 2 iE)
abbrev PY:Prop:=G5 P w K mg base 4 "check_ends" ["plan","counts"] (BZ K mg 2 jr)
abbrev PZ:Prop:=Dn P w K mg base 1 "_law_cell" ["_law_script","_law_k"] (jL K 2 iC)
abbrev P4:Prop:=G5 P w K mg base 1 "check_size" ["plan","size"] (BZ K mg 2 jv)
abbrev P5:Prop:=Dn P w K mg base 2 "check_lot" ["plan","size","bad"] (jL K 3 kr)
abbrev P6:Prop:=ZQ P w K mg base 1 "_law_word" ["_law_e"] (λy=>jL K 1 (lE y))
abbrev P7:Prop:=Dn P w K mg base 2 "check_shares" ["low","high"] (jL K 2 g5)
abbrev P8:Prop:=Dn P w K mg base 4 "check_ends" ["plan","counts"] (jL K 2 js)
abbrev P9:Prop:=G5 P w K mg base 7 "ratio" ["count","low","high"] (BZ K mg 3 qF)
abbrev Qa:Prop:=Dn P w K mg base 2 "choices" ["count","size","bad"] (jL K 3 nJ)
abbrev Qb:Prop:=G5 P w K mg base 6 "refusing" ["plan","rule"] (BZ K mg 2 jW)
abbrev Qc:Prop:=Dn P w K mg base 1 "check_size" ["plan","size"] (jL K 2 jx)
abbrev Qd:Prop:=Dn P w K mg base 5 "mean_of" ["plan","numbers"] (xw K 2 kT)
abbrev Qe:Prop:=Dn P w K mg base 7 "ratio" ["count","low","high"] (jL K 3 ug)
abbrev Qf:Prop:=Dn P w K mg base 1 "goes_on" ["plan","count"] (jL K 2 kQ)
abbrev Qg:Prop:=Dn P w K mg base 1 "of_count" ["bad","good"] (xw K 2 jV)
abbrev Qh:Prop:=Dn P w K mg base 3 "ways_to" ["plan","count"] (jL K 2 nI)
abbrev Qi:Prop:=Dn P w K mg base 1 "trimmed" ["fractions"] (xw K 1 nH)
abbrev Qj:Prop:=Dn P w K mg base 1 "after" ["count","sign"] (jL K 2 iN)
abbrev Qk:Prop:=Dn P w K mg base 5 "minus" ["one","other"] (jL K 2 ue)
abbrev Ql:Prop:=Dn P w K mg base 1 "power" ["one","many"] (jL K 2 qE)
abbrev Qm:Prop:=Dn P w K mg base 1 "drawn_on" ["plan"] (xw K 1 jU)
abbrev Qn:Prop:=Dn P w K mg base 4 "in_order" ["rule"] (xw K 1 iz)
abbrev Qo:Prop:=Dn P w K mg base 1 "leap" ["one","other"] (jL K 2 JQ)
abbrev Qp:Prop:=Dn P w K mg base 2 "come_to" ["plan"] (xw K 1 jF)
abbrev Qq:Prop:=Dn P w K mg base 1 "led_to" ["place"] (xw K 1 kR)
end
section
variable {P:Program} {w:World} {K:au} {mg:dG} {base:Heap}
theorem Oi (F:Df K mg "leap" DM ["one","other"]) (B:Bs mg) (wj:Cn mg "WINDOW" (.int (240))) (DP:Cn mg "SHED" (.int (120))):Qo P w K mg base:=
 cb [] JP F ky λf cx A outer s H E hr=>(ak (pS 2 ky.nd (aq d7 fX (PE.sh (Eo (pO 0))) (PE.sh (aO (eh wj)))))
  (ak (pS 3 ky.nd (bI (aa (aq B7 ar (pO 0) (pO 2)) (aa (aO aS) (aa (aO aS) ah)))))
  (ak (pS 4 ky.nd (bI (aa (aq B7 ar (pO 1) (pO 2)) (aa (aO aS) (aa (aO aS) ah)))))
  (ak (mE aa4 (aW (mB hr) mC (PE.sh (aq B7 ar (PE.sh (aw (pO 4) pI)) (PE.sh (aO (eh DP))))) pI (bC _)) (ak (pS 5 ky.nd (aq br ar (PE.sh (aw (pO 3) pI)) (PE.sh (aw (pO 4) pI))))
  (ak (pS 6 ky.nd (bI (aa (aq d7 fX (PE.sh (aw (pO 3) pI)) (PE.sh (aq bq ar (pO 5) (PE.sh (aw (pO 4) pI))))) (aa (aq d7 fX (PE.sh (aw (pO 3) pI)) (PE.sh (aq bq ar (pO 5) (PE.sh (aw (pO 4) pI))))) (aa (aq d7 fX (PE.sh (aw (pO 3) pI)) (PE.sh (aq bq ar (pO 5) (PE.sh (aw (pO 4) pI))))) ah)))))
  (ak (pS 3 ky.nd (pV 4))
  (ao (pS 4 ky.nd (pV 6)))))))
  (ao (bx (bI (aa (aQ jJ lb rfl B.abs oF (av (PE.sh (aq aX aM (PE.sh (aq bq ar (PE.sh (aw (pO 3) pI)) (pO 0))) (PE.sh (aq bq ar (PE.sh (aw (pO 3) pI)) (pO 1))))) aB)) (aa (aQ jJ lb rfl B.abs oF (av (PE.sh (aq aX aM (PE.sh (aq bq ar (PE.sh (aw (pO 4) pI)) (pO 0))) (PE.sh (aq bq ar (PE.sh (aw (pO 4) pI)) (pO 1))))) aB)) ah)))))))))
theorem n5 (F:Df K mg "greatest_divisor" gF ["one","other"]) (B:Bs mg) (DQ:Cn mg "LONG" (.int (4000))) (DR:Qo P w K mg base):Oe P w K mg base:=
 cb [] gA F bA λf cx A outer s H E hr=>(ak (pS 0 bA.nd (aQ jJ lb rfl B.abs oF (av (pO 0) aB)))
  (ak (pS 1 bA.nd (aQ jJ lb rfl B.abs oF (av (pO 1) aB)))
  (ak (mE aa4 (aW (mB hr) mC (pO 1) pI (bC _)) (ak (pS 2 bA.nd (aq bp ar (pO 0) (pO 1)))
  (ak (pS 0 bA.nd (pV 1))
  (ak (pS 1 bA.nd (pV 2))
  (ao (cE (aW pZ b8 (PE.sh (Eo (pO 1))) (PE.sh (aO (eh DQ))) (bC _)) (ak (pS 3 bA.nd (pC DR hr (aa (pV 0) (aa (pV 1) ah))))
  (ak (pS 0 bA.nd (aw (pO 3) pI))
  (ao (pS 1 bA.nd (aw (pO 3) pI))))) bR))))))
  (ao (bx (pV 0))))))
theorem Oj (F:Df K mg "frac" DI ["top","bottom"]) (B:Bs mg) (bN:Oe P w K mg base):GU P w K mg base:=
 cb [] Dd F zN λf cx A outer s H E hr=>(ak (cE (aW (ik hr) imp_eq (pO 1) pI (bC _)) (ao iQ) bR)
  (ak (pS 2 zN.nd (pC bN hr (aa (pV 0) (aa (pV 1) ah))))
  (ak (cE (aW lZ b8 (pO 1) pI (bC _)) (ao (pS 2 zN.nd (rB (pO 2)))) bR)
  (ao (bx (bI (aa (aq br ar (pO 0) (pO 2)) (aa (aq br ar (pO 1) (pO 2)) ah))))))))
theorem Ol (F:Df K mg "plus" DJ ["one","other"]) (B:Bs mg) (fV:GU P w K mg base) (bN:Oe P w K mg base):KZ P w K mg base:=
 cb [] De F qS λf cx A outer s H E hr=>(ak (pS 2 qS.nd (pC bN hr (aa (aw (pO 0) pI) (aa (aw (pO 1) pI) ah))))
  (ak (pS 3 qS.nd (aq br ar (PE.sh (aw (pO 0) pI)) (pO 2)))
  (ak (pS 4 qS.nd (aq br ar (PE.sh (aw (pO 1) pI)) (pO 2)))
  (ak (pS 5 qS.nd (pC fV hr (aa (aq aX aM (PE.sh (aq bq ar (PE.sh (aw (pO 0) pI)) (pO 4))) (PE.sh (aq bq ar (PE.sh (aw (pO 1) pI)) (pO 3)))) (aa (pV 2) ah))))
  (ao (bx (bI (aa (aw (pO 5) pI) (aa (aq bq ar (PE.sh (aq bq ar (pO 3) (pO 4))) (PE.sh (aw (pO 5) pI))) ah)))))))))
theorem K3 (F:Df K mg "minus" zO ["one","other"]) (B:Bs mg) (pK:KZ P w K mg base):Qk P w K mg base:=
 cb [] y3 F KH λf cx A outer s H E hr=>(ao (bx (pC pK hr (aa (pV 0) (aa (bI (aa (rB (PE.sh (aw (pO 1) pI))) (aa (aw (pO 1) pI) ah))) ah)))))
theorem K4 (F:Df K mg "times" zP ["one","other"]) (B:Bs mg) (fV:GU P w K mg base):KY P w K mg base:=
 cb [] y4 F wb λf cx A outer s H E hr=>(ak (pS 2 wb.nd (pC fV hr (aa (aw (pO 0) pI) (aa (aw (pO 1) pI) ah))))
  (ak (pS 3 wb.nd (pC fV hr (aa (aw (pO 1) pI) (aa (aw (pO 0) pI) ah))))
  (ao (bx (bI (aa (aq bq ar (PE.sh (aw (pO 2) pI)) (PE.sh (aw (pO 3) pI))) (aa (aq bq ar (PE.sh (aw (pO 2) pI)) (PE.sh (aw (pO 3) pI))) ah)))))))
theorem Om (F:Df K mg "over" DL ["one","other"]) (B:Bs mg) (fV:GU P w K mg base) (lS:KY P w K mg base):Oh P w K mg base:=
 cb [] Dg F Oc λf cx A outer s H E hr=>(ao (bx (pC lS hr (aa (pV 0) (aa (pC fV hr (aa (aw (pO 1) pI) (aa (aw (pO 1) pI) ah))) ah)))))
theorem K5 (F:Df K mg "power" zQ ["one","many"]) (B:Bs mg):Ql P w K mg base:=
 cb [] y6 F kY λf cx A outer s H E hr=>(ak (pS 2 kY.nd (aO aS))
  (ak (pS 3 kY.nd (aO aS))
  (ak (eE aa4 rfl (iq B.range (aa (pV 1) ah)) (aH (aR (i:=4) kY.nd rfl (Or.inl rfl)))
   (ak (pS 2 kY.nd (aq bq ar (pO 2) (PE.sh (aw (pO 0) pI))))
  (ao (pS 3 kY.nd (aq bq ar (pO 3) (PE.sh (aw (pO 0) pI)))))))
  (ao (bx (bI (aa (pV 2) (aa (pV 3) ah))))))))
theorem K6 (F:Df K mg "under" zR ["one","other"]) (B:Bs mg):GS P w K mg base:=
 cb [] y7 F KJ λf cx A outer s H E hr=>(ao (bx (oJ lZ b8 (PE.sh (aq bq ar (PE.sh (aw (pO 0) pI)) (PE.sh (aw (pO 1) pI)))) (PE.sh (aq bq ar (PE.sh (aw (pO 1) pI)) (PE.sh (aw (pO 0) pI)))) (bC _))))
theorem DT (F:Df K mg "goes_on" so ["plan","count"]) (B:Bs mg):Qf P w K mg base:=
 cb [] rT F wc λf cx A outer s H E hr=>(ak (pS 2 wc.nd (aq aX aM (PE.sh (aw (pO 1) pI)) (PE.sh (aw (pO 1) pI))))
  (ao (bx (oM (Iu mr b8 lZ b8 pI (pO 2) (PE.sh (aQ aZ b9 rfl B.len cP (av (pO 0) aB)))) (oC (oJ RH RI (PE.sh (aw (pO 1) pI)) (PE.sh (aw (pO 0) (pO 2))) (by with_unfolding_all rfl)))))))
theorem GV (F:Df K mg "led_to" qT ["place"]) (B:Bs mg):Qq P w K mg base:=
 gn [] vI F GR λf cx A outer s H E hr=>(ao (nq (oS B.sorted B.set (PE.sh (PE.nE (yk qb qd (PE.sh (PE.nE (la jl qf rfl B.list qa (av (pO 0) aB)))) (PE.sh (PE.nE (PE.Jb (eS (aj qT) ["place"] [] ["bad"] ["bad"] qt (PI.c (c5 (pV 0))) (λ_ _ _ _ _ _=>(aH (aR (i:=0) (show (["bad"]:List Str).Nodup from by decide +kernel) rfl (Or.inl rfl)))) (λ_ _ _ _ _ _=>iL) (λ_ _ _ _ _ _=>(aq aX aM (pO 0) pI))))))))))))
theorem DU (F:Df K mg "come_to" nP ["plan"]) (B:Bs mg) (wm:Qq P w K mg base):Qp P w K mg base:=
 gn [1] rV F lK λf cx A outer s H E hr=>(ak (fe (eL (i:=1) lK.nd rfl (Or.inl rfl) (de (aa (bI (aa (aO aS) (aa (aO aS) ah))) ah))))
  (ak (eE aa4 rfl (IY B.enumerate (pV 0)) (lh rfl (c8 (aH (aR (i:=2) lK.nd rfl (Or.inr rfl))) (c8 (aH (aR (i:=3) lK.nd rfl (Or.inl rfl))) lg)))
   (ao (rD (cA (l6 aa9 adt PySem.F.type_list_extend rn (pv 1) (bE (PE.Jb (eS (aj nP) ["plan","told","draws","place"] [2] ["bad","draws"] ["bad"] qt (PI.c (c5 (PE.nE (bX wm hr (by decide) (aa (pV 3) ah))))) (λ_ _ _ _ _ _=>(aH (aR (i:=0) (show (["bad","draws"]:List Str).Nodup from by decide +kernel) rfl (Or.inl rfl)))) (λ_ _ _ _ _ _=>iL) (λ_ _ _ _ _ _=>(bI (aa (pV 0) (aa (aq d7 fX (pO 1) (pO 0)) ah)))))) c6))))))
  (ao (fJ (pv 1)))))
theorem Oo (F:Df K mg "ends" zS ["plan"]) (B:Bs mg) (sD:Qp P w K mg base) (sE:Qf P w K mg base):zZ P w K mg base:=
 gn [] Dh F Od λf cx A outer s H E hr=>(ao (nq (eS (aj zS) ["plan"] [0] ["count","plan"] ["count"] qt (PI.c (c5 (PE.nE (bX sD hr (by decide) (aa (pV 0) ah))))) (λ_ _ _ _ _ _=>(aH (aR (i:=0) (show (["count","plan"]:List Str).Nodup from by decide +kernel) rfl (Or.inl rfl)))) (λ_ _ _ _ _ _=>(uU (kh (cX (PE.sh (pC sE hr (aa (pV 1) (aa (pV 0) ah)))))))) (λ_ _ _ _ _ _=>(pV 0)))))
theorem BK (F:Df K mg "drawn_on" lL ["plan"]) (B:Bs mg):Qm P w K mg base:=
 gn [1] oY F kz λf cx A outer s H E hr=>(ak (fe (eL (i:=1) kz.nd rfl (Or.inl rfl) (de ah)))
  (ak (eE aa4 rfl (IS B.enumerate (pV 0)) (lh rfl (c8 (aH (aR (i:=2) kz.nd rfl (Or.inr rfl))) (c8 (aH (aR (i:=3) kz.nd rfl (Or.inl rfl))) lg)))
   (ao (rD (cA (l6 aa9 adt PySem.F.type_list_extend rn (pv 1) (bE (PE.Jb (eS (aj lL) ["plan","told","draws","place"] [2] ["bad","draws"] ["bad"] qt (PI.c (c5 (pV 3))) (λ_ _ _ _ _ _=>(aH (aR (i:=0) (show (["bad","draws"]:List Str).Nodup from by decide +kernel) rfl (Or.inl rfl)))) (λ_ _ _ _ _ _=>iL) (λ_ _ _ _ _ _=>(bI (aa (pV 0) (aa (aq d7 fX (pO 1) (pO 0)) ah)))))) c6))))))
  (ao (fJ (pv 1)))))
theorem wq (F:Df K mg "check_ends" jz ["plan","counts"]) (B:Bs mg) (qU:∃ C tl,Ju K mg "NoEnd" C VE tl "ValueError.__new__") (di:zZ P w K mg base):PY P w K mg base:=by
 obtain ⟨_,_,qU⟩:=qU; exact jo [] jq F eV λf cx A outer s H E hr=>(ak (pS 2 eV.nd (PE.nE (bX di hr (by decide) (aa (pV 0) ah))))
  (ao (eE PassesOwn.leaving rfl (c5 (pV 1)) (aH (aR (i:=3) eV.nd rfl (Or.inl rfl)))
   (ao (cE (aW (rK hr) t6 (pO 3) (pO 2) (by with_unfolding_all rfl)) (ao (mI qU PySem.F.excBase_ValueError (by decide) PySem.F.excBase_ValueError c9)) bR)))))
theorem w4 (F:Df K mg "check_ends" jz ["plan","counts"]) (B:Bs mg) (di:zZ P w K mg base):P8 P w K mg base:=
 cb [] lz F eV λf cx A outer s H E hr=>(ak (pS 2 eV.nd (PE.nE (bX di hr (by decide) (aa (pV 0) ah))))
  (ao (eE aa4 rfl (c5 (pV 1)) (aH (aR (i:=3) eV.nd rfl (Or.inl rfl)))
   (ao (cE (aW (rK hr) t6 (pO 3) (pO 2) (by with_unfolding_all rfl)) (ao iQ) bR)))))
theorem K7 (F:Df K mg "after" zT ["count","sign"]) (B:Bs mg):Qj P w K mg base:=
 cb [] y8 F KL λf cx A outer s H E hr=>(ak (cE (aW (ik hr) imp_eq (pO 1) (PE.sh (eO c9)) (bC _)) (ao (bx (bI (aa (aq aX aM (PE.sh (aw (pO 0) pI)) pI) (aa (aw (pO 0) pI) ah))))) bR)
  (ao (bx (bI (aa (aw (pO 0) pI) (aa (aq aX aM (PE.sh (aw (pO 0) pI)) pI) ah))))))
theorem BL (F:Df K mg "of_count" pA ["bad","good"]) (B:Bs mg) (ba:Cn mg "NOUGHT" (.ref cC)) (be:(cC,[V.int (0),V.int (1)])∈bV):Qg P w K mg base:=
 gn [2] oZ F iZ λf cx A outer s H E hr=>(ak (fe (eL (i:=2) iZ.nd rfl (Or.inl rfl) (Ek (de (aa (gX (eh ba) be (λ_=>(.cons (.int _) (.cons (.int _) .nil)))) ah)) (pO 0))))
  (ak (pS 3 iZ.nd (aO aS))
  (ak (eE aa4 rfl (iq B.range (aa (aq aX aM (pO 1) pI) ah)) (aH (aR (i:=4) iZ.nd rfl (Or.inl rfl)))
   (ak (gJ (cA (l6 aa9 abi abu gH (pv 2) (bE (bI (aa (pV 3) (aa (aO aS) ah))) c6))))
  (ao (pS 3 iZ.nd (aq br ar (PE.sh (aq bq ar (PE.sh (rB (pO 3))) (PE.sh (aq d7 fX (pO 1) (pO 4))))) (PE.sh (aq aX aM (pO 4) pI)))))))
  (ao (fJ (pv 2))))))
theorem DV (F:Df K mg "trimmed" sr ["fractions"]) (B:Bs mg) (ba:Cn mg "NOUGHT" (.ref cC)) (be:(cC,[V.int (0),V.int (1)])∈bV):Qi P w K mg base:=
 gn [1] rW F we λf cx A outer s H E hr=>(ak (fe (eL (i:=1) we.nd rfl (Or.inl rfl) (la jl qf rfl B.list qa (av (pO 0) aB))))
  (ak (mE aa4 (PW.pt (ni (aW pZ b8 (PE.sh (aQ aZ b9 rfl B.len cP (av (pO 1) aB))) pI (bC _)) (pw_and1 (aW (ik hr) imp_eq (PE.sh (aw (pO 1) (PE.sh (rB pI)))) (PE.sh (gX (eh ba) be (λ_=>(.cons (.int _) (.cons (.int _) .nil))))) (bC _))))) (ao (RC (cA (HH aa9 PySem.F.slot_list_pop PySem.F.type_list_pop Q9 (pv 1))))))
  (ao (fJ (pv 1)))))
theorem sF (F:Df K mg "common_bottom" jc ["fractions"]) (B:Bs mg) (bN:Oe P w K mg base):KP P w K mg base:=
 cb [] jb F fR λf cx A outer s H E hr=>(ak (pS 1 fR.nd (aO aS))
  (ak (eE aa4 rfl (c5 (pV 0)) (aH (aR (i:=2) fR.nd rfl (Or.inl rfl)))
   (ao (pS 1 fR.nd (aq bq ar (PE.sh (aq br ar (pO 1) (PE.sh (pC bN hr (aa (pV 1) (aa (aw (pO 2) pI) ah)))))) (PE.sh (aw (pO 2) pI))))))
  (ao (bx (pV 1)))))
theorem z0 (F:Df K mg "tops_over" kA ["fractions","bottom"]) (B:Bs mg):KO P w K mg base:=
 gn [] mM F zU λf cx A outer s H E hr=>(ao (nq (PE.Jb (eS (aj kA) ["fractions","bottom"] [1] ["fraction","bottom"] ["fraction"] qt (PI.c (c5 (pV 0))) (λ_ _ _ _ _ _=>(aH (aR (i:=0) (show (["fraction","bottom"]:List Str).Nodup from by decide +kernel) rfl (Or.inl rfl)))) (λ_ _ _ _ _ _=>iL) (λ_ _ _ _ _ _=>(aq bq ar (PE.sh (aw (pO 0) pI)) (PE.sh (aq br ar (pO 1) (PE.sh (aw (pO 0) pI))))))))))
theorem z5 (F:Df K mg "ways_from" mV ["plan","beginning"]) (B:Bs mg) (um:Qj P w K mg base) (pL:Qm P w K mg base):Of P w K mg base:=
 cb [2] mO F hZ λf cx A outer s H E hr=>let hu:=abq (ac6 (show 1<=64 by decide) _) hr.units
  (ak (MP (eL (i:=2) hZ.nd rfl (Or.inl rfl) (IV hu (pO 1) (aO aS))))
  (ak (eE aa4 rfl (c5 (PE.nE (bX pL hr (by decide) (aa (pV 0) ah)))) (aH (aR (i:=3) hZ.nd rfl (Or.inl rfl)))
   (ak (pS 4 hZ.nd (uY hu (pO 2) (pO 3) (aO aS)))
  (ao (eE aa4 rfl (c5 (bI (aa (pC um hr (aa (pV 3) (aa (eO c9) ah))) (aa (pC um hr (aa (pV 3) (aa (eO c9) ah))) ah)))) (aH (aR (i:=5) hZ.nd rfl (Or.inl rfl)))
   (ao (MO (Mi hu (pv 2) (pO 5) (aq aX aM (PE.sh (uY hu (pO 2) (pO 5) (aO aS))) (pO 4)) (by rfl))))))))
  (ao (fJ (pv 2)))))
theorem DW (F:Df K mg "ways_to" su ["plan","count"]) (B:Bs mg) (dZ:Of P w K mg base):Qh P w K mg base:=
 cb [] rX F DN λf cx A outer s H E hr=>let hu:=abq (ac6 (show 1<=64 by decide) _) hr.units
  (ao (bx (uY hu (PE.sh (pC dZ hr (aa (pV 0) (aa (bI (aa (aO aS) (aa (aO aS) ah))) ah)))) (pO 1) (aO aS))))
theorem qV (F:Df K mg "check_telling" gv ["plan","numbers"]) (B:Bs mg) (di:zZ P w K mg base):G5 P w K mg base 4 "check_telling" ["plan","numbers"] (BZ K mg 2 tM):=by
 exact jo [] l7 F kZ λf cx A outer s H E hr=>(ao (cE (aW (mB hr) mC (PE.sh (aQ aZ b9 rfl B.len cP (av (pO 1) aB))) (PE.sh (aQ aZ b9 rfl B.len cP (av (PE.sh (PE.nE (bX di hr (by decide) (aa (pV 0) ah)))) aB))) (bC _)) (ao iQ) bR))
theorem sG (F:Df K mg "check_telling" gv ["plan","numbers"]) (B:Bs mg) (di:zZ P w K mg base):PR P w K mg base:=
 cb [] gq F kZ λf cx A outer s H E hr=>(ao (cE (aW (mB hr) mC (PE.sh (aQ aZ b9 rfl B.len cP (av (pO 1) aB))) (PE.sh (aQ aZ b9 rfl B.len cP (av (PE.sh (PE.nE (bX di hr (by decide) (aa (pV 0) ah)))) aB))) (bC _)) (ao iQ) bR))
theorem DX (F:Df K mg "mean_of" nQ ["plan","numbers"]) (B:Bs mg) (je:PR P w K mg base) (dQ:KP P w K mg base) (di:zZ P w K mg base) (fV:GU P w K mg base) (pM:Qg P w K mg base) (gN:KO P w K mg base) (sH:Qi P w K mg base) (dZ:Of P w K mg base):Qd P w K mg base:=
 gn [4] rY F fD λf cx A outer s H E hr=>let hu:=abq (ac6 (show 1<=64 by decide) _) hr.units
  (ak (qh (cA (pC je hr (aa (pV 0) (aa (pV 1) ah)))))
  (ak (pS 2 fD.nd (pC dZ hr (aa (pV 0) (aa (bI (aa (aO aS) (aa (aO aS) ah))) ah))))
  (ak (pS 3 fD.nd (pC dQ hr (aa (pV 1) ah)))
  (ak (fe (eL (i:=4) fD.nd rfl (Or.inl rfl) (Ek (de (aa (aO aS) ah)) (PE.sh (aq aX aM (PE.sh (aQ aZ b9 rfl B.len cP (av (pO 0) aB))) pI)))))
  (ak (eE aa4 rfl (Sd B.zip (PE.nE (bX di hr (by decide) (aa (pV 0) ah))) (PE.nE (bX gN hr (by decide) (aa (pV 1) (aa (pV 3) ah))))) (lh rfl (c8 (aH (aR (i:=5) fD.nd rfl (Or.inl rfl))) (c8 (aH (aR (i:=6) fD.nd rfl (Or.inl rfl))) lg)))
   (ao (eE aa4 rfl (lp B.enumerate (PE.nE (bX pM hr (by decide) (aa (aw (pO 5) pI) (aa (aw (pO 5) pI) ah))))) (lh rfl (c8 (aH (aR (i:=7) fD.nd rfl (Or.inl rfl))) (c8 (aH (aR (i:=8) fD.nd rfl (Or.inl rfl))) lg)))
   (ao (Iv (LQ (pv 4) (pO 7) get_own (PE.sh (aq bq ar (PE.sh (aq bq ar (pO 6) (PE.sh (Ey hu (pO 2) (pO 5))))) (PE.sh (aw (pO 8) pI)))) QM set_list))))))
  (ao (nq (bX sH hr (by decide) (aa (PE.nE (PE.Jb (eS (aj nQ) ["plan","numbers","ways","bottom","totals","end","top","place","fraction"] [3] ["total","bottom"] ["total"] qt (ME (pO 4)) (λ_ _ _ _ _ _=>(aH (aR (i:=0) (show (["total","bottom"]:List Str).Nodup from by decide +kernel) rfl (Or.inl rfl)))) (λ_ _ _ _ _ _=>iL) (λ_ _ _ _ _ _=>(pC fV hr (aa (pV 0) (aa (pV 1) ah))))))) ah)))))))))
theorem z6 (F:Df K mg "refusing" lM ["plan","rule"]) (B:Bs mg) (dD:Cn mg "WHOLE" (.ref fb)) (dE:(fb,[V.int (1),V.int (1)])∈bV) (ba:Cn mg "NOUGHT" (.ref cC)) (be:(cC,[V.int (0),V.int (1)])∈bV) (kH:PY P w K mg base) (di:zZ P w K mg base) (sJ:Qd P w K mg base):Qb P w K mg base:=by
 exact jo [] lA F BF λf cx A outer s H E hr=>(ak (kN (cA (gg kH hr (by decide) rN (aa (pV 0) (aa (pV 1) ah)))))
  (ao (bx (PE.nE (bX sJ hr (by decide) (aa (pV 0) (aa (PE.nE (PE.Jb (eS (aj lM) ["plan","rule"] [1] ["end","rule"] ["end"] qt (PI.c (c5 (PE.nE (bX di hr (by decide) (aa (pV 0) ah))))) (λ_ _ _ _ _ _=>(aH (aR (i:=0) (show (["end","rule"]:List Str).Nodup from by decide +kernel) rfl (Or.inl rfl)))) (λ_ _ _ _ _ _=>iL) (λ_ _ _ _ _ _=>(Rz (aW (Sf hr) t6 (pO 0) (pO 1) (by with_unfolding_all rfl)) (gX (eh dD) dE (λ_=>(.cons (.int _) (.cons (.int _) .nil)))) (gX (eh ba) be (λ_=>(.cons (.int _) (.cons (.int _) .nil))))))))) ah)))))))
theorem sM (F:Df K mg "check_shares" h8 ["low","high"]) (B:Bs mg) (ba:Cn mg "NOUGHT" (.ref cC)) (be:(cC,[V.int (0),V.int (1)])∈bV) (dD:Cn mg "WHOLE" (.ref fb)) (dE:(fb,[V.int (1),V.int (1)])∈bV) (cy:∃ C tl,Ju K mg "NoShares" C VE tl "ValueError.__new__") (cV:GS P w K mg base):Tx P w K mg base:=by
 obtain ⟨_,_,cy⟩:=cy; exact jo [] g0 F l9 λf cx A outer s H E hr=>(ao (cE (kh (PW.pt (ni (cX (PE.sh (pC cV hr (aa (gX (eh ba) be (λ_=>(.cons (.int _) (.cons (.int _) .nil)))) (aa (pV 0) ah))))) (ni (cX (PE.sh (pC cV hr (aa (pV 0) (aa (pV 1) ah))))) (pw_and1 (cX (PE.sh (pC cV hr (aa (pV 1) (aa (gX (eh dD) dE (λ_=>(.cons (.int _) (.cons (.int _) .nil)))) ah)))))))))) (ao (mI cy abm (by decide) abm c9)) bR))
theorem tU (F:Df K mg "check_shares" h8 ["low","high"]) (B:Bs mg) (ba:Cn mg "NOUGHT" (.ref cC)) (be:(cC,[V.int (0),V.int (1)])∈bV) (dD:Cn mg "WHOLE" (.ref fb)) (dE:(fb,[V.int (1),V.int (1)])∈bV) (cV:GS P w K mg base):P7 P w K mg base:=
 cb [] g4 F l9 λf cx A outer s H E hr=>(ao (cE (kh (PW.pt (ni (cX (PE.sh (pC cV hr (aa (gX (eh ba) be (λ_=>(.cons (.int _) (.cons (.int _) .nil)))) (aa (pV 0) ah))))) (ni (cX (PE.sh (pC cV hr (aa (pV 0) (aa (pV 1) ah))))) (pw_and1 (cX (PE.sh (pC cV hr (aa (pV 1) (aa (gX (eh dD) dE (λ_=>(.cons (.int _) (.cons (.int _) .nil)))) ah)))))))))) (ao iQ) bR))
theorem K8 (F:Df K mg "often" zV ["count","share"]) (B:Bs mg) (dD:Cn mg "WHOLE" (.ref fb)) (dE:(fb,[V.int (1),V.int (1)])∈bV) (z7:Qk P w K mg base) (uo:Ql P w K mg base):Og P w K mg base:=
 cb [] y9 F wg λf cx A outer s H E hr=>(ak (pS 2 wg.nd (pC uo hr (aa (pV 1) (aa (aw (pO 0) pI) ah))))
  (ak (pS 3 wg.nd (pC uo hr (aa (pC z7 hr (aa (gX (eh dD) dE (λ_=>(.cons (.int _) (.cons (.int _) .nil)))) (aa (pV 1) ah))) (aa (aw (pO 0) pI) ah))))
  (ao (bx (bI (aa (aq bq ar (PE.sh (aw (pO 2) pI)) (PE.sh (aw (pO 3) pI))) (aa (aq bq ar (PE.sh (aw (pO 2) pI)) (PE.sh (aw (pO 3) pI))) ah)))))))
theorem GW (F:Df K mg "ratio" uk ["count","low","high"]) (B:Bs mg) (dS:Tx P w K mg base) (gy:Og P w K mg base) (lT:Oh P w K mg base):P9 P w K mg base:=by
 exact jo [] uf F BG λf cx A outer s H E hr=>(ak (kN (cA (gg dS hr (by decide) rN (aa (pV 1) (aa (pV 2) ah)))))
  (ao (bx (pC lT hr (aa (pC gy hr (aa (pV 0) (aa (pV 2) ah))) (aa (pC gy hr (aa (pV 0) (aa (pV 1) ah))) ah))))))
theorem K9 (F:Df K mg "ratio" uk ["count","low","high"]) (B:Bs mg) (j7:P7 P w K mg base) (gy:Og P w K mg base) (lT:Oh P w K mg base):Qe P w K mg base:=
 cb [] za F BG λf cx A outer s H E hr=>(ak (qh (cA (pC j7 hr (aa (pV 1) (aa (pV 2) ah)))))
  (ao (bx (pC lT hr (aa (pC gy hr (aa (pV 0) (aa (pV 2) ah))) (aa (pC gy hr (aa (pV 0) (aa (pV 1) ah))) ah))))))
theorem n6 (F:V8 K mg "by_falling_ratio" bJ ["choice"] c0) (B:Bs mg) (HD:PySem.W.codeHdIn K c0 P0=true) (ML:(P0,(⟨173,44,173,70⟩:Pos),("by_falling_ratio.<locals>.<lambda>":Str))∈cK) (BB:MW mg base) (dQ:KP P w K mg base) (gN:KO P w K mg base):KN P w K mg base:=
 A6 [] gD F eD λf A outer s H E hr=>(ak (Ck (PS.nE (PS.Jb (uW (i:=1) (aj bJ) ["choice","ratios","tops","places"] [] ["part"] ["part"] eD.nd rfl rfl qt (PI.c (c5 (pV 0))) (λ_ _ _ _ _ _=>(aH (aR (i:=0) (show (["part"]:List Str).Nodup from by decide +kernel) rfl (Or.inl rfl)))) (λ_ _ _ _ _ _=>iL) (λ_ _ _ _ _ _=>(aw (pO 0) pI))))))
  (ak (pS 2 eD.nd (PE.nE (bX gN hr (by decide) (aa (pV 1) (aa (pC dQ hr (aa (pV 1) ah)) ah)))))
  (ak (pS 3 eD.nd (PE.nE (A5 (kc:=0) (pn:="place") (fv:=["tops"]) (ix:=[2]) (aj bJ) B.sorted (Jt B.range (aa (aQ aZ b9 rfl B.len cP (av (pO 0) aB)) ah)) hr (by decide) BB HD ML ⟨rfl,rfl,rfl,by decide +kernel,by decide +kernel,by decide +kernel,by decide +kernel⟩ (λbase f c' cl A outer s H E hr=>(rB (PE.sh (aw (pO 1) (pO 0))))) (λ_ _ _ _ _ _ us hl=>match us,hl with | [_],_=>rfl))))
  (ao (nq (PE.Jb (eS (aj bJ) ["choice","ratios","tops","places"] [0] ["place","choice"] ["place"] qt (PI.c (c5 (pV 3))) (λ_ _ _ _ _ _=>(aH (aR (i:=0) (show (["place","choice"]:List Str).Nodup from by decide +kernel) rfl (Or.inl rfl)))) (λ_ _ _ _ _ _=>iL) (λ_ _ _ _ _ _=>(aw (pO 1) (pO 0))))))))))
theorem wt (F:Df K mg "check_most" jA ["most"]) (B:Bs mg) (ba:Cn mg "NOUGHT" (.ref cC)) (be:(cC,[V.int (0),V.int (1)])∈bV) (dD:Cn mg "WHOLE" (.ref fb)) (dE:(fb,[V.int (1),V.int (1)])∈bV) (cy:∃ C tl,Ju K mg "NoShares" C VE tl "ValueError.__new__") (cV:GS P w K mg base):KR P w K mg base:=by
 obtain ⟨_,_,cy⟩:=cy; exact jo [] ju F ou λf cx A outer s H E hr=>(ao (cE (PW.pt (yp (cX (PE.sh (pC cV hr (aa (pV 0) (aa (gX (eh ba) be (λ_=>(.cons (.int _) (.cons (.int _) .nil)))) ah))))) (pw_or1 (cX (PE.sh (pC cV hr (aa (gX (eh dD) dE (λ_=>(.cons (.int _) (.cons (.int _) .nil)))) (aa (pV 0) ah)))))))) (ao (mI cy abm (by decide) abm c9)) bR))
theorem w5 (F:Df K mg "check_most" jA ["most"]) (B:Bs mg) (ba:Cn mg "NOUGHT" (.ref cC)) (be:(cC,[V.int (0),V.int (1)])∈bV) (dD:Cn mg "WHOLE" (.ref fb)) (dE:(fb,[V.int (1),V.int (1)])∈bV) (cV:GS P w K mg base):Dn P w K mg base 2 "check_most" ["most"] (jL K 1 zb):=
 cb [] qG F ou λf cx A outer s H E hr=>(ao (cE (PW.pt (yp (cX (PE.sh (pC cV hr (aa (pV 0) (aa (gX (eh ba) be (λ_=>(.cons (.int _) (.cons (.int _) .nil)))) ah))))) (pw_or1 (cX (PE.sh (pC cV hr (aa (gX (eh dD) dE (λ_=>(.cons (.int _) (.cons (.int _) .nil)))) (aa (pV 0) ah)))))))) (ao iQ) bR))
theorem BM (F:V8 K mg "in_order" gG ["rule"] c0) (B:Bs mg) (HD:PySem.W.codeHdIn K c0 P0=true) (ML:(P0,(⟨188,28,188,65⟩:Pos),("in_order.<locals>.<lambda>":Str))∈cK) (BB:MW mg base):Qn P w K mg base:=
 A6 [] o6 F BH λf A outer s H E hr=>(ao (nq (A5 (kc:=0) (pn:="end") (fv:=[]) (ix:=[]) (aj gG) B.sorted (Gq (pO 0)) hr (by decide) BB HD ML ⟨rfl,rfl,rfl,by decide +kernel,by decide +kernel,by decide +kernel,by decide +kernel⟩ (λbase f c' cl A outer s H E hr=>(bI (aa (aq aX aM (PE.sh (aw (pO 0) pI)) (PE.sh (aw (pO 0) pI))) (aa (aw (pO 0) pI) ah)))) (λ_ _ _ _ _ _ us hl=>match us,hl with | [_],_=>rfl))))
theorem La (F:Df K mg "taken" zW ["choice","most"]) (B:Bs mg) (ba:Cn mg "NOUGHT" (.ref cC)) (be:(cC,[V.int (0),V.int (1)])∈bV) (lU:Qn P w K mg base) (pK:KZ P w K mg base) (cV:GS P w K mg base):KW P w K mg base:=
 cb [2] zc F fE λf cx A outer s H E hr=>(ak (fe (eL (i:=2) fE.nd rfl (Or.inl rfl) (de ah)))
  (ak (pS 3 fE.nd (gX (eh ba) be (λ_=>(.cons (.int _) (.cons (.int _) .nil)))))
  (ak (pS 4 fE.nd (gX (eh ba) be (λ_=>(.cons (.int _) (.cons (.int _) .nil)))))
  (ak (eE aa4 rfl (c5 (pV 0)) (lh rfl (c8 (aH (aR (i:=5) fE.nd rfl (Or.inl rfl))) (c8 (aH (aR (i:=6) fE.nd rfl (Or.inl rfl))) (c8 (aH (aR (i:=7) fE.nd rfl (Or.inl rfl))) (c8 (aH (aR (i:=8) fE.nd rfl (Or.inl rfl))) lg)))))
   (ak (pS 9 fE.nd (pC pK hr (aa (pV 3) (aa (pV 7) ah))))
  (ak (cE (cX (PE.sh (pC cV hr (aa (pV 1) (aa (pV 9) ah))))) (ao (bx (bI (aa (PE.nE (lj lU hr (by decide) (av (pO 2) aB))) (aa (pV 6) (aa (pV 3) (aa (pV 4) ah))))))) bR)
  (ak (gJ (cA (l6 aa9 abi abu gH (pv 2) (bE (pV 5) c6))))
  (ak (pS 3 fE.nd (pV 9))
  (ao (pS 4 fE.nd (pC pK hr (aa (pV 4) (aa (pV 8) ah))))))))))
  (ao (bx (bI (aa (PE.nE (lj lU hr (by decide) (av (pO 2) aB))) (aa (gX (eh ba) be (λ_=>(.cons (.int _) (.cons (.int _) .nil)))) (aa (pV 3) (aa (pV 4) ah)))))))))))
theorem qW (F:Df K mg "rule_by_ratio" jd ["plan","low","high","most"]) (B:Bs mg) (cS:KN P w K mg base) (eX:KR P w K mg base) (dS:Tx P w K mg base) (di:zZ P w K mg base) (gy:Og P w K mg base) (z8:Qe P w K mg base) (nS:KW P w K mg base) (lS:KY P w K mg base) (dZ:Of P w K mg base):PK P w K mg base:=by
 exact jo [5] eU F eG λf cx A outer s H E hr=>let hu:=abq (ac6 (show 1<=64 by decide) _) hr.units
  (ak (kN (cA (gg dS hr (by decide) rN (aa (pV 1) (aa (pV 2) ah)))))
  (ak (kN (cA (gg eX hr (by decide) rN (aa (pV 3) ah))))
  (ak (pS 4 eG.nd (pC dZ hr (aa (pV 0) (aa (bI (aa (aO aS) (aa (aO aS) ah))) ah))))
  (ak (fe (eL (i:=5) eG.nd rfl (Or.inl rfl) (de ah)))
  (ak (eE PassesOwn.leaving rfl (c5 (PE.nE (bX di hr (by decide) (aa (pV 0) ah)))) (aH (aR (i:=6) eG.nd rfl (Or.inl rfl)))
   (ak (pS 7 eG.nd (bI (aa (Ey hu (pO 4) (pO 6)) (aa (aO aS) ah))))
  (ao (gJ (cA (l6 aa9 abi abu gH (pv 5) (bE (bI (aa (pV 6) (aa (pC z8 hr (aa (pV 6) (aa (pV 1) (aa (pV 2) ah)))) (aa (pC lS hr (aa (pV 7) (aa (pC gy hr (aa (pV 6) (aa (pV 1) ah))) ah))) (aa (pC lS hr (aa (pV 7) (aa (pC gy hr (aa (pV 6) (aa (pV 2) ah))) ah))) ah))))) c6)))))))
  (ao (bx (pC nS hr (aa (PE.nE (lj cS hr (by decide) (av (pO 5) aB))) (aa (pV 3) ah))))))))))
theorem wu (F:Df K mg "check_size" jB ["plan","size"]) (B:Bs mg) (eY:Cn mg "MOST_PIECES" (.int (200))) (qX:∃ C tl,Ju K mg "NoLot" C VE tl "ValueError.__new__"):P4 P w K mg base:=by
 obtain ⟨_,_,qX⟩:=qX; exact jo [] g6 F oy λf cx A outer s H E hr=>(ao (cE (kh (rC mr b8 mr b8 (PE.sh (aQ aZ b9 rfl B.len cP (av (pO 0) aB))) (pO 1) (PE.sh (aO (eh eY))))) (ao (mI qX abm (by decide) abm c9)) bR))
theorem w6 (F:Df K mg "check_size" jB ["plan","size"]) (B:Bs mg) (eY:Cn mg "MOST_PIECES" (.int (200))):Qc P w K mg base:=
 cb [] jw F oy λf cx A outer s H E hr=>(ao (cE (kh (rC mr b8 mr b8 (PE.sh (aQ aZ b9 rfl B.len cP (av (pO 0) aB))) (pO 1) (PE.sh (aO (eh eY))))) (ao iQ) bR))
theorem z9 (F:Df K mg "check_lot" mW ["plan","size","bad"]) (B:Bs mg) (lV:Qc P w K mg base):P5 P w K mg base:=
 cb [] kq F zX λf cx A outer s H E hr=>(ak (qh (cA (pC lV hr (aa (pV 0) (aa (pV 1) ah)))))
  (ao (cE (kh (rC mr b8 mr b8 pI (pO 2) (pO 1))) (ao iQ) bR)))
theorem DY (F:Df K mg "falling" sy ["number","many"]) (B:Bs mg):KU P w K mg base:=
 cb [] rZ F lN λf cx A outer s H E hr=>(ak (pS 2 lN.nd (aO aS))
  (ak (eE aa4 rfl (iq B.range (aa (pV 1) ah)) (aH (aR (i:=3) lN.nd rfl (Or.inl rfl)))
   (ao (pS 2 lN.nd (aq bq ar (pO 2) (PE.sh (aq d7 fX (pO 0) (pO 3)))))))
  (ao (bx (pV 2)))))
theorem DZ (F:Df K mg "choices" sv ["count","size","bad"]) (B:Bs mg) (iF:KU P w K mg base):Qa P w K mg base:=
 cb [] r8 F DO λf cx A outer s H E hr=>(ao (bx (aq bq ar (PE.sh (pC iF hr (aa (pV 2) (aa (aw (pO 0) pI) ah)))) (PE.sh (pC iF hr (aa (aq d7 fX (pO 1) (pO 2)) (aa (aw (pO 0) pI) ah)))))))
theorem BN (F:Df K mg "lot_odds" pB ["plan","end","size","bad"]) (B:Bs mg) (lW:P8 P w K mg base) (m7:P5 P w K mg base) (sN:Qa P w K mg base) (iF:KU P w K mg base) (fV:GU P w K mg base) (sP:Qh P w K mg base):PV P w K mg base:=
 cb [] o7 F BI λf cx A outer s H E hr=>(ak (qh (cA (pC m7 hr (aa (pV 0) (aa (pV 2) (aa (pV 3) ah))))))
  (ak (qh (cA (pC lW hr (aa (pV 0) (aa (PE.nE (de (aa (pV 1) ah))) ah)))))
  (ao (bx (pC fV hr (aa (aq bq ar (PE.sh (pC sP hr (aa (pV 0) (aa (pV 1) ah)))) (PE.sh (pC sN hr (aa (pV 1) (aa (pV 2) (aa (pV 3) ah)))))) (aa (pC iF hr (aa (pV 2) (aa (aq aX aM (PE.sh (aw (pO 1) pI)) (PE.sh (aw (pO 1) pI))) ah))) ah)))))))
theorem Aa (F:Df K mg "lot_rule" pE ["plan","size","low","high","most"]) (B:Bs mg) (ba:Cn mg "NOUGHT" (.ref cC)) (be:(cC,[V.int (0),V.int (1)])∈bV) (cy:∃ C tl,Ju K mg "NoShares" C VE tl "ValueError.__new__") (cS:KN P w K mg base) (eX:KR P w K mg base) (kI:P4 P w K mg base) (di:zZ P w K mg base) (lX:PV P w K mg base) (lT:Oh P w K mg base) (nS:KW P w K mg base):PL P w K mg base:=by
 obtain ⟨_,_,cy⟩:=cy; exact jo [5,6] iA F gK λf cx A outer s H E hr=>(ak (kN (cA (gg kI hr (by decide) rN (aa (pV 0) (aa (pV 1) ah)))))
  (ak (cE (kh (CP mr b8 lZ b8 mr b8 pI (pO 2) (pO 3) (pO 1))) (ao (mI cy abm (by decide) abm c9)) bR)
  (ak (kN (cA (gg eX hr (by decide) rN (aa (pV 4) ah))))
  (ak (fe (eL (i:=5) gK.nd rfl (Or.inl rfl) (de ah)))
  (ak (fe (eL (i:=6) gK.nd rfl (Or.inl rfl) (de ah)))
  (ak (eE PassesOwn.leaving rfl (c5 (PE.nE (bX di hr (by decide) (aa (pV 0) ah)))) (aH (aR (i:=7) gK.nd rfl (Or.inl rfl)))
   (ak (pS 8 gK.nd (pC lX hr (aa (pV 0) (aa (pV 7) (aa (pV 1) (aa (pV 2) ah))))))
  (ak (pS 9 gK.nd (pC lX hr (aa (pV 0) (aa (pV 7) (aa (pV 1) (aa (pV 3) ah))))))
  (ao (cE (aW (mB hr) mC (pO 8) (PE.sh (gX (eh ba) be (λ_=>(.cons (.int _) (.cons (.int _) .nil))))) (bC _)) (ao (gJ (cA (l6 aa9 abi abu gH (pv 6) (bE (bI (aa (pV 7) (aa (pC lT hr (aa (pV 9) (aa (pV 8) ah))) (aa (pV 8) (aa (pV 9) ah))))) c6))))) (ao (cE (aW (mB hr) mC (pO 9) (PE.sh (gX (eh ba) be (λ_=>(.cons (.int _) (.cons (.int _) .nil))))) (bC _)) (ao (gJ (cA (l6 aa9 abi abu gH (pv 5) (bE (bI (aa (pV 7) (aa (gX (eh ba) be (λ_=>(.cons (.int _) (.cons (.int _) .nil)))) (aa (pV 8) (aa (pV 9) ah))))) c6))))) bR)))))))
  (ao (bx (pC nS hr (aa (PE.nE (yk qb qd (pO 5) (PE.sh (PE.nE (lj cS hr (by decide) (av (pO 6) aB)))))) (aa (pV 4) ah)))))))))))
theorem BO (F:Df K mg "_law_cell" pF ["_law_script","_law_k"]) (B:Bs mg):PZ P w K mg base:=
 cb [] o8 F BJ λf cx A outer s H E hr=>(ak (cE (aW lZ b8 (pO 1) (PE.sh (aQ aZ b9 rfl B.len cP (av (pO 0) aB))) (bC _)) (ao (bx (aw (pO 0) (pO 1)))) bR)
  (ao (bx (aO aS))))
theorem w8 (F:Df K mg "_law_digits" lO ["_law_cell_here","_law_base","_law_many"]) (B:Bs mg):Tu P w K mg base:=
 gn [3] lC F iP λf cx A outer s H E hr=>(ak (fe (eL (i:=3) iP.nd rfl (Or.inl rfl) (de ah)))
  (ak (eE aa4 rfl (iq B.range (aa (pV 2) ah)) (aH (aR (i:=4) iP.nd rfl (Or.inl rfl)))
   (ak (gJ (cA (l6 aa9 abi abu gH (pv 3) (bE (aq bp ar (pO 0) (pO 1)) c6))))
  (ao (pS 0 iP.nd (aq br ar (pO 0) (pO 1))))))
  (ao (fJ (pv 3)))))
theorem Ab (F:Df K mg "_law_mixes" mX ["_law_cell_here","_law_base","_law_many"]) (B:Bs mg):Tw P w K mg base:=
 gn [3] mP F jC λf cx A outer s H E hr=>(ak (fe (eL (i:=3) jC.nd rfl (Or.inl rfl) (de ah)))
  (ak (eE aa4 rfl (iq B.range (aa (pV 2) ah)) (aH (aR (i:=4) jC.nd rfl (Or.inl rfl)))
   (ak (pS 5 jC.nd (aq bp ar (PE.sh (aq aX aM (PE.sh (aq aX aM (PE.sh (aq bq ar (PE.sh (aq bp ar (pO 0) pI)) pI)) (PE.sh (aq bq ar (PE.sh (aq bq ar (pO 4) (pO 4))) pI)))) (PE.sh (aq bq ar (pO 4) pI)))) pI))
  (ao (gJ (cA (l6 aa9 abi abu gH (pv 3) (bE (aq bp ar (PE.sh (aq br ar (PE.sh (aq bp ar (PE.sh (aq aX aM (PE.sh (aq bq ar (pO 5) pI)) (pO 0))) pI)) pI)) (pO 1)) c6)))))))
  (ao (fJ (pv 3)))))
theorem BP (F:Df K mg "_law_plan" j5 ["_law_cell_here","_law_most_here"]) (B:Bs mg) (fS:Tu P w K mg base) (gO:Tw P w K mg base):PM P w K mg base:=
 cb [5] o9 F cJ λf cx A outer s H E hr=>(ak (pS 2 cJ.nd (aq br ar (pO 0) pI))
  (ak (pS 3 cJ.nd (aq aX aM pI (PE.sh (aq bq ar pI (PE.sh (gI jD nj rfl B.int rA (av (PE.sh (oJ pZ b8 (pO 1) pI (bC _))) aB)))))))
  (ak (pS 4 cJ.nd (PE.nE (bX gO hr (by decide) (aa (pV 2) (aa (aO aS) (aa (pV 3) ah))))))
  (ak (cE (aW OR b8 (PE.sh (aQ jJ lb rfl B.abs oF (av (pO 0) aB))) (PE.sh (aq yb ar pI pI)) (bC _)) (ao (pS 4 cJ.nd (PE.nE (bX fS hr (by decide) (aa (pV 2) (aa (aO aS) (aa (pV 3) ah))))))) bR)
  (ak (fe (eL (i:=5) cJ.nd rfl (Or.inl rfl) (de (aa (bI (aa (aO aS) ah)) ah))))
  (ak (pS 6 cJ.nd (PE.nE (de (aa (aO aS) (aa (aO aS) ah)))))
  (ak (pS 7 cJ.nd (aO aS))
  (ak (mE aa4 (PW.pt (ni (aW lZ b8 (PE.sh (aQ aZ b9 rfl B.len cP (av (pO 5) aB))) (pO 1) (bC _)) (pw_and1 (aW pZ b8 (PE.sh (aQ aZ b9 rfl B.len cP (av (pO 6) aB))) pI (bC _))))) (ak (Ck (PS.nE (uW (i:=8) (aj j5) ["_law_cell_here","_law_most_here","_law_rest","_law_many","_law_digits_here","_law_rows","_law_come","_law_at","_law_row"] [4,3,7] ["_law_k","_law_bad","_law_digits_here","_law_many","_law_at"] ["_law_k","_law_bad"] cJ.nd rfl rfl VZ (PI.c (lp B.enumerate (pV 6))) (λ_ _ _ _ _ _=>(lh rfl (c8 (aH (aR (i:=0) (show (["_law_k","_law_bad","_law_digits_here","_law_many","_law_at"]:List Str).Nodup from by decide +kernel) rfl (Or.inl rfl))) (c8 (aH (aR (i:=1) (show (["_law_k","_law_bad","_law_digits_here","_law_many","_law_at"]:List Str).Nodup from by decide +kernel) rfl (Or.inl rfl))) lg)))) (λ_ _ _ _ _ _=>(uU (aW pZ b8 (PE.sh (aw (pO 2) (PE.sh (aq bp ar (PE.sh (aq aX aM (pO 4) (pO 0))) (pO 3))))) pI (bC _)))) (λ_ _ _ _ _ _=>(pV 1)))))
  (ak (pS 7 cJ.nd (aq aX aM (pO 7) (PE.sh (aQ aZ b9 rfl B.len cP (av (pO 6) aB)))))
  (ak (cE (aW pZ b8 (PE.sh (aq bp ar (pO 0) pI)) pI (bC _)) (ao (pS 8 cJ.nd (PE.nE (RB (pO 6) (AH (PE.sh (aw (pO 4) (PE.sh (aq bp ar (pO 7) (pO 3)))))) (AH (PE.sh (aQ (xh rfl) En rfl B.max HV (av pI (av (PE.sh (aq d7 fX (PE.sh (aQ aZ b9 rfl B.len cP (av (pO 6) aB))) (PE.sh (aw (pO 4) (PE.sh (aq bp ar (PE.sh (aq aX aM (pO 7) pI)) (pO 3))))))) aB))))))))) bR)
  (ak (pS 6 cJ.nd (PE.nE (oS B.sorted B.set (PE.sh (PE.nE (yk qb qd (pO 8) (PE.sh (PE.nE (PE.Jb (eS (aj j5) ["_law_cell_here","_law_most_here","_law_rest","_law_many","_law_digits_here","_law_rows","_law_come","_law_at","_law_row"] [] ["_law_bad"] ["_law_bad"] qt (PI.c (c5 (pV 8))) (λ_ _ _ _ _ _=>(aH (aR (i:=0) (show (["_law_bad"]:List Str).Nodup from by decide +kernel) rfl (Or.inl rfl)))) (λ_ _ _ _ _ _=>iL) (λ_ _ _ _ _ _=>(aq aX aM (pO 0) pI))))))))))))
  (ao (cE (aW pZ b8 (PE.sh (aQ aZ b9 rfl B.len cP (av (pO 8) aB))) pI (bC _)) (ao (gJ (cA (l6 aa9 abi abu gH (pv 5) (bE (gI oh xx rfl B.tuple uC (av (pO 8) aB)) c6))))) bR)))))))
  (ao (bx (gI oh xx rfl B.tuple uC (av (pO 5) aB))))))))))))
theorem BQ (F:Df K mg "_law_ends" j6 ["_law_plan_here"]) (B:Bs mg):KQ P w K mg base:=
 gn [1] pe F gL λf cx A outer s H E hr=>(ak (fe (eL (i:=1) gL.nd rfl (Or.inl rfl) (de ah)))
  (ak (eE aa4 rfl (FR B.range (aa (aO aS) (aa (aq aX aM (PE.sh (aQ aZ b9 rfl B.len cP (av (pO 0) aB))) pI) ah))) (aH (aR (i:=2) gL.nd rfl (Or.inr rfl)))
   (ak (pS 3 gL.nd (bI ah))
  (ak (cE (aW lZ b8 (pO 2) (PE.sh (aQ aZ b9 rfl B.len cP (av (pO 0) aB))) (bC _)) (ao (pS 3 gL.nd (aw (pO 0) (pO 2)))) bR)
  (ak (pS 4 gL.nd (PE.nE (oS B.sorted B.set (PE.sh (PE.nE (yk qb qd (PE.sh (PE.nE (la jl qf rfl B.list qa (av (PE.sh (aw (pO 0) (PE.sh (aq d7 fX (pO 2) pI)))) aB)))) (PE.sh (PE.nE (PE.Jb (eS (aj j6) ["_law_plan_here","_law_found","_law_n","_law_on","_law_come"] [] ["_law_bad"] ["_law_bad"] qt (PI.c (c5 (aw (pO 0) (PE.sh (aq d7 fX (pO 2) pI))))) (λ_ _ _ _ _ _=>(aH (aR (i:=0) (show (["_law_bad"]:List Str).Nodup from by decide +kernel) rfl (Or.inl rfl)))) (λ_ _ _ _ _ _=>iL) (λ_ _ _ _ _ _=>(aq aX aM (pO 0) pI))))))))))))
  (ao (rD (cA (l6 PySem.F.plainAttrs_list PySem.F.slot_list_extend PySem.F.type_list_extend rn (pv 1) (bE (eS (aj j6) ["_law_plan_here","_law_found","_law_n","_law_on","_law_come"] [2,3] ["_law_bad","_law_n","_law_on"] ["_law_bad"] qt (PI.c (c5 (pV 4))) (λ_ _ _ _ _ _=>(aH (aR (i:=0) (show (["_law_bad","_law_n","_law_on"]:List Str).Nodup from by decide +kernel) rfl (Or.inl rfl)))) (λ_ _ _ _ _ _=>(uU (aW FU FV (pO 0) (pO 2) (by with_unfolding_all rfl)))) (λ_ _ _ _ _ _=>(bI (aa (pV 0) (aa (aq d7 fX (pO 1) (pO 0)) ah))))) c6)))))))))
  (ao (fJ (pv 1)))))
theorem wx (F:Df K mg "_law_divisor" kG ["_law_one","_law_other"]) (B:Bs mg):PQ P w K mg base:=
 cb [] kF F mY λf cx A outer s H E hr=>(ak (mE aa4 (aW (mB hr) mC (pO 1) pI (bC _)) (ao (RE (QJ (i:=0) (j:=1) rfl mY.nd rfl rfl (by decide) rfl rfl (aa (pV 1) (aa (aq bp ar (pO 0) (pO 1)) ah)) rfl))))
  (ao (bx (aQ jJ lb rfl B.abs oF (av (pO 0) aB)))))
theorem BR (F:Df K mg "_law_made" pG ["_law_top","_law_bottom"]) (B:Bs mg) (kJ:PQ P w K mg base):PX P w K mg base:=
 cb [] pf F tq λf cx A outer s H E hr=>(ak (pS 2 tq.nd (pC kJ hr (aa (pV 0) (aa (pV 1) ah))))
  (ao (bx (bI (aa (aq br ar (pO 0) (pO 2)) (aa (aq br ar (pO 1) (pO 2)) ah))))))
theorem Ac (F:Df K mg "_law_word" pH ["_law_e"]) (B:Bs mg) (CT:Nh K mg tf Ut) (zVE:mg "ValueError"=none) (kVE:XQ K tf "ValueError" (.type "ValueError")):P6 P w K mg base:=by
 refine Nf [] vK F gM λy f cx A outer s H hr hy=>?_
 refine ak ?_ ?_
 .exact (pS 1 gM.nd (eO c9))
 refine ak ?_ ?_
 .exact (cE (cX (PE.sh (yT tf Ut CT (.head _) B.isinstance (pO 0)))) (ao (pS 1 gM.nd (aq aX aM (pO 1) (PE.sh (eO c9))))) bR)
 refine ak ?_ ?_
 .exact (cE (cX (PE.sh (yT tf Ut CT (.tail _ (.head _)) B.isinstance (pO 0)))) (ao (pS 1 gM.nd (aq aX aM (pO 1) (PE.sh (eO c9))))) bR)
 refine ak ?_ ?_
 .exact (cE (cX (PE.sh (yT tf Ut CT (.tail _ (.tail _ (.head _))) B.isinstance (pO 0)))) (ao (pS 1 gM.nd (aq aX aM (pO 1) (PE.sh (eO c9))))) bR)
 refine ak ?_ ?_
 .exact (cE (PW.pt (yp (cX (PE.sh (JF tf Ut CT (.tail _ (.tail _ (.tail _ (.head _)))) (.tail _ (.tail _ (.tail _ (.tail _ (.head _))))) (.tail _ (.tail _ (.tail _ (.tail _ (.tail _ (.head _)))))) B.isinstance (pO 0)))) (pw_or1 (kh (cX (PE.sh (EO tf B.isinstance (pO 0) (ya rfl zVE Wp (v:=.ty "ValueError") rfl) (λ_ r=>r) kVE))))))) (ao (pS 1 gM.nd (aq aX aM (pO 1) (PE.sh (eO c9))))) bR)
 exact ao (bx (pV 1))
theorem w9 (F:Df K mg "_law_answer" lP ["_law_what","_law_plan_here","_law_part_here"]) (B:Bs mg) (mL:mg "LotError"=some (.ref cL)) (CE:Wo K mg cL tf) (m8:P6 P w K mg base) (m9:PL P w K mg base) (wy:P9 P w K mg base) (ng:Qb P w K mg base) (iG:PK P w K mg base):PD P w K mg base:=
 cb [] lF F eW λf cx A outer s H E hr=>(ak (SG (i:=4) (gs:=qH) (hand:=jQ tf l8) (λkO E=>(ao (cE (aW (ik hr) imp_eq (pO 0) pI (bC _)) (ao (t8 (eL (i:=3) eW.nd rfl (Or.inl rfl) (gg ng hr (by decide) t9 (aa (pV 1) (aa (PE.nE (la jl qf rfl B.list qa (av (PE.sh (aw (pO 2) pI)) aB))) ah)))))) (ao (cE (aW (ik hr) imp_eq (pO 0) pI (bC _)) (ao (t8 (eL (i:=3) eW.nd rfl (Or.inl rfl) (gg wy hr (by decide) t9 (aa (aw (pO 2) pI) (aa (aw (pO 2) pI) (aa (aw (pO 2) pI) ah))))))) (ao (cE (aW (ik hr) imp_eq (pO 0) pI (bC _)) (ao (t8 (eL (i:=3) eW.nd rfl (Or.inl rfl) (gg iG hr (by decide) t9 (aa (pV 1) (aa (aw (pO 2) pI) (aa (aw (pO 2) pI) (aa (aw (pO 2) pI) ah)))))))) (ao (t8 (eL (i:=3) eW.nd rfl (Or.inl rfl) (gg m9 hr (by decide) t9 (aa (pV 1) (aa (aw (pO 2) pI) (aa (aw (pO 2) pI) (aa (aw (pO 2) pI) (aa (aw (pO 2) pI) ah)))))))))))))))) (λa=>(ao (bx (JC (G:=lE) (y:=a) m8 (hr.markX _) (by decide) rfl (aa (pV 4) ah))))) (λc d h=>CE c (CZ h)) wW mL eW.nd)
  (ak (cE (aW (ik hr) imp_eq (pO 0) pI (bC _)) (ao (bx (aw (PE.sh (PE.nE (de (aa (eO c9) (aa (eO c9) ah))))) (PE.sh (gI jD nj rfl B.int rA (av (PE.sh (Ik "list" B.isinstance (pO 3) (ya rfl B.list qa (v:=.ty "list") rfl))) aB)))))) bR)
  (ao (bx (aw (PE.sh (PE.nE (de (aa (eO c9) (aa (eO c9) ah))))) (PE.sh (gI jD nj rfl B.int rA (av (PE.sh (oM (Ik "tuple" B.isinstance (pO 3) (ya rfl B.tuple uC (v:=.ty "tuple") rfl)) (oC (oJ (ik hr) imp_eq (PE.sh (aQ aZ b9 rfl B.len cP (av (pO 3) aB))) (PE.sh (aw (PE.sh (PE.nE (de (aa (aO aS) (aa (aO aS) (aa (aO aS) ah)))))) (PE.sh (aq d7 fX (pO 0) pI)))) (bC _))))) aB))))))))
theorem Ad (F:Df K mg "_law_under" mZ ["_law_one","_law_other"]) (B:Bs mg):PU P w K mg base:=
 cb [] mQ F zY λf cx A outer s H E hr=>(ao (bx (oJ lZ b8 (PE.sh (aq bq ar (PE.sh (aw (pO 0) pI)) (PE.sh (aw (pO 1) pI)))) (PE.sh (aq bq ar (PE.sh (aw (pO 1) pI)) (PE.sh (aw (pO 0) pI)))) (bC _))))
theorem D0 (F:Df K mg "_law_due" nR ["_law_what","_law_plan_here","_law_part_here"]) (B:Bs mg) (iH:KQ P w K mg base) (fF:PU P w K mg base):PJ P w K mg base:=
 cb [] r9 F lQ λf cx A outer s H E hr=>(ak (cE (aW (ik hr) imp_eq (pO 0) pI (bC _)) (ak (pS 3 lQ.nd (PE.nE (bX iH hr (by decide) (aa (pV 1) ah))))
  (ao (bx (aw (PE.sh (PE.nE (de (aa (eO c9) (aa (eO c9) ah))))) (PE.sh (gI jD nj rfl B.int rA (av (PE.sh (oJ pZ b8 (PE.sh (aQ aZ b9 rfl B.len cP (av (PE.sh (PE.nE (eS (aj nR) ["_law_what","_law_plan_here","_law_part_here","_law_places","_law_good","_law_rise"] [3] ["_law_end","_law_places"] ["_law_end"] qt (PI.c (c5 (aw (pO 2) pI))) (λ_ _ _ _ _ _=>(aH (aR (i:=0) (show (["_law_end","_law_places"]:List Str).Nodup from by decide +kernel) rfl (Or.inl rfl)))) (λ_ _ _ _ _ _=>(uU (aW (rK hr) t6 (pO 0) (pO 1) (by with_unfolding_all rfl)))) (λ_ _ _ _ _ _=>(pV 0))))) aB))) pI (bC _))) aB))))))) bR)
  (ak (pS 4 lQ.nd (oM (Ig (PE.sh (pC fF hr (aa (aw (pO 2) pI) (aa (bI (aa (aO aS) (aa (aO aS) ah))) ah))))) (oC (Ig (PE.sh (pC fF hr (aa (bI (aa (aO aS) (aa (aO aS) ah))) (aa (aw (pO 2) pI) ah))))))))
  (ak (cE (aW lZ b8 (pO 0) pI (bC _)) (ak (pS 5 lQ.nd (oM (pC fF hr (aa (bI (aa (aO aS) (aa (aO aS) ah))) (aa (aw (pO 2) pI) ah))) (oM (pC fF hr (aa (aw (pO 2) pI) (aa (aw (pO 2) pI) ah))) (oC (pC fF hr (aa (aw (pO 2) pI) (aa (bI (aa (aO aS) (aa (aO aS) ah))) ah)))))))
  (ao (bx (aw (PE.sh (PE.nE (de (aa (eO c9) (aa (eO c9) ah))))) (PE.sh (gI jD nj rfl B.int rA (av (PE.sh (oM (pV 5) (oC (Vv (pV 4) (oC (oJ (ik hr) imp_eq (pO 0) pI (bC _))))))) aB))))))) bR)
  (ak (cE (PW.pt (yp (aW lZ b8 (PE.sh (aw (pO 2) pI)) (PE.sh (aQ aZ b9 rfl B.len cP (av (pO 1) aB))) (bC _)) (pw_or1 (aW pZ b8 (PE.sh (aw (pO 2) pI)) pI (bC _))))) (ao (bx (eO c9))) bR)
  (ao (bx (aw (PE.sh (PE.nE (de (aa (eO c9) (aa (eO c9) ah))))) (PE.sh (gI jD nj rfl B.int rA (av (PE.sh (oM (Gj mr b8 lZ b8 mr b8 pI (PE.sh (aw (pO 2) pI)) (PE.sh (aw (pO 2) pI)) (PE.sh (aw (pO 2) pI))) (oC (pV 4)))) aB))))))))))
theorem BS (F:Df K mg "_law_rule" lR ["_law_plan_here","_law_cell_here"]) (B:Bs mg) (fS:Tu P w K mg base) (iH:KQ P w K mg base) (gO:Tw P w K mg base):PN P w K mg base:=
 gn [4] ph F eJ λf cx A outer s H E hr=>(ak (pS 2 eJ.nd (PE.nE (bX iH hr (by decide) (aa (pV 0) ah))))
  (ak (pS 3 eJ.nd (PE.nE (bX gO hr (by decide) (aa (aq br ar (pO 1) pI) (aa (aO aS) (aa (aO aS) ah))))))
  (ak (cE (aW OR b8 (PE.sh (aQ jJ lb rfl B.abs oF (av (pO 1) aB))) (PE.sh (aq yb ar pI pI)) (bC _)) (ao (pS 3 eJ.nd (PE.nE (bX fS hr (by decide) (aa (aq br ar (pO 1) pI) (aa (aO aS) (aa (aO aS) ah))))))) bR)
  (ak (fe (uW (i:=4) (aj lR) ["_law_plan_here","_law_cell_here","_law_places","_law_digits_here","_law_some","_law_n","_law_bad","_law_strange"] [3] ["_law_k","_law_end","_law_digits_here"] ["_law_k","_law_end"] eJ.nd rfl rfl VZ (PI.c (lp B.enumerate (pV 2))) (λ_ _ _ _ _ _=>(lh rfl (c8 (aH (aR (i:=0) (show (["_law_k","_law_end","_law_digits_here"]:List Str).Nodup from by decide +kernel) rfl (Or.inl rfl))) (c8 (aH (aR (i:=1) (show (["_law_k","_law_end","_law_digits_here"]:List Str).Nodup from by decide +kernel) rfl (Or.inl rfl))) lg)))) (λ_ _ _ _ _ _=>(uU (aW (ik hr) imp_eq (PE.sh (aw (pO 2) (PE.sh (aq bp ar (pO 0) pI)))) pI (bC _)))) (λ_ _ _ _ _ _=>(pV 1))))
  (ak (cE (aW lZ b8 (PE.sh (aq bp ar (pO 1) pI)) pI (bC _)) (ak (pS 5 eJ.nd (aq bp ar (PE.sh (aq br ar (pO 1) pI)) (PE.sh (aQ aZ b9 rfl B.len cP (av (pO 0) aB)))))
  (ak (pS 6 eJ.nd (aw (PE.sh (aw (pO 0) (pO 5))) (PE.sh (aq bp ar (PE.sh (aq br ar (pO 1) pI)) (PE.sh (aQ aZ b9 rfl B.len cP (av (PE.sh (aw (pO 0) (pO 5))) aB)))))))
  (ak (pS 7 eJ.nd (aw (PE.sh (PE.nE (de (aa (bI (aa (pV 6) (aa (aq d7 fX (pO 5) (pO 6)) ah))) (aa (bI (aa (aq aX aM (PE.sh (aw (PE.sh (aw (pO 2) pI)) pI)) pI) (aa (aq aX aM (PE.sh (aw (PE.sh (aw (pO 2) pI)) pI)) pI) ah))) ah))))) (PE.sh (aq bp ar (pO 1) pI))))
  (ao (Gg (cA (l6 aa9 PySem.F.slot_list_insert PySem.F.type_list_insert Gf (pv 4) (bE (aq bp ar (PE.sh (aq br ar (pO 1) pI)) (PE.sh (aq aX aM (PE.sh (aQ aZ b9 rfl B.len cP (av (pO 4) aB))) pI))) (bE (pV 7) c6))))))))) bR)
  (ao (fJ (pv 4))))))))
theorem BU (F:Df K mg "_law_part" pJ ["_law_plan_here","_law_cell_here","_law_more"]) (B:Bs mg) (j8:PX P w K mg base) (pN:PN P w K mg base):PH P w K mg base:=
 cb [] pj F dq λf cx A outer s H E hr=>(ak (pS 3 dq.nd (aw (PE.sh (PE.nE (de (aa (aq aX aM pI (PE.sh (aq bp ar (pO 1) pI))) (aa (aq aX aM pI (PE.sh (aq bp ar (pO 1) (PE.sh (aq yb ar pI pI))))) ah))))) (PE.sh (aq bp ar (PE.sh (aq br ar (pO 1) pI)) pI))))
  (ak (pS 4 dq.nd (pC j8 hr (aa (aq d7 fX (PE.sh (aq bp ar (pO 2) (PE.sh (aq aX aM (pO 3) pI)))) pI) (aa (pV 3) ah))))
  (ak (pS 5 dq.nd (pC j8 hr (aa (aq d7 fX (PE.sh (aq bp ar (PE.sh (aq br ar (PE.sh (aq br ar (pO 2) pI)) (PE.sh (aq aX aM (pO 3) pI)))) (PE.sh (aq aX aM (pO 3) pI)))) pI) (aa (pV 3) ah))))
  (ak (cE (aW (ik hr) imp_eq (PE.sh (aq bp ar (pO 2) pI)) pI (bC _)) (ao (pS 5 dq.nd (pV 4))) bR)
  (ak (pS 6 dq.nd (pC j8 hr (aa (aw (PE.sh (PE.nE (de (aa (aO aS) (aa (aO aS) (aa (aq d7 fX (PE.sh (aq bp ar (PE.sh (aq br ar (pO 2) pI)) pI)) pI) (aa (aq bp ar (pO 2) pI) ah))))))) (PE.sh (aq bp ar (PE.sh (aq br ar (pO 2) pI)) pI))) (aa (aO aS) ah))))
  (ak (pS 7 dq.nd (aq aX aM (PE.sh (aQ aZ b9 rfl B.len cP (av (pO 0) aB))) (PE.sh (aq bp ar (PE.sh (aq br ar (pO 1) pI)) pI))))
  (ak (cE (aW (ik hr) imp_eq (PE.sh (aq bp ar (PE.sh (aq br ar (pO 1) pI)) pI)) pI (bC _)) (ao (pS 7 dq.nd (aw (PE.sh (PE.nE (de (aa (aq d7 fX (PE.sh (aQ aZ b9 rfl B.len cP (av (pO 0) aB))) pI) (aa (aO aS) (aa (aO aS) (aa (rB (PE.sh (aq bp ar (pO 1) (PE.sh (aq yb ar pI pI))))) ah))))))) (PE.sh (aq bp ar (PE.sh (aq br ar (pO 1) pI)) pI))))) bR)
  (ak (pS 8 dq.nd (aq d7 fX (PE.sh (aq bp ar (PE.sh (aq br ar (pO 2) pI)) pI)) pI))
  (ak (pS 9 dq.nd (aq d7 fX (PE.sh (aq aX aM (pO 8) (PE.sh (aq bp ar (PE.sh (aq br ar (pO 2) pI)) pI)))) pI))
  (ao (bx (bI (aa (PE.nE (bX pN hr (by decide) (aa (pV 0) (aa (pV 1) ah)))) (aa (bI (aa (aq bp ar (pO 2) pI) (aa (aq bp ar (pO 1) pI) ah))) (aa (pV 4) (aa (pV 5) (aa (pV 6) (aa (pV 7) (aa (pV 8) (aa (pV 9) ah))))))))))))))))))))
theorem Tz (F:HK K "law" "law" oz f fd) (B:Bs mg) (lY:PD P w K mg base) (j9:PZ P w K mg base) (sQ:PJ P w K mg base) (pP:PH P w K mg base) (pQ:PM P w K mg base):nU P w K mg base rp 10 f fd ["_law_script"] (jL K 1 xU):=
 VD [] JS F sC λf cx A outer s H E hr=>(ak (eE aa4 rfl (iq B.range (aa (aQ (xh rfl) En rfl B.max HV (av pI (av (PE.sh (aQ (Fy rfl) Mw rfl B.min Ro (av pI (av (PE.sh (aQ aZ b9 rfl B.len cP (av (pO 0) aB))) aB)))) aB))) ah)) (aH (aR (i:=1) sC.nd rfl (Or.inl rfl)))
   (ak (pS 2 sC.nd (pC j9 hr (aa (pV 0) (aa (pV 1) ah))))
  (ak (pS 3 sC.nd (pC pQ hr (aa (pV 2) (aa (aq aX aM pI (PE.sh (aq bp ar (PE.sh (aq br ar (pO 2) pI)) pI))) ah))))
  (ak (pS 4 sC.nd (pC pP hr (aa (pV 3) (aa (pC j9 hr (aa (pV 0) (aa (aq aX aM (pO 1) pI) ah))) (aa (pC j9 hr (aa (pV 0) (aa (aq aX aM (pO 1) pI) ah))) ah)))))
  (ao (eE aa4 rfl (iq B.range (aa (aO aS) ah)) (aH (aR (i:=5) sC.nd rfl (Or.inl rfl)))
   (ao (cE (aW (mB hr) mC (PE.sh (pC lY hr (aa (pV 5) (aa (pV 3) (aa (pV 4) ah))))) (PE.sh (pC sQ hr (aa (pV 5) (aa (pV 3) (aa (pV 4) ah))))) (bC _)) (ao (bx (O1 OL))) bR))))))))
  (ao (bx (O1 OL))))
end
structure QF (K:au) (n:Str) (st:Stmt) (f:Addr) (od an:Option Addr) (sl:Array (Option Value)) (oc kV dc pm cd ct:Value):Prop where
 a:PySem.W.nsIn K mainGlobals n=some (some (.ref f))
 l:K.lookup f=some ⟨oc,od,.func (PySem.W.fnOf n n (gj st) (cU st) (aj st) .none kV dc pm an cd ct),sl⟩
 c:PySem.W.codeIn K cd n=true
 k:PySem.W.keepIn K (.ref f)=true
def QE (K:au) (n:Str) (st:Stmt):Prop:=∃ f od an sl oc kV dc pm cd ct,QF K n st f od an sl oc kV dc pm cd ct
theorem LF (CK:jO K) (X:K.In h) (G:h.Ns mainGlobals mg) (q:QE K x st) (b:∀ kV doc pm an cd ct u0,bindArgs (PySem.W.fnOf x x (gj st) (cU st) (aj st) .none kV doc pm an cd ct) ⟨[u0],[]⟩=pure ([a0].zip [u0]):=by intros; rfl):Df (ee K) mg x st [a0]:=by
 obtain ⟨_,_,_,_,_,_,_,_,_,_,q⟩:=q
 exact ⟨_,_,CK.func (fm (st:=st) q.l q.c q.k),abg X G q.a,(CK.func (fm (st:=st) q.l q.c q.k)).binds λ_ _ _ _ _ _ us hl=>match us,hl with | [u0],_=>b ..⟩
theorem nT (CK:jO K) (X:K.In h) (G:h.Ns mainGlobals mg) (q:QE K x st) (b:∀ kV doc pm an cd ct u0 u1,bindArgs (PySem.W.fnOf x x (gj st) (cU st) (aj st) .none kV doc pm an cd ct) ⟨[u0,u1],[]⟩=pure ([a0,a1].zip [u0,u1]):=by intros; rfl):Df (ee K) mg x st [a0,a1]:=by
 obtain ⟨_,_,_,_,_,_,_,_,_,_,q⟩:=q
 exact ⟨_,_,CK.func (fm (st:=st) q.l q.c q.k),abg X G q.a,(CK.func (fm (st:=st) q.l q.c q.k)).binds λ_ _ _ _ _ _ us hl=>match us,hl with | [u0,u1],_=>b ..⟩
theorem Oq (CK:jO K) (X:K.In h) (G:h.Ns mainGlobals mg) (q:QE K x st) (b:∀ kV doc pm an cd ct u0 u1 u2,bindArgs (PySem.W.fnOf x x (gj st) (cU st) (aj st) .none kV doc pm an cd ct) ⟨[u0,u1,u2],[]⟩=pure ([a0,a1,a2].zip [u0,u1,u2]):=by intros; rfl):Df (ee K) mg x st [a0,a1,a2]:=by
 obtain ⟨_,_,_,_,_,_,_,_,_,_,q⟩:=q
 exact ⟨_,_,CK.func (fm (st:=st) q.l q.c q.k),abg X G q.a,(CK.func (fm (st:=st) q.l q.c q.k)).binds λ_ _ _ _ _ _ us hl=>match us,hl with | [u0,u1,u2],_=>b ..⟩
theorem df4 (CK:jO K) (X:K.In h) (G:h.Ns mainGlobals mg) (q:QE K x st) (b:∀ kV doc pm an cd ct u0 u1 u2 u3,bindArgs (PySem.W.fnOf x x (gj st) (cU st) (aj st) .none kV doc pm an cd ct) ⟨[u0,u1,u2,u3],[]⟩=pure ([a0,a1,a2,a3].zip [u0,u1,u2,u3]):=by intros; rfl):Df (ee K) mg x st [a0,a1,a2,a3]:=by
 obtain ⟨_,_,_,_,_,_,_,_,_,_,q⟩:=q
 exact ⟨_,_,CK.func (fm (st:=st) q.l q.c q.k),abg X G q.a,(CK.func (fm (st:=st) q.l q.c q.k)).binds λ_ _ _ _ _ _ us hl=>match us,hl with | [u0,u1,u2,u3],_=>b ..⟩
theorem df5 (CK:jO K) (X:K.In h) (G:h.Ns mainGlobals mg) (q:QE K x st) (b:∀ kV doc pm an cd ct u0 u1 u2 u3 u4,bindArgs (PySem.W.fnOf x x (gj st) (cU st) (aj st) .none kV doc pm an cd ct) ⟨[u0,u1,u2,u3,u4],[]⟩=pure ([a0,a1,a2,a3,a4].zip [u0,u1,u2,u3,u4]):=by intros; rfl):Df (ee K) mg x st [a0,a1,a2,a3,a4]:=by
 obtain ⟨_,_,_,_,_,_,_,_,_,_,q⟩:=q
 exact ⟨_,_,CK.func (fm (st:=st) q.l q.c q.k),abg X G q.a,(CK.func (fm (st:=st) q.l q.c q.k)).binds λ_ _ _ _ _ _ us hl=>match us,hl with | [u0,u1,u2,u3,u4],_=>b ..⟩
theorem all_mk {l:PySem.W.OpenLaw} {w:World} {K:au} {h:Heap} {mg:dG} {fa:Addr} (X:K.In h) (G:h.Ns mainGlobals mg) (hfa:mg "law"=some (.ref fa))
  {f31 f33 f55:Addr} {aae aaf aag aah aai WU:Option Addr} {aaj aak aal:Array (Option Value)} {aam aan aao aap WV aaq aar aas aat aau WX aav aaw WY WZ W0 W1 W2:Value}
  (q1:QE K "frac" DI)
  (q2:QE K "plus" DJ)
  (q3:QE K "minus" zO)
  (q4:QE K "times" zP)
  (q5:QE K "over" DL)
  (q6:QE K "power" zQ)
  (q7:QE K "under" zR)
  (q8:QE K "greatest_divisor" gF)
  (q9:QE K "leap" DM)
  (q10:QE K "goes_on" so)
  (q11:QE K "come_to" nP)
  (q12:QE K "ends" zS)
  (q13:QE K "drawn_on" lL)
  (q14:QE K "check_ends" jz)
  (q15:QE K "led_to" qT)
  (q16:QE K "after" zT)
  (q17:QE K "of_count" pA)
  (q18:QE K "trimmed" sr)
  (q19:QE K "common_bottom" jc)
  (q20:QE K "tops_over" kA)
  (q21:QE K "ways_to" su)
  (q22:QE K "ways_from" mV)
  (q23:QE K "mean_of" nQ)
  (q24:QE K "check_telling" gv)
  (q25:QE K "refusing" lM)
  (q26:QE K "ratio" uk)
  (q27:QE K "rule_by_ratio" jd)
  (q28:QE K "check_shares" h8)
  (q29:QE K "check_most" jA)
  (q30:QE K "often" zV)
  (TB:QF K "by_falling_ratio" bJ f31 aae aaf aaj aam aan aao aap WV aaq)
  (q32:QE K "taken" zW)
  (TC:QF K "in_order" gG f33 aag aah aak aar aas aat aau WX aav)
  (q34:QE K "lot_odds" pB)
  (q35:QE K "check_lot" mW)
  (q36:QE K "check_size" jB)
  (q37:QE K "choices" sv)
  (q38:QE K "falling" sy)
  (q39:QE K "lot_rule" pE)
  (q40:QE K "_law_cell" pF)
  (q41:QE K "_law_digits" lO)
  (q42:QE K "_law_mixes" mX)
  (q43:QE K "_law_plan" j5)
  (q45:QE K "_law_ends" j6)
  (q47:QE K "_law_divisor" kG)
  (q48:QE K "_law_made" pG)
  (q49:QE K "_law_word" pH)
  (q50:QE K "_law_answer" lP)
  (q51:QE K "_law_under" mZ)
  (q52:QE K "_law_due" nR)
  (q53:QE K "_law_rule" lR)
  (q54:QE K "_law_part" pJ)
  (Lb:QF K "law" oz f55 aai WU aal aaw WY WZ W0 W1 W2)
  {W3:Tok} (W4:PySem.W.nsIn K mainGlobals "LONG"=some (some (.int 4000 W3)))
  {Ot:Tok} (Ou:PySem.W.nsIn K mainGlobals "WINDOW"=some (some (.int 240 Ot)))
  {W5:Tok} (W6:PySem.W.nsIn K mainGlobals "SHED"=some (some (.int 120 W5)))
  {cC:Addr} {Lc:Option Addr} {Ld:Array (Option Value)} {Ov:Nat} {Le Lf:Tok} (Ow:PySem.W.nsIn K mainGlobals "NOUGHT"=some (some (.ref cC))) (Ox:K.lookup cC=some ⟨.type "tuple",Lc,.seq #[.int (0) Le,.int (1) Lf] Ov,Ld⟩)
  {fb:Addr} {Oy:Option Addr} {Oz:Array (Option Value)} {TF:Nat} {OA OB:Tok} (TH:PySem.W.nsIn K mainGlobals "WHOLE"=some (some (.ref fb))) (TJ:K.lookup fb=some ⟨.type "tuple",Oy,.seq #[.int (1) OA,.int (1) OB] TF,Oz⟩)
  {Ae:Tok} (Af:PySem.W.nsIn K mainGlobals "MOST_PIECES"=some (some (.int 200 Ae)))
  (W7:PySem.W.nsIn K mainGlobals "len"=some none)
  (OC:PySem.W.nsIn K mainGlobals "range"=some none)
  (Ag:PySem.W.nsIn K mainGlobals "isinstance"=some none)
  (W8:PySem.W.nsIn K mainGlobals "max"=some none)
  (W9:PySem.W.nsIn K mainGlobals "min"=some none)
  (Xa:PySem.W.nsIn K mainGlobals "int"=some none)
  (TK:PySem.W.nsIn K mainGlobals "bool"=some none)
  (OD:PySem.W.nsIn K mainGlobals "tuple"=some none)
  (TL:PySem.W.nsIn K mainGlobals "list"=some none)
  (Xb:PySem.W.nsIn K mainGlobals "abs"=some none)
  (Xc:PySem.W.nsIn K mainGlobals "str"=some none)
  (Xd:PySem.W.nsIn K mainGlobals "sum"=some none)
  (Lg:PySem.W.nsIn K mainGlobals "sorted"=some none)
  (D1:PySem.W.nsIn K mainGlobals "reversed"=some none)
  (BV:PySem.W.nsIn K mainGlobals "enumerate"=some none)
  (Xe:PySem.W.nsIn K mainGlobals "set"=some none)
  (Xf:PySem.W.nsIn K mainGlobals "all"=some none)
  (Xg:PySem.W.nsIn K mainGlobals "zip"=some none)
  (Xh:PySem.W.nsIn K mainGlobals "any"=some none)
  {Xi c31 Xj c33:Addr} (lt:cK=[(Xi,(⟨173,44,173,70⟩:Pos),("by_falling_ratio.<locals>.<lambda>":Str)),(Xj,(⟨188,28,188,65⟩:Pos),("in_order.<locals>.<lambda>":Str))])
  (ct:bV=[(cC,[V.int (0),V.int (1)]),(fb,[V.int (1),V.int (1)])])
  (ne1_0:fb≠cC)
  (nl1_0:Xj≠Xi)
  (e31:WV=.ref c31)
  (ji:PySem.W.codeHdIn K c31 Xi=true)
  (aaz:K.lookup Xi=none)
  (e33:WX=.ref c33)
  (tu:PySem.W.codeHdIn K c33 Xj=true)
  (aaA:K.lookup Xj=none)
  {Li:Addr} (TM:PySem.W.nsIn K mainGlobals "NoLot"=some (some (.ref Li)))
  (OE:PySem.W.excIn (ee K) Li VE "ValueError.__new__"=true)
  {Lj:Addr} (TN:PySem.W.nsIn K mainGlobals "NoEnd"=some (some (.ref Lj)))
  (OF:PySem.W.excIn (ee K) Lj VE "ValueError.__new__"=true)
  {xX:Addr} (GX:PySem.W.nsIn K mainGlobals "NoShares"=some (some (.ref xX)))
  (D2:PySem.W.excIn (ee K) xX VE "ValueError.__new__"=true)
  {cL:Addr} (aL:PySem.W.nsIn K mainGlobals "LotError"=some (some (.ref cL)))
  (zE:PySem.W.nsIn K mainGlobals "ValueError"=some none)
  (qc:C0 (ee K) cL tf Ut=true)
  :jO K /\ AY K /\ ∃ fd:FuncData,(∀ (s:Shared) (v:Value),BindsTo s fd ⟨[v],[]⟩ [("_law_script",v)]) /\ ∀ base:Heap,(ee K).In base->base.Ns mainGlobals mg->MW mg base->nU l.prog w (ee K) mg base rp 10 fa fd ["_law_script"] (jL (ee K) 1 xU):=by
 have e:=hfa.symm.trans (abg X G Lb.a)
 cases e
 have CK:jO K:=⟨(λp xs m=>by have bq1_0:=ac3.mpr ne1_0; rw [ct] at m ⊢; simp only [aaG,acL,or_false,aev] at m; rcases m with ⟨rfl,rfl⟩ | ⟨rfl,rfl⟩ <;> simp [acJ, *]),(λp xs m=>by have m:=Ja m; rw [ct] at m; simp only [aaG,acL,or_false,aev] at m; rcases m with ⟨rfl,rfl⟩ | ⟨rfl,rfl⟩ <;> first | exact ⟨_,_,_,_,Ox,(by show 2<=sizeLine; decide),(.cons ⟨_,rfl⟩ (.cons ⟨_,rfl⟩ .nil))⟩ | exact ⟨_,_,_,_,TJ,(by show 2<=sizeLine; decide),(.cons ⟨_,rfl⟩ (.cons ⟨_,rfl⟩ .nil))⟩)⟩
 have LO:AY K:=⟨(λp y q m=>by have bq1_0:=ac3.mpr nl1_0; rw [lt] at m ⊢; simp only [aaG,acL,or_false,aev] at m; rcases m with ⟨rfl,rfl,rfl⟩ | ⟨rfl,rfl,rfl⟩ <;> simp [acJ, *]),(λp y q m=>by rw [lt] at m; simp only [aaG,acL,or_false,aev] at m; rcases m with ⟨rfl,rfl,rfl⟩ | ⟨rfl,rfl,rfl⟩ <;> first | exact ⟨aaz,_,ji⟩ | exact ⟨aaA,_,tu⟩)⟩
 have pR:V8 (ee K) mg "by_falling_ratio" bJ ["choice"] c31:=⟨_,_,(CK.func (fm (st:=bJ) TB.l TB.c TB.k)),e31,abg X G TB.a,(CK.func (fm (st:=bJ) TB.l TB.c TB.k)).binds λ_ _ _ _ _ _ us hl=>match us,hl with | [_],_=>rfl⟩
 have D3:V8 (ee K) mg "in_order" gG ["rule"] c33:=⟨_,_,(CK.func (fm (st:=gG) TC.l TC.c TC.k)),e33,abg X G TC.a,(CK.func (fm (st:=gG) TC.l TC.c TC.k)).binds λ_ _ _ _ _ _ us hl=>match us,hl with | [_],_=>rfl⟩
 have abZ:Df (ee K) mg "law" oz ["_law_script"]:=⟨_,_,(CK.func (fm (st:=oz) Lb.l Lb.c Lb.k)),abg X G Lb.a,(CK.func (fm (st:=oz) Lb.l Lb.c Lb.k)).binds λ_ _ _ _ _ _ us hl=>match us,hl with | [_],_=>rfl⟩
 have DQ:Cn mg "LONG" (.int 4000):=⟨_,abg X G W4,⟨_,rfl⟩⟩
 have wj:Cn mg "WINDOW" (.int 240):=⟨_,abg X G Ou,⟨_,rfl⟩⟩
 have DP:Cn mg "SHED" (.int 120):=⟨_,abg X G W6,⟨_,rfl⟩⟩
 have ba:Cn mg "NOUGHT" (.ref cC):=⟨_,abg X G Ow,rfl⟩
 have be:(cC,[V.int (0),V.int (1)])∈bV:=by rw [ct]; simp
 have dD:Cn mg "WHOLE" (.ref fb):=⟨_,abg X G TH,rfl⟩
 have dE:(fb,[V.int (1),V.int (1)])∈bV:=by rw [ct]; simp
 have eY:Cn mg "MOST_PIECES" (.int 200):=⟨_,abg X G Af,⟨_,rfl⟩⟩
 have B:Bs mg:=⟨aa1 X G W7,aa1 X G OC,aa1 X G Ag,aa1 X G W8,aa1 X G W9,aa1 X G Xa,aa1 X G TK,aa1 X G OD,aa1 X G TL,aa1 X G Xb,aa1 X G Xc,aa1 X G Xd,aa1 X G Lg,aa1 X G D1,aa1 X G BV,aa1 X G Xe,aa1 X G Xf,aa1 X G Xg,aa1 X G Xh⟩
 have oa:(Xi,(⟨173,44,173,70⟩:Pos),("by_falling_ratio.<locals>.<lambda>":Str))∈cK:=by rw [lt]; simp
 have BW:(Xj,(⟨188,28,188,65⟩:Pos),("in_order.<locals>.<lambda>":Str))∈cK:=by rw [lt]; simp
 have qX:∃ C tl,Ju (ee K) mg "NoLot" C VE tl "ValueError.__new__":=⟨_,CV (abg X G TM) OE⟩
 have qU:∃ C tl,Ju (ee K) mg "NoEnd" C VE tl "ValueError.__new__":=⟨_,CV (abg X G TN) OF⟩
 have cy:∃ C tl,Ju (ee K) mg "NoShares" C VE tl "ValueError.__new__":=⟨_,CV (abg X G GX) D2⟩
 have mL:=abg X G aL
 have zVE:=aa1 X G zE
 have CT:=Nj (ER X) G qc
 have kVE:=Nk qc
 have CE:=Nl (ER X) G qc
 refine ⟨CK,LO,PySem.W.fnOf "law" "law" (gj oz) (cU oz) (aj oz) .none WY WZ W0 WU W1 W2,λs v=>.of_eq rfl,λbase _ _ BB=>?_⟩
 have DR:=Oi (P:=l.prog) (w:=w) (base:=base) (nT CK X G q9) B wj DP
 have bN:=n5 (nT CK X G q8) B DQ DR
 have fV:=Oj (nT CK X G q1) B bN
 have pK:=Ol (nT CK X G q2) B fV bN
 have z7:=K3 (nT CK X G q3) B pK
 have lS:=K4 (nT CK X G q4) B fV
 have lT:=Om (nT CK X G q5) B fV lS
 have uo:=K5 (P:=l.prog) (w:=w) (base:=base) (nT CK X G q6) B
 have cV:=K6 (P:=l.prog) (w:=w) (base:=base) (nT CK X G q7) B
 have sE:=DT (P:=l.prog) (w:=w) (base:=base) (nT CK X G q10) B
 have wm:=GV (P:=l.prog) (w:=w) (base:=base) (LF CK X G q15) B
 have sD:=DU (LF CK X G q11) B wm
 have di:=Oo (LF CK X G q12) B sD sE
 have pL:=BK (P:=l.prog) (w:=w) (base:=base) (LF CK X G q13) B
 have kH:=wq (nT CK X G q14) B qU di
 have lW:=w4 (nT CK X G q14) B di
 have um:=K7 (P:=l.prog) (w:=w) (base:=base) (nT CK X G q16) B
 have pM:=BL (P:=l.prog) (w:=w) (base:=base) (nT CK X G q17) B ba be
 have sH:=DV (P:=l.prog) (w:=w) (base:=base) (LF CK X G q18) B ba be
 have dQ:=sF (LF CK X G q19) B bN
 have gN:=z0 (P:=l.prog) (w:=w) (base:=base) (nT CK X G q20) B
 have dZ:=z5 (nT CK X G q22) B um pL
 have sP:=DW (nT CK X G q21) B dZ
 have GY:=qV (nT CK X G q24) B di
 have je:=sG (nT CK X G q24) B di
 have sJ:=DX (nT CK X G q23) B je dQ di fV pM gN sH dZ
 have ng:=z6 (nT CK X G q25) B dD dE ba be kH di sJ
 have dS:=sM (nT CK X G q28) B ba be dD dE cy cV
 have j7:=tU (nT CK X G q28) B ba be dD dE cV
 have gy:=K8 (nT CK X G q30) B dD dE z7 uo
 have wy:=GW (Oq CK X G q26) B dS gy lT
 have z8:=K9 (Oq CK X G q26) B j7 gy lT
 have cS:=n6 pR B (Jg CK ji) oa BB dQ gN
 have eX:=wt (LF CK X G q29) B ba be dD dE cy cV
 have OG:=w5 (LF CK X G q29) B ba be dD dE cV
 have lU:=BM (P:=l.prog) (w:=w) (base:=base) D3 B (Jg CK tu) BW BB
 have nS:=La (nT CK X G q32) B ba be lU pK cV
 have iG:=qW (df4 CK X G q27) B cS eX dS di gy z8 nS lS dZ
 have kI:=wu (P:=l.prog) (w:=w) (base:=base) (nT CK X G q36) B eY qX
 have lV:=w6 (P:=l.prog) (w:=w) (base:=base) (nT CK X G q36) B eY
 have m7:=z9 (Oq CK X G q35) B lV
 have iF:=DY (P:=l.prog) (w:=w) (base:=base) (nT CK X G q38) B
 have sN:=DZ (Oq CK X G q37) B iF
 have lX:=BN (df4 CK X G q34) B lW m7 sN iF fV sP
 have m9:=Aa (df5 CK X G q39) B ba be cy cS eX kI di lX lT nS
 have j9:=BO (P:=l.prog) (w:=w) (base:=base) (nT CK X G q40) B
 have fS:=w8 (P:=l.prog) (w:=w) (base:=base) (Oq CK X G q41) B
 have gO:=Ab (P:=l.prog) (w:=w) (base:=base) (Oq CK X G q42) B
 have pQ:=BP (nT CK X G q43) B fS gO
 have iH:=BQ (P:=l.prog) (w:=w) (base:=base) (LF CK X G q45) B
 have kJ:=wx (P:=l.prog) (w:=w) (base:=base) (nT CK X G q47) B
 have j8:=BR (nT CK X G q48) B kJ
 have m8:=Ac (P:=l.prog) (w:=w) (base:=base) (LF CK X G q49) B CT zVE kVE
 have lY:=w9 (Oq CK X G q50) B mL CE m8 m9 wy ng iG
 have fF:=Ad (P:=l.prog) (w:=w) (base:=base) (nT CK X G q51) B
 have sQ:=D0 (Oq CK X G q52) B iH fF
 have pN:=BS (nT CK X G q53) B fS iH gO
 have pP:=BU (Oq CK X G q54) B j8 pN
 exact Tz (P:=l.prog) (w:=w) (base:=base) (CK.func (fm (st:=oz) Lb.l Lb.c Lb.k)) B lY j9 sQ pP pQ
theorem walk {l:PySem.W.OpenLaw} {K:Params->au} (hn:l.most=some 63) (Vi:d.params.defaults=[])
  (hY:∀ (w:World) (h:Heap),YP w h->(K w.params).In h /\ ∀ p y q,(p,y,q)∈cK->h.get? p=some (PySem.W.tabObj #[]))
  (F:∀ (w:World) (mg:dG) (fa:Addr) (h:Heap),(K w.params).In h->h.Ns mainGlobals mg->mg d.name=some (.ref fa)->
   jO (K w.params) /\ AY (K w.params) /\ ∃ fd:FuncData,(∀ (s:Shared) (u:Value),BindsTo s fd ⟨[u],[]⟩ [("_law_script",u)]) /\ ∀ base:Heap,(ee (K w.params)).In base->base.Ns mainGlobals mg->MW mg base->nU l.prog w (ee (K w.params)) mg base rp 10 fa fd ["_law_script"] (jL (ee (K w.params)) 1 xU)):
  PySem.W.WalkO q loose XP YP l.row.toRowW d [] (λf vs=>PySem.call f vs):=
 L2.Ji (n:=63) (k:=10) (x:="_law_script") (sp:=λw=>jL (ee (K w.params)) 1 xU) hn (by decide) Vi ⟨rfl,by decide,by decide⟩ hY F (λ_ _ a ns hl hS hC hT=>⟨rfl,[],[.list (ns.map PyData.int)],.bool true,⟨λ_ z=>by simp at z,hC,hT⟩,by rw [Cg]; exact .cons (.lst hS (cO.ints ns)) .nil,KG ns hl,λv H' s h=>by cases h; exact ⟨rfl,s⟩⟩)
end az
open PySem PySem.W PyProof.Rows
set_option tactic.hygienic true
set_option maxRecDepth 100000 in
set_option maxHeartbeats 0 in
theorem PySem.Challenge.cw_lotdraw_k50_rules_refused_holds : PySem.Challenge.rw_lotdraw_k50_rules_refused.Holds := by
 w_on; o_law
 refine PySem.W.holds_open (q:=az.Ak) (loose:=[]) (Xt:=az.hpX) (XP:=XL az.Ak []) (Yf:=Hook.obs (kmHook az.UD az.UE az.G8 az.UG)) (Ya:=Hook.val (kmHook az.UD az.UE az.G8 az.UG)) (YP:=Hook.says (kmHook az.UD az.UE az.G8 az.UG)) (N:=6726) (Hd.Fo ?h1 rfl (λ_=>rfl) az.LH az.LI) (Hook.of _) (Hook.keeps _) (λs e=>xl_of s (Bool.and_eq_true_iff.mp e).1) XL.keeps (by rfl) (by rfl) (by rfl) (λs e=>recFacts_of (Bool.and_eq_true_iff.mp e).2) rfl (by first | assumption | decide +kernel) (by decide +kernel) ⟨rfl,rfl,rfl,rfl,rfl,by decide +kernel⟩ ?hw ?hc
 case h1=>kernel_rfl
 case hw=>w_witness2
 k_fill
 refine az.walk (l:=PySem.Challenge.rw_lotdraw_k50_rules_refused) rfl rfl (λw h Y=>⟨PySem.W.km_in_of Y,λp y q m=>PySem.W.km_tabs_of Y p (L2.Sj rfl m)⟩) ?F
 case F=>
  intro w mg fa h KX G Vj
  refine' az.all_mk KX G Vj ?_ ?_ ?_ ?_ ?_ ?_ ?_ ?_ ?_ ?_ ?_ ?_ ?_ ?_ ?_ ?_ ?_ ?_ ?_ ?_ ?_ ?_ ?_ ?_ ?_ ?_ ?_ ?_ ?_ ?_ ?_ ?_ ?_ ?_ ?_ ?_ ?_ ?_ ?_ ?_ ?_ ?_ ?_ ?_ ?_ ?_ ?_ ?_ ?_ ?_ ?_ ?_ ?_ ?_ ?_ ?_ ?_ ?_ ?_ ?_ ?_ ?_ ?_ ?_ ?_ ?_ ?_ ?_ ?_ ?_ ?_ ?_ ?_ ?_ ?_ ?_ ?_ ?_ ?_ ?_ ?lt ?ct ?ne1_0 ?nl1_0 ?e31 ?_ ?_ ?e33 ?_ ?_ ?_ ?_ ?_ ?_ ?_ ?_ ?_ ?_ ?_
  all_goals try first | (refine' ⟨?x,?y,?z,?t⟩; (case x=>k_is); (case y=>k_is); (case z=>k_is); (case t=>k_is)) | (refine' ⟨_,_,_,_,_,_,_,_,_,_,?_,?_,?_,?_⟩<;>try k_is) | k_is
  (case lt=>rfl)
  (case ct=>rfl)
  (case ne1_0=>decide)
  (case nl1_0=>decide)
  (case e31=>rfl)
  (case e33=>rfl)
  all_goals kernel_rfl
end
