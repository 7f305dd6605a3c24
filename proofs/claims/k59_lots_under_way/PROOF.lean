import PyProof.Rows.All
import Wide.All
import OpenK.AllK
import Wide.FinOn
import Lean
import PyProof.EqAt
import PyProof.EqKinds
import PyProof.TupleCall
import PySem.Challenge.RW_lotdraw_k59_lots_under_way
set_option Elab.async false
set_option linter.all false
set_option maxRecDepth 100000
set_option tactic.hygienic false
theorem wS0:PySem.Challenge.rw_lotdraw_k59_lots_under_way.row.wellSaid=true:=by kernel_rfl
set_option maxHeartbeats 0 in
theorem wS1:PySem.Challenge.rw_lotdraw_k59_lots_under_way.wellSaid=true:=by
 iterate 18 refine PySem.W.look_both ?_ (by kernel_rfl)
 exact wS0
abbrev ak:=PySem.W.Frag
abbrev dO:=PySem.Str->Option PySem.Value
abbrev cz:=List (PySem.Addr×PySem.Obj)
abbrev dz:=PySem.Value->PySem.Shared->Prop
abbrev cA:=List (List Int)
abbrev bU:=List PySem.Value
noncomputable section
def aaa:=@PySem.wpAny_bind
def aab:=@PySem.Heap.get?_push_of_some
def aac:=@Option.bind_some
def aad:=@List.mem_append_right
def aae:=@PySem.wpAny_pure
def aaf:=@List.mem_append
def aag:=@PySem.Heap.get?_push_size
def aah:=@Nat.le_refl
def aai:=@PySem.Heap.lt_size
def aaj:=@List.length_map
def aal:=@List.getElem?_eq_some_iff
def aam:=@List.mem_cons
def aan:=@List.mem_cons_self
def aao:=@Nat.lt_of_lt_of_le
def aap:=@List.mem_cons_of_mem
def aaq:=@if_pos
def aar:=@List.mem_append_left
def aas:=@decide_eq_true
def aat:=@Nat.ne_of_lt
def aau:=@List.getElem?_eq_getElem
def aaw:=@List.map_cons
def aax:=@Bool.and_eq_true
def aaB:=@List.length_append
def aaD:=@List.size_toArray
def aaE:=@List.mem_singleton
def aaO:=@if_neg
def aaP:=@Array.length_toList
def aaR:=@List.length_cons
def aaS:=@decide_eq_true_eq
def aaT:=@List.getElem?_set_ne
def aaW:=@Nat.le_trans
def aaZ:=@Bool.false_ne_true
def aa0:=@PySem.PassesOwn.never
def aa2:=@List.getD_eq_getElem?_getD
def aa3:=@decide_eq_false
def aa4:=@List.getElem?_map
def aa6:=@PySem.wpAny_mono
def aa7:=@List.mem_of_getElem?
def aa8:=@List.getElem?_cons_zero
def aa9:=@List.mem_map
def abb:=@List.map_append
def abh:=@List.getElem?_set_self
def abi:=@PySem.Heap.get?_update_self
def abk:=@List.append_nil
def abl:=@Nat.lt_of_le_of_lt
def abn:=@List.getElem?_cons_succ
def abu:=@PySem.W.mg_of
def abv:=@List.all_eq_true
def abw:=@Int.emod_lt_of_pos
def abx:=@List.length_singleton
def abz:=@PySem.Heap.SameBut.update
def abB:=@Nat.add_le_add_left
def abC:=@Option.some.inj
def abH:=@PySem.W.kia_one
def abJ:=@Int.emod_nonneg
def abK:=@PySem.Heap.size_push
def abL:=@PySem.wpAny_callSpecial?_slot
def abM:=@Nat.lt_irrefl
def abN:=@PySem.wpAny_holding
def abQ:=@Array.getElem?_eq_getElem
def abT:=@PySem.Obj.data_mapFields
def abW:=@List.length_set
def ab0:=@PySem.wpAny_call_entry
def ab1:=@Option.join_some
def ab2:=@PySem.wpAny_truthy_bool
def ab4:=@Int.toNat_natCast
def ab6:=@PySem.F.plainAttrs_list
def ab7:=@congrArg
def ab8:=@Nat.zero_le
def ab9:=@PySem.F.slot_list_append
def aca:=@Option.map_eq_some_iff
def acb:=@Ne.symm
def acf:=@List.length_take
def acg:=@PySem.Heap.get?_update_other
def ach:=@List.append_assoc
def acj:=@List.take_add_one
def ack:=@PySem.F.called_set
def acp:=@Nat.lt_succ_self
def acq:=@PyProof.Rows.callWith_type1
def acr:=@PySem.wpAny_newObj_type
def acs:=@PySem.F.slot_tuple_iterator_next
def acu:=@List.pairwise_cons
def acv:=@PySem.F.type_list_append
def acw:=@List.mem_range
def acx:=@List.getElem?_zipIdx
def acy:=@List.length_eq_zero_iff
def acz:=@List.foldl_append
def acA:=@List.forIn_cons
def acB:=@PySem.codeAny_builtin
def acD:=@PySem.codeAny_mono
def acG:=@PySem.F.slot_str_split
def acI:=@List.cons.inj
def acM:=@Bool.true_and
def acN:=@List.take_length
def acS:=@PySem.wpAny_Call_Name_kw
def acT:=@PySem.wpAny_setField
def acU:=@PySem.Value.type.inj
def acV:=@PySem.Obj.isFreed_of_fields
def acW:=@List.drop_eq_getElem_cons
def acX:=@PySem.wpAny_passesOwn
def acY:=@List.nil_append
def acZ:=@Nat.le_of_lt
def ac0:=@PySem.wpAny_pyIter_enum
def ac1:=@PySem.wpAny_setState_of
def ac2:=@PySem.codeAny_call_builtin
def ac3:=@Nat.lt_succ_of_lt
def ac4:=@beq_iff_eq
def ac5:=@PySem.F.called_enumerate
def ac6:=@PySem.mem_of_lookup
def ac7:=@beq_eq_false_iff_ne
def ac8:=@List.getElem_of_mem
def ac9:=@PySem.wpAny_setEntries_of
def ada:=@Array.toList_append
def adb:=@PySem.wpAny_askSetting
def ade:=@List.not_mem_nil
def adf:=@List.cons_append
def adg:=@Nat.ne_of_gt
def adh:=@PySem.F.plainAttrs_str
def adi:=@Bool.eq_iff_iff
def adj:=@List.length_nil
def adk:=@PySem.wpAny_standAt
def adl:=@List.any_cons
def adm:=@List.length_range
def adn:=@PySem.wpAny_letOwnedTupleGo_enum
def ado:=@PySem.Around.under_plainId
def adp:=@List.getElem?_append_right
def adq:=@Array.getElem?_eq_some_iff
def ads:=@List.drop_eq_nil_iff
def adt:=@List.length_drop
def adv:=@List.getElem_mem
def adw:=@List.map_map
def adx:=@PyProof.Rows.F.entry_set_update_loop
def ady:=@PyProof.Rows.F.plain_set_update_loop
def adz:=@PySem.Heap.get?_update_ne
def adA:=@List.map_congr_left
def adB:=@Int.toNat_of_nonneg
def adC:=@Option.isSome_iff_exists
def adD:=@PySem.F.args_tuple_add_2
def adE:=@List.all_cons
def adF:=@PySem.wpAny_attempt
def adG:=@PySem.F.args_str_split_2
def adH:=@Option.map_some
def adI:=@PySem.wpAny_execs_nil
def adJ:=@PySem.tupleKind_room_in1
def adK:=@PySem.F.args_tuple_iterator_next_1
def adL:=@List.getElem?_drop
def adM:=@List.length_zipIdx
def adN:=@Nat.le_succ
def adO:=@PySem.F.entry_tuple_add
def adP:=@PySem.F.entry_str_split
def adQ:=@PySem.F.entry_tuple_iterator_next
def adR:=@PySem.F.slot_tuple_add
def adS:=@PySem.Calls.callWith_builtin
def adT:=@PySem.F.slot_list_extend
def adU:=@PySem.wpAny_pyIter_list
def adV:=@PySem.Obj.cls_mapFields
def adW:=@Array.toList_push
def adX:=@PySem.isSubtype_type
def adY:=@Array.getElem?_eq_none
def adZ:=@List.take_of_length_le
def ad0:=@of_decide_eq_true
def ad1:=@Int.le_of_lt
def ad2:=@PySem.StrLaws.joinFits
def ad3:=@List.length_replicate
def ad4:=@PySem.F.slot_dict_get
def ad5:=@List.take_append_drop
def ad6:=@List.getElem?_eq_none
def ad7:=@PySem.wpAny_rule
def ad8:=@List.range'_succ
def ad9:=@Array.toList_inj
def aea:=@PySem.plainId_quiet
def aeb:=@PySem.Calls.evalArgs_plain
def aed:=@PySem.Str.ext'
def aee:=@Nat.pow_le_pow_right
def aef:=@List.mem_filter
def aeg:=@List.nodup_cons
def aeh:=@PySem.F.slot_zip_next
def aei:=@PySem.W.plainGet_of
def aej:=@ne_true_of_eq_false
def aek:=@List.getElem?_range
def ael:=@List.any_map
def aep:=@Nat.zero_add
def aer:=@List.mem_filterMap
def aet:=@PySem.typeIs_str
def aev:=@PySem.call_meets
def aew:=@Array.append_empty
def aex:=@PySem.wpAny_seqItems
def aez:=@PySem.wpAny_fieldsOf
def aeB:=@List.take_zero
def aeC:=@PySem.Str.cps_append
def aeD:=@List.set_cons_zero
def aeK:=@PySem.W.kitx_list
def aeM:=@Option.isSome_map
def aeN:=@PySem.wpAny_of_eq
def aeP:=@Bool.not_eq_true'
def aeQ:=@Bool.eq_false_iff
def ae0:=@List.lookup_cons
def ae1:=@List.drop_length
def ae2:=@Nat.succ_ne_self
def ae3:=@Nat.le_of_not_lt
def ae6:=@List.any_eq_true
def ae7:=@Nat.succ_le_succ
def afb:=@List.map_nil
def afg:=@Nat.sub_self
namespace L2
open PySem
noncomputable def inClass(s:Stmt)(j:Nat):Stmt:=match s with
 |.ClassDef _ _ _ body _ _ _ _ _ _ _=>body.getD j (.Pass ⟨0,0,0,0⟩)
 |_=>.Pass ⟨0,0,0,0⟩
def d8(s:Stmt):Arguments:=match s with
 |.FunctionDef _ a _ _ _ _ _ _ _ _=>a
 |_=>{posonlyargs:=[],args:=[],vararg:=none,kwonlyargs:=[],kw_defaults:=[],kwarg:=none,defaults:=[]}
def bP(s:Stmt):List Stmt:=match s with
 |.FunctionDef _ _ b _ _ _ _ _ _ _=>b
 |_=>[]
noncomputable def ah(s:Stmt):Scope:=match s with
 |.FunctionDef _ _ _ _ _ _ sc _ _ _=>sc
 |_=>{kind:=.function,names:=[],isGenerator:=false,isCoroutine:=false}
end L2
namespace Hd
open PySem PySem.W
noncomputable def xJ(tb:String->Option Builtin)(p:Program)(w:World)(m:Nat)(ann:Option Value):Nat->SharedT->Thread->Option SharedT
 |0,_,_=>none
 |n+1,s,t=>match through t with
   |true=>some s
   |false=>match stepOk m ann t with
     |false=>none
     |true=>match stepT (denote tb) p w s t with
       |some (s',t')=>xJ tb p w m ann n s' t'
       |none=>none
theorem Gd:∀{n:Nat} {s s':SharedT} {t:Thread},xJ tb p w m ann n s t=some s'->topRun tb p w m ann n s.abs t=some s'.abs
 |0,_,_,_,h=>by cases h
 |n+1,s,s',t,h=>by
   unfold xJ at h;unfold topRun;cases he:through t with
   |true=>rw[he]at h;cases h;rfl
   |false=>
     rw[he]at h;cases hk:stepOk m ann t with
     |false=>rw[hk]at h;cases h
     |true=>
       rw[hk]at h;cases hs:stepT (denote tb) p w s t with
       |none=>rw[hs]at h;cases h
       |some r=>obtain⟨s2,t2⟩:=r;rw[hs]at h;rw[stepT_spec hs];exact Gd h
def Qr(P:Params):BT:=(.node (boot_o_0 P) (.node (boot_o_1 P) (.node (boot_o_3 P) (.node (boot_o_7 P) .nil .nil) .nil) (.node (boot_o_5 P) (.node (boot_o_9 P) .nil .nil) .nil)) (.node (boot_o_2 P) (.node (boot_o_4 P) (.node (boot_o_8 P) .nil .nil) .nil) (.node (boot_o_6 P) (.node (boot_o_10 P) .nil .nil) .nil)))
theorem boot_abs(P:Params):boot_heap P=absHeap (Qr P) 11 (boot_heap P).life:=by kernel_rfl
def uc(w:World)(os:OsState):SharedT:=⟨Qr w.params,11,(boot_heap w.params).life,Array.mk [],boot_drawn,boot_toks,os⟩
theorem NK(w:World)(os:OsState):(uc w os).abs=⟨boot_heap w.params,Array.mk [],boot_drawn,boot_toks,os⟩:=rfl
theorem HG(P:Params):((boot_heap P).isNs mainGlobals,(boot_heap P).objs.size,(boot_heap P).nsMap mainGlobals "__annotations__")=(true,11,some (.ref 6)):=by kernel_rfl
theorem HH{Ya:World->α}(e:opening p=plainProg p.main.scope.names)(hN:Nat.ble 600 N=true)(f:∀s,fenceModules? p s=some s)
  (one:∀(w:World) (os:OsState),(xJ treeTable p w 11 (some (.ref 6)) N (uc w os) (topStub p)).map (λs=>((staticsOk (importedModules p.main.body) (boot_heap w.params) s.abs.heap&&namesBound p s.abs.heap&&gensDone s.abs&&laidKept (boot_heap w.params) s.abs.heap),Yf s.abs))=some (true,Ya w))
  (two:∀(w:World) (os:OsState),(xJ treeTable p w 11 (some (.ref 6)) N (uc w os) (topStub p)).map (λs=>openSeen q loose (importedModules p.main.body) Xt true s.abs)=some (openGood q loose)):
  LeftO p q loose Xt Yf Ya N:=λw=>by
 obtain⟨⟨h,gs,d,k,os⟩,e1,e2⟩:=aca.mp (boot_open e hN f w)
 obtain⟨rfl,rfl,rfl,rfl⟩:h=boot_heap w.params/\gs=Array.mk []/\d=boot_drawn/\k=boot_toks:=by simpa using e2
 obtain⟨s,r,l⟩:=aca.mp (one w os)
 obtain⟨l1,l3⟩:_/\_:=by simpa only[Prod.mk.injEq]using l
 have l2:openSeen q loose (importedModules p.main.body) Xt true s.abs=openGood q loose:=by grind
 obtain⟨z1,z2,z3⟩:_/\_/\_:=by simpa only[Prod.mk.injEq]using HG w.params
 have r':=Gd r
 rw[NK]at r'
 have t:topFrom treeTable p w N ⟨boot_heap w.params,Array.mk [],boot_drawn,boot_toks,os⟩=some s.abs:=by
  unfold topFrom;rw[z1,z2,z3,r'];show(match staticsOk (importedModules p.main.body) (boot_heap w.params) s.abs.heap&&namesBound p s.abs.heap&&gensDone s.abs&&laidKept (boot_heap w.params) s.abs.heap with|true=>_|false=>_)=_;rw[l1]
 unfold openEnds
 rw[e1]
 show(topFrom treeTable p w N ⟨boot_heap w.params,Array.mk [],boot_drawn,boot_toks,os⟩).map _=_
 rw[t,adH,l2,l3]
noncomputable def Sv:List Obj->List Obj
 |[]=>[]
 |[a]=>[a]
 |a::_::l=>a::Sv l
def JN:Nat->List Obj->BT
 |0,_=>.nil
 |_+1,[]=>.nil
 |n+1,o::l=>.node o (JN n (Sv l)) (JN n (Sv l.tail))
noncomputable abbrev Qs(f:FuncData):FuncData:={f with globals:=0}
def litS(n:Nat)(l:List Obj)(life:Life)(toks:Nat)(os:OsState):SharedT:=⟨JN 12 l,n,life,Array.mk [],boot_drawn,toks,os⟩
theorem ext3{A B C D:Type}{f g:A×B×C×D}(h1:f.1=g.1)(h2:(f.2.1,f.2.2.1)=(g.2.1,g.2.2.1))(h3:f.2.2.2=g.2.2.2):f=g:=by lia
theorem JO{Ya:World->α}(e:opening p=plainProg p.main.scope.names)(hN:Nat.ble 600 N=true)(f:∀s,fenceModules? p s=some s)(E:World->OsState->SharedT)
  (run:∀(w:World) (os:OsState),xJ treeTable p w 11 (some (.ref 6)) N (uc w os) (topStub p)=some (E w os))
  (one:∀(w:World) (os:OsState),((staticsOk (importedModules p.main.body) (boot_heap w.params) (E w os).abs.heap&&namesBound p (E w os).abs.heap&&gensDone (E w os).abs&&laidKept (boot_heap w.params) (E w os).abs.heap),Yf (E w os).abs)=(true,Ya w))
  (two:∀(w:World) (os:OsState),openSeen q loose (importedModules p.main.body) Xt true (E w os).abs=openGood q loose):LeftO p q loose Xt Yf Ya N:=
 HH e hN f (λw os=>(ab7 (Option.map _) (run w os)).trans (ab7 some (one w os))) (λw os=>(ab7 (Option.map _) (run w os)).trans (ab7 some (two w os)))
end Hd
namespace aC
open PySem PySem.W L2
noncomputable def top (i:Nat):Stmt:=PySem.Challenge.pw_lotdraw_k59_lots_under_way.main.body.getD i (.Pass ⟨0,0,0,0⟩)
def qt:Program:={ PySem.Challenge.pw_lotdraw_k59_lots_under_way with main:={ PySem.Challenge.pw_lotdraw_k59_lots_under_way.main with body:=[top 1,top 2,top 3,top 4,top 5,top 6,top 7,top 8,top 9,top 10,top 11,top 13,top 14,top 15,top 16,top 17,top 18,top 19,top 20,top 21,top 22,top 23,top 24,top 26,top 27,top 28,top 29,top 30,top 31,top 32,top 33,top 34,top 35,top 36,top 37,top 39,top 40,top 41,top 42,top 43,top 44,top 45,top 47,top 48,top 49,top 51,top 52,top 53,top 54,top 56,top 57,top 59,top 60,top 61,top 62,top 63,top 64,top 65,top 66,top 67,top 69,top 71,top 72,top 73,top 74,top 75,top 76,top 77,top 78,top 80,top 81,top 82,top 83,top 84,top 86,top 87,top 88,top 89,top 90,top 91,top 92,top 94,top 96,top 97,top 98,top 99,top 100,top 101,top 103,top 104,top 105,top 106,top 107,top 109,top 110,top 111,top 112,top 113,top 114,top 115,top 116,top 117,top 118,top 119,top 120,top 121,top 122] } }
noncomputable abbrev eT:Obj:=⟨(.type "tuple"),none,(.seq #[] 0),#[]⟩
abbrev nT:Obj:=⟨.none,none,(.fields #[]),#[]⟩
noncomputable def vT(t:Nat)(ns:List Str):Obj:=⟨.type "tuple",none,.seq ((ns.zipIdx t).map λx=>.str x.1 x.2).toArray 0,#[]⟩
def tT(c:Int)(l:List (Int×Addr)):Obj:=⟨.none,none,.fields (l.flatMap λx=>[.int x.1 0,.int c 0,.ref x.2]).toArray,#[]⟩
abbrev gF(n q:Str)(s:Stmt):Obj:=⟨.none,none,.func (Hd.Qs (fnOf n q (d8 s) (bP s) (ah s) .none .none .none .none none .none .none)),#[]⟩
noncomputable abbrev cO(n q:Str)(t l a b:Nat)(x y:Value)(g e:Nat):Obj:=⟨.type "code",none,.fields #[.str n t,.str q (t+1),.str "/claim/cut.py" (t+2),.int l 0,.int a 0,.int 0 0,.int 0 0,.int 3 0,.ref b,.bool true,.int 181 0,.ref (b+1),.none,x,y,.ref g,.int e 0,.int l 0,.str "/claim/cut.py" (e+1)],#[]⟩
abbrev c7(n q:Str)(t l a b v:Nat):Obj:=cO n q t l a b (.ref (b+2)) (.ref (b+3)) (b+4) (t+3+v)
abbrev c5(n q:Str)(t l a b:Nat):Obj:=cO n q t l a b .none .none (b+2) (t+3)
abbrev fF(n q:Str)(s:Stmt)(m:Str×Nat)(c:Nat):Obj:=⟨.type "function",none,.func (fnOf n q (d8 s) (bP s) (ah s) .none .none .none (.str m.1 m.2) none (.ref c) .none),#[]⟩
def b7(n q:Str)(s:Stmt)(t l a b:Nat)(m:Str×Nat)(vs:List Str):List Obj:=[eT,nT,vT (t+3) vs,eT,gF n q s,c7 n q t l a b vs.length,fF n q s m (b+5)]
def b5(n q:Str)(s:Stmt)(t l a b:Nat)(m:Str×Nat):List Obj:=[eT,nT,gF n q s,c5 n q t l a b,fF n q s m (b+3)]
def d7(n:Str)(i t l a b:Nat)(m:Str×Nat)(vs:List Str):=b7 n n (top i) t l a b m vs
def d5(n:Str)(i t l a b:Nat)(m:Str×Nat):=b5 n n (top i) t l a b m
abbrev e7(n:Str)(t l a b v:Nat):=c7 n n t l a b v
abbrev e5(n:Str)(t l a b:Nat):=c5 n n t l a b
abbrev f7(n:Str)(i:Nat)(m:Str×Nat)(c:Nat):=fF n n (top i) m c
abbrev w0:Str×Nat:=("lotdraw.fracs",367)
abbrev w1:Str×Nat:=("lotdraw.plans",464)
abbrev w2:Str×Nat:=("lotdraw.polys",547)
abbrev w3:Str×Nat:=("lotdraw.ways",604)
abbrev w4:Str×Nat:=("lotdraw.odds",634)
abbrev w5:Str×Nat:=("lotdraw.only",664)
abbrev w6:Str×Nat:=("lotdraw.rules",681)
abbrev w7:Str×Nat:=("lotdraw.tellings",763)
abbrev w8:Str×Nat:=("lotdraw.texts",773)
abbrev w9:Str×Nat:=("lotdraw.answers",816)
abbrev Nl:Str×Nat:=("lotdraw.deeds",852)
abbrev w11:Str×Nat:=("lotdraw.words",960)
abbrev Bt:Str×Nat:=("lotdraw.desk",1019)
abbrev rH:Str×Nat:=("law_lotdraw_k59_lots_under_way",1126)
noncomputable abbrev ent(P:Params)(k:Str)(n:Nat)(v:Value):DictEntry:=⟨PyData.keyHash P k,.str k n,v⟩
noncomputable abbrev HI(P:Params):=λx0 x1 x2 x3 x4 x5 x6 x7 x8=>(⟨(.type "code"),none,(.fields #[(.str x0 x1),(.str x0 x2),(.str "/claim/cut.py" x3),(.int x4 0),(.int 0 0),(.int 0 0),(.int 0 0),(.int 0 0),(.ref x5),(.bool false),(.int 181 0),(.ref x6),.none,.none,.none,.none,(.int x7 0),(.int x4 0),(.str "/claim/cut.py" x8)]),#[]⟩:Obj)
noncomputable abbrev uz(P:Params):=λx0 x1 x2 x3=>(⟨(.type "frame"),none,.plain,#[(some (.ref x0)),(some (.ref 3)),(some (.ref x1)),none,(some (.str x2 x3)),none,(some (.ref 0))]⟩:Obj)
abbrev oP(P:Params):=λx0 x1 x2 x3 x4 x5 x6 x7 x8=>(⟨(.type "dict"),none,(.dict #[(ent P "__module__" x0 (.str "lotdraw.errors" 187)),(ent P "__qualname__" x1 (.str x2 x3)),(ent P "__firstlineno__" x4 (.int x5 x6)),(ent P "__static_attributes__" x7 (.ref x8))] 4),#[]⟩:Obj)
noncomputable abbrev Ge(P:Params):=λx0=>(⟨(.type "super"),none,(.fields #[(.ref x0),(.ref x0),(.ref x0)]),#[]⟩:Obj)
noncomputable abbrev JD(P:Params):=λx0=>(⟨(.type "builtin_function_or_method"),none,(.fields #[(.builtin "object.__init_subclass__"),(.ref x0)]),#[]⟩:Obj)
abbrev Nn(P:Params):=λx0 x1 x2 x3 x4 x5 x6=>(⟨(.type "dict"),none,(.dict #[(ent P "__module__" x0 (.str "lotdraw.errors" 187)),(ent P "__firstlineno__" x1 (.int x2 x3)),(ent P "__static_attributes__" x4 (.ref x5)),(ent P "__doc__" x6 .none)] 2),#[]⟩:Obj)
noncomputable abbrev Np(P:Params):=λx0 x1 x2 x3 x4 x5=>(⟨(.type "type"),none,(.cls ⟨x0,[(.ref 24)],[(.ref x1),(.ref 24),(.type "ValueError"),(.type "Exception"),(.type "BaseException"),(.type "object")],x2,x0,true,[],[],false,none,false⟩),#[(some (.ref x3)),none,(some (.str x0 x4)),(some (.str x0 x5)),(some (.builtin "ValueError.__new__")),(some (.bool true))]⟩:Obj)
noncomputable abbrev Wt(P:Params):=λx0 x1=>(⟨(.type "tuple"),none,(.seq #[(.str x0 x1)] 0),#[]⟩:Obj)
noncomputable abbrev VT(P:Params):=λx0 x1 x2 x3=>(⟨(.type "tuple"),none,(.seq #[(.str x0 x1),(.str x2 x3)] 0),#[]⟩:Obj)
noncomputable abbrev ZK(P:Params):=λx0 x1 x2 x3 x4 x5 x6 x7 x8 x9=>(⟨(.type "tuple"),none,(.seq #[(.str x0 x1),(.str x2 x3),(.str x4 x5),(.str x6 x7),(.str x8 x9)] 0),#[]⟩:Obj)
abbrev NL(P:Params):=λx0 x1=>(⟨.none,none,.func (Hd.Qs (fnOf x0 x0 (d8 (top x1)) (bP (top x1)) (ah (top x1)) .none .none .none .none none .none .none)),#[]⟩:Obj)
noncomputable abbrev NM(P:Params):=λx0 x1 x2 x3 x4 x5 x6 x7 x8 x9 x10 x11 x12=>(⟨(.type "code"),none,(.fields #[(.str x0 x1),(.str x0 x2),(.str "/claim/cut.py" x3),(.int x4 0),(.int x5 0),(.int 0 0),(.int 0 0),(.int 3 0),(.ref x6),(.bool true),(.int 181 0),(.ref x7),.none,(.ref x8),(.ref x9),(.ref x10),(.int x11 0),(.int x4 0),(.str "/claim/cut.py" x12)]),#[]⟩:Obj)
abbrev NN(P:Params):=λx0 x1 x2=>(⟨(.type "function"),none,.func (fnOf x0 x0 (d8 (top x1)) (bP (top x1)) (ah (top x1)) .none .none .none (.str "lotdraw.words" 960) none (.ref x2) .none),#[]⟩:Obj)
noncomputable abbrev JE(P:Params):Obj:=⟨(.type "builtin_function_or_method"),none,(.fields #[(.builtin "type.__prepare__"),(.type "type")]),#[]⟩
noncomputable abbrev Nq(P:Params):Obj:=⟨(.type "tuple"),none,(.seq #[(.ref 24)] 0),#[]⟩
noncomputable abbrev k2(P:Params):Obj:=⟨.none,none,(.dict #[] 0),#[]⟩
abbrev k3(P:Params):Obj:=⟨(.type "dict"),none,(.dict #[(ent P "__name__" 165 (.str "law_lotdraw_k59_lots_under_way" 1126)),(ent P "__doc__" 166 .none),(ent P "__package__" 167 .none),(ent P "__loader__" 168 (.builtin "__main__.__loader__#opaque")),(ent P "__spec__" 169 .none),(ent P "__annotations__" 170 (.ref 6)),(ent P "__builtins__" 171 (.ref 4)),(ent P "__file__" 173 (.str "/claim/cut.py" 172)),(ent P "__cached__" 174 .none),(ent P "LotError" 206 (.ref 24)),(ent P "NoNumber" 222 (.ref 37)),(ent P "NoPlan" 238 (.ref 49)),(ent P "TooLong" 254 (.ref 61)),(ent P "NoText" 270 (.ref 73)),(ent P "NoEnd" 286 (.ref 85)),(ent P "NoTelling" 302 (.ref 97)),(ent P "NoShares" 318 (.ref 109)),(ent P "NoDeed" 334 (.ref 121)),(ent P "NoName" 350 (.ref 133)),(ent P "NoDraw" 366 (.ref 145)),(ent P "LONG" 370 (.int 4000 369)),(ent P "WINDOW" 372 (.int 240 371)),(ent P "SHED" 374 (.int 120 373)),(ent P "frac" 383 (.ref 154)),(ent P "plus" 395 (.ref 161)),(ent P "minus" 403 (.ref 168)),(ent P "times" 413 (.ref 175)),(ent P "over" 421 (.ref 182)),(ent P "power" 432 (.ref 189)),(ent P "under" 440 (.ref 196)),(ent P "greatest_divisor" 450 (.ref 203)),(ent P "leap" 463 (.ref 210)),(ent P "MOST_PLACES" 467 (.int 24 466)),(ent P "is_plan" 476 (.ref 217)),(ent P "goes_on" 485 (.ref 224)),(ent P "come_to" 491 (.ref 229)),(ent P "ends" 497 (.ref 234)),(ent P "drawn_on" 503 (.ref 239)),(ent P "check_ends" 513 (.ref 246)),(ent P "plan_while" 519 (.ref 251)),(ent P "led_to" 525 (.ref 256)),(ent P "after" 533 (.ref 263)),(ent P "is_place" 539 (.ref 268)),(ent P "is_whole" 546 (.ref 275)),(ent P "NOUGHT" 551 (.ref 276)),(ent P "scaled" 557 (.ref 281)),(ent P "worth" 569 (.ref 288)),(ent P "of_count" 580 (.ref 295)),(ent P "trimmed" 588 (.ref 302)),(ent P "common_bottom" 597 (.ref 309)),(ent P "tops_over" 603 (.ref 314)),(ent P "ways_to" 613 (.ref 321)),(ent P "first_bad" 621 (.ref 328)),(ent P "ways_from" 633 (.ref 335)),(ent P "odds" 643 (.ref 342)),(ent P "mean_of" 649 (.ref 347)),(ent P "mean_draws" 655 (.ref 352)),(ent P "check_telling" 663 (.ref 359)),(ent P "stretches" 674 (.ref 366)),(ent P "is_side_by_side" 680 (.ref 371)),(ent P "WHOLE" 685 (.ref 372)),(ent P "ratio" 694 (.ref 379)),(ent P "rule_by_ratio" 708 (.ref 386)),(ent P "check_shares" 716 (.ref 393)),(ent P "check_most" 723 (.ref 400)),(ent P "often" 733 (.ref 407)),(ent P "by_falling_ratio" 739 (.ref 412)),(ent P "taken" 755 (.ref 419)),(ent P "in_order" 762 (.ref 426)),(ent P "share_at" 772 (.ref 433)),(ent P "FIGURES" 776 (.str "0123456789" 775)),(ent P "MOST_FIGURES_texts" 778 (.int 2 777)),(ent P "show_plan" 784 (.ref 438)),(ent P "show_place" 790 (.ref 443)),(ent P "read_plan" 796 (.ref 448)),(ent P "read_place" 802 (.ref 453)),(ent P "read_number" 809 (.ref 460)),(ent P "is_number" 815 (.ref 465)),(ent P "answer_of" 827 (.ref 472)),(ent P "show_rule" 833 (.ref 477)),(ent P "show_counts" 839 (.ref 482)),(ent P "show_count" 845 (.ref 487)),(ent P "show_fraction" 851 (.ref 492)),(ent P "MOST_FIGURES_deeds" 855 (.int 30 854)),(ent P "FORMS" 912 (.ref 493)),(ent P "read_row" 921 (.ref 516)),(ent P "read_words" 927 (.ref 521)),(ent P "read_word" 935 (.ref 528)),(ent P "read_whole" 942 (.ref 535)),(ent P "read_fraction" 951 (.ref 542)),(ent P "check" 958 (.ref 584)),(ent P "check_deeds" 959 (.ref 549)),(ent P "so_many" 969 (.ref 556)),(ent P "till" 979 (.ref 563)),(ent P "two_steps" 994 (.ref 570)),(ent P "between" 1010 (.ref 577)),(ent P "check_words" 1018 (.ref 584)),(ent P "LETTERS" 1022 (.str "abcdefghijklmnopqrstuvwxyz" 1021)),(ent P "MOST_LETTERS" 1024 (.int 8 1023)),(ent P "Desk" 1111 (.ref 643)),(ent P "check_name" 1117 (.ref 652)),(ent P "plan_by" 1125 (.ref 659)),(ent P "_law_cell" 1135 (.ref 666)),(ent P "_law_digits" 1146 (.ref 673)),(ent P "_law_mixes" 1158 (.ref 680)),(ent P "_law_plan" 1164 (.ref 685)),(ent P "_law_most" 1171 (.ref 692)),(ent P "_law_numbers" 1177 (.ref 697)),(ent P "_law_ways" 1190 (.ref 704)),(ent P "_law_written" 1196 (.ref 709)),(ent P "_law_names" 1202 (.ref 714)),(ent P "_law_share" 1219 (.ref 721)),(ent P "_law_drawn" 1234 (.ref 728)),(ent P "_law_put" 1244 (.ref 735)),(ent P "_law_at" 1254 (.ref 742)),(ent P "law" 1270 (.ref 749))] 116),#[]⟩
abbrev k23(P:Params):Obj:=⟨(.type "dict"),none,(.dict #[(ent P "__module__" 196 (.str "lotdraw.errors" 187)),(ent P "__firstlineno__" 200 (.int 2 199)),(ent P "__static_attributes__" 201 (.ref 22)),(ent P "__weakref__" 203 (.ref 25)),(ent P "__doc__" 204 .none)] 3),#[]⟩
noncomputable abbrev k24(P:Params):Obj:=⟨(.type "type"),none,(.cls ⟨"LotError",[(.type "ValueError")],[(.ref 24),(.type "ValueError"),(.type "Exception"),(.type "BaseException"),(.type "object")],23,"LotError",true,[],[(.ref 37),(.ref 49),(.ref 61),(.ref 73),(.ref 85),(.ref 97),(.ref 109),(.ref 121),(.ref 133),(.ref 145)],false,none,false⟩),#[(some (.ref 15)),none,(some (.str "LotError" 189)),(some (.str "LotError" 197)),(some (.builtin "ValueError.__new__")),(some (.bool true))]⟩
noncomputable abbrev k25(P:Params):Obj:=⟨(.type "getset_descriptor"),none,(.fields #[(.str "__weakref__" 202),(.ref 24),(.builtin "ExceptionGroup.__weakref__"),.none]),#[]⟩
abbrev k36(P:Params):Obj:=Nn P 214 218 4 217 219 35 220
abbrev k37(P:Params):Obj:=Np P "NoNumber" 37 36 28 207 215
abbrev k48(P:Params):Obj:=Nn P 230 234 6 233 235 47 236
abbrev k49(P:Params):Obj:=Np P "NoPlan" 49 48 40 223 231
abbrev k60(P:Params):Obj:=Nn P 246 250 8 249 251 59 252
abbrev k61(P:Params):Obj:=Np P "TooLong" 61 60 52 239 247
abbrev k72(P:Params):Obj:=Nn P 262 266 10 265 267 71 268
abbrev k73(P:Params):Obj:=Np P "NoText" 73 72 64 255 263
abbrev k84(P:Params):Obj:=Nn P 278 282 12 281 283 83 284
abbrev k85(P:Params):Obj:=Np P "NoEnd" 85 84 76 271 279
abbrev k96(P:Params):Obj:=Nn P 294 298 14 297 299 95 300
abbrev k97(P:Params):Obj:=Np P "NoTelling" 97 96 88 287 295
abbrev Wu(P:Params):Obj:=Nn P 310 314 16 313 315 107 316
abbrev Wv(P:Params):Obj:=Np P "NoShares" 109 108 100 303 311
abbrev Ww(P:Params):Obj:=Nn P 326 330 18 329 331 119 332
abbrev Wx(P:Params):Obj:=Np P "NoDeed" 121 120 112 319 327
abbrev Wy(P:Params):Obj:=Nn P 342 346 20 345 347 131 348
abbrev Wz(P:Params):Obj:=Np P "NoName" 133 132 124 335 343
abbrev WA(P:Params):Obj:=Nn P 358 362 22 361 363 143 364
abbrev WB(P:Params):Obj:=Np P "NoDraw" 145 144 136 351 359
noncomputable abbrev WC(P:Params):Obj:=⟨(.type "tuple"),none,(.seq #[(.int 0 549),(.int 1 550)] 0),#[]⟩
noncomputable abbrev WD(P:Params):Obj:=⟨(.type "tuple"),none,(.seq #[(.int 1 683),(.int 1 684)] 0),#[]⟩
abbrev WE(P:Params):Obj:=⟨(.type "dict"),none,(.dict #[(ent P "plan many" 856 (.ref 494)),(ent P "plan till" 859 (.ref 495)),(ent P "plan steps" 863 (.ref 496)),(ent P "plan between" 869 (.ref 497)),(ent P "show" 876 (.ref 498)),(ent P "ends" 878 (.ref 499)),(ent P "ways" 880 (.ref 500)),(ent P "odds" 884 (.ref 501)),(ent P "mean" 889 (.ref 502)),(ent P "share" 892 (.ref 503)),(ent P "judge" 896 (.ref 504)),(ent P "rule" 898 (.ref 505)),(ent P "lot" 903 (.ref 506)),(ent P "bad" 906 (.ref 507)),(ent P "good" 908 (.ref 508)),(ent P "at" 910 (.ref 509))] 16),#[]⟩
abbrev WG(P:Params):Obj:=Wt P "number" 857
abbrev WH(P:Params):Obj:=VT P "number" 860 "number" 861
noncomputable abbrev WI(P:Params):Obj:=⟨(.type "tuple"),none,(.seq #[(.str "number" 864),(.str "number or -1" 865),(.str "number" 866),(.str "number" 867)] 0),#[]⟩
abbrev WJ(P:Params):Obj:=ZK P "number" 870 "number" 871 "number" 872 "number" 873 "number" 874
abbrev WK(P:Params):Obj:=eT
abbrev WL(P:Params):Obj:=eT
abbrev WM(P:Params):Obj:=VT P "number" 881 "number" 882
noncomputable abbrev WN(P:Params):Obj:=⟨(.type "tuple"),none,(.seq #[(.str "number" 885),(.str "number" 886),(.str "fraction" 887)] 0),#[]⟩
abbrev WO(P:Params):Obj:=Wt P "fraction" 890
abbrev WQ(P:Params):Obj:=VT P "number" 893 "number" 894
abbrev WR(P:Params):Obj:=eT
noncomputable abbrev WS(P:Params):Obj:=⟨(.type "tuple"),none,(.seq #[(.str "fraction" 899),(.str "fraction" 900),(.str "fraction" 901)] 0),#[]⟩
abbrev WT(P:Params):Obj:=Wt P "name" 904
abbrev WU(P:Params):Obj:=eT
abbrev WV(P:Params):Obj:=eT
abbrev WX(P:Params):Obj:=eT
abbrev WY(P:Params):Obj:=⟨(.type "dict"),none,(.dict #[(ent P "__module__" 1032 (.str "lotdraw.desk" 1019)),(ent P "__firstlineno__" 1036 (.int 378 1035)),(ent P "__init__" 1043 (.ref 598)),(ent P "say" 1055 (.ref 605)),(ent P "put_plan" 1064 (.ref 612)),(ent P "begin_lot" 1073 (.ref 619)),(ent P "draw" 1085 (.ref 626)),(ent P "plan_named" 1093 (.ref 633)),(ent P "lot_named" 1101 (.ref 640)),(ent P "__static_attributes__" 1104 (.ref 641)),(ent P "__dict__" 1106 (.ref 644)),(ent P "__weakref__" 1108 (.ref 645)),(ent P "__doc__" 1109 .none)] 4),#[]⟩
noncomputable abbrev WZ(P:Params):Obj:=⟨(.type "type"),none,(.cls ⟨"Desk",[(.type "object")],[(.ref 643),(.type "object")],642,"Desk",true,[],[],false,none,false⟩),#[none,none,(some (.str "Desk" 1025)),(some (.str "Desk" 1033)),(some (.builtin "object.__new__")),(some (.bool true))]⟩
noncomputable abbrev W0(P:Params):Obj:=⟨(.type "getset_descriptor"),none,(.fields #[(.str "__dict__" 1105),(.ref 643),(.builtin "function.__dict__"),(.builtin "function.__dict__#set")]),#[]⟩
noncomputable abbrev W1(P:Params):Obj:=⟨(.type "getset_descriptor"),none,(.fields #[(.str "__weakref__" 1107),(.ref 643),(.builtin "ExceptionGroup.__weakref__"),.none]),#[]⟩
def W2:Params->Frag:=λP=>(nat_lit 2,k2 P) ::
 (nat_lit 3,k3 P) ::
 (nat_lit 23,k23 P) ::
 (nat_lit 24,k24 P) ::
 (nat_lit 25,k25 P) ::
 (nat_lit 36,k36 P) ::
 (nat_lit 37,k37 P) ::
 (nat_lit 48,k48 P) ::
 (nat_lit 49,k49 P) ::
 (nat_lit 60,k60 P) ::
 (nat_lit 61,k61 P) ::
 (nat_lit 72,k72 P) ::
 (nat_lit 73,k73 P) ::
 (nat_lit 84,k84 P) ::
 (nat_lit 85,k85 P) ::
 (nat_lit 96,k96 P) ::
 (nat_lit 97,k97 P) ::
 (nat_lit 108,Wu P) ::
 (nat_lit 109,Wv P) ::
 (nat_lit 120,Ww P) ::
 (nat_lit 121,Wx P) ::
 (nat_lit 132,Wy P) ::
 (nat_lit 133,Wz P) ::
 (nat_lit 144,WA P) ::
 (nat_lit 145,WB P) ::
 (nat_lit 153,e7 "frac" 375 28 2 148 3) ::
 (nat_lit 154,f7 "frac" 16 w0 153) ::
 (nat_lit 202,e7 "greatest_divisor" 441 58 2 197 4) ::
 (nat_lit 203,f7 "greatest_divisor" 23 w0 202) ::
 (nat_lit 216,e7 "is_plan" 468 82 1 211 3) ::
 (nat_lit 217,f7 "is_plan" 27 w1 216) ::
 (nat_lit 223,e7 "goes_on" 477 91 2 218 3) ::
 (nat_lit 224,f7 "goes_on" 28 w1 223) ::
 (nat_lit 228,e5 "come_to" 486 94 1 225) ::
 (nat_lit 229,f7 "come_to" 29 w1 228) ::
 (nat_lit 233,e5 "ends" 492 99 1 230) ::
 (nat_lit 234,f7 "ends" 30 w1 233) ::
 (nat_lit 238,e5 "drawn_on" 498 101 1 235) ::
 (nat_lit 239,f7 "drawn_on" 31 w1 238) ::
 (nat_lit 245,e7 "check_ends" 504 106 2 240 4) ::
 (nat_lit 246,f7 "check_ends" 32 w1 245) ::
 (nat_lit 255,e5 "led_to" 520 123 1 252) ::
 (nat_lit 256,f7 "led_to" 34 w1 255) ::
 (nat_lit 262,e7 "after" 526 125 2 257 2) ::
 (nat_lit 263,f7 "after" 35 w1 262) ::
 (nat_lit 267,e5 "is_place" 534 129 2 264) ::
 (nat_lit 268,f7 "is_place" 36 w1 267) ::
 (nat_lit 274,e7 "is_whole" 540 135 1 269 1) ::
 (nat_lit 275,f7 "is_whole" 37 w1 274) ::
 (nat_lit 276,WC P) ::
 (nat_lit 320,e7 "ways_to" 606 169 2 315 2) ::
 (nat_lit 321,f7 "ways_to" 47 w3 320) ::
 (nat_lit 327,e7 "first_bad" 614 171 2 322 2) ::
 (nat_lit 328,f7 "first_bad" 48 w3 327) ::
 (nat_lit 334,e7 "ways_from" 622 173 2 329 6) ::
 (nat_lit 335,f7 "ways_from" 49 w3 334) ::
 (nat_lit 372,WD P) ::
 (nat_lit 432,e7 "share_at" 765 253 2 427 2) ::
 (nat_lit 433,f7 "share_at" 69 w7 432) ::
 (nat_lit 447,e5 "read_plan" 791 263 1 444) ::
 (nat_lit 448,f7 "read_plan" 75 w8 447) ::
 (nat_lit 452,e5 "read_place" 797 268 1 449) ::
 (nat_lit 453,f7 "read_place" 76 w8 452) ::
 (nat_lit 459,e7 "read_number" 803 270 1 454 1) ::
 (nat_lit 460,f7 "read_number" 77 w8 459) ::
 (nat_lit 464,e5 "is_number" 810 274 1 461) ::
 (nat_lit 465,f7 "is_number" 78 w8 464) ::
 (nat_lit 486,e5 "show_count" 840 303 1 483) ::
 (nat_lit 487,f7 "show_count" 83 w9 486) ::
 (nat_lit 491,e5 "show_fraction" 846 305 1 488) ::
 (nat_lit 492,f7 "show_fraction" 84 w9 491) ::
 (nat_lit 493,WE P) ::
 (nat_lit 494,WG P) ::
 (nat_lit 495,WH P) ::
 (nat_lit 496,WI P) ::
 (nat_lit 497,WJ P) ::
 (nat_lit 498,WK P) ::
 (nat_lit 499,WL P) ::
 (nat_lit 500,WM P) ::
 (nat_lit 501,WN P) ::
 (nat_lit 502,WO P) ::
 (nat_lit 503,WQ P) ::
 (nat_lit 504,WR P) ::
 (nat_lit 505,WS P) ::
 (nat_lit 506,WT P) ::
 (nat_lit 507,WU P) ::
 (nat_lit 508,WV P) ::
 (nat_lit 509,WX P) ::
 (nat_lit 515,e7 "read_row" 913 312 1 510 3) ::
 (nat_lit 516,f7 "read_row" 88 Nl 515) ::
 (nat_lit 520,e5 "read_words" 922 321 3 517) ::
 (nat_lit 521,f7 "read_words" 89 Nl 520) ::
 (nat_lit 527,e7 "read_word" 928 326 2 522 2) ::
 (nat_lit 528,f7 "read_word" 90 Nl 527) ::
 (nat_lit 548,e7 "check" 952 347 1 543 1) ::
 (nat_lit 549,f7 "check" 93 Nl 548) ::
 (nat_lit 597,c7 "__init__" "Desk.__init__" 1037 380 1 592 1) ::
 (nat_lit 598,fF "__init__" "Desk.__init__" (inClass (top 105) 0) Bt 597) ::
 (nat_lit 604,c7 "say" "Desk.say" 1044 384 2 599 6) ::
 (nat_lit 605,fF "say" "Desk.say" (inClass (top 105) 1) Bt 604) ::
 (nat_lit 611,c7 "put_plan" "Desk.put_plan" 1056 402 3 606 3) ::
 (nat_lit 612,fF "put_plan" "Desk.put_plan" (inClass (top 105) 2) Bt 611) ::
 (nat_lit 618,c7 "begin_lot" "Desk.begin_lot" 1065 406 3 613 3) ::
 (nat_lit 619,fF "begin_lot" "Desk.begin_lot" (inClass (top 105) 3) Bt 618) ::
 (nat_lit 625,c7 "draw" "Desk.draw" 1074 410 3 620 6) ::
 (nat_lit 626,fF "draw" "Desk.draw" (inClass (top 105) 4) Bt 625) ::
 (nat_lit 632,c7 "plan_named" "Desk.plan_named" 1086 421 2 627 2) ::
 (nat_lit 633,fF "plan_named" "Desk.plan_named" (inClass (top 105) 5) Bt 632) ::
 (nat_lit 639,c7 "lot_named" "Desk.lot_named" 1094 426 2 634 2) ::
 (nat_lit 640,fF "lot_named" "Desk.lot_named" (inClass (top 105) 6) Bt 639) ::
 (nat_lit 642,WY P) ::
 (nat_lit 643,WZ P) ::
 (nat_lit 644,W0 P) ::
 (nat_lit 645,W1 P) ::
 (nat_lit 651,e5 "check_name" 1112 430 1 648) ::
 (nat_lit 652,f7 "check_name" 106 Bt 651) ::
 (nat_lit 658,e7 "plan_by" 1118 433 2 653 2) ::
 (nat_lit 659,f7 "plan_by" 107 Bt 658) ::
 (nat_lit 665,e7 "_law_cell" 1128 444 2 660 2) ::
 (nat_lit 666,f7 "_law_cell" 109 rH 665) ::
 (nat_lit 672,e7 "_law_digits" 1136 448 3 667 5) ::
 (nat_lit 673,f7 "_law_digits" 110 rH 672) ::
 (nat_lit 679,e7 "_law_mixes" 1147 454 3 674 6) ::
 (nat_lit 680,f7 "_law_mixes" 111 rH 679) ::
 (nat_lit 684,e5 "_law_plan" 1159 460 2 681) ::
 (nat_lit 685,f7 "_law_plan" 112 rH 684) ::
 (nat_lit 691,e7 "_law_most" 1165 478 1 686 1) ::
 (nat_lit 692,f7 "_law_most" 113 rH 691) ::
 (nat_lit 696,e5 "_law_numbers" 1172 482 2 693) ::
 (nat_lit 697,f7 "_law_numbers" 114 rH 696) ::
 (nat_lit 703,e7 "_law_ways" 1178 492 1 698 7) ::
 (nat_lit 704,f7 "_law_ways" 115 rH 703) ::
 (nat_lit 708,e5 "_law_written" 1191 500 1 705) ::
 (nat_lit 709,f7 "_law_written" 116 rH 708) ::
 (nat_lit 713,e5 "_law_names" 1197 502 1 710) ::
 (nat_lit 714,f7 "_law_names" 117 rH 713) ::
 (nat_lit 720,e7 "_law_share" 1203 516 2 715 11) ::
 (nat_lit 721,f7 "_law_share" 118 rH 720) ::
 (nat_lit 727,e7 "_law_drawn" 1220 532 4 722 9) ::
 (nat_lit 728,f7 "_law_drawn" 119 rH 727) ::
 (nat_lit 734,e7 "_law_put" 1235 546 3 729 4) ::
 (nat_lit 735,f7 "_law_put" 120 rH 734) ::
 (nat_lit 741,e7 "_law_at" 1245 551 3 736 4) ::
 (nat_lit 742,f7 "_law_at" 121 rH 741) ::
 (nat_lit 748,e7 "law" 1255 556 1 743 10) ::
 (nat_lit 749,f7 "law" 122 rH 748) ::
 []
def hpF:Params->List Obj:=λP=>boot_o_0 P ::
 boot_o_1 P ::
 k2 P ::
 k3 P ::
 boot_o_4 P ::
 boot_o_5 P ::
 ⟨(.type "dict"),none,(.dict #[] 0),#[]⟩ ::
 boot_o_7 P ::
 boot_o_8 P ::
 boot_o_9 P ::
 boot_o_10 P ::
 eT ::
 tT 0 [(2,20),(4,33),(6,45),(8,57),(10,69),(12,81),(14,93),(16,105),(18,117),(20,129),(22,141),(28,153),(35,160),(41,167),(43,174),(47,181),(49,188),(56,195),(58,202),(70,209),(82,216),(91,223),(94,228),(99,233),(101,238),(106,245),(111,250),(123,255),(125,262),(129,267),(135,274),(139,280),(141,287),(149,294),(156,301),(161,308),(166,313),(169,320),(171,327),(173,334),(181,341),(184,346),(193,351),(195,358),(199,365),(207,370),(211,378),(214,385),(223,392),(226,399),(229,406),(233,411),(238,418),(250,425),(253,432),(259,437),(261,442),(263,447),(268,452),(270,459),(274,464),(279,471),(296,476),(301,481),(303,486),(305,491),(312,515),(321,520),(326,527),(334,534),(337,541),(347,548),(352,555),(355,562),(358,569),(367,576),(371,583),(378,590),(430,651),(433,658),(444,665),(448,672),(454,679),(460,684),(478,691),(482,696),(492,703),(500,708),(502,713),(516,720),(532,727),(546,734),(551,741),(556,748)] ::
 HI P "<module>" 182 183 184 1 11 12 185 186 ::
 uz P 13 3 "__main__" 164 ::
 ⟨(.type "tuple"),none,(.seq #[(.type "ValueError")] 0),#[]⟩ ::
 JE P ::
 oP P 196 198 "LotError" 197 200 2 199 201 22 ::
 eT ::
 nT ::
 HI P "LotError" 191 192 193 2 18 19 194 195 ::
 uz P 20 17 "lotdraw.errors" 187 ::
 eT ::
 k23 P ::
 k24 P ::
 k25 P ::
 Ge P 24 ::
 JD P 24 ::
 Nq P ::
 JE P ::
 oP P 214 216 "NoNumber" 215 218 4 217 219 35 ::
 eT ::
 nT ::
 HI P "NoNumber" 209 210 211 4 31 32 212 213 ::
 uz P 33 30 "lotdraw.errors" 187 ::
 eT ::
 k36 P ::
 k37 P ::
 Ge P 37 ::
 JD P 37 ::
 Nq P ::
 JE P ::
 oP P 230 232 "NoPlan" 231 234 6 233 235 47 ::
 eT ::
 nT ::
 HI P "NoPlan" 225 226 227 6 43 44 228 229 ::
 uz P 45 42 "lotdraw.errors" 187 ::
 eT ::
 k48 P ::
 k49 P ::
 Ge P 49 ::
 JD P 49 ::
 Nq P ::
 JE P ::
 oP P 246 248 "TooLong" 247 250 8 249 251 59 ::
 eT ::
 nT ::
 HI P "TooLong" 241 242 243 8 55 56 244 245 ::
 uz P 57 54 "lotdraw.errors" 187 ::
 eT ::
 k60 P ::
 k61 P ::
 Ge P 61 ::
 JD P 61 ::
 Nq P ::
 JE P ::
 oP P 262 264 "NoText" 263 266 10 265 267 71 ::
 eT ::
 nT ::
 HI P "NoText" 257 258 259 10 67 68 260 261 ::
 uz P 69 66 "lotdraw.errors" 187 ::
 eT ::
 k72 P ::
 k73 P ::
 Ge P 73 ::
 JD P 73 ::
 Nq P ::
 JE P ::
 oP P 278 280 "NoEnd" 279 282 12 281 283 83 ::
 eT ::
 nT ::
 HI P "NoEnd" 273 274 275 12 79 80 276 277 ::
 uz P 81 78 "lotdraw.errors" 187 ::
 eT ::
 k84 P ::
 k85 P ::
 Ge P 85 ::
 JD P 85 ::
 Nq P ::
 JE P ::
 oP P 294 296 "NoTelling" 295 298 14 297 299 95 ::
 eT ::
 nT ::
 HI P "NoTelling" 289 290 291 14 91 92 292 293 ::
 uz P 93 90 "lotdraw.errors" 187 ::
 eT ::
 k96 P ::
 k97 P ::
 Ge P 97 ::
 JD P 97 ::
 Nq P ::
 JE P ::
 oP P 310 312 "NoShares" 311 314 16 313 315 107 ::
 eT ::
 nT ::
 HI P "NoShares" 305 306 307 16 103 104 308 309 ::
 uz P 105 102 "lotdraw.errors" 187 ::
 eT ::
 Wu P ::
 Wv P ::
 Ge P 109 ::
 JD P 109 ::
 Nq P ::
 JE P ::
 oP P 326 328 "NoDeed" 327 330 18 329 331 119 ::
 eT ::
 nT ::
 HI P "NoDeed" 321 322 323 18 115 116 324 325 ::
 uz P 117 114 "lotdraw.errors" 187 ::
 eT ::
 Ww P ::
 Wx P ::
 Ge P 121 ::
 JD P 121 ::
 Nq P ::
 JE P ::
 oP P 342 344 "NoName" 343 346 20 345 347 131 ::
 eT ::
 nT ::
 HI P "NoName" 337 338 339 20 127 128 340 341 ::
 uz P 129 126 "lotdraw.errors" 187 ::
 eT ::
 Wy P ::
 Wz P ::
 Ge P 133 ::
 JD P 133 ::
 Nq P ::
 JE P ::
 oP P 358 360 "NoDraw" 359 362 22 361 363 143 ::
 eT ::
 nT ::
 HI P "NoDraw" 353 354 355 22 139 140 356 357 ::
 uz P 141 138 "lotdraw.errors" 187 ::
 eT ::
 WA P ::
 WB P ::
 Ge P 145 ::
 JD P 145 ::
 (d7 "frac" 16 375 28 2 148 w0 ["top","bottom","shared"]) ++
 (d7 "plus" 17 384 35 2 155 w0 ["one","other","shared","one_part","other_part","rest"]) ++
 (d7 "minus" 18 396 41 2 162 w0 ["one","other"]) ++
 (d7 "times" 19 404 43 2 169 w0 ["one","other","left","right"]) ++
 (d7 "over" 20 414 47 2 176 w0 ["one","other"]) ++
 (d7 "power" 21 422 49 2 183 w0 ["one","many","top","bottom","turn"]) ++
 (d7 "under" 22 433 56 2 190 w0 ["one","other"]) ++
 (d7 "greatest_divisor" 23 441 58 2 197 w0 ["one","other","rest","pair"]) ++
 (d7 "leap" 24 451 70 2 204 w0 ["one","other","cut","upper","lower","many","rest"]) ++
 (d7 "is_plan" 27 468 82 1 211 w1 ["thing","there","place"]) ++
 (d7 "goes_on" 28 477 91 2 218 w1 ["plan","count","draws"]) ++
 (d5 "come_to" 29 486 94 1 225 w1) ++
 (d5 "ends" 30 492 99 1 230 w1) ++
 (d5 "drawn_on" 31 498 101 1 235 w1) ++
 (d7 "check_ends" 32 504 106 2 240 w1 ["plan","counts","there","count"]) ++
 (d5 "plan_while" 33 514 111 1 247 w1) ++
 (d5 "led_to" 34 520 123 1 252 w1) ++
 (d7 "after" 35 526 125 2 257 w1 ["count","sign"]) ++
 (d5 "is_place" 36 534 129 2 264 w1) ++
 (d7 "is_whole" 37 540 135 1 269 w1 ["thing"]) ++
 WC P ::
 (d5 "scaled" 40 552 139 2 277 w2) ++
 (d7 "worth" 41 558 141 2 282 w2 ["one","share","bottom","total","carried","top"]) ++
 (d7 "of_count" 42 570 149 2 289 w2 ["bad","good","told","top","place"]) ++
 (d7 "trimmed" 43 581 156 1 296 w2 ["fractions","kept"]) ++
 (d7 "common_bottom" 44 589 161 1 303 w2 ["fractions","common","fraction"]) ++
 (d5 "tops_over" 45 598 166 2 310 w2) ++
 (d7 "ways_to" 47 606 169 2 315 w3 ["plan","count"]) ++
 (d7 "first_bad" 48 614 171 2 322 w3 ["plan","count"]) ++
 (d7 "ways_from" 49 622 173 2 329 w3 ["plan","beginning","ways","count","many","led"]) ++
 (d7 "odds" 51 636 181 2 336 w4 ["plan","end"]) ++
 (d5 "mean_of" 52 644 184 2 343 w4) ++
 (d5 "mean_draws" 53 650 193 1 348 w4) ++
 (d7 "check_telling" 54 656 195 2 353 w4 ["plan","numbers"]) ++
 (d7 "stretches" 56 666 199 1 360 w5 ["row","told","number"]) ++
 (d5 "is_side_by_side" 57 675 207 1 367 w5) ++
 WD P ::
 (d7 "ratio" 60 686 211 3 373 w6 ["count","low","high"]) ++
 (d7 "rule_by_ratio" 61 695 214 4 380 w6 ["plan","low","high","most","ways","choice","end","many"]) ++
 (d7 "check_shares" 62 709 223 2 387 w6 ["low","high"]) ++
 (d7 "check_most" 63 717 226 1 394 w6 ["most"]) ++
 (d7 "often" 64 724 229 2 401 w6 ["count","share","bad_part","good_part"]) ++
 (d5 "by_falling_ratio" 65 734 233 1 408 w6) ++
 (d7 "taken" 66 740 238 2 413 w6 ["choice","most","rule","wrong","caught","end","end_ratio","end_wrong","end_caught","more"]) ++
 (d7 "in_order" 67 756 250 1 420 w6 ["rule"]) ++
 (d7 "share_at" 69 765 253 2 427 w7 ["plan","end"]) ++
 (d5 "show_plan" 73 779 259 1 434 w8) ++
 (d5 "show_place" 74 785 261 1 439 w8) ++
 (d5 "read_plan" 75 791 263 1 444 w8) ++
 (d5 "read_place" 76 797 268 1 449 w8) ++
 (d7 "read_number" 77 803 270 1 454 w8 ["word"]) ++
 (d5 "is_number" 78 810 274 1 461 w8) ++
 (d7 "answer_of" 80 818 279 3 466 w9 ["plan","deed","told","count"]) ++
 (d5 "show_rule" 81 828 296 1 473 w9) ++
 (d5 "show_counts" 82 834 301 1 478 w9) ++
 (d5 "show_count" 83 840 303 1 483 w9) ++
 (d5 "show_fraction" 84 846 305 1 488 w9) ++
 WE P ::
 WG P ::
 WH P ::
 WI P ::
 WJ P ::
 WK P ::
 WL P ::
 WM P ::
 WN P ::
 WO P ::
 WQ P ::
 WR P ::
 WS P ::
 WT P ::
 WU P ::
 WV P ::
 WX P ::
 (d7 "read_row" 88 913 312 1 510 Nl ["row","parts","words"]) ++
 (d5 "read_words" 89 922 321 3 517 Nl) ++
 (d7 "read_word" 90 928 326 2 522 Nl ["word","kind"]) ++
 (d7 "read_whole" 91 936 334 1 529 Nl ["word"]) ++
 (d7 "read_fraction" 92 943 337 1 536 Nl ["word","parts","fraction"]) ++
 (d7 "check" 93 952 347 1 543 Nl ["is_of_a_kind"]) ++
 eT ::
 nT ::
 Wt P "draws" 965 ::
 Wt P "draws" 966 ::
 NL P "so_many" 96 ::
 NM P "so_many" 962 963 964 352 1 550 551 552 553 554 967 968 ::
 NN P "so_many" 96 555 ::
 eT ::
 nT ::
 VT P "bad" 973 "draws" 974 ::
 VT P "bad" 975 "draws" 976 ::
 NL P "till" 97 ::
 NM P "till" 970 971 972 355 2 557 558 559 560 561 977 978 ::
 NN P "till" 97 562 ::
 eT ::
 nT ::
 ZK P "first" 983 "low" 984 "high" 985 "second" 986 "draws_on" 987 ::
 ⟨(.type "tuple"),none,(.seq #[(.str "first" 988),(.str "low" 989),(.str "high" 990),(.str "second" 991)] 0),#[]⟩ ::
 NL P "two_steps" 98 ::
 NM P "two_steps" 980 981 982 358 4 564 565 566 567 568 992 993 ::
 NN P "two_steps" 98 569 ::
 eT ::
 nT ::
 ZK P "rise" 998 "run" 999 "below" 1000 "above" 1001 "draws" 1002 ::
 ZK P "rise" 1003 "run" 1004 "below" 1005 "above" 1006 "draws" 1007 ::
 NL P "between" 99 ::
 NM P "between" 995 996 997 367 5 571 572 573 574 575 1008 1009 ::
 NN P "between" 99 576 ::
 (d7 "check" 100 1011 371 1 578 w11 ["is_within_bounds"]) ++
 eT ::
 JE P ::
 ⟨(.type "dict"),none,(.dict #[(ent P "__module__" 1032 (.str "lotdraw.desk" 1019)),(ent P "__qualname__" 1034 (.str "Desk" 1033)),(ent P "__firstlineno__" 1036 (.int 378 1035)),(ent P "__init__" 1043 (.ref 598)),(ent P "say" 1055 (.ref 605)),(ent P "put_plan" 1064 (.ref 612)),(ent P "begin_lot" 1073 (.ref 619)),(ent P "draw" 1085 (.ref 626)),(ent P "plan_named" 1093 (.ref 633)),(ent P "lot_named" 1101 (.ref 640)),(ent P "__static_attributes__" 1104 (.ref 641))] 11),#[]⟩ ::
 eT ::
 tT 4 [(380,597),(384,604),(402,611),(406,618),(410,625),(421,632),(426,639)] ::
 HI P "Desk" 1027 1028 1029 378 588 589 1030 1031 ::
 uz P 590 587 "lotdraw.desk" 1019 ::
 (b7 "__init__" "Desk.__init__" (inClass (top 105) 0) 1037 380 1 592 Bt ["self"]) ++
 (b7 "say" "Desk.say" (inClass (top 105) 1) 1044 384 2 599 Bt ["self","row","read","deed","name","told"]) ++
 (b7 "put_plan" "Desk.put_plan" (inClass (top 105) 2) 1056 402 3 606 Bt ["self","name","plan"]) ++
 (b7 "begin_lot" "Desk.begin_lot" (inClass (top 105) 3) 1065 406 3 613 Bt ["self","name","plan_name"]) ++
 (b7 "draw" "Desk.draw" (inClass (top 105) 4) 1074 410 3 620 Bt ["self","name","sign","lot","plan","count"]) ++
 (b7 "plan_named" "Desk.plan_named" (inClass (top 105) 5) 1086 421 2 627 Bt ["self","name"]) ++
 (b7 "lot_named" "Desk.lot_named" (inClass (top 105) 6) 1094 426 2 634 Bt ["self","name"]) ++
 VT P "lots" 1102 "plans" 1103 ::
 WY P ::
 WZ P ::
 W0 P ::
 W1 P ::
 Ge P 643 ::
 JD P 643 ::
 (d5 "check_name" 106 1112 430 1 648 Bt) ++
 (d7 "plan_by" 107 1118 433 2 653 Bt ["deed","told"]) ++
 (d7 "_law_cell" 109 1128 444 2 660 rH ["_law_script","_law_k"]) ++
 (d7 "_law_digits" 110 1136 448 3 667 rH ["_law_cell_here","_law_base","_law_many","_law_row","_law_k"]) ++
 (d7 "_law_mixes" 111 1147 454 3 674 rH ["_law_cell_here","_law_base","_law_many","_law_row","_law_k","_law_number"]) ++
 (d5 "_law_plan" 112 1159 460 2 681 rH) ++
 (d7 "_law_most" 113 1165 478 1 686 rH ["_law_cell_here"]) ++
 (d5 "_law_numbers" 114 1172 482 2 693 rH) ++
 (d7 "_law_ways" 115 1178 492 1 698 rH ["_law_plan_here","_law_ways_here","_law_n","_law_row","_law_bad","_law_here","_law_count"]) ++
 (d5 "_law_written" 116 1191 500 1 705 rH) ++
 (d5 "_law_names" 117 1197 502 1 710 rH) ++
 (d7 "_law_share" 118 1203 516 2 715 rH ["_law_plan_here","_law_end","_law_ways_here","_law_first","_law_many","_law_row","_law_bad","_law_here","_law_count","_law_one","_law_other"]) ++
 (d7 "_law_drawn" 119 1220 532 4 722 rH ["_law_desk","_law_name","_law_lot","_law_word","_law_plan_here","_law_bad","_law_good","e","_law_due"]) ++
 (d7 "_law_put" 120 1235 546 3 729 rH ["_law_desk","_law_names_here","_law_plans","_law_k"]) ++
 (d7 "_law_at" 121 1245 551 3 736 rH ["_law_desk","_law_lots","_law_mine","_law_k"]) ++
 (d7 "law" 122 1255 556 1 743 rH ["_law_script","_law_names_here","_law_lots","_law_most_here","_law_plans","_law_desk","_law_mine","_law_cell_here","_law_drawn_here","_law_at_here"]) ++
 []
def DT(w:World)(os:OsState):SharedT:=Hd.litS 750 (hpF w.params) (boot_heap w.params).life 1271 os
noncomputable def W3:List Addr:=[2,3,23,24,25,36,37,48,49,60,61,72,73,84,85,96,97,108,109,120,121,132,133,144,145,153,154,202,203,216,217,223,224,228,229,233,234,238,239,245,246,255,256,262,263,267,268,274,275,276,320,321,327,328,334,335,372,432,433,447,448,452,453,459,460,464,465,486,487,491,492,493,494,495,496,497,498,499,500,501,502,503,504,505,506,507,508,509,515,516,520,521,527,528,548,549,597,598,604,605,611,612,618,619,625,626,632,633,639,640,642,643,644,645,651,652,658,659,665,666,672,673,679,680,684,685,691,692,696,697,703,704,708,709,713,714,720,721,727,728,734,735,741,742,748,749]
set_option maxHeartbeats 0
theorem JP(P:Params):W3=(W2 P).map (·.1):=by kernel_rfl
abbrev hpX:Shared->Bool:=λs=>xlAt qt [] s && recOk (RowW.records (OpenRow.toRowW (OpenLaw.row PySem.Challenge.rw_lotdraw_k59_lots_under_way))) s
theorem W4 (w:World) (os:OsState):(Hd.xJ treeTable PySem.Challenge.pw_lotdraw_k59_lots_under_way (w.withFollow "special-get-raises" true) 11 (some (.ref 6)) 11620 (Hd.uc (w.withFollow "special-get-raises" true) os) (topStub PySem.Challenge.pw_lotdraw_k59_lots_under_way))=some (DT (w.withFollow "special-get-raises" true) os):=by kernel_rfl
theorem W5 (w:World) (os:OsState):(Hd.xJ treeTable PySem.Challenge.pw_lotdraw_k59_lots_under_way (w.withFollow "special-get-raises" false) 11 (some (.ref 6)) 11620 (Hd.uc (w.withFollow "special-get-raises" false) os) (topStub PySem.Challenge.pw_lotdraw_k59_lots_under_way))=some (DT (w.withFollow "special-get-raises" false) os):=by kernel_rfl
theorem W6 (b:Bool) (w:World) (os:OsState):(Hd.xJ treeTable PySem.Challenge.pw_lotdraw_k59_lots_under_way (w.withFollow "special-get-raises" b) 11 (some (.ref 6)) 11620 (Hd.uc (w.withFollow "special-get-raises" b) os) (topStub PySem.Challenge.pw_lotdraw_k59_lots_under_way))=some (DT (w.withFollow "special-get-raises" b) os):=by cases b; exact W5 w os; exact W4 w os
theorem W7 (w:World) (os:OsState):(Hd.xJ treeTable PySem.Challenge.pw_lotdraw_k59_lots_under_way w 11 (some (.ref 6)) 11620 (Hd.uc w os) (topStub PySem.Challenge.pw_lotdraw_k59_lots_under_way))=some (DT w os):=by have:=W6 (w.params.followText "special-get-raises") w os; rwa [World.withFollow_self] at this
theorem NO (w:World) (os:OsState):(staticsOk (importedModules PySem.Challenge.pw_lotdraw_k59_lots_under_way.main.body) (boot_heap w.params) (DT w os).abs.heap && namesBound PySem.Challenge.pw_lotdraw_k59_lots_under_way (DT w os).abs.heap && gensDone (DT w os).abs && laidKept (boot_heap w.params) (DT w os).abs.heap,W3.map (DT w os).abs.heap.get?)=(true,(W2 w.params).map λp=>some p.2):=by kernel_rfl
abbrev W8 (s:SharedT):=openSeen qt ["FORMS","check_deeds","check_words"] (importedModules PySem.Challenge.pw_lotdraw_k59_lots_under_way.main.body) hpX true s.abs
theorem W9(w:World)(os:OsState):(W8 (DT w os)).1=(openGood qt ["FORMS","check_deeds","check_words"]).1:=by kernel_rfl
theorem Xa(w:World)(os:OsState):((W8 (DT w os)).2.1,(W8 (DT w os)).2.2.1)=((openGood qt ["FORMS","check_deeds","check_words"]).2.1,(openGood qt ["FORMS","check_deeds","check_words"]).2.2.1):=by kernel_rfl
theorem Xb(w:World)(os:OsState):(W8 (DT w os)).2.2.2=(openGood qt ["FORMS","check_deeds","check_words"]).2.2.2:=by kernel_rfl
theorem NP(w:World)(os:OsState):W8 (DT w os)=openGood qt ["FORMS","check_deeds","check_words"]:=Hd.ext3 (W9 w os) (Xa w os) (Xb w os)
end aC
set_option maxHeartbeats 4000000
namespace L2
open PySem PySem.Spec PyProof.Rows
abbrev Key:=Sum Int Str
noncomputable def yE:Key->Value->Bool
 |.inl k,v=>Value.isInt k v
 |.inr x,v=>Value.isStrOf x v
def aay(w:World):Key->Int
 |.inl k=>hashInt k
 |.inr x=>hashStr w x
theorem dE:∀{k:Key} {v:Value},yE k v=true->(∃i t,k=Sum.inl i/\v=Value.int i t)\/(∃x t,k=Sum.inr x/\v=Value.str x t)
 |.inl i,v,h=>by
   obtain⟨t,e⟩:=Value.isInt_shape (k:=i) (v:=v) h;exact .inl ⟨i,t,rfl,e⟩
 |.inr x,v,h=>by
   obtain⟨t,e⟩:=Value.isStrOf_shape (x:=x) (v:=v) h;exact .inr ⟨x,t,rfl,e⟩
theorem HJ(i:Int)(t:Tok):yE (.inl i) (.int i t)=true:=by simp[yE,Value.isInt]
theorem rK(x:Str)(t:Tok):yE (.inr x) (.str x t)=true:=by simp[yE,Value.isStrOf]
theorem Sw(a b:Int):decide ((Sum.inl a:Key)=Sum.inl b)=(a==b):=by lia
theorem Sx(a b:Str):decide ((Sum.inr a:Key)=Sum.inr b)=decide (a=b):=by simp
theorem Sy(a:Int)(b:Str):decide ((Sum.inl a:Key)=Sum.inr b)=false:=rfl
theorem Sz(a:Str)(b:Int):decide ((Sum.inr a:Key)=Sum.inl b)=false:=rfl
def cY(prog:Program)(w:World):PySem.KeyKind prog w Key where
 is:=yE
 hash:=aay w
 inj:=λv a b ha hb=>by
  rcases dE ha with⟨i,t,rfl,rfl⟩|⟨x,t,rfl,rfl⟩
  .rcases dE hb with⟨j,u,rfl,e⟩|⟨y,u,rfl,e⟩;.injection e with e1 _;rw[e1]
   .exact nomatch e
  .rcases dE hb with⟨j,u,rfl,e⟩|⟨y,u,rfl,e⟩;.exact nomatch e
   .injection e with e1 _;rw[e1]
 byValue:=λk v h=>by
  rcases dE h with⟨i,t,rfl,rfl⟩|⟨x,t,rfl,rfl⟩<;>rfl
 pyHash:=λhv h=>by
  rcases dE hv with⟨i,t,rfl,rfl⟩|⟨x,t,rfl,rfl⟩;.exact wpAny_pyHash_int h
  .exact wpAny_pyHash_str h
 eqBool:=λhu hv h=>by
  rcases dE hu with⟨i,t,rfl,rfl⟩|⟨x,t,rfl,rfl⟩
  .rcases dE hv with⟨j,u,rfl,rfl⟩|⟨y,u,rfl,rfl⟩;.rw [Sw]at h;exact wpAny_eqBool_int h
   .rw [Sy]at h;exact SeqAt.EqAt.int_str i t y u _ _ _ _ h
  .rcases dE hv with⟨j,u,rfl,rfl⟩|⟨y,u,rfl,rfl⟩;.rw [Sz]at h;exact SeqAt.EqAt.str_int x t j u _ _ _ _ h
   .rw [Sx]at h;exact wpAny_eqBool_str h
 «strs»:=λk x t v h=>by
  rcases dE h with⟨i,u,rfl,e⟩|⟨y,u,rfl,e⟩;.exact nomatch e
  .injection e with e1 _;subst e1;cases v<;>rfl
theorem BE(prog:Program)(w:World)(i:Int)(t:Tok):(cY prog w).is (.inl i) (.int i t)=true:=HJ i t
theorem BF(prog:Program)(w:World)(x:Str)(t:Tok):(cY prog w).is (.inr x) (.str x t)=true:=rK x t
inductive V where
 |ib|bl (b:Bool)|int (i:Int)|str (x:Str)|VU (b:Array UInt8)|SA (b:UInt64)|ref (a:Addr)|ty (n:String)
 deriving DecidableEq
def RelV:V->Value->Prop
 |.ib,u=>u=Value.none
 |.bl b,u=>u=Value.bool b
 |.int i,u=>∃t,u=Value.int i t
 |.str x,u=>∃t,u=Value.str x t
 |.VU b,u=>∃t,u=Value.bytes b t
 |.SA b,u=>∃t,u=Value.float b t
 |.ref a,u=>u=Value.ref a
 |.ty n,u=>u=Value.type n
abbrev bz:List V->List Value->Prop:=Paired RelV
theorem bz.length(r:bz xs us):xs.length=us.length:=Paired.length r
theorem bz.get:∀{xs:List V} {us:bU} {i:Nat} {x:V},bz xs us->xs[i]?=some x->∃u,us[i]?=some u/\RelV x u
 |_,_,_,_,.nil,e=>by simp at e
 |_,_,0,_,.cons r _,e=>by simp at e;subst e;exact⟨_,rfl,r⟩
 |_,_,i+1,x,.cons _ t,e=>by
   obtain⟨u,h1,h2⟩:=bz.get (i:=i) (x:=x) t (by simpa using e);exact⟨u,by simpa using h1,h2⟩
theorem bz.set(r:RelV x u):∀{xs:List V} {us:bU} (i:Nat),bz xs us->bz (xs.set i x) (us.set i u)
 |_,_,_,.nil=>.nil
 |_,_,0,.cons _ t=>.cons r t
 |_,_,i+1,.cons q t=>.cons q (bz.set r i t)
theorem bz.append:∀{xs ys:List V} {us ws:bU},bz xs us->bz ys ws->bz (xs++ys) (us++ws)
 |_,_,_,_,.nil,s=>s
 |_,_,_,_,.cons r t,s=>.cons r (bz.append t s)
theorem bz.take:∀{xs:List V} {us:bU} (n:Nat),bz xs us->bz (xs.take n) (us.take n)
 |_,_,0,_=>.nil
 |_,_,_+1,.nil=>.nil
 |_,_,n+1,.cons r t=>.cons r (bz.take n t)
theorem bz.drop:∀{xs:List V} {us:bU} (n:Nat),bz xs us->bz (xs.drop n) (us.drop n)
 |_,_,0,r=>r
 |_,_,_+1,.nil=>.nil
 |_,_,n+1,.cons _ t=>bz.drop n t
def ml:Option V->Option Value->Prop
 |some v,some u=>RelV v u
 |none,none=>True
 |_,_=>False
def KV{κ:Type}:List (κ×V)->List (κ×Value)->Prop:=Paired λ(p:κ×V) (q:κ×Value)=>p.1=q.1/\RelV p.2 q.2
noncomputable def kV:Key->V
 |.inl i=>.int i
 |.inr x=>.str x
inductive HO where
  |lst (xs:List V)
  |tup (xs:List V)
  |dK (aX:List (Key×V))|dT (aX:List (List Key×V))
  |set (S:Int->Bool)(n:Nat)
  |ins (C dx:Addr)(fs:List (Str×V))
  |own (x:Addr)
  |xd (fs:List (Str×V))
  |met (f x:Addr)
  |xK (lo hi:Int)
  |xF (o:Obj)(u:HO)
  |Qt (ps:Array Value)
  |ext (φ:Heap->Prop)
abbrev Hp:=Addr->Option HO
def upd(H:Hp)(a:Addr)(o:HO):Hp:=λb=>if b=a then some o else H b
theorem az:upd H a o a=some o:=by unfold upd;rw[if_pos rfl]
theorem av(h:b≠a):upd H a o b=H b:=by unfold upd;rw[if_neg h]
theorem bT{H:Hp}(h:H a=some o)(h':H b=none):a≠b:=by lia
def eE(H:Hp)(b:Addr)(xs:List V):Prop:=H b=some (.tup xs)\/∃ob,H b=some (.xF ob (.tup xs))
theorem eE.ne(t:eE H b xs)(n:b≠a):eE (upd H a o) b xs:=by
 rcases t with t|⟨ob,t⟩
 .exact .inl (by rw[av n];exact t)
 .exact .inr ⟨ob,by rw[av n];exact t⟩
theorem eE.new(t:eE H b xs)(n:H a=none):eE (upd H a o) b xs:=t.ne λz=>by
 subst z
 rcases t with t|⟨ob,t⟩<;>rw[n]at t<;>cases t
theorem eE.dT{H:Hp}{a b:Addr}{o:HO}{xs:List V}{aX:List (List Key×V)}(t:eE H b xs)(e:H a=some (.dT aX)):eE (upd H a o) b xs:=t.ne λz=>by
 subst z
 rcases t with t|⟨ob,t⟩<;>rw[e]at t<;>cases t
section
variable (P:Program)(w:World)
def cM(H:Hp)(h:Heap)(a:Addr):HO->Prop
 |.lst xs=>xs.length<=sizeLine/\∃(its:bU) (n:Nat),bz xs its/\h.get? a=some {cls:=.type "list",data:=.seq its.toArray n}
 |.tup xs=>xs.length<=sizeLine/\∃its:bU,bz xs its/\IsTup h a its.toArray
 |.dK aX=>aX.length<=sizeLine/\(a==sysModules)=false/\∃vs,KV aX vs/\h.DictOf (cY P w) a vs
 |.dT aX=>aX.length<=sizeLine/\(a==sysModules)=false/\∃xs:List (List Key×Addr×Value),
   Paired (λ(p:List Key×V) (q:List Key×Addr×Value)=>p.1=q.1/\eE H q.2.1 (p.1.map kV)/\RelV p.2 q.2.2) aX xs/\
   ∃o es ep,h.get? a=some o/\o.ExactDict/\o.data=.dict es ep/\es.toList=xs.map (entryOfKey (tupleKind (cY P w)))/\(xs.map (·.1)).Nodup
 |.set S n=>h.SetOf (intKind P w) a S n
 |.ins C dx fs=>H dx=some (.own a)/\fs.length<=1000/\dx≠a/\h.get? a=some (PySem.W.instObj C dx)/\
   ∃mA,h.Ns1 dx mA/\(∀f,ml (fs.lookup f) (mA f))/\PySem.Within mA (fs.map (·.1))
 |.own _=>∃o,h.get? a=some o
 |.xd fs=>∃mA,h.Ns1 a mA/\∀f,ml (fs.lookup f) (mA f)
 |.xK lo hi=>∃t u v,h.get? a=some {cls:=.type "range",data:=.fields #[.int lo t,.int hi u,.int 1 v]}
 |.xF o u=>h.get? a=some o/\cM H h a u
 |.Qt ps=>h.get? a=some {cls:=.none,data:=.fields ps}
 |.met f x=>h.get? a=some (PySem.W.methodObj (.ref f) (.ref x))
 |.ext φ=>φ h/\(∃o,h.get? a=some o)/\∀h1 h2:Heap,φ h1->(∀o,h1.get? a=some o->h2.get? a=some o)->φ h2
def n8(H:Hp)(h:Heap):Prop:=∀a o,H a=some o->cM P w H h a o
end
section
variable {P:Program}{w:World}{H H':Hp}{h h':Heap}{a:Addr}{o:HO}
theorem cM.lt(x:cM P w H h a o):a<h.objs.size:=by
 cases o with
 |lst xs=>obtain⟨_,_,_,_,e⟩:=x;exact aai e
 |tup xs=>obtain⟨_,_,_,p⟩:=x;exact p.lt
 |dK aX=>obtain⟨_,_,_,_,o,_,_,e,_⟩:=x;exact aai e
 |dT aX=>obtain⟨_,_,_,_,o,_,_,e,_⟩:=x;exact aai e
 |set S n=>obtain⟨o,_,_,_,e,_⟩:=x;exact aai e
 |ins C dx fs=>obtain⟨_,_,_,e,_⟩:=x;exact aai e
 |own y=>obtain⟨_,e⟩:=x;exact aai e
 |xd fs=>obtain⟨_,⟨_,_,_,e,_⟩,_⟩:=x;exact aai e
 |xK lo hi=>obtain⟨_,_,_,e⟩:=x;exact aai e
 |xF ob u=>obtain⟨e,_⟩:=x;exact aai e
 |Qt ps=>exact aai (show h.get? a=some _ from x)
 |met f y=>exact aai (show h.get? a=some _ from x)
 |ext φ=>obtain⟨_,⟨_,e⟩,_⟩:=x;exact aai e
theorem Paired.SD:∀{Xc:List α} {Xd:List β},Paired F Xc Xd->(∀a b,F a b->G a b)->Paired G Xc Xd
 |_,_,.nil,_=>.nil
 |_,_,.cons r t,f=>.cons (f _ _ r) (Paired.SD t f)
theorem cM.uA(x:cM P w H h a o)(k:∀b u,(b=a\/H b=some (.own a))->h.get? b=some u->h'.get? b=some u)
  (ho:∀b,H b=some (.own a)->H' b=some (.own a))(ht:∀b xs,eE H b xs->eE H' b xs):cM P w H' h' a o:=by
 induction o with
 |lst xs=>obtain⟨z,its,n,r,e⟩:=x;exact⟨z,its,n,r,k _ _ (.inl rfl) e⟩
 |tup xs=>obtain⟨z,its,r,ob,e,c⟩:=x;exact⟨z,its,r,ob,k _ _ (.inl rfl) e,c⟩
 |dK aX=>obtain⟨z,y,vs,r,ob,es,ep,e,c⟩:=x;exact⟨z,y,vs,r,ob,es,ep,k _ _ (.inl rfl) e,c⟩
 |dT aX=>
   obtain⟨z,y,xs,r,ob,es,ep,e,c⟩:=x;exact⟨z,y,xs,Paired.SD r λp q z=>⟨z.1,ht _ _ z.2.1,z.2.2⟩,ob,es,ep,k _ _ (.inl rfl) e,c⟩
 |set S n=>obtain⟨ob,es,ep,t,e,c⟩:=x;exact⟨ob,es,ep,t,k _ _ (.inl rfl) e,c⟩
 |ins C dx fs=>
   obtain⟨d,z,ne,e,mA,⟨od,es,ep,e2,c⟩,r⟩:=x;exact⟨ho _ d,z,ne,k _ _ (.inl rfl) e,mA,⟨od,es,ep,k _ _ (.inr d) e2,c⟩,r⟩
 |own y=>obtain⟨ob,e⟩:=x;exact⟨ob,k _ _ (.inl rfl) e⟩
 |xd fs=>obtain⟨mA,⟨od,es,ep,e,c⟩,r⟩:=x;exact⟨mA,⟨od,es,ep,k _ _ (.inl rfl) e,c⟩,r⟩
 |xK lo hi=>obtain⟨t,u,v,e⟩:=x;exact⟨t,u,v,k _ _ (.inl rfl) e⟩
 |xF ob u ih=>obtain⟨e,q⟩:=x;exact⟨k _ _ (.inl rfl) e,ih q⟩
 |Qt ps=>
   have e:=x;exact k a _ (.inl rfl) e
 |met f y=>
   have e:=x;exact k a _ (.inl rfl) e
 |ext φ=>obtain⟨p,⟨o,e⟩,st⟩:=x;exact⟨st _ _ p λo q=>k _ _ (.inl rfl) q,⟨o,k _ _ (.inl rfl) e⟩,st⟩
theorem n8.lt(x:n8 P w H h)(e:H a=some o):a<h.objs.size:=(x a o e).lt
theorem n8.fresh(x:n8 P w H h)(e:h.objs.size<=a):H a=none:=by
 cases q:H a with
 |none=>rfl
 |some u=>exact absurd (aao (x.lt q) e) (abM _)
theorem n8.kept(x:n8 P w H h)(k:∀b u,h.get? b=some u->h'.get? b=some u):n8 P w H h':=λa o e=>
 (x a o e).uA (λb u _ q=>k b u q) (λ_ q=>q) λ_ _ q=>q
theorem n8.laid(x:n8 P w H h)(k:∀b u,h.get? b=some u->h'.get? b=some u)(hp:h.objs.size<=a)(new:cM P w (upd H a o) h' a o):n8 P w (upd H a o) h':=λb u e=>by
 have hn:=x.fresh hp
 by_cases hb:b=a
 .subst hb;rw[az]at e;cases e;exact new
 .rw [av hb]at e;exact(x b u e).uA (λc v _ q=>k c v q) (λc q=>by rw[av (bT q hn)];exact q) λc xs q=>q.new hn
end
def Rd(H:Hp)(a:Addr)(u:HO):Prop:=H a=some u\/∃o,H a=some (.xF o u)
theorem Rd.ok(r:Rd H a u)(x:n8 P w H h):cM P w H h a u:=by
 rcases r with r|⟨o,r⟩
 .exact x a u r
 .obtain ⟨_,q⟩:=x a _ r;exact q
def Xe:Option HO->Prop
 |some (.lst _)=>True
 |some (.dK _)=>True
 |some (.dT _)=>True
 |some (.set _ _)=>True
 |some (.ins _ _ _)=>True
 |some (.ext _)=>True
 |_=>False
section
variable {P:Program}{w:World}{H:Hp}{h h':Heap}{x e:Addr}{o':HO}
theorem n8.write(ok:n8 P w H h)(mu:Xe (H x))(he:e=x\/H e=some (.own x))(k:∀b u,b≠e->h.get? b=some u->h'.get? b=some u)(JQ:∃u,h'.get? e=some u)
  (new:cM P w (upd H x o') h' x o'):n8 P w (upd H x o') h':=λb u q=>by
 have aaz:∀c y,H c=some (.own y)->c≠x:=λc y r z=>by subst z;rw[r]at mu;exact mu
 by_cases hb:b=x
 .subst hb;rw[az]at q;cases q;exact new
 .rw [av hb]at q;by_cases hbe:b=e
  .have q':H b=some (.own x):=by
    rcases he with z|z;.grind
    .grind
   rw[q]at q';cases q';obtain⟨v,hv⟩:=JQ;exact⟨v,by rw[hbe];exact hv⟩
  .refine (ok b u q).uA (λc v hc r=>k c v ?_ r) (λc r=>by rw[av (aaz c b r)];exact r) λc xs r=>r.ne λz=>by
    subst z;rcases r with r|⟨ob,r⟩<;>rw[r]at mu<;>exact mu
   rcases hc with rfl|hc;.grind
   .grind
end
structure Un(fs ex:List Addr)(H H':Hp)(h h':Heap):Prop where
 keep:∀b o,h.get? b=some o->H b=none->b∉fs->b∉ex->h'.get? b=some o
 slot:∀b o,h.get? b=some o->H b=none->b∈fs->b∉ex->∃sl,h'.get? b=some {o with slots:=sl}
 free:∀b o,h.get? b=some o->H b=none->b∉ex->H' b=none
 there:∀b o,h.get? b=some o->b∉ex->∃o',h'.get? b=some o'
 qu:∀b xs,H b=some (.tup xs)->H' b=some (.tup xs)
 qv:∀b o u,H b=some (.xF o u)->H' b=some (.xF o u)
 rL:∀b ps,H b=some (.Qt ps)->∃more,H' b=some (.Qt (ps++more))
section
variable {fs ex:List Addr}{H H1:Hp}{h h1 h':Heap}{a x e:Addr}{o:HO}
theorem Un.any(u:Un fs ex H H1 h h1)(q:h.get? b=some ob)(n:H b=none)(hx:b∉ex):∃sl,h1.get? b=some {ob with slots:=sl}:=by
 by_cases hb:b∈fs
 .exact u.slot b ob q n hb hx
 .exact ⟨ob.slots,u.keep b ob q n hb hx⟩
theorem Un.kept(k:∀b u,h.get? b=some u->h'.get? b=some u):Un fs ex H H h h':=
 ⟨λb ob q _ _ _=>k b ob q,λb ob q _ _ _=>⟨ob.slots,k b ob q⟩,λ_ _ _ n _=>n,λb ob q _=>⟨ob,k b ob q⟩,λ_ _ q=>q,λ_ _ _ q=>q,λ_ ps q=>⟨#[],by rw[q];simp⟩⟩
theorem Un.refl:Un fs ex H H h h:=Un.kept λ_ _ q=>q
theorem Un.laid(k:∀b u,h.get? b=some u->h'.get? b=some u)(hp:h.objs.size<=a)(hn:H a=none):Un fs ex H (upd H a o) h h' where
 keep:=λb u q _ _ _=>k b u q
 slot:=λb u q _ _ _=>⟨u.slots,k b u q⟩
 free:=λb u q n _=>by rw[av (aat (aao (aai q) hp))];exact n
 there:=λb u q _=>⟨u,k b u q⟩
 qu:=λb xs q=>by rw[av (bT q hn)];exact q
 qv:=λb u xs q=>by rw[av (bT q hn)];exact q
 rL:=λb ps q=>⟨#[],by rw[av (bT q hn),q];simp⟩
theorem Un.write(mu:Xe (H x))(he:e=x\/H e=some (.own x))(k:∀b u,b≠e->h.get? b=some u->h'.get? b=some u)(JQ:∃u,h'.get? e=some u):Un fs ex H (upd H x o) h h':=by
 have hx:∀b,H b=none->b≠x:=λb n z=>by subst z;rw[n]at mu;exact mu
 have hb:∀b,H b=none->b≠e:=λb n z=>by grind
 have hm:∀b u,H b=some u->¬Xe (some u)->b≠x:=λb u q nm z=>by subst z;rw[q]at mu;exact nm mu
 refine⟨λb u q n _ _=>k b u (hb b n) q,λb u q n _ _=>⟨u.slots,k b u (hb b n) q⟩,λb u q n _=>by rw[av (hx b n)];exact n,λb u q _=>?_,
  λb xs q=>by rw[av (hm b _ q λz=>z)];exact q,λb u xs q=>by rw[av (hm b _ q λz=>z)];exact q,λb ps q=>⟨#[],by rw[av (hm b _ q λz=>z),q];simp⟩⟩
 by_cases hbe:b=e
 .grind
 .grind
end
def ZL(h:Heap)(H:Hp):List Addr:=(List.range h.objs.size).filter λa=>(H a).isSome
def zt(h:Heap)(H:Hp):Heap:=PySem.W.hideAll h (ZL h H)
theorem HK(h:Heap)(H:Hp):(zt h H).objs.size=h.objs.size:=PySem.W.hideAll_size _ _
theorem JR(e:h.get? b=some o)(n:H b=none):(zt h H).get? b=some o:=
 PySem.W.hideAll_get _ e λhm=>by
  have q:=(aef.mp hm).2;rw[n]at q;simp at q
theorem NQ(e:(zt h H).get? b=some o):h.get? b=some o/\H b=none:=by
 have e':=PySem.W.of_hideAll (ZL h H) e
 refine⟨e',?_⟩
 cases q:H b with
 |none=>rfl
 |some x=>
   have hm:b∈ZL h H:=aef.mpr ⟨acw.mpr (aai e'),by simp[q]⟩;have z:(zt h H).get? b=none:=PySem.W.hideAll_none (ZL h H) hm;rw[z]at e;cases e
noncomputable def NR(g h:Heap)(L:Addr):cz:=(List.range h.objs.size).filterMap λa=>if a=L\/(g.get? a).isSome=true then none else(h.get? a).map λo=>(a,o)
def rest(g h:Heap)(L d:Addr):cz:=(NR g h L).filter λp=>decide (p.1≠d)
structure Mod(K:ak)(mg:dO)(base:Heap):Prop where
 ZM:K.In base
 glob:base.Ns mainGlobals mg
 blt:∃mb,base.Ns builtinsNs mb/\∀x:Str,x≠"__name__"->mb x=bootBuiltins x
 nolimit:base.NoLimit
structure Cx where
 prog:Program
 w:World
 K:ak
 mg:dO
 base:Heap
 A:Around
 N:List Str
 h8:Shared
 JS:Hp
 env:Env
 outer:List Env
 stack:List Env
 ex:List Addr
 fn:Str->Bool
 calm:Bool
 pn:cz
 xe:dz
def ud(l:List Env):List Addr:=l.filterMap (·.frame)
abbrev Cx.fs(X:Cx):List Addr:=ud X.outer
def Xf(sc:Scope)(x:Str):Prop:=sc.names.lookup x=some .local\/sc.names.lookup x=some .cell\/sc.names.lookup x=some .free
def Loc(sc:Scope)(x:Str):Prop:=sc.names.lookup x=some .local\/sc.names.lookup x=some .cell
def Look(env:Env)(h:Heap)(m:dO)(x:Str)(u:Value):Prop:=
 (env.kindOf x=some .local/\m x=some u)\/((env.kindOf x=some .cell\/env.kindOf x=some .free)/\∃c,env.cells.lookup x=some c/\h.IsCell c (some u))
structure Cx.Ok(X:Cx):Prop where
 mod:Mod X.K X.mg X.base
 kind:X.env.scope.kind=.function
 glob:X.env.globals=mainGlobals
 blt:X.env.builtins=builtinsNs
 above:X.h8.heap.objs.size<=X.env.locals
 inj:∀x y c,X.env.cells.lookup x=some c->X.env.cells.lookup y=some c->x=y
 has:∀x,(X.env.kindOf x=some .cell\/X.env.kindOf x=some .free)->∃c,X.env.cells.lookup x=some c
 NS:∀x c,X.fn x=true->X.env.cells.lookup x=some c->X.h8.heap.objs.size<=c
 hd:X.calm=true->X.A.handled=none
 frames:X.A.frames=some X.stack
 Qu:X.stack=X.outer\/(X.stack=X.env::X.outer/\X.env.frame=some X.env.locals)
 VW:∀b∈X.ex,b≠X.env.locals/\∀x c,X.env.cells.lookup x=some c->c≠b
 bs:∀b o,X.base.get? b=some o->X.h8.heap.get? b=some o/\X.JS b=none
 JF:X.base.objs.size<=X.h8.heap.objs.size
 zu:∀b o,X.base.get? b=some o->b∉X.ex
 BG:∀b∈X.ex,b∉X.fs
 kB:X.h8.heap.FunFrames X.base X.outer
 HL:∀b∈X.fs,X.JS b=none
structure Inv(X:Cx)(pins:cz)(σ:List (Option V))(H:Hp)(s:Shared):Prop where
 ok:X.Ok
 os:s.os=X.h8.os
 bare:AllBare s.gens
 base:Un X.fs X.ex X.JS H X.h8.heap s.heap
 loc:∃m,s.heap.Ns X.env.locals m/\∀(i:Nat) (x:Str) (v:V),X.N[i]?=some x->σ[i]?=some (some v)->Xf X.env.scope x->∃u,RelV v u/\Look X.env s.heap m x u
 cell:∀x c,X.env.cells.lookup x=some c->∃v,s.heap.IsCell c v
 free:H X.env.locals=none
 iN:∀x c,X.env.cells.lookup x=some c->H c=none
 pin:∀p∈X.pn++pins,s.heap.get? p.1=some p.2/\H p.1=none/\p.1≠X.env.locals/\p.1∉X.fs/\∀v,p.2.data≠.cell v
 bM:n8 X.prog X.w H s.heap
 len:σ.length=X.N.length
section
variable {X:Cx}{pins:cz}{σ:List (Option V)}{H H':Hp}{s:Shared}{h':Heap}
theorem Cx.Ok.aaA(ok:X.Ok)(e:X.base.get? b=some o):b∉X.fs:=λhb=>by
 have:=(ok.kB.mem hb).1
 rw[e]at this;cases this
theorem Inv.bs(I:Inv X pins σ H s):∀b o,X.base.get? b=some o->s.heap.get? b=some o/\H b=none:=λb o e=>
 ⟨I.base.keep b o (I.ok.bs b o e).1 (I.ok.bs b o e).2 (I.ok.aaA e) (I.ok.zu b o e),I.base.free b o (I.ok.bs b o e).1 (I.ok.bs b o e).2 (I.ok.zu b o e)⟩
theorem Inv.bk(I:Inv X pins σ H s):∀b o,X.base.get? b=some o->s.heap.get? b=some o:=λb o e=>(I.bs b o e).1
theorem Inv.mod(I:Inv X pins σ H s):Mod X.K X.mg X.base:=I.ok.mod
theorem Inv.my(I:Inv X pins σ H s):X.K.In s.heap:=I.ok.mod.ZM.keeps I.bk
theorem Inv.lt(I:Inv X pins σ H s):X.env.locals<s.heap.objs.size:=let⟨_,hn,_⟩:=I.loc;hn.lt
theorem Inv.sz(I:Inv X pins σ H s):X.h8.heap.objs.size<=s.heap.objs.size:=aaW I.ok.above (acZ I.lt)
theorem Inv.Xg(I:Inv X pins σ H s)(h:s.heap.objs.size<=a):a∉X.fs:=λhb=>by
 obtain⟨_,o,ho,_⟩:=I.ok.kB.mem hb
 exact absurd (aao (aai ho) (aaW I.sz h)) (abM _)
theorem Inv.Nr(I:Inv X pins σ H s):∀x c,X.env.cells.lookup x=some c->c≠X.env.locals:=λx c e z=>by
 obtain⟨v,o,ho,hd⟩:=I.cell x c e
 obtain⟨m,⟨o',es,ep,DU,uZ,_⟩,_⟩:=I.loc
 rw[z,DU]at ho;cases ho;rw[uZ]at hd;cases hd
theorem Inv.kB(I:Inv X pins σ H s):s.heap.FunFrames X.base X.outer:=by
 have all:∀(l:List Env),(∀b∈ud l,b∈X.fs)->X.h8.heap.FunFrames X.base l->s.heap.FunFrames X.base l:=by
  intro l;induction l with
  |nil=>intro _ _;trivial
  |cons env r ih=>
    intro hs hl;obtain⟨hk,⟨L,o,hf,hn,ho,hd⟩,hr⟩:=hl;have hL:=hs L (by unfold ud;rw[List.filterMap_cons,hf];exact List.mem_cons_self);obtain⟨sl,e⟩:=I.base.slot L o ho (I.ok.HL L hL) hL λz=>I.ok.BG L z hL;exact⟨hk,⟨L,_,hf,hn,e,hd⟩,ih (λb hb=>hs b (by unfold ud;rw[List.filterMap_cons,hf];exact List.mem_cons_of_mem _ hb)) hr⟩
 exact all X.outer (λ_ hb=>hb) I.ok.kB
theorem Inv.stack(I:Inv X pins σ H s):s.heap.FunFrames X.base X.stack:=by
 rcases I.ok.Qu with e|⟨e,hf⟩
 .rw [e];exact I.kB
 .rw [e];obtain⟨m,hn,_⟩:=I.loc;refine .cons (by rw[I.ok.kind];decide) hf hn ?_ I.kB;exact Heap.get?_none_of_le (aaW I.ok.JF I.ok.above)
theorem Inv.mB(I:Inv X pins σ H s):∀b∈ud X.stack,b∈X.env.locals::X.fs:=λb hb=>by
 rcases I.ok.Qu with e|⟨e,hf⟩
 .grind
 .rw [e]at hb;unfold ud at hb;rw[List.filterMap_cons,hf]at hb;exact hb
theorem Inv.zv(I:Inv X pins σ H s):∀b∈ud X.stack,H b=none:=λb hb=>by
 rcases aam.mp (I.mB b hb)with e|hb
 .rw [e];exact I.free
 .obtain ⟨_,o,ho,_⟩:=I.ok.kB.mem hb;exact I.base.free b o ho (I.ok.HL b hb) λz=>I.ok.BG b z hb
theorem Inv.step{ch:List Addr}(I:Inv X pins σ H s)
  (JT:∀b∈ch,(b∈X.ex\/X.h8.heap.objs.size<=b)/\b≠X.env.locals/\(∀x c,X.env.cells.lookup x=some c->c≠b)/\∀p∈X.pn++pins,p.1≠b)
  (keep:∀b o,b≠X.env.locals->b∉X.fs->b∉ch->s.heap.get? b=some o->H b=none->h'.get? b=some o)
  (slot:∀b o,b≠X.env.locals->b∈X.fs->b∉ch->s.heap.get? b=some o->H b=none->∃sl,h'.get? b=some {o with slots:=sl})(free:∀b o,b∉ch->s.heap.get? b=some o->H b=none->H' b=none)
  (there:∀b o,b∉ch->s.heap.get? b=some o->∃o',h'.get? b=some o')
  (qu:∀b xs,H b=some (.tup xs)->H' b=some (.tup xs))(qv:∀b o u,H b=some (.xF o u)->H' b=some (.xF o u))(rL:∀b ps,H b=some (.Qt ps)->∃more,H' b=some (.Qt (ps++more)))
  (ns:∀m,s.heap.Ns X.env.locals m->h'.Ns X.env.locals m)(bM:n8 X.prog X.w H' h')(hg:AllBare g'):
  Inv X pins σ H' {s with heap:=h',gens:=g',drawn:=d',toks:=t'}:=by
 have neL:∀b o,X.h8.heap.get? b=some o->b≠X.env.locals:=λb o e=>aat (aao (aai e) I.ok.above)
 have ZN:∀b o,X.h8.heap.get? b=some o->b∉X.ex->b∉ch:=λb o e hx hb=>by
  rcases(JT b hb).1 with z|z;.grind
  .exact absurd (aao (aai e) z) (abM _)
 have cellK:∀x c,X.env.cells.lookup x=some c->∀v,s.heap.IsCell c v->h'.IsCell c v:=λx c e v ⟨o,ho,hd⟩=>by
  have Xh:=λz=>(JT c z).2.2.1 x c e rfl;by_cases hc:c∈X.fs;.obtain ⟨sl,q⟩:=slot c o (I.Nr x c e) hc Xh ho (I.iN x c e);exact⟨_,q,hd⟩
  .exact ⟨o,keep c o (I.Nr x c e) hc Xh ho (I.iN x c e),hd⟩
 refine⟨I.ok,I.os,hg,⟨λb o e n hb hx=>?_,λb o e n hb hx=>?_,λb o e n hx=>?_,λb o e hx=>?_,λb xs e=>qu b xs (I.base.qu b xs e),λb o xs e=>qv b o xs (I.base.qv b o xs e),λb ps e=>?_⟩,?_,λx c e=>?_,?_,λx c e=>?_,λp hp=>?_,bM,I.len⟩
 .exact keep b o (neL b o e) hb (ZN b o e hx) (I.base.keep b o e n hb hx) (I.base.free b o e n hx)
 .obtain ⟨sl,e1⟩:=I.base.slot b o e n hb hx;obtain⟨VX,e2⟩:=slot b _ (neL b o e) hb (ZN b o e hx) e1 (I.base.free b o e n hx);exact⟨VX,e2⟩
 .obtain ⟨o',e1⟩:=I.base.there b o e hx;exact free b o' (ZN b o e hx) e1 (I.base.free b o e n hx)
 .obtain ⟨o',e1⟩:=I.base.there b o e hx;exact there b o' (ZN b o e hx) e1
 .obtain ⟨m1,e1⟩:=I.base.rL b ps e;obtain⟨m2,e2⟩:=rL b _ e1;exact⟨m1++m2,by rw[e2,Array.append_assoc]⟩
 .obtain ⟨m,hn,hl⟩:=I.loc;refine⟨m,ns m hn,λi x v e1 e2 e3=>?_⟩;obtain⟨u,r,l⟩:=hl i x v e1 e2 e3;refine⟨u,r,?_⟩;rcases l with l|⟨k,c,e,z⟩;.exact .inl l
  .exact .inr ⟨k,c,e,cellK x c e _ z⟩
 .obtain ⟨v,z⟩:=I.cell x c e;exact⟨v,cellK x c e v z⟩
 .obtain ⟨m,⟨o,_,_,ho,_⟩,_⟩:=I.loc;exact free _ o (λz=>(JT _ z).2.1 rfl) ho I.free
 .obtain ⟨v,o,ho,hd⟩:=I.cell x c e;exact free c o (λz=>(JT c z).2.2.1 x c e rfl) ho (I.iN x c e)
 .obtain ⟨e,n,ne,nf,d⟩:=I.pin p hp;have Xh:=λz=>(JT p.1 z).2.2.2 p hp rfl;exact⟨keep p.1 p.2 ne nf Xh e n,free p.1 p.2 Xh e n,ne,nf,d⟩
theorem Inv.un(I:Inv X pins σ H s)(u:Un X.fs [] H H' s.heap h')(bM:n8 X.prog X.w H' h'):Inv X pins σ H' {s with heap:=h',toks:=t'}:=by
 obtain⟨m,⟨o,es,ep,ho,r⟩,_⟩:=id I.loc
 obtain⟨sl,hL⟩:=u.any ho I.free (by simp)
 exact I.step (g':=s.gens) (d':=s.drawn) (ch:=[]) (λ_ z=>nomatch z) (λb o _ hb _ e n=>u.keep b o e n hb (by simp)) (λb o _ hb _ e n=>u.slot b o e n hb (by simp)) (λb o _ e n=>u.free b o e n (by simp)) (λb o _ e=>u.there b o e (by simp)) u.qu u.qv u.rL (λm' hm=>by
  obtain⟨o',uB,ep',DU,r'⟩:=hm;rw[ho]at DU;cases DU;exact⟨_,uB,ep',hL,r'⟩) bM I.bare
theorem Inv.call(I:Inv X pins σ H s)(u:Un (ud X.stack) ch H H' s.heap h')(bM:n8 X.prog X.w H' h')(hg:AllBare g')
  (JT:∀b∈ch,(b∈X.ex\/X.h8.heap.objs.size<=b)/\b≠X.env.locals/\(∀x c,X.env.cells.lookup x=some c->c≠b)/\∀p∈X.pn++pins,p.1≠b):
  Inv X pins σ H' {s with heap:=h',gens:=g',drawn:=d',toks:=t'}:=by
 obtain⟨m,⟨o,es,ep,ho,r⟩,_⟩:=id I.loc
 obtain⟨sl,hL⟩:=u.any ho I.free λz=>(JT _ z).2.1 rfl
 exact I.step (ch:=ch) JT (λb o hL hb hc e n=>u.keep b o e n (λz=>(aam.mp (I.mB b z)).elim hL hb) hc) (λb o _ _ hc e n=>u.any e n hc) (λb o hc e n=>u.free b o e n hc) (λb o hc e=>u.there b o e hc) u.qu u.qv u.rL (λm' hm=>by
  obtain⟨o',uB,ep',DU,r'⟩:=hm;rw[ho]at DU;cases DU;exact⟨_,uB,ep',hL,r'⟩) bM hg
theorem Inv.turned(I:Inv X pins σ H s)(k:∀b o,b≠it->s.heap.get? b=some o->h'.get? b=some o)(hn:H it=none)(hL:it≠X.env.locals)
  (h1:it∈X.ex\/X.h8.heap.objs.size<=it)(h2:∀x c,X.env.cells.lookup x=some c->c≠it)(h3:∀p∈X.pn++pins,p.1≠it):Inv X pins σ H {s with heap:=h',toks:=t'}:=by
 refine I.step (g':=s.gens) (d':=s.drawn) (ch:=[it]) (λb hb=>?_) (λb o _ _ hc e _=>k b o (λz=>hc (by simp[z])) e) (λb o _ _ hc e _=>⟨o.slots,k b o (λz=>hc (by simp[z])) e⟩) (λ_ _ _ _ n=>n)
  (λb o hc e=>⟨o,k b o (λz=>hc (by simp[z])) e⟩) (λ_ _ e=>e) (λ_ _ _ e=>e) (λb ps e=>⟨#[],by rw[e];simp⟩) (λm hm=>?_) (λb u e=>?_) I.bare
 .grind
 .obtain ⟨o,es,ep,ho,r⟩:=hm;exact⟨o,es,ep,k _ o (acb hL) ho,r⟩
 .refine (I.bM b u e).uA (λc v hc q=>k c v ?_ q) (λ_ q=>q) λ_ _ q=>q;rcases hc with z|z;.grind
  .grind
theorem Inv.tok(I:Inv X pins σ H s)(t:Nat):Inv X pins σ H {s with toks:=t}:=I.un (h':=s.heap) (t':=t) Un.refl I.bM
theorem Inv.kept(I:Inv X pins σ H s)(k:∀b u,s.heap.get? b=some u->h'.get? b=some u):Inv X pins σ H {s with heap:=h',toks:=t'}:=I.un (Un.kept k) (I.bM.kept k)
theorem Inv.laid(I:Inv X pins σ H s)(k:∀b u,s.heap.get? b=some u->h'.get? b=some u)(hp:s.heap.objs.size<=a)(new:cM X.prog X.w (upd H a o) h' a o):
  Inv X pins σ (upd H a o) {s with heap:=h',toks:=t'}:=I.un (Un.laid k hp (I.bM.fresh hp)) (I.bM.laid k hp new)
theorem Inv.write(I:Inv X pins σ H s)(mu:Xe (H x))(he:e=x\/H e=some (.own x))(k:∀b u,b≠e->s.heap.get? b=some u->h'.get? b=some u)(JQ:∃u,h'.get? e=some u)
  (new:cM X.prog X.w (upd H x o) h' x o):Inv X pins σ (upd H x o) {s with heap:=h',toks:=t'}:=I.un (Un.write mu he k JQ) (I.bM.write mu he k JQ new)
theorem Inv.n9(I:Inv X pins σ H s)(h:∀p∈pins',s.heap.get? p.1=some p.2/\H p.1=none/\p.1≠X.env.locals/\p.1∉X.fs/\∀v,p.2.data≠.cell v):Inv X pins' σ H s:=
 ⟨I.ok,I.os,I.bare,I.base,I.loc,I.cell,I.free,I.iN,λp hp=>(aaf.mp hp).elim (λz=>I.pin p (aar _ z)) (h p),I.bM,I.len⟩
theorem BH{N:List Str}(hN:N.Nodup){i j:Nat}(a:N[i]?=some x)(b:N[j]?=some x):i=j:=by
 obtain⟨h1,e1⟩:=aal.mp a
 obtain⟨h2,e2⟩:=aal.mp b
 exact(List.getElem_inj hN).mp (e1.trans e2.symm)
theorem yF(I:Inv X pins σ H s)(hN:X.N.Nodup)(hi:X.N[i]?=some x)(hx:Loc X.env.scope x)(r:RelV v u)
  (h:∀s',Inv X pins (σ.set i (some v)) H s'->(∃a,Heap.SameBut a s.heap s'.heap/\(a=X.env.locals\/X.env.cells.lookup x=some a))->Q () s')(hf:X.fn x=true\/X.env.scope.names.lookup x=some .local):wpAny M A (storeName X.env x u) Q E s:=by
 obtain⟨m,hn,hl⟩:=id I.loc
 have aaC:(X.env.scope.kind==.class||(X.env.scope.kind==.module&&X.env.locals !=X.env.globals))=false:=by rw[I.ok.kind];rfl
 have Xi:i<σ.length:=by rw[I.len];exact(aal.mp hi).1
 have Nr:=I.Nr
 have tracked:∀{a:Addr} {h':Heap},(∃o,s.heap.get? a=some o/\H a=none)->Heap.SameBut a s.heap h'->n8 X.prog X.w H h':=λ{a h'} ha hs b ob e=>by
  refine(I.bM b ob e).uA (λc w' hc q=>(hs.2 c ?_).trans q) (λ_ q=>q) λ_ _ q=>q;rcases hc with rfl|hc;.grind
  .grind
 rcases hx with hk|hk
 .refine wpAny_storeName_local hk hn (λh' hn' hs=>?_) aaC;obtain⟨oL,_,_,Xj,_⟩:=id hn;refine h _ ⟨I.ok,I.os,I.bare,⟨λb o e n hb hx=>?_,λb o e n hb hx=>?_,I.base.free,λb o e hx=>?_,I.base.qu,I.base.qv,I.base.rL⟩,⟨_,hn',λj y v' e1 e2 e3=>?_⟩,λy c e=>?_,I.free,I.iN,λp hp=>?_,tracked ⟨oL,Xj,I.free⟩ hs,by simpa using I.len⟩ ⟨_,hs,.inl rfl⟩;.exact (hs.2 b (aat (aao (aai e) I.ok.above))).trans (I.base.keep b o e n hb hx)
  .obtain ⟨sl,e1⟩:=I.base.slot b o e n hb hx;exact⟨sl,(hs.2 b (aat (aao (aai e) I.ok.above))).trans e1⟩
  .obtain ⟨o',e1⟩:=I.base.there b o e hx;exact⟨o',(hs.2 b (aat (aao (aai e) I.ok.above))).trans e1⟩
  .by_cases hj:j=i
   .subst hj;rw[hi]at e1;cases e1;rw[abh Xi]at e2;cases e2;exact⟨u,r,.inl ⟨hk,by simp⟩⟩
   .rw [aaT (acb hj)]at e2;obtain⟨u',r',q⟩:=hl j y v' e1 e2 e3;refine⟨u',r',?_⟩;rcases q with⟨k,e⟩|⟨k,c,e,z⟩
    .refine .inl ⟨k,?_⟩;have:y≠x:=λe=>hj (BH hN e1 (e ▸ hi));simp[this,e]
    .exact .inr ⟨k,c,e,z.sameBut hs (Nr y c e)⟩
  .obtain ⟨w',z⟩:=I.cell y c e;exact⟨w',z.sameBut hs (Nr y c e)⟩
  .obtain ⟨e,n,ne,nf,d⟩:=I.pin p hp;exact⟨(hs.2 p.1 ne).trans e,n,ne,nf,d⟩
 .have hfn:X.fn x=true:=by
   rcases hf with z|z;.exact z
   .grind
  obtain⟨c,hc⟩:=I.ok.has x (.inl hk);obtain⟨w',z⟩:=I.cell x c hc;refine wpAny_storeName_cell I.ok.kind hk hc z (λh' VY hs=>?_);obtain⟨oc,hoc,aaF⟩:=id z;refine h {s with heap:=h'} ⟨I.ok,I.os,I.bare,⟨λb o e n hb hx=>?_,λb o e n hb hx=>?_,I.base.free,λb o e hx=>?_,I.base.qu,I.base.qv,I.base.rL⟩,⟨m,hn.sameBut hs (Ne.symm (Nr x c hc)),λj y v' e1 e2 e3=>?_⟩,λy c' e=>?_,I.free,I.iN,λp hp=>?_,tracked ⟨oc,hoc,I.iN x c hc⟩ hs,by simpa using I.len⟩ ⟨c,hs,.inr hc⟩;.exact (hs.2 b (aat (aao (aai e) (I.ok.NS x c hfn hc)))).trans (I.base.keep b o e n hb hx)
  .obtain ⟨sl,e1⟩:=I.base.slot b o e n hb hx;exact⟨sl,(hs.2 b (aat (aao (aai e) (I.ok.NS x c hfn hc)))).trans e1⟩
  .obtain ⟨o',e1⟩:=I.base.there b o e hx;exact⟨o',(hs.2 b (aat (aao (aai e) (I.ok.NS x c hfn hc)))).trans e1⟩
  .by_cases hj:j=i
   .subst hj;rw[hi]at e1;cases e1;rw[abh Xi]at e2;cases e2;exact⟨u,r,.inr ⟨.inl hk,c,hc,VY⟩⟩
   .rw [aaT (acb hj)]at e2;obtain⟨u',r',q⟩:=hl j y v' e1 e2 e3;refine⟨u',r',?_⟩;rcases q with q|⟨k,c',e,z'⟩;.exact .inl q
    .refine .inr ⟨k,c',e,z'.sameBut hs ?_⟩;rintro rfl;exact hj (BH hN e1 (I.ok.inj _ _ _ e hc ▸ hi))
  .by_cases hcc:c'=c;.grind
   .obtain ⟨w2,z2⟩:=I.cell y c' e;exact⟨w2,z2.sameBut hs hcc⟩
  .obtain ⟨e,n,ne,nf,d⟩:=I.pin p hp;refine⟨(hs.2 p.1 ?_).trans e,n,ne,nf,d⟩;intro q;rw[q,hoc]at e;have q':=abC e;exact d w' (by rw[<-q'];exact aaF)
theorem mD(I:Inv X pins σ H s)(hN:X.N.Nodup)(hi:X.N[i]?=some x)(hx:Loc X.env.scope x)(r:RelV v u)
  (h:∀s',Inv X pins (σ.set i (some v)) H s'->Q () s')(hf:X.fn x=true\/X.env.scope.names.lookup x=some .local):wpAny M A (storeName X.env x u) Q E s:=
 yF I hN hi hx r (λs' I' _=>h s' I') hf
theorem Inv.JU(I:Inv X pins σ H s)(ho:s'.os=s.os)(u:Un (ud X.stack) ch H H' s.heap s'.heap)(bM:n8 X.prog X.w H' s'.heap)(hg:AllBare s'.gens)
  (JT:∀b∈ch,(b∈X.ex\/X.h8.heap.objs.size<=b)/\b≠X.env.locals/\(∀x c,X.env.cells.lookup x=some c->c≠b)/\∀p∈X.pn++pins,p.1≠b):Inv X pins σ H' s':=by
 obtain⟨h',g',d',t',o'⟩:=s'
 have e:=ho
 subst e
 exact I.call (g':=g') (t':=t') (d':=d') u bM hg JT
end
abbrev XK:=Value->Option Addr->Hp->Prop
abbrev St:=List (Option V)
abbrev VK:=V->Hp->Prop
abbrev TE:=St->Hp->VK->Prop
abbrev TT:=St->Hp->(Bool->Hp->Prop)->Prop
abbrev TA:=St->Hp->(List V->Hp->Prop)->Prop
structure Ends where
 nx:St->Hp->Prop
 rt:VK
 bk:St->Hp->Prop:=λ_ _=>False
 ct:St->Hp->Prop:=λ_ _=>False
abbrev TS:=Ends->St->Hp->Prop
def EP(X:Cx)(pins:cz)(σ:St)(Q:VK)(u:Value)(s':Shared):Prop:=∃v H',Inv X pins σ H' s'/\RelV v u/\Q v H'
def TP(X:Cx)(pins:cz)(σ:St)(Q:Bool->Hp->Prop)(b:Bool)(s':Shared):Prop:=∃H',Inv X pins σ H' s'/\Q b H'
def AP(X:Cx)(pins:cz)(σ:St)(Q:List V->Hp->Prop)(us:bU)(s':Shared):Prop:=∃vs H',Inv X pins σ H' s'/\bz vs us/\Q vs H'
def SP(X:Cx)(pins:cz)(D:Ends)(f:Flow)(s':Shared):Prop:=
 match f with
 |.next=>∃cQ H',Inv X pins cQ H' s'/\D.nx cQ H'
 |.brk=>∃cQ H',Inv X pins cQ H' s'/\D.bk cQ H'
 |.cont=>∃cQ H',Inv X pins cQ H' s'/\D.ct cQ H'
 |.ret u=>∃v cQ H',Inv X pins cQ H' s'/\RelV v u/\D.rt v H'
def PE(X:Cx)(e:Expr)(t:TE):Prop:=
 ∀(pins:cz) (s:Shared) (σ:St) (H:Hp) (Q:VK),Inv X pins σ H s->t σ H Q->wpAny (model X.prog X.w) X.A (eval e X.env) (EP X pins σ Q) X.xe s
def PT(X:Cx)(e:Expr)(t:TT):Prop:=
 ∀(pins:cz) (s:Shared) (σ:St) (H:Hp) (Q:Bool->Hp->Prop),Inv X pins σ H s->t σ H Q->wpAny (model X.prog X.w) X.A (isTrue e X.env (eval e X.env)) (TP X pins σ Q) X.xe s
def PW(X:Cx)(e:Expr)(t:TT):Prop:=
 ∀(whole:Sem Value) (pins:cz) (s:Shared) (σ:St) (H:Hp) (Q:Bool->Hp->Prop),Inv X pins σ H s->t σ H Q->wpAny (model X.prog X.w) X.A (isTrue e X.env whole) (TP X pins σ Q) X.xe s
theorem PW.pt{X:Cx}{e:Expr}{t:TT}(h:PW X e t):PT X e t:=h _
def PA(X:Cx)(es:List Expr)(t:TA):Prop:=
 ∀(pos:Pos) (pins:cz) (s:Shared) (σ:St) (H:Hp) (Q:List V->Hp->Prop),Inv X pins σ H s->t σ H Q->wpAny (model X.prog X.w) X.A (spliced (backTo pos (starEach es X.env))) (AP X pins σ Q) X.xe s
def PS(X:Cx)(st:Stmt)(t:TS):Prop:=
 ∀(pins:cz) (s:Shared) (σ:St) (H:Hp) (D:Ends),Inv X pins σ H s->t D σ H->wpAny (model X.prog X.w) X.A (exec st X.env) (SP X pins D) X.xe s
def jy(X:Cx)(st:List Stmt)(t:TS):Prop:=
 ∀(pins:cz) (s:Shared) (σ:St) (H:Hp) (D:Ends),Inv X pins σ H s->t D σ H->wpAny (model X.prog X.w) X.A (execs st X.env) (SP X pins D) X.xe s
theorem dw(h:wpAny M A t Q E s)(hQ:∀a s,Q a s->Q' a s):wpAny M A t Q' E s:=aa6 h hQ λ_ _ x=>x
section
variable {X:Cx}
def iO(i:Nat):TE:=λσ H Q=>∃v,σ[i]?=some (some v)/\Q v H
def tC(v:V):TE:=λ_ H Q=>Q v H
theorem SE(hN:X.N[i]?=some x)(hv:Xf X.env.scope x)(hd:(x==("__debug__":Str))=false:=by decide)(xM:(x==("__classdict__":Str))=false:=by decide):PE X (.Name x pos) (iO i):=by
 intro pins s σ H Q I h
 obtain⟨v,e,h⟩:=h
 obtain⟨m,hn,hl⟩:=I.loc
 obtain⟨u,r,l⟩:=hl i x v hN e hv
 have fin:EP X pins σ Q u s:=⟨v,H,I,r,h⟩
 rcases l with⟨hk,hm⟩|⟨hk,c,hc,Qv⟩
 .exact wpAny_Name (wpAny_loadName_local I.ok.kind hk hn hm fin) hd
 .rcases hk with hk|hk;.exact wpAny_Name (wpAny_loadName_cell I.ok.kind hk hc Qv fin) hd
  .exact wpAny_Name (wpAny_loadName_free I.ok.kind hk hc Qv fin xM) hd
theorem aU:PE X (.Constant (.int i) j pos) (tC (.int i)):=λ_ _ _ H _ I h=>wpAny_Constant_int ⟨.int i,H,I.tok _,⟨_,rfl⟩,h⟩
theorem ic:PE X (.Constant (.bool b) j pos) (tC (.bl b)):=λ_ _ _ H _ I h=>Constant_bool ⟨.bl b,H,I,rfl,h⟩
theorem aK:PE X (.Constant (.str x) j pos) (tC (.str x)):=λ_ _ _ H _ I h=>Calls.Constant_str ⟨.str x,H,I.tok _,⟨_,rfl⟩,h⟩
def Gl(X:Cx)(x:Str):Prop:=X.env.kindOf x=some .globalImplicit
theorem k8(I:Inv X pins σ H s)(hg:Gl X x)(hm:X.mg x=some u)(h:Q u s)
  (hd:(x==("__debug__":Str))=false:=by decide):wpAny (model X.prog X.w) X.A (eval (.Name x pos) X.env) Q E s:=
 Calls.Name_function_global I.ok.kind hg (Calls.loadGlobal_global (by rw[I.ok.glob];exact I.mod.glob.keeps I.bk) hm h) hd
theorem mE(I:Inv X pins σ H s)(hg:Gl X x)(hm:X.mg x=none)(hv:bootBuiltins x=some u)(h:Q u s)
  (hn:x≠"__name__":=by decide)(hd:(x==("__debug__":Str))=false:=by decide):wpAny (model X.prog X.w) X.A (eval (.Name x pos) X.env) Q E s:=by
 obtain⟨mb,h1,h2⟩:=I.mod.blt
 exact Calls.Name_function_global I.ok.kind hg (Calls.loadGlobal_builtin (by rw[I.ok.glob];exact I.mod.glob.keeps I.bk) hm (by rw[I.ok.blt];exact h1.keeps I.bk) ((h2 x hn).trans hv) h) hd
theorem NT(hg:Gl X x)(hm:X.mg x=some u)(r:RelV v u)(hd:(x==("__debug__":Str))=false:=by decide):PE X (.Name x pos) (tC v):=
 λ_ _ _ H _ I h=>k8 I hg hm ⟨v,H,I,r,h⟩ hd
theorem u4(hg:Gl X x)(hm:X.mg x=none)(hv:bootBuiltins x=some u)(r:RelV v u)(hn:x≠"__name__":=by decide)(hd:(x==("__debug__":Str))=false:=by decide):PE X (.Name x pos) (tC v):=
 λ_ _ _ H _ I h=>mE I hg hm hv ⟨v,H,I,r,h⟩ hn hd
variable {a b:Expr}{ta tb:TE}{pos:Pos}
def PC(X:Cx)(op:CmpOp)(a b:Expr)(t:TE):Prop:=
 ∀(pins:cz) (s:Shared) (σ:St) (H:Hp) (Q:VK),Inv X pins σ H s->t σ H Q->
   wpAny (model X.prog X.w) X.A (eval a X.env) (λv bO=>wpAny (model X.prog X.w) X.A (eval b X.env) (λu mF=>wpAny (model X.prog X.w) X.A (compareOp op v u) (EP X pins σ Q) X.xe mF) X.xe bO) X.xe s
theorem BJ(b:Expr)(h:op≠.In)(h2:op≠.NotIn):behindInMarks op b=false:=by
 have e1:(op==CmpOp.In)=false:=by cases op<;>first|rfl|exact absurd rfl h
 have e2:(op==CmpOp.NotIn)=false:=by cases op<;>first|rfl|exact absurd rfl h2
 cases b<;>simp[behindInMarks,e1,e2]
def tB(t:TE):TT:=λσ H Q=>t σ H λx H1=>∃c,x=.bl c/\Q c H1
theorem SF(h:PC X op a b t)(h1:behindInMarks op b=false:=by first|exact BJ _ (by decide) (by decide)|rfl):PE X (.Compare a [op] [b] pos) t:=λpins s σ H Q I hw=>wpAny_Compare1 (h pins s σ H Q I hw) h1
theorem SG(h:PC X op a b t)(h1:behindInMarks op b=false:=by first|exact BJ _ (by decide) (by decide)|rfl):PT X (.Compare a [op] [b] pos) (tB t):=by
 intro pins s σ H Q I hw
 refine wpAny_isTrue_Compare1 (dw (h pins s σ H _ I hw) λv s1 h1=>dw h1 λu s2 h2=>dw h2 λc s3 ⟨x,H1,I1,r1,q1⟩=>?_) h1
 obtain⟨d,rfl,q⟩:=q1
 cases r1
 exact ab2 ⟨H1,I1,q⟩
variable {tA ZO:TT}{rest:List Expr}
def aaG(t u:TT):TT:=λσ H Q=>t σ H λc H1=>if c=true then u σ H1 Q else Q false H1
def tOr(t u:TT):TT:=λσ H Q=>t σ H λc H1=>if c=true then Q true H1 else u σ H1 Q
def aaH(t:TT):TT:=λσ H Q=>t σ H λc H1=>Q (!c) H1
theorem pw_and1(ha:PT X a tA):PW X (.BoolOp .And [a] pos) tA:=by
 intro wh pins s σ H Q I h
 refine isTrue_and (dw (ha pins s σ H Q I h) λc s1 e=>?_)
 cases c with
 |true=>exact isTrue_and_nil e
 |false=>exact e
theorem pw_or1(ha:PT X a tA):PW X (.BoolOp .Or [a] pos) tA:=by
 intro wh pins s σ H Q I h
 refine isTrue_or (dw (ha pins s σ H Q I h) λc s1 e=>?_)
 cases c with
 |false=>exact isTrue_or_nil e
 |true=>exact e
theorem pw_and(ha:PT X a tA)(hb:PW X (.BoolOp .And (b::rest) pos) ZO):PW X (.BoolOp .And (a::b::rest) pos) (aaG tA ZO):=by
 intro wh pins s σ H Q I h
 refine isTrue_and (dw (ha pins s σ H _ I h) λc s1 ⟨H1,I1,q1⟩=>?_)
 cases c with
 |true=>exact hb wh pins s1 σ H1 Q I1 q1
 |false=>exact⟨H1,I1,q1⟩
theorem pw_or(ha:PT X a tA)(hb:PW X (.BoolOp .Or (b::rest) pos) ZO):PW X (.BoolOp .Or (a::b::rest) pos) (tOr tA ZO):=by
 intro wh pins s σ H Q I h
 refine isTrue_or (dw (ha pins s σ H _ I h) λc s1 ⟨H1,I1,q1⟩=>?_)
 cases c with
 |true=>exact⟨H1,I1,q1⟩
 |false=>exact hb wh pins s1 σ H1 Q I1 q1
theorem JV(ha:PT X a tA):PT X (.UnaryOp .Not a pos) (aaH tA):=by
 intro pins s σ H Q I h
 exact isTrue_not (ha pins s σ H (λc H1=>Q (!c) H1) I h)
def Xk(ta tb:TE):TE:=λσ H Q=>ta σ H λx H1=>∃c,x=.bl c/\if c=true then tb σ H1 Q else Q (.bl false) H1
def aaI(ta tb:TE):TE:=λσ H Q=>ta σ H λx H1=>∃c,x=.bl c/\if c=true then Q (.bl true) H1 else tb σ H1 Q
def Xl(ta:TE):TE:=λσ H Q=>ta σ H λx H1=>∃c,x=.bl c/\Q (.bl (!c)) H1
theorem rM(h:PE X a t):PE X (.BoolOp op [a] pos) t:=λpins s σ H Q I hw=>BoolOp_one (h pins s σ H Q I hw)
theorem SH(ha:PE X a ta)(hb:PE X (.BoolOp .And (b::rest) pos) tb):PE X (.BoolOp .And (a::b::rest) pos) (Xk ta tb):=by
 intro pins s σ H Q I h
 refine BoolOp_and (dw (ha pins s σ H _ I h) λv s1 ⟨x,H1,I1,r1,q1⟩=>?_)
 obtain⟨c,rfl,q1⟩:=q1
 cases r1
 refine ab2 ?_
 cases c with
 |true=>exact hb pins s1 σ H1 Q I1 q1
 |false=>exact⟨.bl false,H1,I1,rfl,q1⟩
theorem Xm(ha:PE X a ta)(hb:PE X (.BoolOp .Or (b::rest) pos) tb):PE X (.BoolOp .Or (a::b::rest) pos) (aaI ta tb):=by
 intro pins s σ H Q I h
 refine BoolOp_or (dw (ha pins s σ H _ I h) λv s1 ⟨x,H1,I1,r1,q1⟩=>?_)
 obtain⟨c,rfl,q1⟩:=q1
 cases r1
 refine ab2 ?_
 cases c with
 |false=>exact hb pins s1 σ H1 Q I1 q1
 |true=>exact⟨.bl true,H1,I1,rfl,q1⟩
theorem SI(ha:PE X a ta):PE X (.UnaryOp .Not a pos) (Xl ta):=by
 intro pins s σ H Q I h
 refine UnaryOp_ (dw (ha pins s σ H _ I h) λv s1 ⟨x,H1,I1,r1,q1⟩=>?_)
 obtain⟨c,rfl,q1⟩:=q1
 cases r1
 exact not_of (ab2 ⟨.bl (!c),H1,I1,rfl,q1⟩)
end
def kY(K:ak)(H:Hp)(a:Addr)(xs:List V):Prop:=
 Rd H a (.lst xs)\/
  ∃(o:Obj) (its:Array Value) (n:Nat),K.lookup a=some o/\o.cls=.type "list"/\o.dict=none/\o.data=.seq its n/\its.size<=sizeLine/\bz xs its.toList
def kg(K:ak)(H:Hp)(a:Addr)(xs:List V):Prop:=
 Rd H a (.tup xs)\/
  ∃(o:Obj) (its:Array Value) (n:Nat),K.lookup a=some o/\o.cls=.type "tuple"/\o.data=.seq its n/\its.size<=sizeLine/\bz xs its.toList
noncomputable def aaJ:Value->Option V
 |.none=>some .ib
 |.bool b=>some (.bl b)
 |.int i _=>some (.int i)
 |.str x _=>some (.str x)
 |.bytes b _=>some (.VU b)
 |.float b _=>some (.SA b)
 |.ref a=>some (.ref a)
 |.type n=>some (.ty n)
 |_=>none
theorem RelV.abs(r:RelV x u):aaJ u=some x:=by
 cases x with
 |ib=>cases r;rfl
 |bl _=>cases r;rfl
 |int _=>obtain⟨t,rfl⟩:=r;rfl
 |str _=>obtain⟨t,rfl⟩:=r;rfl
 |VU _=>obtain⟨t,rfl⟩:=r;rfl
 |SA _=>obtain⟨t,rfl⟩:=r;rfl
 |ref _=>cases r;rfl
 |ty _=>cases r;rfl
theorem RelV.inj(r:RelV x u)(q:RelV y u):x=y:=abC (r.abs.symm.trans q.abs)
theorem bz.inj:∀{xs ys:List V} {us:bU},bz xs us->bz ys us->xs=ys
 |_,_,_,.nil,.nil=>rfl
 |_,_,_,.cons r t,.cons r' t'=>by rw[r.inj r',bz.inj t t']
section
variable {X:Cx}{pins:cz}{σ:St}{H:Hp}{s:Shared}{a:Addr}{xs ys:List V}
theorem kY.of{K:ak}(h:H a=some (.lst xs)):kY K H a xs:=.inl (.inl h)
theorem Inv.list(I:Inv X pins σ H s)(h:kY X.K H a xs):∃its:bU,bz xs its/\PlainL s.heap a its.toArray/\xs.length<=sizeLine:=by
 rcases h with h|⟨o,its,n,hk,hc,hd,hs,hz,r⟩
 .obtain ⟨z,its,n,r,e⟩:=h.ok I.bM;exact⟨its,r,⟨_,n,e,rfl,rfl,rfl⟩,z⟩
 .refine ⟨its.toList,r,⟨o,n,I.my a o hk,hc,hd,by simpa using hs⟩,?_⟩;have e:=r.length;simp only[aaP]at e;lia
theorem Inv.tuple(I:Inv X pins σ H s)(h:kg X.K H a xs):∃its:bU,bz xs its/\IsTup s.heap a its.toArray/\xs.length<=sizeLine:=by
 rcases h with h|⟨o,its,n,hk,hc,hs,hz,r⟩
 .obtain ⟨z,its,r,p⟩:=h.ok I.bM;exact⟨its,r,p,z⟩
 .refine ⟨its.toList,r,⟨o,I.my a o hk,hc,n,by simpa using hs⟩,?_⟩;have e:=r.length;simp only[aaP]at e;lia
theorem Inv.vo(I:Inv X pins σ H s)(h:kY X.K H a xs)(h':kY X.K H a ys):xs=ys:=by
 obtain⟨its,r,⟨o,n,e,_,_,d⟩,_⟩:=I.list h
 obtain⟨its',r',⟨o',n',e',_,_,d'⟩,_⟩:=I.list h'
 rw[e]at e';cases e'
 rw[d]at d'
 injection d' with d1 _
 have:its=its':=by simpa using congrArg Array.toList d1
 subst this
 exact r.inj r'
theorem Inv.og(I:Inv X pins σ H s)(h:kg X.K H a xs)(h':kg X.K H a ys):xs=ys:=by
 obtain⟨its,r,⟨o,e,_,n,d⟩,_⟩:=I.tuple h
 obtain⟨its',r',⟨o',e',_,n',d'⟩,_⟩:=I.tuple h'
 rw[e]at e';cases e'
 rw[d]at d'
 injection d' with d1 _
 have:its=its':=by simpa using congrArg Array.toList d1
 subst this
 exact r.inj r'
end
abbrev Cx.xN(X:Cx)(E:dz):Cx:={X with xe:=E}
abbrev Cx.JG(X:Cx):Cx:=X.xN λ_ _=>False
theorem Cx.Ok.xN{X:Cx}(ok:X.Ok)(E:dz):(X.xN E).Ok:=
 ⟨ok.mod,ok.kind,ok.glob,ok.blt,ok.above,ok.inj,ok.has,ok.NS,ok.hd,ok.frames,ok.Qu,ok.VW,ok.bs,ok.JF,ok.zu,ok.BG,ok.kB,ok.HL⟩
theorem Cx.Ok.mG{X:Cx}(ok:(X.xN E).Ok):X.Ok:=
 ⟨ok.mod,ok.kind,ok.glob,ok.blt,ok.above,ok.inj,ok.has,ok.NS,ok.hd,ok.frames,ok.Qu,ok.VW,ok.bs,ok.JF,ok.zu,ok.BG,ok.kB,ok.HL⟩
section
variable {X:Cx}{pins:cz}{σ:St}{H:Hp}{s:Shared}{E:dz}
theorem Inv.xN(I:Inv X pins σ H s)(E:dz):Inv (X.xN E) pins σ H s:=⟨I.ok.xN E,I.os,I.bare,I.base,I.loc,I.cell,I.free,I.iN,I.pin,I.bM,I.len⟩
theorem Inv.mG(I:Inv (X.xN E) pins σ H s):Inv X pins σ H s:=⟨I.ok.mG,I.os,I.bare,I.base,I.loc,I.cell,I.free,I.iN,I.pin,I.bM,I.len⟩
theorem SP.mG(h:SP (X.xN E) pins D f s'):SP X pins D f s':=by
 cases f with
 |next=>obtain⟨cQ,H',I,q⟩:=h;exact⟨cQ,H',I.mG,q⟩
 |brk=>obtain⟨cQ,H',I,q⟩:=h;exact⟨cQ,H',I.mG,q⟩
 |cont=>obtain⟨cQ,H',I,q⟩:=h;exact⟨cQ,H',I.mG,q⟩
 |ret u=>obtain⟨v,cQ,H',I,r,q⟩:=h;exact⟨v,cQ,H',I.mG,r,q⟩
theorem jy.JG{st:List Stmt}(h:jy X.JG st t):jy X st t:=λpins s σ H D I hw=>
 aa6 (h pins s σ H D (I.xN _) hw) (λ_ _ q=>q.mG) λ_ _ z=>False.elim z
end
section
variable {X:Cx}{st:Stmt}{rest:List Stmt}{t u:TS}{e:Expr}{te:TE}{pos:Pos}
def Xn:TS:=λD σ H=>D.nx σ H
def aaK(t u:TS):TS:=λD σ H=>t {D with nx:=u D} σ H
theorem Gf:jy X [] Xn:=λ_ _ σ H _ I h=>adI ⟨σ,H,I,h⟩
theorem mH(h1:PS X st t)(h2:jy X rest u):jy X (st::rest) (aaK t u):=by
 intro pins s σ H D I h
 refine wpAny_execs_cons (dw (h1 pins s σ H {D with nx:=u D} I h) λf s1 q=>?_)
 cases f with
 |next=>
   obtain⟨cQ,H',I',q⟩:=q;exact h2 pins s1 cQ H' D I' q
 |ret v=>exact q
 |brk=>exact q
 |cont=>exact q
theorem zw(h1:PS X st t):jy X [st] t:=by
 intro pins s σ H D I h
 refine wpAny_execs_cons (dw (h1 pins s σ H D I h) λf s1 q=>?_)
 cases f with
 |next=>exact adI q
 |ret v=>exact q
 |brk=>exact q
 |cont=>exact q
theorem Inv.quiet(I:Inv X pins σ H s):interactive X.env=false:=by simp[interactive,I.ok.kind]
def BK(te:TE):TS:=λD σ H=>te σ H λ_ H1=>D.nx σ H1
theorem fw(he:PE X e te)(hs:swapsWith e none pos.line X.env=pure false:=by rfl):PS X (.Expr e pos) (BK te):=by
 intro pins s σ H D I h
 exact wpAny_Expr_any (dw (he pins s σ H _ I h) λv s1 ⟨x,H1,I1,r1,q1⟩=>⟨σ,H1,I1,q1⟩) I.quiet hs
def Xo(te:TE):TS:=λD σ H=>te σ H D.rt
theorem rN(he:PE X e te):PS X (.Return (some e) pos) (Xo te):=by
 intro pins s σ H D I h
 exact wpAny_Return_some (dw (he pins s σ H _ I h) λv s1 ⟨x,H1,I1,r1,q1⟩=>⟨x,σ,H1,I1,r1,q1⟩)
def aaL(c:TT)(t u:TS):TS:=λD σ H=>c σ H λb H1=>if b=true then t D σ H1 else u D σ H1
theorem Qw(hc:PT X c tc)(ha:jy X a t)(hb:jy X b u):PS X (.If c a b pos) (aaL tc t u):=by
 intro pins s σ H D I h
 refine wpAny_If (dw (hc pins s σ H _ I h) λd s1 ⟨H1,I1,q1⟩=>?_)
 cases d with
 |true=>exact ha pins s1 σ H1 D I1 q1
 |false=>exact hb pins s1 σ H1 D I1 q1
def SJ:TS:=λ_ _ _=>False
theorem JW:PS X st SJ:=λ_ _ _ _ _ _ h=>h.elim
end
abbrev TG:=V->St->Hp->(St->Hp->Prop)->Prop
abbrev SK:=List V->St->Hp->(St->Hp->Prop)->Prop
def PG(X:Cx)(target:Expr)(t:TG):Prop:=
 ∀(pins:cz) (s:Shared) (σ:St) (H:Hp) (v:V) (u:Value) (Q:St->Hp->Prop),Inv X pins σ H s->RelV v u->t v σ H Q->
   wpAny (model X.prog X.w) X.A (assign target X.env u) (λ_ s'=>∃cQ H',Inv X pins cQ H' s'/\Q cQ H') X.xe s
def HM(X:Cx)(ts:List Expr)(t:SK):Prop:=
 ∀(pins:cz) (s:Shared) (σ:St) (H:Hp) (vs:List V) (us:bU) (Q:St->Hp->Prop),Inv X pins σ H s->bz vs us->t vs σ H Q->
   wpAny (model X.prog X.w) X.A (assignInOrder ((assignEach ts X.env).map (·.2)) us) (λ_ s'=>∃cQ H',Inv X pins cQ H' s'/\Q cQ H') X.xe s
abbrev Xp:=V->V->V->Hp->(Hp->Prop)->Prop
def Xq(X:Cx)(t:Xp):Prop:=
 ∀(pins:cz) (s:Shared) (σ:St) (H:Hp) (o i v:V) (ov iv u:Value) (Q:Hp->Prop),Inv X pins σ H s->RelV o ov->RelV i iv->RelV v u->t o i v H Q->
   wpAny (model X.prog X.w) X.A (setItem ov iv u) (λ_ s'=>∃H',Inv X pins σ H' s'/\Q H') X.xe s
section
variable {X:Cx}{pos:Pos}
def mI(i:Nat):TG:=λv σ H Q=>Q (σ.set i (some v)) H
theorem aQ(hN:X.N.Nodup)(hi:X.N[i]?=some x)(hx:Loc X.env.scope x)(hf:X.fn x=true\/X.env.scope.names.lookup x=some .local:=by first|exact .inl rfl|exact .inr rfl|assumption):PG X (.Name x pos) (mI i):=by
 intro pins s σ H v u Q I r h
 exact wpAny_assign_Name (mD I hN hi hx r (λs' I'=>⟨_,H,I',h⟩) hf)
def aaM:SK:=λvs σ H Q=>vs=[]/\Q σ H
def Xr(t:TG)(u:SK):SK:=λvs σ H Q=>∃v r,vs=v::r/\t v σ H λcQ H'=>u r cQ H' Q
theorem NU:HM X [] aaM:=by
 intro pins s σ H vs us Q I r h
 obtain⟨e,h⟩:=h
 exact assignInOrder_nil ⟨σ,H,I,h⟩
theorem JX(h1:PG X e t)(h2:HM X es u)
  (hs:(assignEach (e::es) X.env).map (·.2)=assign e X.env::(assignEach es X.env).map (·.2):=by rfl):HM X (e::es) (Xr t u):=by
 intro pins s σ H vs us Q I r h
 obtain⟨v,vr,e1,h⟩:=h
 subst e1
 cases r with
 |cons r rr=>
   rw[hs];refine assignInOrder_cons (dw (h1 pins s σ H _ _ _ I r h) λ_ s1 ⟨Bu,H1,I1,q1⟩=>?_);exact h2 pins s1 Bu H1 _ _ Q I1 rr q1
def aaN(K:ak)(n:Nat)(t:SK):TG:=λv σ H Q=>∃a xs,v=.ref a/\kg K H a xs/\xs.length=n/\t xs σ H Q
theorem SM(hc:X.calm=true)(h:HM X es t)
  (hn:(assignEach es X.env).length=n:=by rfl)(Bv:(assignEach es X.env).findIdx? (·.1)=none:=by rfl):PG X (.Tuple es k pos) (aaN X.K n t):=by
 intro pins s σ H v u Q I r hw
 obtain⟨a,xs,e1,hq,hl,hw⟩:=hw
 subst e1
 cases r
 obtain⟨its,rv,ht,hz⟩:=I.tuple hq
 refine assign_Tuple_tuple (I.ok.hd hc) ht (by simp[hn,<-hl,rv.length]) Bv λh' hx=>?_
 have I1:=I.kept (t':=s.toks) λb o e=>hx b o (aat (aai e)) e
 exact h pins _ σ H xs _ Q I1 (by simpa using rv) hw
def SN(to ti:TE)(t:Xp):TG:=λv σ H Q=>to σ H λo H1=>ti σ H1 λi H2=>t o i v H2 λH3=>Q σ H3
theorem DV(ho:PE X o to)(hi:PE X i ti)(hs:Xq X t)
  (ha:∀v,assign (.Subscript o i pos) X.env v=(do
   let ov <-holding [v] (eval o X.env)
   let iv <-holding [v,ov] (eval i X.env)
   standAt pos
   holding [v,ov,iv] (setItem ov iv v)
   release [v,ov,iv] []):=by intro _;rfl):PG X (.Subscript o i pos) (SN to ti t):=by
 intro pins s σ H v u Q I r h
 refine aaa (abN (dw (ho pins s σ H _ I h) λov s1 ⟨x,H1,I1,r1,q1⟩=>?_))
 refine aaa (abN (dw (hi pins s1 σ H1 _ I1 q1) λiv s2 ⟨y,H2,I2,r2,q2⟩=>?_))
 refine aaa (adk (aaa (abN (dw (hs pins s2 σ H2 x y v ov iv u _ I2 r1 r2 r q2) λ_ s3 ⟨H3,I3,q3⟩=>?_))))
 exact wpAny_release ⟨σ,H3,I3,q3⟩
def uC(te:TE)(g:TG):TS:=λD σ H=>te σ H λx H1=>g x σ H1 D.nx
theorem zx(he:PE X e te)(hg:PG X tg g)(hs:swapsWithSole [tg] e pos.line X.env=pure false:=by rfl)(hw:swappedStores [tg] e X.env=pure none:=by rfl)
  (h1:(assignEach [tg] X.env).map (·.2)=[assign tg X.env]:=by rfl):PS X (.Assign [tg] e pos) (uC te g):=by
 intro pins s σ H D I h
 refine wpAny_Assign_stores (dw (he pins s σ H _ I h) λv s1 ⟨x,H1,I1,r1,q1⟩=>?_) hs hw
 rw[h1]
 exact dw (hg pins s1 σ H1 x v _ I1 r1 q1) λ_ s2 q=>q
theorem fR(hN:X.N.Nodup)(hi:X.N[i]?=some x)(hx:Loc X.env.scope x)(he:PE X e te)(hs:swapsWith e (some (.Name x pos')) pos.line X.env=pure false:=by rfl)(hf:X.fn x=true\/X.env.scope.names.lookup x=some .local:=by first|exact .inl rfl|exact .inr rfl|assumption):
  PS X (.Assign [.Name x pos'] e pos) (uC te (mI i)):=by
 intro pins s σ H D I h
 refine wpAny_Assign_Name (dw (he pins s σ H _ I h) λv s1 ⟨y,H1,I1,r1,q1⟩=>?_) hs
 exact mD I1 hN hi hx r1 (λs2 I2=>⟨_,H1,I2,q1⟩) hf
def Xs(i j:Nat)(ta:TA):TS:=λD σ H=>ta σ H λvs H1=>∃v w,vs=[v,w]/\D.nx ((σ.set i (some v)).set j (some w)) H1
theorem SO(hc:X.calm=true)(hN:X.N.Nodup)(hi:X.N[i]?=some x)(hj:X.N[j]?=some y)(rO:i≠j)
  (hx:X.env.scope.names.lookup x=some .local)(hy:X.env.scope.names.lookup y=some .local)(ha:PA X [a,b] ta)
  (hw:swappedStores [.Tuple [.Name x px,.Name y py] kt pt] (.Tuple [a,b] k2 pt2) X.env=pure (some [x,y]))
  (hs:swapsWithSole [.Tuple [.Name x px,.Name y py] kt pt] (.Tuple [a,b] k2 pt2) pos.line X.env=pure false:=by rfl):
  PS X (.Assign [.Tuple [.Name x px,.Name y py] kt pt] (.Tuple [a,b] k2 pt2) pos) (Xs i j ta):=by
 intro pins s σ H D I h
 refine aaa (adk ?_)
 refine aaa (aae ?_)
 refine aaa (Tuple_ (dw (ha _ pins s σ H _ I h) λus s1 ⟨vs,H1,I1,r1,q1⟩=>?_))
 obtain⟨v,w,e1,q1⟩:=q1
 subst e1
 obtain⟨u1,u2,rfl,rv,HN⟩:∃u1 u2,us=[u1,u2]/\RelV v u1/\RelV w u2:=by
  cases r1 with
  |cons p q=>
    cases q with
    |cons p' q'=>
      cases q';exact⟨_,_,rfl,p,p'⟩
 refine acr ?_ (by show 2<=sizeLine;decide)
 have I2:Inv X pins σ H1 {s1 with heap:=s1.heap.push {cls:=.type "tuple",data:=.seq [u1,u2].toArray}}:=I1.kept (t':=s1.toks) λb o e=>aab _ e
 rw[hw]
 refine aaa (aae ?_)
 refine aaa (ad7 (aaa (unpackItems_tuple (items:=#[u1,u2]) (I.ok.hd hc) (IsTup.new s1.heap _) λh' hx'=>?_)))
 have I3:=I2.kept (h':=h') (t':=s1.toks) λb o e=>hx' b o (aat (aai e)) e
 refine aaa (assignInOrder_cons (wpAny_bindName (mD I3 hN hj (.inl hy) HN (λs2 I4=>?_) (.inr hy))))
 refine assignInOrder_cons (wpAny_bindName (mD I4 hN hi (.inl hx) rv (λs3 I5=>assignInOrder_nil (aae ?_)) (.inr hx)))
 rw[List.set_comm _ _ (acb rO)]at I5
 exact⟨_,H1,I5,q1⟩
end
section
variable {X:Cx}{pos:Pos}
def SQ(c:TT)(tb:TS):TS:=λD σ H=>∃W:Nat->St->Hp->Prop,(∃m,W m σ H)/\∀m σ H,W m σ H->
 c σ H λb H1=>if b=true then ∃N:St->Hp->Prop,(∀cQ H',N cQ H'->∃m',m'<m/\W m' cQ H')/\tb {D with nx:=N,ct:=N,bk:=D.nx} σ H1 else D.nx σ H1
theorem JY(hp:PassesOwn (model X.prog X.w) X.A X.env X.xe)(hc:PT X c tc)(hb:jy X body tb):PS X (.While c body [] pos) (SQ tc tb):=by
 intro pins s σ H D I h
 obtain⟨W,⟨m0,w0⟩,turn⟩:=h
 refine wpAny_While (codeAny_whileLoop (λn s'=>∃cQ H',Inv X pins cQ H' s'/\W n cQ H') ?_ m0 ⟨σ,H,I,w0⟩)
 rintro n s1 ⟨Bu,H1,I1,w1⟩
 refine acX hp (dw (hc pins s1 Bu H1 _ I1 (turn n Bu H1 w1)) λb s2 ⟨H2,I2,q2⟩=>?_)
 cases b with
 |true=>
   obtain⟨N,hN,q2⟩:=q2;refine acX hp (dw (hb pins s2 Bu H2 _ I2 q2) λf s3 q3=>?_);cases f with
   |next=>
     obtain⟨JZ,H3,I3,n3⟩:=q3;obtain⟨m',hm,w3⟩:=hN JZ H3 n3;exact⟨m',hm,JZ,H3,I3,w3⟩
   |cont=>
     obtain⟨JZ,H3,I3,n3⟩:=q3;obtain⟨m',hm,w3⟩:=hN JZ H3 n3;exact⟨m',hm,JZ,H3,I3,w3⟩
   |brk=>exact q3
   |ret v=>exact q3
 |false=>
   exact adI ⟨Bu,H2,I2,q2⟩
end
structure It where
 go:Nat->Hp->Prop
 Xu:Nat->Hp->V->Hp->Prop
 stop:Nat->Hp->Prop
def uD(X:Cx)(pins:cz)(H:Hp)(b:Addr):Prop:=
 H b=none/\b≠X.env.locals/\b∉X.fs/\(b∈X.ex\/X.h8.heap.objs.size<=b)/\(∀x c,X.env.cells.lookup x=some c->c≠b)/\∀p∈X.pn++pins,p.1≠b
theorem Inv.uE(I:Inv X pins σ H s)(hb:s.heap.objs.size<=b)(hn:H' b=none):uD X pins H' b:=by
 refine⟨hn,adg (aao I.lt hb),I.Xg hb,.inr (aaW I.sz hb),λx c e z=>?_,λp hp z=>?_⟩
 .obtain ⟨v,q⟩:=I.cell x c e;exact absurd (aao q.lt (by rw[z];exact hb)) (abM _)
 .exact absurd (aao (aai (I.pin p hp).1) (by rw[z];exact hb)) (abM _)
abbrev BL(X:Cx):Prop:=X.calm=true
structure J0(gd:Cx->Prop)(P:Program)(w:World)(K:ak)(tg:Expr)(J:It)(fp:List Addr)(it:Addr)(tn:Nat->Heap->Prop):Prop where
 mem:it∈fp
 obj:∀i h,tn i h->∀b∈fp,∃o,h.get? b=some o/\∀v,o.data≠.cell v
 keep:∀i h h',tn i h->(∀b∈fp,∀o,h.get? b=some o->h'.get? b=some o)->tn i h'
 item:∀(X:Cx),X.prog=P->X.w=w->X.K=K->gd X->∀(i:Nat) (pins:cz) (s:Shared) (σ:St) (H:Hp) (E:dz),Inv X pins σ H s->(∀b∈fp,uD X pins H b)->tn i s.heap->J.go i H->
  wpAny (model P w) X.A (pyNext (.ref it)) (λr s1=>∃u,r=some u/\
   wpAny (model P w) X.A (letOwnedTupleGo tg (.ref it) u) (λ_ s2=>∃x H',Inv X pins σ H' s2/\RelV x u/\J.Xu i H x H'/\tn (i+1) s2.heap/\∀b∈fp,H' b=none) E s1) E s
 done:∀(X:Cx),X.prog=P->X.w=w->X.K=K->gd X->∀(i:Nat) (pins:cz) (s:Shared) (σ:St) (H:Hp) (E:dz),Inv X pins σ H s->(∀b∈fp,uD X pins H b)->tn i s.heap->J.stop i H->
  wpAny (model P w) X.A (pyNext (.ref it)) (λr s1=>r=none/\Inv X pins σ H s1) E s
 self:∀(A:Around) (i:Nat) (s:Shared) (Q:dz) (E:dz),tn i s.heap->Q (.ref it) s->wpAny (model P w) A (pyIter (.ref it)) Q E s
abbrev Turn:=J0 BL
abbrev TI:=St->Hp->(It->Hp->Prop)->Prop
def NV(gd:Cx->Prop)(X:Cx)(pins:cz)(σ:St)(tg:Expr)(R:It->Hp->Prop)(Qx:Value)(s2:Shared):Prop:=
 ∃(it:Addr) (fp:List Addr) (tn:Nat->Heap->Prop) (J:It) (H':Hp),Qx=.ref it/\Inv X pins σ H' s2/\J0 gd X.prog X.w X.K tg J fp it tn/\tn 0 s2.heap/\(∀b∈fp,uD X pins H' b)/\R J H'
abbrev PIE:=NV BL
def PIG(gd:Cx->Prop)(X:Cx)(tg iter:Expr)(wi:TI):Prop:=
 ∀(pins:cz) (s:Shared) (σ:St) (H:Hp) (R:It->Hp->Prop),Inv X pins σ H s->wi σ H R->
   wpAny (model X.prog X.w) X.A (eval iter X.env) (λv s1=>wpAny (model X.prog X.w) X.A (pyIter v) (NV gd X pins σ tg R) X.xe s1) X.xe s
abbrev PI:=PIG BL
theorem Gg(ho:s.heap.get? it=some o)(hc:o.cls=.type n)(hd:o.data=.fields vs)
  (hn:["enumerate","zip","dict_itemiterator","dict_reverseitemiterator","odict_iterator","itertools.zip_longest","itertools.pairwise"].contains n=false)(hQ:Q () s):wpAny M A (letOwnedTupleGo tg (.ref it) u) Q E s:=by
 cases tg<;>first
  |exact aae hQ
  |(cases u<;>first
    |exact aae hQ
    | (refine aaa (wpAny_load ho ?_);rw[hc,hd];show wpAny M A (if(["enumerate","zip","dict_itemiterator","dict_reverseitemiterator","odict_iterator","itertools.zip_longest","itertools.pairwise"].contains n&&vs[0]?==some (rawInt _))=true then _ else _) Q E s;rw[aaO (by intro h;rw[hn,Bool.false_and]at h;cases h)];exact aae hQ))
def Itl(K:ak)(a:Addr):It:=
 ⟨λi H=>∃xs x,kY K H a xs/\xs[i]?=some x,λi H x H'=>H'=H/\∀xs,kY K H a xs->xs[i]?=some x,λi H=>∃xs,kY K H a xs/\xs.length<=i⟩
def Itt(K:ak)(a:Addr):It:=
 ⟨λi H=>∃xs x,kg K H a xs/\xs[i]?=some x,λi H x H'=>H'=H/\∀xs,kg K H a xs->xs[i]?=some x,λi H=>∃xs,kg K H a xs/\xs.length<=i⟩
def ZP(lo:Int)(n:Nat):It:=⟨λi _=>i<n,λi H x H'=>H'=H/\x=.int (lo+i),λi _=>n<=i⟩
theorem HP{K:ak}(a it:Addr):Turn P w K tg (Itl K a) [it] it (λi h=>h.IsListIter it a i) where
 mem:=by simp
 obj:=λi h st b hb=>by
  have e:b=it:=by simpa using hb
  subst e;obtain⟨o,e,c,d⟩:=st;exact⟨o,e,λv z=>by rw[d]at z;cases z⟩
 keep:=λi h h' st k=>st.at λo e=>k it (by simp) o e
 item:=by
  intro X hP hw hK hc i pins s σ H E I hf st hg;subst hP hw hK;obtain⟨xs,x,hq,hx⟩:=hg;obtain⟨its,rv,p,hz⟩:=I.list hq;obtain⟨u,hu,ru⟩:=rv.get hx;obtain⟨f0,f1,f2,f3,f4,f5⟩:=hf it (by simp);refine wpAny_pyNext_list_item st p.isList (x:=u) (by simpa using hu) λh' Bw sb=>?_;have I1:=I.turned (t':=s.toks) (λb o hb e=>(sb.2 b hb).trans e) f0 f1 f3 f4 f5;obtain⟨o,e,c,d⟩:=id Bw;exact⟨u,rfl,Gg (s:={s with heap:=h'}) e c d (by decide) ⟨x,H,I1,ru,⟨rfl,λys hy=>by rw[I.vo hy hq];exact hx⟩,Bw,λb hb=>(hf b hb).1⟩⟩
 done:=by
  intro X hP hw hK hc i pins s σ H E I hf st hg;subst hP hw hK;obtain⟨xs,hq,hx⟩:=hg;obtain⟨its,rv,p,hz⟩:=I.list hq;obtain⟨f0,f1,f2,f3,f4,f5⟩:=hf it (by simp);have hl:=rv.length;exact wpAny_pyNext_list_end (I.ok.hd hc) st p.isList (by simp;lia) λh' eb=>⟨rfl,I.turned (t':=s.toks) (λb o hb e=>eb b o hb e) f0 f1 f3 f4 f5⟩
 self:=λ_ _ _ _ _ st h=>wpAny_pyIter_listiter st h
theorem DW{K:ak}(a it:Addr):Turn P w K tg (Itt K a) [it] it (λi h=>h.IsTupleIter it a i) where
 mem:=by simp
 obj:=λi h st b hb=>by
  have e:b=it:=by simpa using hb
  subst e;obtain⟨o,e,c,d⟩:=st;exact⟨o,e,λv z=>by rw[d]at z;cases z⟩
 keep:=λi h h' st k=>st.at λo e=>k it (by simp) o e
 item:=by
  intro X hP hw hK hc i pins s σ H E I hf st hg;subst hP hw hK;obtain⟨xs,x,hq,hx⟩:=hg;obtain⟨its,rv,p,hz⟩:=I.tuple hq;obtain⟨u,hu,ru⟩:=rv.get hx;obtain⟨f0,f1,f2,f3,f4,f5⟩:=hf it (by simp);refine wpAny_pyNext_tuple_item st (show s.heap.IsTuple a its.toArray from p) (x:=u) (by simpa using hu) λh' Bw sb=>?_;have I1:=I.turned (t':=s.toks) (λb o hb e=>(sb.2 b hb).trans e) f0 f1 f3 f4 f5;obtain⟨o,e,c,d⟩:=id Bw;exact⟨u,rfl,Gg (s:={s with heap:=h'}) e c d (by decide) ⟨x,H,I1,ru,⟨rfl,λys hy=>by rw[I.og hy hq];exact hx⟩,Bw,λb hb=>(hf b hb).1⟩⟩
 done:=by
  intro X hP hw hK hc i pins s σ H E I hf st hg;subst hP hw hK;obtain⟨xs,hq,hx⟩:=hg;obtain⟨its,rv,p,hz⟩:=I.tuple hq;obtain⟨f0,f1,f2,f3,f4,f5⟩:=hf it (by simp);have hl:=rv.length;exact wpAny_pyNext_tuple_end (I.ok.hd hc) st (show s.heap.IsTuple a its.toArray from p) (by simp;lia) λh' eb=>⟨rfl,I.turned (t':=s.toks) (λb o hb e=>eb b o hb e) f0 f1 f3 f4 f5⟩
 self:=λ_ _ _ _ _ st h=>wpAny_pyIter_tupleiter st h
theorem DX{K:ak}(it:Addr)(lo:Int)(n:Nat):Turn P w K tg (ZP lo n) [it] it (λi h=>IsRangeIter h it (lo+(i:Nat)*1) ((n:Int)-(i:Nat)) 1) where
 mem:=by simp
 obj:=λi h st b hb=>by grind
 keep:=λi h h' st k=>k it (by simp) _ st
 item:=by
  intro X hP hw hK hc i pins s σ H E I hf st hg;subst hP hw hK;obtain⟨f0,f1,f2,f3,f4,f5⟩:=hf it (by simp);have W:=Walks.range (prog:=X.prog) (w:=X.w) (I.ok.hd hc) it lo 1 n;refine W.item i s _ _ hg st λv h' tk hv Bw kk=>?_;obtain⟨t,rfl⟩:=hv;have I1:Inv X pins σ H {s with heap:=h',toks:=tk}:=I.turned (λb o hb e=>kk b o (by simpa using hb) e) f0 f1 f3 f4 f5;refine⟨_,rfl,Gg (s:={s with heap:=h',toks:=tk}) (n:="range_iterator") Bw rfl rfl (by decide) ⟨.int (lo+i),H,I1,⟨t,?_⟩,⟨rfl,rfl⟩,Bw,λb hb=>(hf b hb).1⟩⟩;rw[Int.mul_one]
 done:=by
  intro X hP hw hK hc i pins s σ H E I hf st hg;obtain⟨f0,f1,f2,f3,f4,f5⟩:=hf it (by simp);exact wpAny_pyNext_range_end (I.ok.hd hc) st (by have:n<=i:=hg;lia) λh' eb=>⟨rfl,I.turned (t':=s.toks) (λb o hb e=>eb b o hb e) f0 f1 f3 f4 f5⟩
 self:=λ_ _ _ _ _ st h=>wpAny_pyIter_rangeiter st h
section
variable {X:Cx}{tg:Expr}
theorem J1{lo hi:Int}(I:Inv X pins σ H s)(h1:-(2^62)<=lo)(h2:lo<2^62)(h3:-(2^62)<=hi)(h4:hi<2^62)
  (q:R (ZP lo (hi-lo).toNat) H):wpAny (model X.prog X.w) X.A (pyIter (.ref s.heap.objs.size)) (PIE X pins σ tg R) E {s with heap:=s.heap.push {cls:=.type "range",data:=.fields #[.int lo t,.int hi u,.int 1 v]},toks:=tk}:=by
 refine wpAny_pyIter_range (IsRange.new ..) (small_one h1 h2 h3 h4) ?_
 have I1:Inv X pins σ H {s with heap:=s.heap.push {cls:=.type "range",data:=.fields #[.int lo t,.int hi u,.int 1 v]},toks:=tk}:=I.kept λb o e=>aab _ e
 refine⟨(s.heap.push {cls:=.type "range",data:=.fields #[.int lo t,.int hi u,.int 1 v]}).objs.size,[(s.heap.push {cls:=.type "range",data:=.fields #[.int lo t,.int hi u,.int 1 v]}).objs.size],_,_,H,rfl,
  I1.kept (t':=tk) λb o e=>aab _ e,DX _ lo (hi-lo).toNat,?_,λb hb=>?_,q⟩
 .have e1:lo+((0:Nat):Int)*1=lo:=by simp
  have e2:(((hi-lo).toNat:Nat):Int)-((0:Nat):Int)=Builtin.Range.rangeSize lo hi 1:=by rw[rangeSize_one];split<;>lia
  rw[e1,e2];exact aag _ rfl
 .have e:b=(s.heap.push {cls:=.type "range",data:=.fields #[.int lo t,.int hi u,.int 1 v]}).objs.size:=by simpa using hb
  subst e;exact I1.uE (aah _) (I1.bM.fresh (aah _))
def Xv(ta:TA):TI:=λσ H R=>ta σ H λvs H1=>∃j:Int,vs=[.int j]/\-(2^62)<=j/\j<2^62/\R (ZP 0 j.toNat) H1
theorem HQ(hg:Gl X "range")(hm:X.mg "range"=none)(ha:PA X [a] ta)(hs:starEach [a] X.env=[(false,eval a X.env)]:=by rfl):PI X tg (.Call (.Name "range" p) [a] [] pos) (Xv ta):=by
 intro pins s σ H R I h
 refine Call_ (mE I hg hm boot_range (acq (dw (ha pos pins s σ H _ I h) λus s1 ⟨vs,H1,I1,r1,q1⟩=>?_) hs rfl))
 obtain⟨j,e,q1,q2,q⟩:=q1
 subst e
 cases r1 with
 |cons r rr=>
   cases rr;obtain⟨t,rfl⟩:=r;exact call_range_1 (J1 I1 (by lia) (by lia) q1 q2 (by simpa using q))
def aaQ(wi:TI)(g:TG)(tb:TS):TS:=λD σ H=>wi σ H λJ H1=>∃W:Nat->Nat->St->Hp->Prop,(∃m,W 0 m σ H1)/\∀i m σ H,W i m σ H->
 (J.stop i H/\D.nx σ H)\/(J.go i H/\∃N:St->Hp->Prop,(∀cQ H',N cQ H'->∃m',m'<m/\W (i+1) m' cQ H')/\∀x H',J.Xu i H x H'->g x σ H' λσ2 H2=>tb {D with nx:=N,ct:=N,bk:=D.nx} σ2 H2)
def rP(fp:List Addr)(h:Heap):cz:=fp.filterMap λb=>(h.get? b).map λo=>(b,o)
theorem jE(hb:b∈fp)(e:h.get? b=some o):(b,o)∈rP fp h:=aer.mpr ⟨b,hb,by rw[e];rfl⟩
theorem yG(hp:p∈rP fp h):p.1∈fp/\h.get? p.1=some p.2:=by
 obtain⟨b,hb,e⟩:=aer.mp hp
 cases q:h.get? b with
 |none=>rw[q]at e;cases e
 |some o=>grind
theorem Inv.pinned(I:Inv X pins σ H s)(hf:∀b∈fp,uD X pins H b)(ho:∀b∈fp,∃o,s.heap.get? b=some o/\∀v,o.data≠.cell v):Inv X (pins++rP fp s.heap) σ H s:=
 I.n9 λp hp=>(aaf.mp hp).elim (λz=>I.pin p (aad _ z)) λz=>by
  obtain⟨hb,e⟩:=yG z;obtain⟨f0,f1,f2,_⟩:=hf p.1 hb;obtain⟨o,e',d⟩:=ho p.1 hb;rw[e]at e';cases e';exact⟨e,f0,f1,f2,d⟩
theorem Inv.vp(I:Inv X (pins++pl) σ H s):Inv X pins σ H s:=I.n9 λp hp=>I.pin p (aad _ (aar _ hp))
theorem J2(hp:PassesOwn (model X.prog X.w) X.A X.env X.xe)(hc:X.calm=true)(hi:PI X tg iter wi)(hg:PG X tg g)(hb:jy X body tb)
  (hs:∀x,foldedSetIterable iter X.env x=pure x:=by intro _;rfl):PS X (.For tg iter body [] pos) (aaQ wi g tb):=by
 intro pins s σ H D I h
 refine wpAny_For (dw (hi pins s σ H _ I h) λv s1 h1=>dw h1 λQx s2 h2=>?_) hs
 obtain⟨it,fp,tn,J,H2,e,I2,T,jF,f2,W,⟨m0,w0⟩,turn⟩:=h2
 subst e
 have DY:∀{H':Hp},(∀b∈fp,H' b=none)->∀b∈fp,uD X pins H' b:=λhn b hb=>⟨hn b hb,(f2 b hb).2⟩
 refine codeAny_forLoop_any (λn s'=>∃i cQ H',Inv X pins cQ H' s'/\tn i s'.heap/\(∀b∈fp,H' b=none)/\W i n cQ H') ?_ m0 ⟨0,σ,H2,I2,jF,λb hb=>(f2 b hb).1,w0⟩
 rintro n s3 ⟨i,JZ,H3,I3,Nt,fr3,w3⟩
 rcases turn i n JZ H3 w3 with⟨stop,qn⟩|⟨go,N,hN,step⟩
 .refine acX hp (dw (T.done X rfl rfl rfl hc i pins s3 JZ H3 X.xe I3 (DY fr3) Nt stop) λr s4 ⟨hr,I4⟩=>?_);subst hr;exact adI ⟨JZ,H3,I4,qn⟩
 .refine acX hp (dw (T.item X rfl rfl rfl hc i pins s3 JZ H3 X.xe I3 (DY fr3) Nt go) λr s4 ⟨u,hr,h4⟩=>?_);subst hr;refine acX hp (dw h4 λ_ s5 ⟨x,H5,I5,r5,y5,Qy,fr5⟩=>?_);have I5':=I5.pinned (DY fr5) (T.obj _ _ Qy);refine acX hp (dw (hg _ s5 JZ H5 x u _ I5' r5 (step x H5 y5)) λ_ s6 ⟨σ6,H6,I6,q6⟩=>?_);refine acX hp (dw (hb _ s6 σ6 H6 _ I6 q6) λf s7 q7=>?_);have again:∀{J3:St} {H7:Hp},Inv X (pins++rP fp s5.heap) J3 H7 s7->N J3 H7->∃m,m<n/\∃i cQ H',Inv X pins cQ H' s7/\tn i s7.heap/\(∀b∈fp,H' b=none)/\W i m cQ H':=λ{J3 H7} I7 n7=>by
   obtain⟨m',hm,w7⟩:=hN J3 H7 n7;refine⟨m',hm,i+1,J3,H7,I7.vp,T.keep _ _ _ Qy λb hb o e=>(I7.pin (b,o) (aad _ (aad _ (jE hb e)))).1,λb hb=>?_,w7⟩;obtain⟨o,e,d⟩:=T.obj _ _ Qy b hb;exact(I7.pin (b,o) (aad _ (aad _ (jE hb e)))).2.1
  cases f with
  |next=>obtain⟨J3,H7,I7,n7⟩:=q7;exact again I7 n7
  |cont=>obtain⟨J3,H7,I7,n7⟩:=q7;exact again I7 n7
  |brk=>obtain⟨J3,H7,I7,q7⟩:=q7;exact⟨J3,H7,I7.vp,q7⟩
  |ret v=>obtain⟨x7,J3,H7,I7,r7,q7⟩:=q7;exact⟨x7,J3,H7,I7.vp,r7,q7⟩
end
abbrev R2:=V->V->Hp->VK->Prop
def jz(X:Cx)(f:Value->Value->Sem Value)(r:R2):Prop:=
 ∀(pins:cz) (s:Shared) (σ:St) (H:Hp) (x y:V) (v u:Value) (Q:VK),Inv X pins σ H s->RelV x v->RelV y u->r x y H Q->
   wpAny (model X.prog X.w) X.A (f v u) (EP X pins σ Q) X.xe s
def UnR(X:Cx)(f:Value->Sem Value)(r:V->Hp->VK->Prop):Prop:=
 ∀(pins:cz) (s:Shared) (σ:St) (H:Hp) (x:V) (v:Value) (Q:VK),Inv X pins σ H s->RelV x v->r x H Q->
   wpAny (model X.prog X.w) X.A (f v) (EP X pins σ Q) X.xe s
def eV(X:Cx)(f:Value)(r:List V->Hp->VK->Prop):Prop:=
 ∀(pins:cz) (s:Shared) (σ:St) (H:Hp) (xs:List V) (us:bU) (Q:VK),Inv X pins σ H s->bz xs us->r xs H Q->
   wpAny (model X.prog X.w) X.A (call f us) (EP X pins σ Q) X.xe s
def aaU(X:Cx)(r:V->Hp->(Bool->Hp->Prop)->Prop):Prop:=
 ∀(pins:cz) (s:Shared) (σ:St) (H:Hp) (x:V) (v:Value) (Q:Bool->Hp->Prop),Inv X pins σ H s->RelV x v->r x H Q->
   wpAny (model X.prog X.w) X.A (truthy v) (TP X pins σ Q) X.xe s
def SR(r:R2)(ta tb:TE):TE:=λσ H Q=>ta σ H λx H1=>tb σ H1 λy H2=>r x y H2 Q
def tUn(r:V->Hp->VK->Prop)(ta:TE):TE:=λσ H Q=>ta σ H λx H1=>r x H1 Q
def rI(C:Int->Int->Prop)(g:Int->Int->V):R2:=λx y H Q=>∃i j,x=.int i/\y=.int j/\C i j/\Q (g i j) H
def J4(g:Int->Int->V):R2:=λx y H Q=>∃i j,x=.int i/\y=.int j/\Q (g i j) H
def rU(g:Int->V):V->Hp->VK->Prop:=λx H Q=>∃i,x=.int i/\Q (g i) H
section
variable {X:Cx}{a b:Expr}{ta tb:TE}{pos:Pos}
theorem SS(ha:PE X a ta)(hb:PE X b tb){R:V->V->Hp->Prop}(I:Inv X pins σ H s)
  (h:ta σ H λx H1=>tb σ H1 λy H2=>R x y H2){f:Value->Value->Sem Value}
  (hf:∀v u s2 x y H2,Inv X pins σ H2 s2->RelV x v->RelV y u->R x y H2->wpAny (model X.prog X.w) X.A (f v u) Q X.xe s2):
  wpAny (model X.prog X.w) X.A (eval a X.env) (λv bO=>wpAny (model X.prog X.w) X.A (eval b X.env) (λu mF=>wpAny (model X.prog X.w) X.A (f v u) Q X.xe mF) X.xe bO) X.xe s:=by
 refine dw (ha pins s σ H _ I h) λv s1 ⟨x,H1,I1,r1,q1⟩=>?_
 refine dw (hb pins s1 σ H1 _ I1 q1) λu s2 ⟨y,H2,I2,r2,q2⟩=>?_
 exact hf v u s2 x y H2 I2 r1 r2 q2
theorem QA(ho:jz X (binaryOp op) r)(ha:PE X a ta)(hb:PE X b tb):PE X (.BinOp a op b pos) (SR r ta tb):=by
 intro pins s σ H Q I h
 exact wpAny_BinOp (SS ha hb I h λv u s2 x y H2 I2 rx ry q=>ho pins s2 σ H2 x y v u Q I2 rx ry q)
theorem Xw(ho:UnR X (unaryOp op) r)(ha:PE X a ta):PE X (.UnaryOp op a pos) (tUn r ta):=by
 intro pins s σ H Q I h
 exact UnaryOp_ (dw (ha pins s σ H _ I h) λv s1 ⟨x,H1,I1,r1,q1⟩=>ho pins s1 σ H1 x v Q I1 r1 q1)
theorem ZQ{g:Int->Int->Int}
  (rule:∀(i j:Int) (t u:Tok) (s:Shared) (Q:dz) (E:dz),C i j->Q (.int (g i j) s.toks) {s with toks:=s.toks+1}->wpAny (model X.prog X.w) X.A (f (.int i t) (.int j u)) Q E s):
  jz X f (rI C λi j=>.int (g i j)):=by
 intro pins s σ H x y v u Q I rx ry h
 obtain⟨i,j,rfl,rfl,hc,q⟩:=h
 obtain⟨t,rfl⟩:=rx
 obtain⟨t',rfl⟩:=ry
 exact rule i j t t' s _ _ hc ⟨.int (g i j),H,I.tok _,⟨_,rfl⟩,q⟩
theorem Xx{g:Int->Int->Int}
  (rule:∀(i j:Int) (t u:Tok) (s:Shared) (Q:dz) (E:dz),Q (.int (g i j) s.toks) {s with toks:=s.toks+1}->wpAny (model X.prog X.w) X.A (f (.int i t) (.int j u)) Q E s):
  jz X f (J4 λi j=>.int (g i j)):=by
 intro pins s σ H x y v u Q I rx ry h
 obtain⟨i,j,rfl,rfl,q⟩:=h
 obtain⟨t,rfl⟩:=rx
 obtain⟨t',rfl⟩:=ry
 exact rule i j t t' s _ _ ⟨.int (g i j),H,I.tok _,⟨_,rfl⟩,q⟩
theorem NW{g:Int->Int->Bool}
  (rule:∀(i j:Int) (t u:Tok) (s:Shared) (Q:dz) (E:dz),Q (.bool (g i j)) s->wpAny (model X.prog X.w) X.A (f (.int i t) (.int j u)) Q E s):
  jz X f (J4 λi j=>.bl (g i j)):=by
 intro pins s σ H x y v u Q I rx ry h
 obtain⟨i,j,rfl,rfl,q⟩:=h
 obtain⟨t,rfl⟩:=rx
 obtain⟨t',rfl⟩:=ry
 exact rule i j t t' s _ _ ⟨.bl (g i j),H,I,rfl,q⟩
def SU(i j:Int):Prop:=0<=j/\j<=1000000/\i.natAbs<2^64
theorem SV:jz X (binaryOp .Add) (J4 λi j=>.int (i+j)):=Xx λ_ _ _ _ _ _ _ q=>add_int q
theorem k9:jz X (binaryOp .Sub) (J4 λi j=>.int (i-j)):=Xx λ_ _ _ _ _ _ _ q=>sub_int q
theorem b6:jz X (binaryOp .Mod) (rI (λ_ j=>j≠0) λi j=>.int (i.fmod j)):=ZQ λ_ _ _ _ _ _ _ hc q=>mod_int' hc q
theorem zy:jz X (binaryOp .Pow) (rI SU λi j=>.int (i^j.toNat)):=ZQ λ_ _ _ _ _ _ _ hc q=>pow_int_small hc.1 hc.2.1 hc.2.2 q
theorem unI{g:Int->Int}
  (rule:∀(i:Int) (t:Tok) (s:Shared) (Q:dz) (E:dz),Q (.int (g i) s.toks) {s with toks:=s.toks+1}->wpAny (model X.prog X.w) X.A (f (.int i t)) Q E s):
  UnR X f (rU λi=>.int (g i)):=by
 intro pins s σ H x v Q I rx h
 obtain⟨i,rfl,q⟩:=h
 obtain⟨t,rfl⟩:=rx
 exact rule i t s _ _ ⟨.int (g i),H,I.tok _,⟨_,rfl⟩,q⟩
theorem SW:UnR X (unaryOp .USub) (rU λi=>.int (-i)):=unI λ_ _ _ _ _ q=>neg_int q
end
section
variable {X:Cx}{a b c:Expr}{ta tb tc:TE}{pos:Pos}
theorem SX(I:Inv X pins σ H s)(q:Q (.bl k) H)(e:k=k'):EP X pins σ Q (.bool k') s:=by
 subst e
 exact⟨.bl k,H,I,rfl,q⟩
theorem yH:jz X (compareOp .Lt) (J4 λi j=>.bl (decide (i<j))):=NW λ_ _ _ _ _ _ _ q=>lt_int q
theorem BM:jz X (compareOp .LtE) (J4 λi j=>.bl (decide (i<=j))):=NW λ_ _ _ _ _ _ _ q=>le_int q
theorem qw:jz X (compareOp .Gt) (J4 λi j=>.bl (decide (j<i))):=NW λ_ _ _ _ _ _ _ q=>gt_int q
theorem BN:jz X (compareOp .GtE) (J4 λi j=>.bl (decide (j<=i))):=NW λ_ _ _ _ _ _ _ q=>ge_int q
theorem yI:jz X (compareOp .In) (λx y H Q=>∃i j,x=.str i/\y=.str j/\Q (.bl (!(Builtin.Str.occurrences j i 0 j.length 1).isEmpty)) H):=by
 intro pins s σ H x y v u Q I rx ry h
 obtain⟨i,j,rfl,rfl,q⟩:=h
 obtain⟨t,rfl⟩:=rx
 obtain⟨t',rfl⟩:=ry
 exact in_str (SX I q rfl)
theorem jz.or(h:jz X f r)(h':jz X f r'):jz X f (λx y H Q=>r x y H Q\/r' x y H Q):=by
 intro pins s σ H x y v u Q I rx ry q
 rcases q with q|q
 .exact h pins s σ H x y v u Q I rx ry q
 .exact h' pins s σ H x y v u Q I rx ry q
theorem ba(b:Expr)(h:op≠.In:=by decide)(h2:op≠.NotIn:=by decide):behindInMarks op b=false:=by
 have e1:(op==CmpOp.In)=false:=by cases op<;>first|rfl|exact absurd rfl h
 have e2:(op==CmpOp.NotIn)=false:=by cases op<;>first|rfl|exact absurd rfl h2
 cases b<;>simp[behindInMarks,e1,e2]
theorem Gh(ho:jz X (compareOp op) r)(ha:PE X a ta)(hb:PE X b tb)(hm:behindInMarks op b=false):PE X (.Compare a [op] [b] pos) (SR r ta tb):=by
 intro pins s σ H Q I h
 exact wpAny_Compare1 (SS ha hb I h λv u s2 x y H2 I2 rx ry q=>ho pins s2 σ H2 x y v u Q I2 rx ry q) hm
def QB(t:TE):TT:=λσ H Q=>t σ H λx H'=>∃k,x=.bl k/\Q k H'
theorem Gi(ho:jz X (compareOp op) r)(ha:PE X a ta)(hb:PE X b tb)(hm:behindInMarks op b=false):PT X (.Compare a [op] [b] pos) (QB (SR r ta tb)):=by
 intro pins s σ H Q I h
 refine wpAny_isTrue_Compare1 (dw (ha pins s σ H _ I h) λv s1 ⟨x,H1,I1,r1,q1⟩=>dw (hb pins s1 σ H1 _ I1 q1) λu s2 ⟨y,H2,I2,r2,q2⟩=>
  dw (ho pins s2 σ H2 x y v u _ I2 r1 r2 q2) λc s3 ⟨z,H3,I3,r3,k,e,q3⟩=>?_) hm
 subst e
 cases r3
 exact ab2 ⟨H3,I3,q3⟩
def DZ(r r':R2)(ta tb tc:TE):TE:=λσ H Q=>ta σ H λx H1=>tb σ H1 λy H2=>r x y H2 λz H3=>∃k,z=.bl k/\
 (if k=true then tc σ H3 λw' H4=>r' y w' H4 Q else Q (.bl false) H3)
theorem J5(ho:jz X (compareOp op) r)(DU:jz X (compareOp op') r')(ha:PE X a ta)(hb:PE X b tb)(hc:PE X c tc)
  (hm:lastMarks [op,op'] [b,c]=false:=by with_unfolding_all rfl):PE X (.Compare a [op,op'] [b,c] pos) (DZ r r' ta tb tc):=by
 intro pins s σ H Q I h
 refine Compare_chain (dw (ha pins s σ H _ I h) λv s1 ⟨x,H1,I1,r1,q1⟩=>chain_link (dw (hb pins s1 σ H1 _ I1 q1) λu s2 ⟨y,H2,I2,r2,q2⟩=>
  dw (ho pins s2 σ H2 x y v u _ I2 r1 r2 q2) λd s3 ⟨z,H3,I3,r3,k,e,q3⟩=>?_)) hm
 subst e
 cases r3
 refine ab2 ?_
 cases k with
 |false=>exact ite_ff ⟨.bl false,H3,I3,rfl,q3⟩
 |true=>exact ite_tt (chain_last (dw (hc pins s3 σ H3 _ I3 q3) λw' s4 ⟨z',H4,I4,r4,q4⟩=>DU pins s4 σ H4 y z' u w' Q I4 r2 r4 q4))
theorem J6(ho:jz X (compareOp op) r)(DU:jz X (compareOp op') r')(ha:PE X a ta)(hb:PE X b tb)(hc:PE X c tc)
  (hm:lastMarks [op,op'] [b,c]=false:=by with_unfolding_all rfl):PT X (.Compare a [op,op'] [b,c] pos) (QB (DZ r r' ta tb tc)):=by
 intro pins s σ H Q I h
 refine isTrue_chain (dw (ha pins s σ H _ I h) λv s1 ⟨x,H1,I1,r1,q1⟩=>test_link (dw (hb pins s1 σ H1 _ I1 q1) λu s2 ⟨y,H2,I2,r2,q2⟩=>
  dw (ho pins s2 σ H2 x y v u _ I2 r1 r2 q2) λd s3 ⟨z,H3,I3,r3,k,e,q3⟩=>?_)) hm
 subst e
 cases r3
 refine ab2 ?_
 cases k with
 |false=>
   obtain⟨k',e',q'⟩:=q3;cases e';exact ite_ff ⟨H3,I3,q'⟩
 |true=>
   refine ite_tt (test_last (dw (hc pins s3 σ H3 _ I3 q3) λw' s4 ⟨z',H4,I4,r4,q4⟩=>dw (DU pins s4 σ H4 y z' u w' _ I4 r2 r4 q4) λd' s5 ⟨z2,H5,I5,r5,k2,e2,q5⟩=>?_));subst e2;cases r5;exact ab2 ⟨H5,I5,q5⟩
def Xy(K:ak)(x:V)(H:Hp)(k:Bool):Prop:=
 match x with
 |.ib=>k=false
 |.bl b=>k=b
 |.int i=>k=(i !=0)
 |.str y=>y.length<=sizeLine/\k=((y.length:Int)!=0)
 |.VU y=>y.size<=sizeLine/\k=((y.size:Int)!=0)
 |.ref p=>(∃xs,kY K H p xs/\k= !xs.isEmpty)\/(∃xs,kg K H p xs/\k= !xs.isEmpty)\/∃aX,H p=some (.dK aX)/\k= !aX.isEmpty
 |_=>False
theorem D0(r:KV aX vs):(!vs.isEmpty)= !aX.isEmpty:=by
 cases r<;>rfl
theorem vq(r:bz xs its):(!its.toArray.isEmpty)= !xs.isEmpty:=by
 cases r<;>simp
theorem rQ:(sizeLine:Nat)<2^63:=by rw[sizeLine_eq];decide
theorem SY:aaU X (λx H Q=>∃k,Xy X.K x H k/\Q k H):=by
 intro pins s σ H x v Q I rx h
 obtain⟨k,e,q⟩:=h
 have hs:=sizeLine_eq
 cases x with
 |ib=>
   cases rx;have e':=e;subst e';exact truthy_none ⟨H,I,q⟩
 |bl b=>
   cases rx;have e':=e;subst e';exact ab2 ⟨H,I,q⟩
 |int i=>
   obtain⟨t,rfl⟩:=rx;have e':=e;subst e';exact PySem.P.truthy_int ⟨H,I,q⟩
 |str y=>
   obtain⟨t,rfl⟩:=rx;obtain⟨hy,e'⟩:y.length<=sizeLine/\k=((y.length:Int)!=0):=e;subst e';exact PySem.P.truthy_str (by lia) ⟨H,I.tok _,q⟩
 |VU y=>
   obtain⟨t,rfl⟩:=rx;obtain⟨hy,e'⟩:y.size<=sizeLine/\k=((y.size:Int)!=0):=e;subst e';exact PySem.W.truthy_bytes (by lia) ⟨H,I.tok _,q⟩
 |ref p=>
   cases rx;have e':=e;rcases e' with⟨xs,hx,e'⟩|⟨xs,hx,e'⟩|⟨aX,hx,e'⟩;.subst e';obtain⟨its,r,pl,hz⟩:=I.list hx;have hlen:=r.length;exact wpAny_truthy_list pl.isList (by simp only[aaD];lia) ⟨H,I.tok _,by rw[vq r];exact q⟩
   .subst e';obtain⟨its,r,pl,hz⟩:=I.tuple hx;have hlen:=r.length;exact truthy_tuple pl (by simp only[aaD];lia) ⟨H,I.tok _,by rw[vq r];exact q⟩
   .subst e';obtain⟨hz,hS,vs,r,m⟩:aX.length<=sizeLine/\(p==sysModules)=false/\∃vs,KV aX vs/\s.heap.DictOf (cY X.prog X.w) p vs:=I.bM p _ hx;have hlen:=Paired.length r;exact wpAny_truthy_dict hS m (by lia) ⟨H,I.tok _,by rw[D0 r];exact q⟩
 |_=>exact(show False from e).elim
theorem BO(ha:PE X a ta)(he:∀whole,isTrue a X.env whole=(do let v <-whole;standAt a.pos;holding [v] (truthy v))):
  PT X a (λσ H Q=>ta σ H λx H'=>∃k,Xy X.K x H' k/\Q k H'):=by
 intro pins s σ H Q I h
 exact isTrue_plain (dw (ha pins s σ H _ I h) λv s1 ⟨x,H1,I1,r1,q1⟩=>SY pins s1 σ H1 x v Q I1 r1 q1) (he _)
theorem D3:jz X (binaryOp .Add) (λx y H Q=>∃i j,x=.str i/\y=.str j/\i.length+j.length<=sizeLine/\Q (.str (i++j)) H):=by
 intro pins s σ H x y v u Q I rx ry h
 obtain⟨i,j,rfl,rfl,hz,q⟩:=h
 obtain⟨t,rfl⟩:=rx
 obtain⟨t',rfl⟩:=ry
 exact add_str (λt' tk=>⟨.str (i++j),H,I.tok _,⟨_,rfl⟩,q⟩) hz
theorem vals1(r:bz [x] us):∃u,us=[u]/\RelV x u:=by
 cases r with
 |cons r1 r2=>cases r2;exact⟨_,rfl,r1⟩
theorem vals2(r:bz [x,y] us):∃u w',us=[u,w']/\RelV x u/\RelV y w':=by
 cases r with
 |cons r1 r2=>
   cases r2 with
   |cons r3 r4=>cases r4;exact⟨_,_,rfl,r1,r3⟩
theorem vt:eV X (.builtin "abs") (λxs H Q=>∃i,xs=[.int i]/\Q (.int (if i<0 then -i else i)) H):=by
 intro pins s σ H xs us Q I r h
 obtain⟨i,rfl,q⟩:=h
 obtain⟨u,rfl,t,rfl⟩:=vals1 r
 exact call_abs_int λu tk=>⟨.int (if i<0 then -i else i),H,I.tok _,⟨_,rfl⟩,q⟩
theorem HR(hc:X.calm=true):eV X (.builtin "max") (λxs H Q=>∃i j,xs=[.int i,.int j]/\Q (.int (if j>i then j else i)) H):=by
 intro pins s σ H xs us Q I r h
 obtain⟨i,j,rfl,q⟩:=h
 obtain⟨u,w',rfl,⟨t,rfl⟩,⟨t',rfl⟩⟩:=vals2 r
 refine max_two_ints (I.ok.hd hc) λh' tk k=>⟨_,H,I.kept k,?_,q⟩
 by_cases hj:j>i
 .rw [aaq hj,aaq hj];exact⟨_,rfl⟩
 .rw [aaO hj,aaO hj];exact⟨_,rfl⟩
theorem rR:eV X (.type "int") (λxs H Q=>(∃i,xs=[.int i]/\Q (.int i) H)\/∃k,xs=[.bl k]/\Q (.int (if k then 1 else 0)) H):=by
 intro pins s σ H xs us Q I r h
 rcases h with⟨i,rfl,q⟩|⟨k,rfl,q⟩
 .obtain ⟨u,rfl,t,rfl⟩:=vals1 r;exact call_int_int ⟨.int i,H,I,⟨_,rfl⟩,q⟩
 .obtain ⟨u,rfl,r1⟩:=vals1 r;cases r1;exact call_int_bool ⟨.int (if k then 1 else 0),H,I.tok _,⟨_,rfl⟩,q⟩
theorem cZ:eV X (.type "str") (λxs H Q=>∃i,xs=[.int i]/\i.natAbs.log2<1920/\Q (.str (toString i)) H):=by
 intro pins s σ H xs us Q I r h
 obtain⟨i,rfl,hz,q⟩:=h
 obtain⟨u,rfl,t,rfl⟩:=vals1 r
 exact PySem.P.str_of_int hz ⟨.str _,H,I.tok _,⟨_,rfl⟩,q⟩
end
structure D4(h:Heap)(x dx C:Addr)(mA:dO):Prop where
 obj:h.get? x=some (PySem.W.instObj C dx)
 ns:h.Ns1 dx mA
 ne:dx≠x
set_option tactic.hygienic true in
theorem HS{h:Heap}(n:h.Ns1 dx mA):∃od,h.get? dx=some od/\∀name,PySem.W.lookIn name od=some (mA name):=by
 obtain⟨o,es,ep,ho,hd,hk,_,hm⟩:=n
 refine⟨o,ho,λname=>?_⟩
 have e:=hm name
 unfold nsFind findBy at e
 rw[<-Array.find?_toList]at e
 unfold PySem.W.lookIn
 rw[hd]
 dsimp only
 split
 .grind
 .rename_i q;rw[q]at e;have a:es.toList.any (·.refKey)=false:=by
   rw[List.any_eq_false];intro y hy;obtain⟨z,t,aaV⟩:=hk y (Array.mem_toList_iff.mp hy);simp[DictEntry.refKey,aaV]
  have a':¬es.toList.any (·.refKey)=true:=by rw[a];exact aaZ
  rw[aaO a'];exact ab7 some e
theorem D4.look(I:D4 h x dx C mA):∃od,PySem.W.InstAt h x (PySem.W.instObj C dx) C (some od)/\∀name,PySem.W.lookIn name od=some (mA name):=
 let⟨od,ho,hl⟩:=HS I.ns
 ⟨od,⟨I.obj,rfl,rfl,ho⟩,hl⟩
section
variable {prog:Program}{w:World}{A:Around}{E:dz}{s:Shared}{K:ak}{x dx C f:Addr}{mA:dO}{name:Str}{v:Value}
theorem get_map(X:K.In s.heap)(I:D4 s.heap x dx C mA)(hg:PySem.W.plainGet K C name=true)(hh:PySem.W.hasDictIn K C=true)
  (ha:PySem.W.findIn K (.ref C) name=some none)(hv:mA name=some v)(S0:PySem.W.handedIn v=true)(h:Q v {s with toks:=s.toks+1}):
  wpAny (model prog w) A (getAttr (.ref x) name expr) Q E s:=by
 obtain⟨od,J,hl⟩:=I.look
 exact PySem.W.get_value X J (aei hg).1 (PySem.W.findObj_own hh ha rfl (by rw[hl,hv])) S0 h
theorem J7(X:K.In s.heap)(I:D4 s.heap x dx C mA)(hg:PySem.W.plainGet K C name=true)
  (hf:PySem.W.findIn K (.ref C) name=some (some (.ref f)))(ht:PySem.W.isFn K (.ref f)=true)(hv:mA name=none)(h:Q (.ref f,[.ref x]) s):
  wpAny (model prog w) A (getMethod (.ref x) name pl) Q E s:=by
 obtain⟨od,J,hl⟩:=I.look
 exact PySem.W.method_fn X J (aei hg).1 (aei hg).2 hf (ac4.mp ht) (by show(PySem.W.lookIn name od).map (·.isSome)=some false;rw[hl,hv];rfl) h
theorem NX(X:K.In s.heap)(I:D4 s.heap x dx C mA)
  (hs:PySem.W.findIn K (.ref C) "__setattr__"=some (some (.builtin "object.__setattr__")))(hp:PySem.W.plainOver K C=true)(ht:PySem.W.takerIn K C name=some none)(hh:PySem.W.hasDictIn K C=true)
  (hw:PySem.Within mA ns)(hsz:ns.length<=sizeLine)
  (h:∀h',D4 h' x dx C (λy=>if y=name then some v else mA y)->Heap.SameBut dx s.heap h'->Q () {s with heap:=h',toks:=s.toks+2}):
  wpAny (model prog w) A (setAttr (.ref x) name v) Q E s:=by
 obtain⟨od,J,hl⟩:=I.look
 refine PySem.W.set_plain X J hs (PySem.W.osa_open (s:={s with toks:=s.toks+1}) (r:=none) X J hp ht λb=>?_)
 obtain⟨cd,hc,uZ⟩:=PySem.W.any_some hh
 have hx:=I.obj
 refine aaa (aae (aaa (aaa (wpAny_loadPart hx (aaa (PySem.W.Looks.here (s:={s with toks:=s.toks+1}) (PySem.W.looks_clsIn X hc) ?_))))))
 rw[uZ]
 refine aae (a:=some dx) (aaa (aae (aaa ?_)))
 refine wpAny_nsSet1 (s:={s with toks:=s.toks+1}) I.ns λh' ZR rJ=>?_
 obtain⟨oD,esD,epD,hoD,hdD,hcD⟩:=ZR.count (PySem.Within.cons name v hw)
 refine aaa (wpAny_lookBehind hoD (by rw[hdD];exact pastItsLine_dict (aaW hcD (by rw[aaR];lia))) ?_)
 exact aae (h _ ⟨(rJ.2 _ (acb I.ne)).trans I.obj,ZR,I.ne⟩ rJ)
theorem J8(X:K.In s.heap)(hm:PySem.W.makesIn K C=true)
  (hi:PySem.W.findIn K (.ref C) "__init__"=some (some (.ref f)))(hf:PySem.W.typeIn K (.ref f)=some (.type "function"))
  (h:codeAny (model prog w) (A.under (.builtin "type.__call__" ⟨.ref C::vs,kw⟩)) (.call (.ref f) ⟨.ref (s.heap.objs.size+1)::vs,kw⟩) (PySem.W.InitBack (s.heap.objs.size+1) R)
   {s with heap:=(s.heap.push PySem.W.emptyDict).push (PySem.W.instObj C s.heap.objs.size)}):
  codeAny (model prog w) A (.call (.ref C) ⟨vs,kw⟩) R s:=by
 exact PySem.W.make_core (PySem.W.makes_of X hm) (PySem.W.looks_findIn X hi) (λself=>PySem.W.bind_fn X self hf) (.inl rfl) h
end
noncomputable def kC(f:Str)(v:V):List (Str×V)->List (Str×V)
 |[]=>[(f,v)]
 |(g,x)::r=>if g=f then(g,v)::r else(g,x)::kC f v r
theorem ue(f g:Str)(v:V):∀fs:List (Str×V),(kC f v fs).lookup g=if g=f then some v else fs.lookup g
 |[]=>by
   show List.lookup g [(f,v)]=_;by_cases h:g=f;.grind
   .grind
 |(k,x)::r=>by
   have ih:=ue f g v r;rw[show kC f v ((k,x)::r)=(if k=f then(k,v)::r else(k,x)::kC f v r)from rfl];by_cases hk:k=f;.grind
   .grind
theorem rT(f:Str)(v:V):∀fs:List (Str×V),f∈(kC f v fs).map (·.1)/\∀g,g∈fs.map (·.1)->g∈(kC f v fs).map (·.1)
 |[]=>⟨by simp[kC],λg h=>by simp at h⟩
 |(k,x)::r=>by
   obtain⟨i1,i2⟩:=rT f v r;rw[show kC f v ((k,x)::r)=(if k=f then(k,v)::r else(k,x)::kC f v r)from rfl];by_cases hk:k=f;.grind
   .grind
theorem uf(f:Str)(v:V):∀fs:List (Str×V),(kC f v fs).length<=fs.length+1
 |[]=>by simp[kC]
 |(k,x)::r=>by
   have ih:=uf f v r;rw[show kC f v ((k,x)::r)=(if k=f then(k,v)::r else(k,x)::kC f v r)from rfl];by_cases hk:k=f;.grind
   .grind
theorem ml.some_of(r:ml (some v) o):∃u,o=some u/\RelV v u:=by
 cases o with
 |none=>exact(show False from r).elim
 |some u=>exact⟨u,rfl,r⟩
theorem ml.none_of(r:ml none o):o=none:=by
 cases o with
 |none=>rfl
 |some u=>exact(show False from r).elim
theorem HU(r:RelV v u):PySem.W.handedIn u=true:=by
 cases v with
 |ib=>cases(show u=Value.none from r);rfl
 |bl b=>cases(show u=Value.bool b from r);rfl
 |int i=>obtain⟨t,e⟩:=(show ∃t,u=Value.int i t from r);cases e;rfl
 |str x=>obtain⟨t,e⟩:=(show ∃t,u=Value.str x t from r);cases e;rfl
 |VU b=>obtain⟨t,e⟩:=(show ∃t,u=Value.bytes b t from r);cases e;rfl
 |SA b=>obtain⟨t,e⟩:=(show ∃t,u=Value.float b t from r);cases e;rfl
 |ref a=>cases(show u=Value.ref a from r);rfl
 |ty n=>cases(show u=Value.type n from r);rfl
section
variable {P:Program}{w:World}{H:Hp}{h:Heap}{a C dx:Addr}{fs:List (Str×V)}
theorem u5(bM:n8 P w H h)(e:H a=some (.ins C dx fs)):∃mA,D4 h a dx C mA/\(∀f,ml (fs.lookup f) (mA f))/\PySem.Within mA (fs.map (·.1))/\fs.length<=1000/\H dx=some (.own a):=by
 obtain⟨d,z,ne,ob,mA,n,r,q⟩:=(show cM P w H h a (.ins C dx fs)from bM a _ e)
 exact⟨mA,⟨ob,n,ne⟩,r,q,z,d⟩
end
structure rV(K:ak)(C:Addr):Prop where
 pg:PySem.W.plainGet K C Str.empty=true
 hd:PySem.W.hasDictIn K C=true
 po:PySem.W.plainOver K C=true
 sa:PySem.W.findIn K (.ref C) "__setattr__"=some (some (.builtin "object.__setattr__"))
theorem rV.get{K:ak}(c:rV K C)(f:Str):PySem.W.plainGet K C f=true:=c.pg
def et(K:ak)(C:Addr)(f:Str):Prop:=PySem.W.findIn K (.ref C) f=some none
theorem et.Xz{K:ak}(n:et K C f):PySem.W.takerIn K C f=some none:=by
 unfold PySem.W.takerIn
 rw[show PySem.W.findIn K (.ref C) f=some none from n]
 rfl
structure mn(K:ak)(C:Addr)(m:Str)(f:Addr):Prop where
 at_:PySem.W.findIn K (.ref C) m=some (some (.ref f))
 fn:PySem.W.isFn K (.ref f)=true
 kp:PySem.W.keepIn K (.ref f)=true
section
variable {X:Cx}{pins:cz}{σ:St}{H:Hp}{s:Shared}{a C dx:Addr}{fs:List (Str×V)}{f:Str}{v:V}{A:Around}{E:dz}
theorem D5(I:Inv X pins σ H s)(e:H a=some (.ins C dx fs))(c:rV X.K C)(n:et X.K C f)(l:fs.lookup f=some v)
  (h:∀u s',Inv X pins σ H s'->RelV v u->Q u s'):wpAny (model X.prog X.w) A (getAttr (.ref a) f b) Q E s:=by
 obtain⟨mA,O,r,_,_,_⟩:=u5 I.bM e
 obtain⟨u,hu,ru⟩:=ml.some_of (v:=v) (o:=mA f) (by rw[<-l];exact r f)
 exact get_map I.my O (c.get f) c.hd n hu (HU ru) (h u _ (I.tok _) ru)
theorem D6(I:Inv X pins σ H s)(e:H a=some (.ins C dx fs))(c:rV X.K C)(k:mn X.K C m g)(l:fs.lookup m=none)
  (h:Q (.ref g,[.ref a]) s):wpAny (model X.prog X.w) A (getMethod (.ref a) m pl) Q E s:=by
 obtain⟨mA,O,r,_,_,_⟩:=u5 I.bM e
 have hn:=ml.none_of (by rw[<-l];exact r m)
 exact J7 I.my O (c.get m) k.at_ k.fn hn h
theorem D7(I:Inv X pins σ H s)(e:H a=some (.ins C dx fs))(c:rV X.K C)(n:et X.K C f)(hl:fs.length<1000)(ry:RelV y u)
  (h:∀s',Inv X pins σ (upd H a (.ins C dx (kC f y fs))) s'->Q () s'):wpAny (model X.prog X.w) A (setAttr (.ref a) f u) Q E s:=by
 obtain⟨mA,O,r,wi,_,ho⟩:=u5 I.bM e
 have hz:(fs.map (·.1)).length<=sizeLine:=by rw[aaj,sizeLine_eq];lia
 refine NX I.my O c.sa c.po n.Xz c.hd wi hz λh' O' sb=>h _ ?_
 have hd:∃o,h'.get? dx=some o:=let⟨o,_,_,e',_⟩:=O'.ns;⟨o,e'⟩
 refine I.write (x:=a) (e:=dx) (by rw[e];exact True.intro) (.inr ho) (λb q hb z=>(sb.2 b hb).trans z) hd ?_
 refine⟨by rw[av O.ne];exact ho,?_,O.ne,O'.obj,_,O'.ns,λg=>?_,λg hg=>?_⟩
 .have:=uf f y fs;lia
 .show ml ((kC f y fs).lookup g) (if g=f then some u else mA g);rw[ue];by_cases q:g=f;.rw [aaq q,aaq q];exact ry
  .grind
 .by_cases q:g=f;.rw [q];exact(rT f y fs).1
  .refine (rT f y fs).2 g (wi g λz=>hg ?_);show(if g=f then some u else mA g)=none;rw[aaO q];exact z
theorem Inv.made(I:Inv X pins σ H s):Inv X pins σ (upd (upd H s.heap.objs.size (.own (s.heap.objs.size+1))) (s.heap.objs.size+1) (.ins C s.heap.objs.size []))
  {s with heap:=(s.heap.push PySem.W.emptyDict).push (PySem.W.instObj C s.heap.objs.size)}:=by
 have e1:(s.heap.push PySem.W.emptyDict).get? s.heap.objs.size=some PySem.W.emptyDict:=aag s.heap rfl
 have e2:((s.heap.push PySem.W.emptyDict).push (PySem.W.instObj C s.heap.objs.size)).get? (s.heap.objs.size+1)=some (PySem.W.instObj C s.heap.objs.size):=by
  have:=aag (s.heap.push PySem.W.emptyDict) (o:=PySem.W.instObj C s.heap.objs.size) rfl;rwa [abK]at this
 have e3:(s.heap.push PySem.W.emptyDict).Ns s.heap.objs.size (λ_=>none):=⟨PySem.W.emptyDict,#[],_,e1,rfl,(λe he=>absurd he (by simp)),λ_=>rfl⟩
 have I1:=I.laid (a:=s.heap.objs.size) (o:=.own (s.heap.objs.size+1)) (h':=s.heap.push PySem.W.emptyDict) (t':=s.toks) (λb u q=>aab _ q) (aah _) ⟨_,e1⟩
 refine I1.laid (a:=s.heap.objs.size+1) (o:=.ins C s.heap.objs.size []) (t':=s.toks) (λb u q=>aab _ q) (Nat.le_of_eq (abK _ _)) ?_
 have ne:s.heap.objs.size≠s.heap.objs.size+1:=aat (acp _)
 refine⟨by rw[av ne,az],ab8 _,ne,e2,λ_=>none,(Heap.Ns1.of_empty e3).at λo q=>aab _ q,λ_=>True.intro,λy hy=>absurd rfl hy⟩
theorem NY(hb:attributeBase e f env (eval e env)=eval e env)
  (h:wpAny (model prog w) A (eval e env) (λo bO=>wpAny (model prog w) A (getAttr o f true) Q E bO) E s):wpAny (model prog w) A (eval (.Attribute e f pos) env) Q E s:=
 Attribute_any_ h (by rw[arm_eval_Attribute,hb])
end
def aaX(K:ak)(ta:TE)(f:Str):TE:=λσ H Q=>ta σ H λx H1=>∃a C dx fs v,x=.ref a/\H1 a=some (.ins C dx fs)/\rV K C/\et K C f/\fs.lookup f=some v/\Q v H1
def S4(K:ak)(ta tv:TE)(f:Str):TS:=λD σ H=>tv σ H λy H1=>ta σ H1 λx H2=>∃a C dx fs,x=.ref a/\H2 a=some (.ins C dx fs)/\rV K C/\et K C f/\fs.length<1000/\
 D.nx σ (upd H2 a (.ins C dx (kC f y fs)))
section
variable {X:Cx}{o e value:Expr}{f:Str}{pos pos':Pos}{ta tv:TE}
theorem D8(he:PE X e ta)(hb:attributeBase e f X.env (eval e X.env)=eval e X.env):PE X (.Attribute e f pos) (aaX X.K ta f):=by
 intro pins s σ H Q I h
 refine NY hb (dw (he pins s σ H _ I h) λu s1 ⟨x,H1,I1,rx,a,C,dx,fs,v,ex,ea,c,n,l,q⟩=>?_)
 subst ex
 obtain rfl:u=Value.ref a:=rx
 exact D5 I1 ea c n l λu' s2 I2 ru=>⟨v,H1,I2,ru,q⟩
theorem J9(ha:PE X o ta)(hv:PE X value tv)(hs:swapsWith value (some (.Attribute o f pos')) pos.line X.env=pure false):PS X (.Assign [.Attribute o f pos'] value pos) (S4 X.K ta tv f):=by
 intro pins s σ H D I h
 refine plainObj_wpAny_Assign_Attribute (dw (hv pins s σ H _ I h) λu s1 ⟨y,H1,I1,ry,q⟩=>dw (ha pins s1 σ H1 _ I1 q) λov s2 ⟨x,H2,I2,rx,a,C,dx,fs,ex,ea,c,n,l,q2⟩=>?_) hs
 subst ex
 obtain rfl:ov=Value.ref a:=rx
 exact D7 I2 ea c n l ry λs3 I3=>⟨σ,_,I3,q2⟩
end
section
variable {X:Cx}{pins:cz}{σ:St}{H:Hp}{s:Shared}{A:Around}{E:dz}{Q:dz}{c:Value}{b:Bool}
inductive rW(K:ak)(H:Hp):V->Value->Prop where
 |ib:rW K H .ib (.type "NoneType")
 |bl (x:Bool):rW K H (.bl x) (.type "bool")
 |int (i:Int):rW K H (.int i) (.type "int")
 |str (x:Str):rW K H (.str x) (.type "str")
 |SA (x:UInt64):rW K H (.SA x) (.type "float")
 |lst {a:Addr} {xs:List V} (e:H a=some (.lst xs)):rW K H (.ref a) (.type "list")
 |xF {a:Addr} {o:Obj} {xs:List V} (e:H a=some (.xF o (.lst xs))):rW K H (.ref a) (.type "list")
 |tup {a:Addr} {xs:List V} (e:H a=some (.tup xs)):rW K H (.ref a) (.type "tuple")
 |dK {a:Addr} {aX:List (Key×V)} (e:H a=some (.dK aX)):rW K H (.ref a) (.type "dict")
 |dT {a:Addr} {aX:List (List Key×V)} (e:H a=some (.dT aX)):rW K H (.ref a) (.type "dict")
 |ins {a C dx:Addr} {fs:List (Str×V)} (e:H a=some (.ins C dx fs)) (cl:rV K C) (ha:PySem.W.findIn K (.ref C) "__class__"=some (some (.builtin "object.__class__")))
   (hn:PySem.W.specialIn K (.builtin "object.__class__") "__get__"=some (some (.builtin "getset_descriptor.__get__"))) (htk:PySem.W.takesIn K (.builtin "object.__class__")=some true)
   (hm:PySem.W.mroIn K C (.type "object")=some true):rW K H (.ref a) (.ref C)
theorem HV(I:Inv X pins σ H s)(rx:RelV x u)(ty:rW X.K H x t)(e:PySem.W.kitOne X.K t c=some b)(h:∀tk,Q (.bool b) {s with toks:=tk}):
  wpAny (model X.prog X.w) A (call (.builtin "isinstance") [u,c]) Q E s:=by
 cases ty with
 |ib=>cases(show u=Value.none from rx);exact abH PySem.W.kitx_none I.my True.intro e (λz=>nomatch z) h
 |bl y=>cases(show u=Value.bool y from rx);exact abH PySem.W.kitx_bool I.my True.intro e (λz=>nomatch z) h
 |int i=>obtain⟨t,q⟩:=(show ∃t,u=Value.int i t from rx);cases q;exact abH PySem.W.kitx_int I.my True.intro e (λz=>nomatch z) h
 |str y=>obtain⟨t,q⟩:=(show ∃t,u=Value.str y t from rx);cases q;exact abH PySem.W.kitx_str I.my True.intro e (λz=>nomatch z) h
 |SA y=>obtain⟨t,q⟩:=(show ∃t,u=Value.float y t from rx);cases q;exact abH PySem.W.kitx_float I.my True.intro e (λz=>nomatch z) h
 |@lst a xs ea=>
   cases(show u=Value.ref a from rx);obtain⟨_,_,n,_,h1⟩:=(show cM X.prog X.w H s.heap a (.lst xs)from I.bM a _ ea);exact abH aeK I.my ⟨_,h1,rfl⟩ e (λz=>nomatch z) h
 |@xF a ob xs ea=>
   cases(show u=Value.ref a from rx);obtain⟨_,_,_,n,_,h1⟩:=(show cM X.prog X.w H s.heap a (.xF ob (.lst xs))from I.bM a _ ea);exact abH aeK I.my ⟨_,h1,rfl⟩ e (λz=>nomatch z) h
 |@tup a xs ea=>
   cases(show u=Value.ref a from rx);obtain⟨_,_,_,p⟩:=(show cM X.prog X.w H s.heap a (.tup xs)from I.bM a _ ea);obtain⟨o,h1,h2,_⟩:=p;exact abH PySem.W.kitx_tuple I.my ⟨o,h1,h2⟩ e (λz=>nomatch z) h
 |@dK a aX ea=>
   cases(show u=Value.ref a from rx);obtain⟨_,_,vs,_,p⟩:=(show cM X.prog X.w H s.heap a (.dK aX)from I.bM a _ ea);obtain⟨o,es,ep,h1,h2,_⟩:=p;exact abH PySem.W.kitx_dict I.my ⟨o,h1,h2.1⟩ e (λz=>nomatch z) h
 |@dT a aX ea=>
   cases(show u=Value.ref a from rx);obtain⟨_,_,xs,_,o,es,ep,h1,h2,_⟩:=(show cM X.prog X.w H s.heap a (.dT aX)from I.bM a _ ea);exact abH PySem.W.kitx_dict I.my ⟨o,h1,h2.1⟩ e (λz=>nomatch z) h
 |@ins a C dx fs ea cl ha hn htk hm=>
   cases(show u=Value.ref a from rx);obtain⟨mA,O,_⟩:=u5 I.bM ea;obtain⟨od,J,_⟩:=O.look;exact abH (PySem.W.kitx_own (cl.get _) cl.hd ha hn htk hm) I.my J e (λz=>nomatch z) h
end
structure de(k:Nat)(A:Around):Prop where
 hd:A.handled=none
 dp:A.depth+3*k+5<recursionLimit
 un:A.units+16*k+200<cLine
theorem de.mono(r:de k A)(h:j<=k):de j A:=⟨r.hd,by have:=r.dp;lia,by have:=r.un;lia⟩
theorem de.deeper(r:de (k+1) A)(env:Env):de k (A.deeper env):=
 ⟨r.hd,by have:=r.dp;show A.depth+1+3*k+5<_;lia,by have:=r.un;show A.units+3+16*k+200<_;lia⟩
theorem D9{A:Around}:(A.under (.builtin "type.__call__" ⟨.ref C::us,kw⟩)).depth=A.depth+1:=rfl
theorem Ea{A:Around}:(A.under (.builtin "type.__call__" ⟨.ref C::us,kw⟩)).units=A.units+1:=rfl
theorem de.make(r:de (k+1) A)(C:Addr)(us:bU)(kw:List (Str×Value)):de k (A.under (.builtin "type.__call__" ⟨.ref C::us,kw⟩)):=
 ⟨r.hd,by have:=r.dp;rw[D9];lia,by have:=r.un;rw[Ea];lia⟩
theorem de.depth(r:de k A):A.depth<recursionLimit:=by have:=r.dp;lia
theorem de.units(r:de k A):A.units+64<cLine:=by have:=r.un;lia
def NZ:TA:=λ_ H Q=>Q [] H
def Ka(ta:TE)(tr:TA):TA:=λσ H Q=>ta σ H λx H1=>tr σ H1 λxs H2=>Q (x::xs) H2
section
variable {X:Cx}{e:Expr}{es:List Expr}{te:TE}{t:TA}{pos:Pos}
theorem b9:PA X [] NZ:=λ_ _ _ _ H Q I h=>Calls.spliced_nil ⟨[],H,I,.nil,h⟩
theorem aY(ha:PE X e te)(hr:PA X es t)(hs:starEach (e::es) X.env=(false,eval e X.env)::starEach es X.env:=by rfl):PA X (e::es) (Ka te t):=by
 intro pos pins s σ H Q I h
 rw[hs]
 refine Calls.spliced_cons (dw (ha pins s σ H _ I h) λu s1 ⟨x,H1,I1,r1,q1⟩=>?_)
 exact dw (hr pos pins s1 σ H1 _ I1 q1) λus s2 ⟨xs,H2,I2,r2,q2⟩=>⟨x::xs,H2,I2,.cons r1 r2,q2⟩
def aaY(t:TA):TE:=λσ H Q=>t σ H λxs H1=>xs.length<=sizeLine/\∀p,H1 p=none->Q (.ref p) (upd H1 p (.tup xs))
def XA(t:TA):TE:=λσ H Q=>t σ H λxs H1=>xs.length<=sizeLine/\∀p,H1 p=none->Q (.ref p) (upd H1 p (.lst xs))
theorem Eb(h:PA X es t):PE X (.Tuple es x1 pos) (aaY t):=by
 intro pins s σ H Q I hq
 refine wpAny_Tuple_spliced (dw (h pos pins s σ H _ I hq) λus s1 ⟨xs,H1,I1,r,z,q⟩=>⟨by rw[<-r.length];exact z,?_⟩)
 have hf:=I1.bM.fresh (aah _)
 refine⟨.ref s1.heap.objs.size,upd H1 s1.heap.objs.size (.tup xs),I1.laid (t':=s1.toks) (λb u e=>aab _ e) (aah _) ?_,rfl,q _ hf⟩
 exact⟨z,us,r,⟨_,aag _ rfl,rfl,_,rfl⟩⟩
theorem vv(h:PA X es t):PE X (.List es pos) (XA t):=by
 intro pins s σ H Q I hq
 refine wpAny_List_spliced (dw (h pos pins s σ H _ I hq) λus s1 ⟨xs,H1,I1,r,z,q⟩=>⟨by rw[<-r.length];exact z,?_⟩)
 have hf:=I1.bM.fresh (aah _)
 refine⟨.ref s1.heap.objs.size,upd H1 s1.heap.objs.size (.lst xs),I1.laid (t':=s1.toks) (λb u e=>aab _ e) (aah _) ?_,rfl,q _ hf⟩
 exact⟨z,us,0,r,aag _ rfl⟩
end
abbrev Sp:=List V->Hp->VK->XK->Prop
abbrev QC:=List Env->Hp->Shared->XK->dz
structure Ec(P:Program)(w:World)(K:ak)(mg:dO)(base:Heap)(A:Around)(outer:List Env)(s:Shared)(H:Hp):Prop where
 frames:A.frames=some outer
 mod:Mod K mg base
 bs:∀b o,base.get? b=some o->s.heap.get? b=some o/\H b=none
 JF:base.objs.size<=s.heap.objs.size
 kB:s.heap.FunFrames base outer
 HL:∀b∈ud outer,H b=none
 bM:n8 P w H s.heap
 bare:AllBare s.gens
def CE(outer:List Env)(P:Program)(w:World)(H:Hp)(s:Shared)(Q:VK)(u:Value)(s':Shared):Prop:=
 ∃v H',s'.os=s.os/\AllBare s'.gens/\Un (ud outer) [] H H' s.heap s'.heap/\n8 P w H' s'.heap/\RelV v u/\Q v H'
def CR(CX:QC)(outer:List Env)(P:Program)(w:World)(H:Hp)(s:Shared)(Q:VK)(E:XK)(r:Result)(s':Shared):Prop:=
 match r with
 |.ok (.ret u)=>CE outer P w H s Q u s'
 |.ok _=>False
 |.error e=>CX outer H s E e s'
structure la(P:Program)(w:World)(K:ak)(mg:dO)(base:Heap)(CX:QC)(k:Nat)(f:Addr)(fd:FuncData)(ps:List Str)(sp:Sp):Prop where
 len:∀vs H Q E,sp vs H Q E->vs.length=ps.length
 run:∀(A:Around) (outer:List Env) (s:Shared) (H:Hp) (args:Args) (us:bU) (vs:List V) (Q:VK) (E:XK),de k A->Ec P w K mg base A outer s H->BindsTo s fd args (ps.zip us)->bz vs us->sp vs H Q E->
  codeAny (model P w) A (.call (.ref f) args) (CR CX outer P w H s Q E) s
theorem Ec.make{K:ak}(e:Ec P w K mg base A outer s H)(C:Addr)(us:bU)(kw:List (Str×Value)):
  Ec P w K mg base (A.under (.builtin "type.__call__" ⟨.ref C::us,kw⟩)) outer s H:=⟨by first|exact e.frames|(simpa[Around.under]using e.frames),e.mod,e.bs,e.JF,e.kB,e.HL,e.bM,e.bare⟩
section
variable {X:Cx}{pins:cz}{σ:St}{H:Hp}{s s':Shared}
theorem Inv.XB(I:Inv X pins σ H s):Ec X.prog X.w X.K X.mg X.base X.A X.stack s H:=
 ⟨I.ok.frames,I.ok.mod,I.bs,aaW I.ok.JF I.sz,I.stack,I.zv,I.bM,I.bare⟩
theorem Inv.after(I:Inv X pins σ H s)(h:CE X.stack X.prog X.w H s Q u s'):EP X pins σ Q u s':=by
 obtain⟨v,H',os,bare,un,bM,r,q⟩:=h
 obtain⟨hh,g,d,t,os'⟩:=s'
 obtain rfl:os'=s.os:=os
 exact⟨v,H',I.call (h':=hh) (g':=g) (d':=d) (t':=t) (ch:=[]) un bM bare (λb z=>absurd z (by simp)),r,q⟩
end
def QD(sp:Sp)(Bx:List V)(E:XK)(t:TA):TE:=λσ H Q=>t σ H λvs H1=>sp (vs++Bx) H1 Q E
def BP(C:Addr)(m:Str)(sp:Sp)(Bx:List V)(E:XK)(ta:TE)(t:TA):TE:=λσ H Q=>ta σ H λx H1=>∃a dx fs,x=.ref a/\H1 a=some (.ins C dx fs)/\fs.lookup m=none/\
 t σ H1 λvs H2=>sp (x::(vs++Bx)) H2 Q E
def XC(C:Addr)(sp:Sp)(Bx:List V)(E:XK)(t:TA):TE:=λσ H Q=>t σ H λvs H1=>∀x dx,H1 x=none->H1 dx=none->dx≠x->
 sp (.ref x::(vs++Bx)) (upd (upd H1 dx (.own x)) x (.ins C dx [])) (λv H2=>v=.ib/\Q (.ref x) H2) E
def Binds(K:ak)(fd:FuncData)(ps:List Str)(ds:bU):Prop:=
 ∀(s:Shared) (us:bU),K.In s.heap->(us++ds).length=ps.length->BindsTo s fd ⟨us,[]⟩ (ps.zip (us++ds))
theorem Binds.all{K:ak}(h:∀us:bU,us.length=ps.length->bindArgs fd ⟨us,[]⟩=pure (ps.zip us)):Binds K fd ps []:=λs us _ hl=>by
 rw[abk]at hl ⊢
 exact .of_eq (h us hl)
def lb(CX:QC)(X:Cx)(E:XK):Prop:=∀(pins:cz) (σ:St) (H:Hp) (s:Shared) (e:Value) (s':Shared),Inv X pins σ H s->CX X.stack H s E e s'->X.xe e s'
section
variable {X:Cx}{CX:QC}{k:Nat}{f C:Addr}{fd:FuncData}{ps:List Str}{sp:Sp}{Bx:List V}{ds:bU}{E:XK}{x m:Str}{p pos apos:Pos}{e o:Expr}{es:List Expr}{ta:TE}{t:TA}
theorem Kb(F:la X.prog X.w X.K X.mg X.base CX k f fd ps sp)(hr:de k X.A)(hb:Binds X.K fd ps ds)(hd:bz Bx ds)(hx:lb CX X E)
  (I:Inv X pins σ H s)(r:bz vs us)(h:sp (vs++Bx) H Q E):wpAny (model X.prog X.w) X.A (call (.ref f) us) (EP X pins σ Q) X.xe s:=by
 have r2:=r.append hd
 have hl:(us++ds).length=ps.length:=by rw[<-r2.length];exact F.len _ _ _ _ h
 refine wpAny_call (acD (F.run X.A X.stack s H ⟨us,[]⟩ (us++ds) (vs++Bx) Q E hr I.XB (hb s us I.my hl) r2 h) λr s' hq=>?_)
 cases r with
 |error e=>exact hx pins σ H s e s' I hq
 |ok fl=>
   cases fl with
   |ret u=>exact I.after hq
   |next=>exact False.elim hq
   |brk=>exact False.elim hq
   |cont=>exact False.elim hq
theorem N0(F:la X.prog X.w X.K X.mg X.base CX k f fd ps sp)(hr:de k X.A)(hg:Gl X x)(hm:X.mg x=some (.ref f))(hk:PySem.W.keepIn X.K (.ref f)=true)(hb:Binds X.K fd ps ds)(hd:bz Bx ds)(hx:lb CX X E)
  (ha:PA X (e::es) t)(pf:(x==("__debug__":Str))=false:=by decide)(he:starEach (e::es) X.env=(false,eval e X.env)::starEach es X.env:=by rfl)(i8:(backTo pos (starEach es X.env)).any (·.1)=false:=by rfl):
  PE X (.Call (.Name x p) (e::es) [] pos) (QD sp Bx E t):=by
 intro pins s σ H Q I h
 refine acS (k8 I hg hm ?_ pf)
 refine PySem.W.callWith_K (h₀:=X.base) I.ok.mod.ZM hk (dw (ha pos pins s σ H _ I h) λus s1 ⟨vs,H1,I1,r,q⟩=>⟨I1.my,?_⟩) he i8
 exact Kb F hr hb hd hx I1 r q
theorem Gj{pl:Sem Bool}(he:PE X o ta)(c:rV X.K C)(hm:mn X.K C m f)(F:la X.prog X.w X.K X.mg X.base CX k f fd ps sp)(hr:de k X.A)(hb:Binds X.K fd ps ds)(hd:bz Bx ds)(hx:lb CX X E)(ha:PA X (e::es) t)
  (Bv:starEach (e::es) X.env=(false,eval e X.env)::starEach es X.env:=by rfl)(i8:(backTo pos (starEach es X.env)).any (·.1)=false:=by rfl)
  (ht:eval (.Call (.Attribute o m apos) (e::es) [] pos) X.env=(do
   let ov <-eval o X.env
   standAt apos.atName
   let(f,first) <-holding [ov] (getMethod ov m pl)
   callWith pos f first (backTo pos (starEach (e::es) X.env)) (backToKw pos (keywordEach [] X.env))):=by rfl):
  PE X (.Call (.Attribute o m apos) (e::es) [] pos) (BP C m sp Bx E ta t):=by
 intro pins s σ H Q I h
 refine PySem.W.methodCall_KW (pl:=pl) (dw (he pins s σ H _ I h) λu s1 ⟨x,H1,I1,rx,a,dx,fs,ex,ea,l,q⟩=>?_) ht
 subst ex
 obtain rfl:u=Value.ref a:=rx
 refine D6 I1 ea c hm l ?_
 refine PySem.W.callWith_K (first:=[.ref a]) (h₀:=X.base) I.ok.mod.ZM hm.kp (dw (ha pos pins s1 σ H1 _ I1 q) λus s2 ⟨vs,H2,I2,r,q2⟩=>⟨I2.my,?_⟩) Bv i8
 exact Kb (us:=.ref a::us) (vs:=.ref a::vs) F hr hb hd hx I2 (.cons rfl r) q2
structure Mk(K:ak)(C f:Addr):Prop where
 makes:PySem.W.makesIn K C=true
 init:PySem.W.findIn K (.ref C) "__init__"=some (some (.ref f))
 fn:PySem.W.isFn K (.ref f)=true
 kp:PySem.W.keepIn K (.ref C)=true
theorem Kc(M:Mk X.K C f)(F:la X.prog X.w X.K X.mg X.base CX k f fd ps sp)(hr:de (k+1) X.A)(hb:Binds X.K fd ps ds)(hd:bz Bx ds)
  (hx:lb CX X E)(I:Inv X pins σ H s)(r:bz vs us)
  (h:∀x dx,H x=none->H dx=none->dx≠x->sp (.ref x::(vs++Bx)) (upd (upd H dx (.own x)) x (.ins C dx [])) (λv H2=>v=.ib/\Q (.ref x) H2) E):
  wpAny (model X.prog X.w) X.A (call (.ref C) us) (EP X pins σ Q) X.xe s:=by
 have hq:=h (s.heap.objs.size+1) s.heap.objs.size (I.bM.fresh (adN _)) (I.bM.fresh (aah _)) (aat (acp _))
 have I2:=Inv.made (C:=C) I
 have r2:bz (V.ref (s.heap.objs.size+1)::(vs++Bx)) (Value.ref (s.heap.objs.size+1)::(us++ds)):=.cons rfl (r.append hd)
 have hl:(Value.ref (s.heap.objs.size+1)::us++ds).length=ps.length:=by
  have e:=r2.length;rw[F.len _ _ _ _ hq]at e;exact e.symm
 refine wpAny_call (J8 (f:=f) I.my M.makes M.init (ac4.mp M.fn) (acD (F.run _ X.stack _ _ ⟨Value.ref (s.heap.objs.size+1)::us,[]⟩ (Value.ref (s.heap.objs.size+1)::(us++ds)) _ _ E (hr.make C us [])
  (I2.XB.make C us []) (hb _ (Value.ref (s.heap.objs.size+1)::us) I2.my hl) r2 hq) λr s' XD=>?_))
 cases r with
 |error e=>exact hx pins σ _ _ e s' I2 XD
 |ok fl=>
   cases fl with
   |ret u=>
     obtain⟨v,H',I3,rv,ev,q3⟩:=I2.after XD;subst ev;exact⟨rv,⟨V.ref (s.heap.objs.size+1),H',I3,rfl,q3⟩⟩
   |next=>exact False.elim XD
   |brk=>exact False.elim XD
   |cont=>exact False.elim XD
theorem Kd(M:Mk X.K C f)(F:la X.prog X.w X.K X.mg X.base CX k f fd ps sp)(hr:de (k+1) X.A)(hg:Gl X x)(hm:X.mg x=some (.ref C))(hb:Binds X.K fd ps ds)(hd:bz Bx ds)(hx:lb CX X E)
  (pf:(x==("__debug__":Str))=false:=by decide):PE X (.Call (.Name x p) [] [] pos) (XC C sp Bx E NZ):=by
 intro pins s σ H Q I h
 refine acS (k8 I hg hm ?_ pf)
 exact PySem.W.callWith_K0 I.my M.kp (Kc (us:=[]) M F hr hb hd hx I .nil h)
end
section
end
structure aB(N P:List Str)(sc:Scope):Prop where
 kind:sc.kind=.function
 co:sc.isCoroutine=false
 gen:sc.isGenerator=false
 nd:N.Nodup
 pre:N.take P.length=P
 par:∀x∈P,sc.names.lookup x=some .local\/sc.names.lookup x=some .cell
 S5:∀y∈sc.names,y.2≠.free
theorem yJ{kindOf:Str->Option NameKind}:∀{binds:List (Str×Value)} {m:dO},(∀v,(x,v)∉binds)->bindL kindOf binds m x=m x
 |[],_,_=>rfl
 |(n,v)::r,m,h=>by
   unfold bindL;rw[yJ λw hw=>h w (aap _ hw)];split
   .have:x≠n:=by rintro rfl;exact h v aan
    simp[this]
   .rfl
theorem yK{kindOf:Str->Option NameKind}:∀{binds:List (Str×Value)} {m:dO},(∀v,(x,v)∉binds)->bindC kindOf binds m x=m x
 |[],_,_=>rfl
 |(n,v)::r,m,h=>by
   unfold bindC;rw[yK λw hw=>h w (aap _ hw)];split;.rfl
   .have:x≠n:=by rintro rfl;exact h v aan
    simp[this]
theorem yL{kindOf:Str->Option NameKind}:∀{P:List Str} {vs:bU} {i:Nat} {m:dO},P.Nodup->P[i]?=some x->vs[i]?=some v->kindOf x=some .local->
  bindL kindOf (P.zip vs) m x=some v
 |[],_,_,_,_,h,_,_=>by simp at h
 |_::_,[],_,_,_,_,h,_=>by simp at h
 |p::P,w::vs,0,m,nd,h1,h2,hk=>by
   simp at h1 h2;subst h1;subst h2;show bindL kindOf ((p,w)::P.zip vs) m p=_;unfold bindL;rw[yJ λv hv=>(aeg.mp nd).1 (List.of_mem_zip hv).1,aaq hk];simp
 |p::P,w::vs,i+1,m,nd,h1,h2,hk=>by
   show bindL kindOf ((p,w)::P.zip vs) m x=_;exact yL (i:=i) (List.nodup_cons.mp nd).2 (by simpa using h1) (by simpa using h2) hk
theorem yM{kindOf:Str->Option NameKind}:∀{P:List Str} {vs:bU} {i:Nat} {m:dO},P.Nodup->P[i]?=some x->vs[i]?=some v->kindOf x≠some .local->
  bindC kindOf (P.zip vs) m x=some v
 |[],_,_,_,_,h,_,_=>by simp at h
 |_::_,[],_,_,_,_,h,_=>by simp at h
 |p::P,w::vs,0,m,nd,h1,h2,hk=>by
   simp at h1 h2;subst h1;subst h2;show bindC kindOf ((p,w)::P.zip vs) m p=_;unfold bindC;rw[yK λv hv=>(aeg.mp nd).1 (List.of_mem_zip hv).1,aaO hk];simp
 |p::P,w::vs,i+1,m,nd,h1,h2,hk=>by
   show bindC kindOf ((p,w)::P.zip vs) m x=_;exact yM (i:=i) (List.nodup_cons.mp nd).2 (by simpa using h1) (by simpa using h2) hk
def start(N:List Str)(vs:List V):St:=vs.map some++List.replicate (N.length-vs.length) none
noncomputable def jd(CX:QC)(P:Program)(w:World)(K:ak)(mg:dO)(base:Heap)(N:List Str)(qual:Str)(scope:Scope)(f:Addr)(cd:Value)(A:Around)(outer:List Env)(s:Shared)(H:Hp)(E:XK):Cx where
 prog:=P
 w:=w
 K:=K
 mg:=mg
 base:=base
 A:=A.deeper (envOfC qual scope s.heap.objs.size f cd)
 N:=N
 h8:=s
 JS:=H
 env:=envOfC qual scope s.heap.objs.size f cd
 outer:=outer
 stack:=envOfC qual scope s.heap.objs.size f cd::outer
 ex:=[]
 calm:=true
 fn:=λ_=>true
 pn:=[]
 xe:=λe s'=>wpAny (model P w) (A.deeper (envOfC qual scope s.heap.objs.size f cd)) (leaving (envOfC qual scope s.heap.objs.size f cd) e) (λ_ XE=>CX outer H s E e XE) (λe' XE=>CX outer H s E e' XE) s'
theorem BQ{sc:Scope}(h:sc.names.lookup x=some .cell):∃c,(cellsFrom n sc.names []).lookup x=some c:=by
 have q:=PySem.W.cellsFrom_some sc.names n [] (.inl h)
 exact adC.mp q
theorem HW{K:ak} 
  (S:aB N ps scope)(hd:A.handled=none)(e0:Ec P w K mg base A outer s H)(hl:vs.length=ps.length)(r:bz vs us)
  (x:InCallC s s.heap.objs.size (bindL (envOfC qual scope s.heap.objs.size f cd).kindOf (ps.zip us) λ_=>none) (cellsFrom (s.heap.objs.size+1) scope.names []) (bindC (envOfC qual scope s.heap.objs.size f cd).kindOf (ps.zip us) λ_=>none) s1):
  Inv (jd CX P w K mg base N qual scope f cd A outer s H E) [] (start N vs) H s1:=by
 have i8:ps.length<=N.length:=by have:=ab7 List.length S.pre;rw[acf]at this;lia
 obtain⟨h1,tk,rfl,hk⟩:=x.done
 have XF:∀b:Addr,b∉(jd CX P w K mg base N qual scope f cd A outer s H E).ex:=λb z=>absurd (show b∈([]:List Addr)from z) (by simp)
 refine⟨⟨e0.mod,S.kind,rfl,rfl,aah _,λy z c h1 h2=>?_,λy hy=>?_,λy c _ h=>?_,λ_=>hd,Around.frames_deeper e0.frames,.inr ⟨rfl,rfl⟩,λb z=>absurd z (XF b),e0.bs,e0.JF,λb _ _=>XF b,λb z=>absurd z (XF b),e0.kB,e0.HL⟩,
  rfl,e0.bare,Un.kept hk,⟨_,x.toInCall.ns,λi y v h1 h2 h3=>?_⟩,λy c h=>⟨_,x.cell y c h⟩,e0.bM.fresh (aah _),λy c h=>?_,λp hp=>absurd (show p∈([]:cz)from hp) (by simp),e0.bM.kept hk,?_⟩
 .exact name_of_addr x.apart (ac6 h1) (ac6 h2)
 .have hy:scope.names.lookup y=some .cell\/scope.names.lookup y=some .free:=hy;rcases hy with hy|hy;.exact BQ hy
  .exact absurd rfl (S.S5 _ (ac6 hy))
 .exact acZ (x.above y c (ac6 h))
 .have hi:i<vs.length:=by
   unfold start at h2;by_cases hi:i<vs.length;.grind
   .grind
  have ha:vs[i]?=some v:=by
   unfold start at h2;rw[List.getElem?_append_left (by simpa using hi),List.getElem?_map]at h2;cases e:vs[i]? with
   |none=>rw[e]at h2;cases h2
   |some a=>rw[e]at h2;cases h2;rfl
  obtain⟨u,hu,rv⟩:=r.get ha;have hp:ps[i]?=some y:=by
   rw[<-S.pre,List.getElem?_take_of_lt (by lia)];exact h1
  have ndP:ps.Nodup:=by rw[<-S.pre];exact S.nd.sublist (List.take_sublist _ _)
  refine⟨u,rv,?_⟩;rcases S.par y (aa7 hp)with k|k;.exact .inl ⟨k,yL ndP hp hu k⟩
  .obtain ⟨c,e⟩:=BQ (n:=s.heap.objs.size+1) k;refine .inr ⟨.inl k,c,e,?_⟩;have q:=x.cell y c e;rw[yM ndP hp hu (by show scope.names.lookup y≠_;rw[k];decide)]at q;exact q
 .exact e0.bM.fresh (acZ (x.above y c (ac6 h)))
 .unfold start;show _=N.length;rw[aaB,aaj,ad3];lia
theorem QG{K:ak}{dV kV doc pm cn ct oc:Value} 
  (lk:K.lookup f=some ⟨oc,od,.func (PySem.W.fnOf name qual params body scope dV kV doc pm an cn ct),Nu⟩)(xM:PySem.W.codeIn K cn qual=true)(S:aB N ps scope)
  (len:∀vs H Q E,sp vs H Q E->vs.length=ps.length)
  (BR:∀(A:Around) (outer:List Env) (s:Shared) (H:Hp) (vs:List V) (Q:VK) (E:XK),de k (A.deeper (envOfC qual scope s.heap.objs.size f cn))->sp vs H Q E->
   ∃t,jy (jd CX P w K mg base N qual scope f cn A outer s H E) body t/\t {nx:=λ_ H'=>Q .ib H',rt:=Q} (start N vs) H):
  la P w K mg base CX (k+1) f (PySem.W.fnOf name qual params body scope dV kV doc pm an cn ct) ps sp:=by
 refine⟨len,λA outer s H args us vs Q E hr e0 hb r QH=>?_⟩
 have hl:=len _ _ _ _ QH
 have KX:=e0.mod.ZM.keeps λb o e=>(e0.bs b o e).1
 have lim:=e0.mod.nolimit.keeps λb o e=>(e0.bs b o e).1
 have XG:∀y∈ps.zip us,scope.names.lookup y.1=some .local\/(scope.names.lookup y.1=some .cell/\((cellsFrom (s.heap.objs.size+1) scope.names []).lookup y.1).isSome=true):=λ⟨n,v⟩ hy=>by
  rcases S.par n (List.of_mem_zip hy).1 with q|q;.grind
  .exact .inr ⟨q,PySem.W.cellsFrom_some _ _ _ (.inl q)⟩
 refine codeAny_call_function hr.depth (KX _ _ lk) rfl S.co S.gen rfl (PySem.W.codeRec_of KX xM) (hb _ _ _ _ ?_)
 refine wpAny_newFunctionEnv_cells S.kind XG λenv he s1 x=>?_
 subst he
 refine⟨lim.keeps x.toInCall.keep,codeAny_func ?_⟩
 obtain⟨t,ht,hq⟩:=BR A outer s H vs Q E (hr.deeper _) QH
 have I:Inv (jd CX P w K mg base N qual scope f cn A outer s H E) [] (start N vs) H s1:=HW S hr.hd e0 hl r x
 refine aa6 (ht [] s1 (start N vs) H _ I hq) (λfl s' hs=>?_) λe s' hs=>hs
 have fin:∀{cQ:St} {H':Hp} {v:V} {u:Value},Inv (jd CX P w K mg base N qual scope f cn A outer s H E) [] cQ H' s'->RelV v u->Q v H'->CE outer P w H s Q u s':=
  λ{cQ H' v u} J rv q=>⟨v,H',J.os,J.bare,J.base,J.bM,rv,q⟩
 cases fl with
 |ret u=>
   obtain⟨v,cQ,H',J,rv,q⟩:=hs;exact fin J rv q
 |next=>
   obtain⟨cQ,H',J,q⟩:=hs;exact fin (v:=V.ib) (u:=Value.none) J rfl q
 |brk=>
   obtain⟨_,_,_,q⟩:=hs;exact False.elim q
 |cont=>
   obtain⟨_,_,_,q⟩:=hs;exact False.elim q
section
variable {X:Cx}{x:Str}{p pos:Pos}{e:Expr}{es:List Expr}{t:TA}{id T:String}{r:List V->Hp->VK->Prop}
def ZS(r:List V->Hp->VK->Prop)(t:TA):TE:=λσ H Q=>t σ H λvs H1=>r vs H1 Q
theorem mJ(hc:eV X (.builtin id) r)(hg:Gl X x)(hm:X.mg x=none)(hv:bootBuiltins x=some (.builtin id))(ha:PA X (e::es) t)(hn:x≠"__name__":=by decide)(pf:(x==("__debug__":Str))=false:=by decide)
  (he:starEach (e::es) X.env=(false,eval e X.env)::starEach es X.env:=by rfl)(i8:(backTo pos (starEach es X.env)).any (·.1)=false:=by rfl):PE X (.Call (.Name x p) (e::es) [] pos) (ZS r t):=by
 intro pins s σ H Q I h
 refine acS (mE I hg hm hv ?_ hn pf)
 exact PyProof.Rows.callWith_builtin1 (dw (ha pos pins s σ H _ I h) λus s1 ⟨vs,H1,I1,r1,q1⟩=>hc pins s1 σ H1 vs us Q I1 r1 q1) he i8
theorem rX(hc:eV X (.type T) r)(hg:Gl X x)(hm:X.mg x=none)(hv:bootBuiltins x=some (.type T))(ha:PA X (e::es) t)(hn:x≠"__name__":=by decide)(pf:(x==("__debug__":Str))=false:=by decide)
  (he:starEach (e::es) X.env=(false,eval e X.env)::starEach es X.env:=by rfl)(i8:(backTo pos (starEach es X.env)).any (·.1)=false:=by rfl):PE X (.Call (.Name x p) (e::es) [] pos) (ZS r t):=by
 intro pins s σ H Q I h
 refine acS (mE I hg hm hv ?_ hn pf)
 exact acq (dw (ha pos pins s σ H _ I h) λus s1 ⟨vs,H1,I1,r1,q1⟩=>hc pins s1 σ H1 vs us Q I1 r1 q1) he i8
end
end L2
namespace HT
open PySem PyProof.Rows
section
open PySem.SeqAt
open PySem.AutoSeq1 (wpAny_loadPart')
open PySem.MeetsSeq PySem.MeetsSeq2 PySem.MeetsSeq3
end
section
variable {prog:Program}{w:World}{A:Around}{E:dz}{s:Shared}
theorem N1(ht:IsTup s.heap t vs.toArray)(hb:IsTup s.heap b ws.toArray)(hv:vs≠[])
  (h1:ws=[]->Q (.ref t) s)(h2:ws≠[]->Q (.ref s.heap.objs.size) {s with heap:=s.heap.push {cls:=.type "tuple",data:=.seq (vs++ws).toArray}})
  (hsz:vs.length+ws.length<=sizeLine):wpAny (model prog w) A (binaryOp .Add (.ref t) (.ref b)) Q E s:=by
 obtain⟨⟨cls,dd,data,sl⟩,ho,hc,n,hd⟩:=id ht
 obtain⟨⟨aeJ,dd2,data2,S6⟩,oP,hc2,n2,hd2⟩:=id hb
 subst hc hd hc2 hd2
 have e:vs.toArray++ws.toArray=(vs++ws).toArray:=by simp
 by_cases hw:ws=[]
 .exact concat_meets ⟨_,ho,rfl⟩ ⟨_,oP,rfl⟩ noFill_tuple_add seq_tuple_add adR adO (adD _ _)
   (tuple_addW1 t b vs.toArray ws.toArray n n2 dd dd2 sl S6 (by simpa using hv) (by simp[hw])) ⟨ho,oP,h1 hw⟩
 .refine concat_meets ⟨_,ho,rfl⟩ ⟨_,oP,rfl⟩ noFill_tuple_add seq_tuple_add adR adO (adD _ _)
   (tuple_addW2 t b vs.toArray ws.toArray n n2 dd dd2 sl S6 (by simpa using hv) (by simpa using hw) (by rw[List.size_toArray,List.size_toArray];exact hsz)) ⟨ho,oP,?_⟩;rw[e];exact h2 hw
noncomputable def u6(n d:Nat):Option Int->Nat
 |none=>d
 |some v=>if v<0 then(v+(n:Int)).toNat else min v.toNat n
end
end HT
namespace L2
open PySem PySem.Spec PyProof.Rows
abbrev TO:=St->Hp->(Option Int->Hp->Prop)->Prop
def PO(X:Cx)(e:Option Expr)(t:TO):Prop:=
 ∀(pins:cz) (s:Shared) (σ:St) (H:Hp) (Q:Option Int->Hp->Prop),Inv X pins σ H s->t σ H Q->
   wpAny (model X.prog X.w) X.A (evalPart e X.env) (λu s'=>∃o H',Inv X pins σ H' s'/\IsPart u o/\Q o H') X.xe s
def N2:TO:=λ_ H Q=>Q none H
def XH(t:TE):TO:=λσ H Q=>t σ H λx H1=>∃i,x=.int i/\Q (some i) H1
theorem intsAre_of:∀{us:bU},bz (ns.map V.int) us->IntsAre us ns:=by
 induction ns with
 |nil=>intro us r;rw[afb]at r;cases r;exact .nil
 |cons n ns ih=>
   intro us r;cases r with
   |cons r1 r2=>
     obtain⟨t,e⟩:=r1;subst e;exact .cons n t (ih r2)
section
variable {X:Cx}{e:Expr}{te:TE}{lo hi:Option Expr}{tl th:TO}{pos p2:Pos}
theorem N4:PO X none N2:=by
 intro pins s σ H Q I h
 exact aae ⟨none,H,I,.none,h⟩
theorem N5(h:PE X e te):PO X (some e) (XH te):=by
 intro pins s σ H Q I hw
 refine dw (h pins s σ H _ I hw) λu s1 ⟨x,H1,I1,r1,q1⟩=>?_
 obtain⟨i,rfl,q⟩:=q1
 obtain⟨t,rfl⟩:=r1
 exact⟨some i,H1,I1,.int i t,q⟩
def SlR(X:Cx)(r:V->Option Int->Option Int->Hp->VK->Prop):Prop:=
 ∀(pins:cz) (s:Shared) (σ:St) (H:Hp) (x:V) (v vl vu:Value) (lo hi:Option Int) (sl:Addr) (Q:VK),Inv X pins σ H s->RelV x v->s.heap.IsSliceOf sl vl vu .none->IsPart vl lo->IsPart vu hi->r x lo hi H Q->
   ∃T id,typeLookup (.type T) "__getitem__"=pure (some (.builtin id))/\s.TypeIs v T/\wpAny (model X.prog X.w) X.A (getItem v (.ref sl)) (EP X pins σ Q) X.xe s
def tSl(r:V->Option Int->Option Int->Hp->VK->Prop)(te:TE)(tl th:TO):TE:=λσ H Q=>te σ H λx H1=>tl σ H1 λl H2=>th σ H2 λu H3=>r x l u H3 Q
theorem BS(hr:SlR X r)(he:PE X e te)(hl:PO X lo tl)(hu:PO X hi th):PE X (.Subscript e (.Slice lo hi none p2) pos) (tSl r te tl th):=by
 intro pins s σ H Q I h
 refine Subscript_ (dw (he pins s σ H _ I h) λv s1 ⟨x,H1,I1,r1,q1⟩=>?_)
 refine wpAny_Slice (dw (hl pins s1 σ H1 _ I1 q1) λvl s2 ⟨l,H2,I2,pl,q2⟩=>dw (hu pins s2 σ H2 _ I2 q2) λvu s3 ⟨u,H3,I3,pu,q3⟩=>?_)
 refine aae ?_
 have I4:Inv X pins σ H3 {s3 with heap:=s3.heap.push {cls:=.type "slice",data:=.fields #[vl,vu,.none]}}:=I3.kept (t':=s3.toks) λb ob q=>aab _ q
 obtain⟨T,id,hT,ht,hg⟩:=hr pins {s3 with heap:=s3.heap.push {cls:=.type "slice",data:=.fields #[vl,vu,.none]}} σ H3 x v vl vu l u s3.heap.objs.size Q I4 r1 (Heap.IsSliceOf.new ..) pl pu q3
 exact tail_any (ops:=[.ref s3.heap.objs.size,v]) ht hT hg (by with_unfolding_all rfl)
def Ke(xs:List V)(lo hi:Option Int):List V:=(xs.drop (HT.u6 xs.length 0 lo)).take (HT.u6 xs.length xs.length hi-HT.u6 xs.length 0 lo)
theorem BU(xs:List V)(lo hi:Option Int):(Ke xs lo hi).length<=xs.length:=by
 unfold Ke
 rw[acf,adt]
 lia
def QI(K:ak):R2:=λx y H Q=>∃a b xs ys,x=.ref a/\y=.ref b/\kg K H a xs/\kg K H b ys/\xs≠[]/\xs.length+ys.length<=sizeLine/\
 (ys=[]->Q (.ref a) H)/\(ys≠[]->∀p,H p=none->Q (.ref p) (upd H p (.tup (xs++ys))))
theorem bz.u7(r:bz xs us):us=[]↔xs=[]:=by
 cases r with
 |nil=>simp
 |cons _ _=>simp
theorem N6:jz X (binaryOp .Add) (QI X.K):=by
 intro pins s σ H x y v u Q I rx ry h
 obtain⟨a,b,xs,ys,rfl,rfl,ha,hb,hx,hz,q1,q2⟩:=h
 cases rx
 cases ry
 obtain⟨its,r1,p1,_⟩:=I.tuple ha
 obtain⟨xO,r2,p2,_⟩:=I.tuple hb
 refine HT.N1 p1 p2 (λz=>hx (r1.u7.mp z)) (λz=>⟨.ref a,H,I,rfl,q1 (r2.u7.mp z)⟩) (λz=>?_) (by rw[<-r1.length,<-r2.length];exact hz)
 refine⟨.ref s.heap.objs.size,_,I.laid (t':=s.toks) (o:=.tup (xs++ys)) (λb ob q=>aab _ q) (aah _) ?_,rfl,q2 (λw=>z (r2.u7.mpr w)) _ (I.bM.fresh (aah _))⟩
 exact⟨by rw[aaB];exact hz,_,r1.append r2,IsTup.new _ _⟩
end
noncomputable def Nv(n:Nat)(i:Int):Option Nat:=if 0<=i then(if i<n then some i.toNat else none)else if -(n:Int)<=i then some (i+n).toNat else none
def yN{α:Type}(xs:List α)(i:Int):Option α:=(Nv xs.length i).bind λj=>xs[j]?
theorem Gk(h:Nv n i=some j):seqIndex? i n=some j/\j<n/\-(n:Int)<=i/\i<n:=by
 unfold Nv at h
 by_cases h0:0<=i
 .rw [aaq h0]at h;by_cases h1:i<n
  .rw [aaq h1]at h;have e:=abC h;exact⟨by rw[seqIndex_of h0 h1,e],by lia,by lia,h1⟩
  .grind
 .rw [aaO h0]at h;by_cases h1:-(n:Int)<=i
  .rw [aaq h1]at h;have e:=abC h;exact⟨by rw[seqIndex_neg (by lia) h1,e],by lia,h1,by lia⟩
  .grind
theorem zA(h:yN xs i=some v):∃j,seqIndex? i xs.length=some j/\xs[j]?=some v/\j<xs.length/\-(xs.length:Int)<=i/\i<xs.length:=by
 unfold yN at h
 cases e:Nv xs.length i with
 |none=>rw[e]at h;cases h
 |some j=>
   rw[e]at h;obtain⟨h1,h2,h3,h4⟩:=Gk e;exact⟨j,h1,h,h2,h3,h4⟩
theorem lg{j:Nat}(h:xs[j]?=some v):yN xs (j:Int)=some v:=by
 have hj:=(aal.mp h).1
 have e:Nv xs.length (j:Int)=some j:=by
  unfold Nv;rw[aaq (by lia),aaq (by lia)];simp
 unfold yN;rw[e];exact h
def u9(b:Expr):Prop:=∀o i,subscripted b false o i=operate [o,i] (getItem o i)
def N7(X:Cx)(r:R2):Prop:=
 ∀(value slice:Expr) (pins:cz) (s:Shared) (σ:St) (H:Hp) (x y:V) (v u:Value) (Q:VK),Inv X pins σ H s->RelV x v->RelV y u->r x y H Q->
   subscripted slice false v u=operate [v,u] (getItem v u)->wpAny (model X.prog X.w) X.A (subscriptTail value slice v u) (EP X pins σ Q) X.xe s
def QJ(X:Cx)(id:String)(r:V->List V->Hp->VK->Prop):Prop:=
 ∀(pins:cz) (s:Shared) (σ:St) (H:Hp) (x:V) (xs:List V) (v:Value) (us:bU) (Q:VK),Inv X pins σ H s->RelV x v->bz xs us->r x xs H Q->
   wpAny (model X.prog X.w) X.A (call (.builtin id) (v::us)) (EP X pins σ Q) X.xe s
section
variable {X:Cx}{a b:Expr}{ta tb:TE}{pos:Pos}
theorem N7.or(h:N7 X r)(h':N7 X r'):N7 X (λx y H Q=>r x y H Q\/r' x y H Q):=by
 intro value slice pins s σ H x y v u Q I rx ry q hs
 rcases q with q|q
 .exact h value slice pins s σ H x y v u Q I rx ry q hs
 .exact h' value slice pins s σ H x y v u Q I rx ry q hs
theorem Kf(hr:N7 X r)(ha:PE X a ta)(hb:PE X b tb)(hs:u9 b):PE X (.Subscript a b pos) (SR r ta tb):=by
 intro pins s σ H Q I h
 exact Subscript_ (SS ha hb I h λv u s2 x y H2 I2 rx ry q=>hr a b pins s2 σ H2 x y v u Q I2 rx ry q (hs _ _))
def XI(K:ak):R2:=λx y H Q=>∃p xs i v,x=.ref p/\y=.int i/\kY K H p xs/\yN xs i=some v/\Q v H
def XJ(K:ak):R2:=λx y H Q=>∃p xs i v,x=.ref p/\y=.int i/\kg K H p xs/\yN xs i=some v/\Q v H
def XM:R2:=λx y H Q=>∃z i c,x=.str z/\y=.int i/\z.length<=sizeLine/\yN z.cps.toList i=some c/\Q (.str ⟨#[c]⟩) H
theorem N8:N7 X (XI X.K):=by
 intro value slice pins s σ H x y v u Q I rx ry h hs
 obtain⟨p,xs,i,z,rfl,rfl,hq,he,q⟩:=h
 cases rx
 obtain⟨t,rfl⟩:=ry
 obtain⟨its,r,pl,hz⟩:=I.list hq
 obtain⟨j,h1,h2,h3,h4,h5⟩:=zA he
 obtain⟨w,ew,HN⟩:=r.get h2
 have hl:=r.length
 have hn:=rQ
 have fin:EP X pins σ Q w s:=⟨z,H,I,HN,q⟩
 by_cases h0:0<=i
 .have hj:i.toNat=j:=by
   rw[seqIndex_of h0 h5]at h1;exact abC h1
  exact item_listR pl.isList h0 (by lia) (by rw[hj];simpa using ew) fin hs
 .have hj:(i+(its.toArray.size:Int)).toNat=j:=by
   rw[seqIndex_neg (by lia) h4]at h1;rw[aaD,<-hl];exact abC h1
  exact subscriptTail_builtinR (x:=w) pl.isList.typeIs slot_list_getitem.lookup
   (wpAny_getItem_list_neg (Q:=λr s'=>r=w/\EP X pins σ Q r s') pl.isList (by lia) (by rw[List.size_toArray]<;>lia) (by lia) (by rw[hj];simpa using ew) ⟨rfl,fin⟩) hs
theorem S7:N7 X (XJ X.K):=by
 intro value slice pins s σ H x y v u Q I rx ry h hs
 obtain⟨p,xs,i,z,rfl,rfl,hq,he,q⟩:=h
 cases rx
 obtain⟨t,rfl⟩:=ry
 obtain⟨its,r,pl,hz⟩:=I.tuple hq
 obtain⟨j,h1,h2,h3,h4,h5⟩:=zA he
 obtain⟨w,ew,HN⟩:=r.get h2
 have hl:=r.length
 have hn:=rQ
 have fin:EP X pins σ Q w s:=⟨z,H,I,HN,q⟩
 exact subscriptTail_builtinR (x:=w) pl.typeIs slot_tuple_getitem.lookup
  (getItem_tuple (j:=j) (Q:=λr s'=>r=w/\EP X pins σ Q r s') pl (by lia) (by lia) (by rw[List.size_toArray,<-hl];exact h1) (by simpa using ew) ⟨rfl,fin⟩) hs
theorem S8:N7 X XM:=by
 intro value slice pins s σ H x y v u Q I rx ry h hs
 obtain⟨z,i,c,rfl,rfl,hz,he,q⟩:=h
 obtain⟨t,rfl⟩:=rx
 obtain⟨t',rfl⟩:=ry
 obtain⟨j,h1,h2,h3,h4,h5⟩:=zA he
 have hl:z.cps.toList.length=z.length:=by simp[Str.length]
 rw[hl]at h1 h4 h5
 have hn:=rQ
 exact tail_any (aet s z t) slot_str_getitem.lookup (getItem_str (c:=c) (by
  have e1:decide (i< -(2^63:Int))=false:=aa3 (by lia);have e2:decide (i >=2^63)=false:=aa3 (by lia);rw[e1,e2,Bool.or_false]) (by rw[h1];simpa using h2) ⟨.str ⟨#[c]⟩,H,I.tok _,⟨_,rfl⟩,q⟩) hs
def rIx(K:ak):R2:=λx y H Q=>XI K x y H Q\/XJ K x y H Q\/XM x y H Q
theorem Ed:N7 X (rIx X.K):=N8.or (S7.or S8)
theorem Ee(its:bU)(n j:Nat)(u:Value):Obj.mapSeq (·.setIfInBounds j u) {cls:=.type "list",data:=.seq its.toArray n}={cls:=.type "list",data:=.seq (its.set j u).toArray n}:=by
 simp[Obj.mapSeq]
theorem Inv.lst{pins:cz}{σ:St}{H:Hp}{s:Shared}{p:Addr}{xs:List V}(I:Inv X pins σ H s)(h:H p=some (.lst xs)):
  ∃(its:bU) (n:Nat),bz xs its/\s.heap.get? p=some {cls:=.type "list",data:=.seq its.toArray n}/\xs.length<=sizeLine:=by
 obtain⟨z,its,n,r,e⟩:=I.bM p _ h
 exact⟨its,n,r,e,z⟩
theorem Inv.S9{its its':bU}(I:Inv X pins σ H s)(h:H p=some (.lst xs))
  (ho:s.heap.get? p=some {cls:=.type "list",data:=.seq its.toArray n})(hf:f {cls:=.type "list",data:=.seq its.toArray n}={cls:=.type "list",data:=.seq its'.toArray n'})(r:bz ys its')(hz:ys.length<=sizeLine)(t:Nat):
  Inv X pins σ (upd H p (.lst ys)) {s with heap:=s.heap.update p f,toks:=t}:=by
 have e:(s.heap.update p f).get? p=some {cls:=.type "list",data:=.seq its'.toArray n'}:=by
  rw[abi f ho (by rw[hf]<;>rfl),hf]
 refine I.write (x:=p) (e:=p) (by rw[h];trivial) (.inl rfl) (λb u hb q=>(acg _ _ (acb hb)).trans q) ⟨_,e⟩ ?_
 exact⟨hz,its',n',r,e⟩
def Kg:V->V->V->Hp->(Hp->Prop)->Prop:=λo i v H Q=>∃p xs k j,o=.ref p/\i=.int k/\H p=some (.lst xs)/\Nv xs.length k=some j/\Q (upd H p (.lst (xs.set j v)))
theorem set_list:Xq X Kg:=by
 intro pins s σ H o i v ov iv u Q I ro ri rv h
 obtain⟨p,xs,k,j,rfl,rfl,hp,hj,q⟩:=h
 cases ro
 obtain⟨t,rfl⟩:=ri
 obtain⟨its,n,r,ho,hz⟩:=I.lst hp
 obtain⟨h1,h2,h3,h4⟩:=Gk hj
 have hl:=r.length
 have hn:=rQ
 have I':Inv X pins σ (upd H p (.lst (xs.set j v))) {s with heap:=s.heap.update p (Obj.mapSeq (·.setIfInBounds j u))}:=
  I.S9 hp ho (Ee its n j u) (r.set rv j) (by rw[abW];exact hz) s.toks
 by_cases h0:0<=k
 .have hk:k.toNat=j:=by
   rw[seqIndex_of h0 h4]at h1;exact abC h1
  exact PySem.W.ki_setAt ho h0 (by lia) (by rw[aaD,<-hl];exact h4) (by rw[hk];exact⟨_,I',q⟩)
 .have hk:(k+(its.toArray.size:Int)).toNat=j:=by
   rw[seqIndex_neg (by lia) h3]at h1;rw[aaD,<-hl];exact abC h1
  exact PySem.W.ki_setBack ho (by lia) (by rw[aaD,<-hl];exact h3) (by lia) (by rw[hk];exact⟨_,I',q⟩)
theorem zB(lo hi:Option Int)(n:Nat):(sliceBounds lo hi none n).1=((HT.u6 n 0 lo:Nat):Int)/\(sliceBounds lo hi none n).2.1=((HT.u6 n n hi:Nat):Int)/\(sliceBounds lo hi none n).2.2=1:=by
 refine⟨?_,?_,rfl⟩
 .cases lo with
  |none=>simp[sliceBounds,HT.u6]
  |some i=>
    simp only[sliceBounds,HT.u6];by_cases h:i<0;.grind
    .grind
 .cases hi with
  |none=>simp[sliceBounds,HT.u6]
  |some i=>
    simp only[sliceBounds,HT.u6];by_cases h:i<0;.grind
    .grind
theorem xP(its:bU)(lo hi:Option Int):slicePick its.toArray lo hi none=((its.drop (HT.u6 its.length 0 lo)).take (HT.u6 its.length its.length hi-HT.u6 its.length 0 lo)).toArray:=by
 obtain⟨h1,h2,h3⟩:=zB lo hi its.toArray.size
 unfold slicePick
 rw[h1,h2,h3]
 simp only[sliceRange_one,pick_run]<;>rfl
def aa1(K:ak):V->Option Int->Option Int->Hp->VK->Prop:=λx lo hi H Q=>∃a xs,x=.ref a/\kY K H a xs/\∀p,H p=none->Q (.ref p) (upd H p (.lst (Ke xs lo hi)))
theorem N9:SlR X (aa1 X.K):=by
 intro pins s σ H x v vl vu lo hi sl Q I rx hs pl pu h
 obtain⟨a,xs,rfl,hx,q⟩:=h
 cases rx
 obtain⟨its,r,ht,hz⟩:=I.list hx
 have hlen:=r.length
 refine⟨"list",_,slot_list_getitem.lookup,ht.isList.typeIs,?_⟩
 refine wpAny_getItem_list_slice ht.isList hs pl pu .none (by simp) ?_ (by rw[aaD]<;>lia)
 rw[xP,<-hlen]
 refine⟨.ref s.heap.objs.size,_,I.laid (t':=s.toks) (o:=.lst (Ke xs lo hi)) (λb ob q=>aab _ q) (aah _) ?_,rfl,q _ (I.bM.fresh (aah _))⟩
 exact⟨aaW (BU xs lo hi) hz,_,0,(r.drop (HT.u6 xs.length 0 lo)).take (HT.u6 xs.length xs.length hi-HT.u6 xs.length 0 lo),aag _ rfl⟩
def mf:V->Bool
 |.ib=>true
 |.bl _=>true
 |.int _=>true
 |.str _=>true
 |_=>false
noncomputable def Oa:V->V->Bool
 |.ib,.ib=>true
 |.bl a,.bl b=>a==b
 |.bl a,.int b=>(if a then 1 else 0)==b
 |.int a,.bl b=>a==(if b then 1 else 0)
 |.int a,.int b=>a==b
 |.str a,.str b=>a==b
 |_,_=>false
theorem Ta(ry:RelV y u)(rx:RelV x v)(fy:mf y=true)(fx:mf x=true):SeqAt.EqAt A s u v (Oa y x):=by
 cases y with
 |ib=>
   cases ry;cases x with
   |ib=>cases rx;exact SeqAt.EqAt.same _
   |bl b=>cases rx;exact SeqAt.EqAt.none_bool b
   |int b=>obtain⟨t,rfl⟩:=rx;exact SeqAt.EqAt.none_int b t
   |str b=>obtain⟨t,rfl⟩:=rx;exact SeqAt.EqAt.none_str b t
   |_=>exact absurd (show false=true from fx) aaZ
 |bl a=>
   cases ry;cases x with
   |ib=>cases rx;exact SeqAt.EqAt.bool_none a
   |bl b=>cases rx;exact SeqAt.EqAt.bool_bool a b
   |int b=>obtain⟨t,rfl⟩:=rx;exact SeqAt.EqAt.bool_int a b t
   |str b=>obtain⟨t,rfl⟩:=rx;exact SeqAt.EqAt.bool_str a b t
   |_=>exact absurd (show false=true from fx) aaZ
 |int a=>
   obtain⟨t',rfl⟩:=ry;cases x with
   |ib=>cases rx;exact SeqAt.EqAt.int_none a t'
   |bl b=>cases rx;exact SeqAt.EqAt.int_bool a t' b
   |int b=>obtain⟨t,rfl⟩:=rx;exact SeqAt.EqAt.int_int a t' b t
   |str b=>obtain⟨t,rfl⟩:=rx;exact SeqAt.EqAt.int_str a t' b t
   |_=>exact absurd (show false=true from fx) aaZ
 |str a=>
   obtain⟨t',rfl⟩:=ry;cases x with
   |ib=>cases rx;exact SeqAt.EqAt.str_none a t'
   |bl b=>cases rx;exact SeqAt.EqAt.str_bool a t' b
   |int b=>obtain⟨t,rfl⟩:=rx;exact SeqAt.EqAt.str_int a t' b t
   |str b=>obtain⟨t,rfl⟩:=rx;exact SeqAt.EqAt.str_str a t' b t
   |_=>exact absurd (show false=true from fx) aaZ
 |_=>exact absurd (show false=true from fy) aaZ
def Ef(x:V)(u:Value):Bool:=match u with
 |.none=>Oa .ib x
 |.bool b=>Oa (.bl b) x
 |.int i _=>Oa (.int i) x
 |.str z _=>Oa (.str z) x
 |_=>false
theorem Kh(r:RelV y u)(f:mf y=true):Ef x u=Oa y x:=by
 cases y with
 |ib=>cases r;rfl
 |bl b=>cases r;rfl
 |int i=>obtain⟨t,rfl⟩:=r;rfl
 |str z=>obtain⟨t,rfl⟩:=r;rfl
 |_=>exact absurd (show false=true from f) aaZ
theorem qy:∀{xs:List V} {us:bU},bz xs us->xs.all mf=true->us.any (Ef x)=xs.any λy=>Oa y x
 |_,_,.nil,_=>rfl
 |y::xs,u::us,.cons r t,f=>by
   rw[adE,aax]at f;rw[adl,adl,Kh r f.1,qy t f.2]
theorem mK(rx:RelV x v)(fx:mf x=true):∀{xs:List V} {us:bU},bz xs us->xs.all mf=true->∀u∈us,SeqAt.EqAt A s u v (Ef x u)
 |_,_,.nil,_=>λu hu=>by cases hu
 |y::xs,u::us,.cons r t,f=>λu' hu=>by
   rw[adE,aax]at f;rcases aam.mp hu with rfl|hu;.rw [Kh r f.1];exact Ta r rx f.1 fx
   .exact mK rx fx t f.2 u' hu
def XN(x:V)(xs:List V):Bool:=xs.any λy=>Oa y x
def VZ(K:ak)(neg:Bool):R2:=λx y H Q=>∃p xs,y=.ref p/\(kY K H p xs\/kg K H p xs)/\mf x=true/\xs.all mf=true/\Q (.bl (if neg then !XN x xs else XN x xs)) H
theorem HX:jz X (compareOp .In) (VZ X.K false):=by
 intro pins s σ H x y v u Q I rx ry h
 obtain⟨p,xs,rfl,hq,fx,fs,q⟩:=h
 cases ry
 rcases hq with hq|hq
 .obtain ⟨its,r,pl,hz⟩:=I.list hq;refine SeqAt.in_listAt (Ef x) pl.isList (λw hw=>mK rx fx r fs w (by simpa using hw)) ⟨.bl _,H,I,rfl,?_⟩;rw[show its.toArray.any (Ef x)=its.any (Ef x)by simp,qy r fs];exact q
 .obtain ⟨its,r,pl,hz⟩:=I.tuple hq;refine SeqAt.in_tupleAt (Ef x) pl (λw hw=>mK rx fx r fs w (by simpa using hw)) ⟨.bl _,H,I,rfl,?_⟩;rw[show its.toArray.any (Ef x)=its.any (Ef x)by simp,qy r fs];exact q
theorem zC:jz X (compareOp .NotIn) (VZ X.K true):=by
 intro pins s σ H x y v u Q I rx ry h
 obtain⟨p,xs,rfl,hq,fx,fs,q⟩:=h
 cases ry
 rcases hq with hq|hq
 .obtain ⟨its,r,pl,hz⟩:=I.list hq;refine SeqAt.notIn_listAt (Ef x) pl.isList (λw hw=>mK rx fx r fs w (by simpa using hw)) ⟨.bl _,H,I,rfl,?_⟩;rw[show its.toArray.any (Ef x)=its.any (Ef x)by simp,qy r fs];exact q
 .obtain ⟨its,r,pl,hz⟩:=I.tuple hq;refine SeqAt.notIn_tupleAt (Ef x) pl (λw hw=>mK rx fx r fs w (by simpa using hw)) ⟨.bl _,H,I,rfl,?_⟩;rw[show its.toArray.any (Ef x)=its.any (Ef x)by simp,qy r fs];exact q
theorem zD:eV X (.builtin "len") (λxs H Q=>∃p ys,xs=[.ref p]/\(kY X.K H p ys\/kg X.K H p ys)/\Q (.int ys.length) H):=by
 intro pins s σ H xs us Q I r h
 obtain⟨p,ys,rfl,hq,q⟩:=h
 obtain⟨u,rfl,rx⟩:=vals1 r
 cases rx
 have hn:=rQ
 rcases hq with hq|hq
 .obtain ⟨its,r',pl,hz⟩:=I.list hq;have hlen:=r'.length;exact Calls.call_len_list pl.isList (by simp only[aaD]<;>lia) ⟨.int ys.length,H,I.tok _,⟨s.toks+1,by rw[aaD,hlen]⟩,q⟩
 .obtain ⟨its,r',pl,hz⟩:=I.tuple hq;have hlen:=r'.length;exact len_tuple pl (by simp only[aaD]<;>lia) ⟨.int ys.length,H,I.tok _,⟨s.toks+1,by rw[aaD,hlen]⟩,q⟩
theorem zF:eV X (.builtin "len") (λxs H Q=>∃z,xs=[.str z]/\z.length<=sizeLine/\Q (.int z.length) H):=by
 intro pins s σ H xs us Q I r h
 obtain⟨z,rfl,hz,q⟩:=h
 obtain⟨u,rfl,t,rfl⟩:=vals1 r
 have hn:=rQ
 exact len_str (by lia) ⟨.int z.length,H,I.tok _,⟨_,rfl⟩,q⟩
theorem eV.or(h:eV X f r)(h':eV X f r'):eV X f (λxs H Q=>r xs H Q\/r' xs H Q):=by
 intro pins s σ H xs us Q I rs q
 rcases q with q|q
 .exact h pins s σ H xs us Q I rs q
 .exact h' pins s σ H xs us Q I rs q
theorem qz:eV X (.type "list") (λxs H Q=>∃p ys,xs=[.ref p]/\(kY X.K H p ys\/kg X.K H p ys)/\∀l,H l=none->Q (.ref l) (upd H l (.lst ys))):=by
 intro pins s σ H xs us Q I r h
 obtain⟨p,ys,rfl,hq,q⟩:=h
 obtain⟨u,rfl,rx⟩:=vals1 r
 cases rx
 have fin:∀(its:bU),bz ys its->ys.length<=sizeLine->∀(h':Heap) (c':Nat),(∀b o',s.heap.get? b=some o'->h'.get? b=some o')->
   h'.get? s.heap.objs.size=some {cls:=.type "list",dict:=none,data:=.seq its.toArray c',slots:=#[]}->EP X pins σ Q (.ref s.heap.objs.size) {s with heap:=h'}:=λits r' hz h' c' kp e=>
  ⟨.ref s.heap.objs.size,_,I.laid (t':=s.toks) kp (aah _) (show cM X.prog X.w _ h' _ (.lst ys)from⟨hz,its,c',r',e⟩),rfl,q _ (I.bM.fresh (aah _))⟩
 rcases hq with hq|hq
 .obtain ⟨its,r',pl,hz⟩:=I.list hq;have hlen:=r'.length;obtain⟨o,ho,hc,n,hd⟩:=pl.isList;exact call_list_seq p (.inl rfl) ho hc hd (λh' c' kp e=>fin its r' hz h' c' kp e) (by simp only[aaD]<;>lia)
 .obtain ⟨its,r',pl,hz⟩:=I.tuple hq;have hlen:=r'.length;obtain⟨o,ho,hc,n,hd⟩:=pl;exact call_list_seq p (.inr rfl) ho hc hd (λh' c' kp e=>fin its r' hz h' c' kp e) (by simp only[aaD]<;>lia)
theorem iF:eV X (.type "tuple") (λxs H Q=>∃p ys,xs=[.ref p]/\((kY X.K H p ys/\∀l,H l=none->Q (.ref l) (upd H l (.tup ys)))\/(kg X.K H p ys/\Q (.ref p) H))):=by
 intro pins s σ H xs us Q I r h
 obtain⟨p,ys,rfl,h⟩:=h
 obtain⟨u,rfl,rx⟩:=vals1 r
 cases rx
 rcases h with⟨hq,q⟩|⟨hq,q⟩
 .obtain ⟨its,r',pl,hz⟩:=I.list hq;have hlen:=r'.length;refine call_tuple_list pl.isList (λh' kp=>?_) (by simp only[aaD]<;>lia);have I1:=I.kept (t':=s.toks) kp;have I2:Inv X pins σ (upd H h'.objs.size (.tup ys)) {s with heap:=h'.push {cls:=.type "tuple",data:=.seq its.toArray}}:=
   I1.laid (t':=s.toks) (λb o e=>aab _ e) (aah _) (show cM X.prog X.w _ _ _ (.tup ys)from⟨hz,its,r',IsTup.new _ _⟩);exact⟨.ref h'.objs.size,_,I2,rfl,q _ (I1.bM.fresh (aah _))⟩
 .obtain ⟨its,r',pl,hz⟩:=I.tuple hq;exact call_tuple_same pl ⟨.ref p,H,I,rfl,q⟩
def tyV(K:ak)(T:String)(x:V)(H:Hp):Prop:=match x with
 |.str _=>T="str"
 |.int _=>T="int"
 |.ref p=>(T="list"/\∃xs,kY K H p xs)\/(T="tuple"/\∃o,K.lookup p=some o/\o.cls=.type "tuple"/\o.dict=none)\/
   (T="dict"/\((∃aX,H p=some (.dK aX))\/∃aX,H p=some (.dT aX)))\/(T="set"/\∃S n,H p=some (.set S n))
 |_=>False
theorem Ki(I:Inv X pins σ H s)(r:RelV x v)(ty:tyV X.K T x H):
  s.TypeIs v T/\∀a,v=.ref a->∃ob,s.heap.get? a=some ob/\ob.dict=none:=by
 cases x with
 |str z=>
   obtain⟨t,rfl⟩:=r;cases(show T="str" from ty);exact⟨aet s z t,λ_ e=>nomatch e⟩
 |int i=>
   obtain⟨t,rfl⟩:=r;cases(show T="int" from ty);exact⟨typeIs_int s i t,λ_ e=>nomatch e⟩
 |ref p=>
   cases r;rcases ty with⟨rfl,xs,hq⟩|⟨rfl,o,hk,hc,hd⟩|⟨rfl,hk⟩|⟨rfl,S,n,hk⟩
   .obtain ⟨its,_,pl,_⟩:=I.list hq;refine⟨pl.isList.typeIs,λa e=>?_⟩;cases e;obtain⟨o,n,e,c,hd,_⟩:=pl;exact⟨o,e,hd⟩
   .refine ⟨⟨o,I.my p o hk,hc⟩,λa e=>?_⟩;cases e;exact⟨o,I.my _ o hk,hd⟩
   .have z:∃o,s.heap.get? p=some o/\o.ExactDict:=by
     rcases hk with⟨aX,hk⟩|⟨aX,hk⟩;.obtain ⟨_,_,_,_,o,_,_,e,ex,_⟩:=I.bM p _ hk;exact⟨o,e,ex⟩
     .obtain ⟨_,_,_,_,o,_,_,e,ex,_⟩:=I.bM p _ hk;exact⟨o,e,ex⟩
    obtain⟨o,e,ex⟩:=z;refine⟨⟨o,e,ex.1⟩,λa e2=>?_⟩;cases e2;exact⟨o,e,ex.2.1⟩
   .obtain ⟨o,_,_,_,e,ex,_⟩:=I.bM p _ hk;refine⟨⟨o,e,ex.1⟩,λa e2=>?_⟩;cases e2;exact⟨o,e,ex.2.1⟩
 |_=>exact False.elim ty
def XO(K:ak)(T:String)(r:V->List V->Hp->VK->Prop)(to:TE):TE:=λσ H Q=>to σ H λx H1=>tyV K T x H1/\r x [] H1 Q
def tBM(K:ak)(T:String)(r:V->List V->Hp->VK->Prop)(to:TE)(t:TA):TE:=λσ H Q=>to σ H λx H1=>tyV K T x H1/\t σ H1 λxs H2=>r x xs H2 Q
variable {o e:Expr}{es:List Expr}{to:TE}{t:TA}{name:Str}{apos cR:Pos}{T id:String}{r:V->List V->Hp->VK->Prop}
theorem Tb(pa:PlainAttrs T)(slot:Slot T name id)(hty:typeOf (.builtin id)=pure (.type "method_descriptor"))(hm:QJ X id r)(ho:PE X o to)
  (jG:attributeBase o name X.env (eval o X.env)=eval o X.env:=by rfl)(jH:(apos.endLine==cR.line)=true:=by rfl):PE X (.Call (.Attribute o name apos) [] [] cR) (XO X.K T r to):=by
 intro pins s σ H Q I h
 refine wpAny_Call_method0_late jG jH (dw (ho pins s σ H _ I h) λv s1 ⟨x,H1,I1,r1,ty,q1⟩=>?_)
 obtain⟨h1,h2⟩:=Ki I1 r1 ty
 exact⟨T,id,pa,slot,hty,h1,h2,adS rfl (PySem.evalArgs_none (hm pins s1 σ H1 x [] v [] Q I1 r1 .nil q1))⟩
theorem mM(pa:PlainAttrs T)(slot:Slot T name id)(hty:typeOf (.builtin id)=pure (.type "method_descriptor"))(hm:QJ X id r)(ho:PE X o to)(ha:PA X (e::es) t)
  (jG:attributeBase o name X.env (eval o X.env)=eval o X.env:=by rfl)
  (zG:((backTo cR (starEach (e::es) X.env)).all (λx=> !x.1)&&(backToKw cR (keywordEach [] X.env)).all (λx=>x.1.isSome)
   &&decide ((e::es).length+([]:List Keyword).length+(if([]:List Keyword).isEmpty then 0 else 1)<30))=true:=by rfl)
  (jH:(apos.endLine==cR.line)=true:=by rfl)(hs:starEach (e::es) X.env=(false,eval e X.env)::starEach es X.env:=by rfl)(Eg:(backTo cR (starEach es X.env)).any (·.1)=false:=by rfl):
  PE X (.Call (.Attribute o name apos) (e::es) [] cR) (tBM X.K T r to t):=by
 intro pins s σ H Q I h
 refine wpAny_Call_method_late jG zG jH rfl (dw (ho pins s σ H _ I h) λv s1 ⟨x,H1,I1,r1,ty,q1⟩=>?_)
 obtain⟨h1,h2⟩:=Ki I1 r1 ty
 refine⟨T,id,pa,slot,hty,h1,h2,?_⟩
 have hA:=ha cR pins s1 σ H1 _ I1 q1
 rw[hs]at hA ⊢
 refine adS (by show(false||(backTo cR (starEach es X.env)).any (·.1))=false;rw[Eg]<;>rfl) (aeb ?_)
 exact dw hA λus s2 ⟨vs,H2,I2,r2,q2⟩=>hm pins s2 σ H2 x vs v us Q I2 r1 r2 q2
/- xs.append(e),list.index on a module's tuple .. are QJ facts of 06m -/
end
def MtM(X:Cx)(id:String)(r:V->List V->Hp->VK->Prop):Prop:=
 ∀(pins:cz) (s:Shared) (σ:St) (H:Hp) (x:V) (xs:List V) (v:Value) (us:bU) (Q:VK),Inv X pins σ H s->RelV x v->bz xs us->r x xs H Q->
   wpAny (model X.prog X.w) X.A (call (.builtin id) (v::us)) (EP X pins σ Q) X.xe s
theorem bz.one:∀{x:V} {us:bU},bz [x] us->∃u,us=[u]/\RelV x u
 |_,_,.cons r .nil=>⟨_,rfl,r⟩
theorem bz.two:∀{x y:V} {us:bU},bz [x,y] us->∃u v,us=[u,v]/\RelV x u/\RelV y v
 |_,_,_,.cons r (.cons q .nil)=>⟨_,_,rfl,r,q⟩
section
variable {X:Cx}{pins:cz}{σ:St}{H:Hp}{s:Shared}{l:Addr}{xs ys:List V}
theorem Inv.XQ{its its':bU}(I:Inv X pins σ H s)(hH:H l=some (.lst xs))
  (e:s.heap.get? l=some {cls:=.type "list",data:=.seq its.toArray n})(hf:f its.toArray=its'.toArray)(hv:bz ys its')(hz:ys.length<=sizeLine):
  Inv X pins σ (upd H l (.lst ys)) {s with heap:=s.heap.update l (Obj.mapSeq f),toks:=t'}:=by
 have q:=PySem.IsL.update e f
 rw[hf]at q
 refine I.write (x:=l) (e:=l) (by rw[hH];exact trivial) (.inl rfl) (λb' u hb hu=>(acg s.heap (Obj.mapSeq f) (acb hb)).trans hu) ⟨_,q⟩ ?_
 exact⟨hz,its',_,hv,q⟩
theorem Inv.aa5(I:Inv X pins σ H s)(hv:bz ys its)(hz:ys.length<=sizeLine):
  Inv X pins σ (upd H s.heap.objs.size (.lst ys)) {s with heap:=s.heap.push {cls:=.type "list",data:=.seq its.toArray},toks:=t'}:=
 I.laid (λ_ _ q=>aab _ q) (aah _) ⟨hz,its,0,hv,aag _ rfl⟩
theorem Inv.fresh(I:Inv X pins σ H s):H s.heap.objs.size=none:=I.bM.fresh (aah _)
theorem Inv.Tc(I:Inv X pins σ H s)(hH:H l=some (.lst xs)):xs.length<=sizeLine/\∃(its:bU) (n:Nat),bz xs its/\xs.length=its.length/\s.heap.get? l=some {cls:=.type "list",data:=.seq its.toArray n}:=by
 obtain⟨z,its,n,r,e⟩:=I.bM l _ hH
 exact⟨z,its,n,r,r.length,e⟩
theorem Kj(h:n<=sizeLine):Builtin.List.listTooLong n=false:=by
 exact aa3 (by lia)
end
section
variable {X:Cx}
def Gm:V->List V->Hp->VK->Prop:=λx vs H Q=>∃l xs y,x=.ref l/\vs=[y]/\H l=some (.lst xs)/\xs.length<sizeLine/\Q .ib (upd H l (.lst (xs++[y])))
theorem kD:MtM X "list.append" Gm:=by
 intro pins s σ H x vs v us Q I rx rv h
 obtain⟨l,xs,y,rfl,rfl,hH,hz,q⟩:=h
 cases rx
 obtain⟨u,rfl,ru⟩:=rv.one
 obtain⟨z,its,n,r,hl,e⟩:=I.Tc hH
 refine aev ab9 ⟨_,e,rfl⟩ F.entry_list_append (F.args_list_append_2 _ _) (PySem.list_append l its.toArray n u (by rw[aaD];lia)) ⟨e,?_⟩
 refine⟨.ib,_,I.XQ (its':=its++[u]) hH e (by simp) (r.append (.cons ru .nil)) ?_,rfl,q⟩
 rw[aaB,abx]
 lia
def Gn:V->List V->Hp->VK->Prop:=λx vs H Q=>∃l b xs zs,x=.ref l/\vs=[.ref b]/\H l=some (.lst xs)/\H b=some (.lst zs)/\xs.length+zs.length<=sizeLine/\Q .ib (upd H l (.lst (xs++zs)))
theorem yO:MtM X "list.extend" Gn:=by
 intro pins s σ H x vs v us Q I rx rv h
 obtain⟨l,b,xs,zs,rfl,rfl,hH,hB,hz,q⟩:=h
 cases rx
 obtain⟨u,rfl,ru⟩:=rv.one
 cases ru
 obtain⟨z,its,n,r,hl,e⟩:=I.Tc hH
 obtain⟨z2,xO,n2,r2,HY,e2⟩:=I.Tc hB
 have hsz:its.toArray.size+xO.toArray.size<=sizeLine:=by rw[aaD,aaD];lia
 have XR:¬(!its.toArray.isEmpty&&Builtin.List.listTooLong (its.toArray.size+xO.toArray.size))=true:=by
  rw[Kj hsz,Bool.and_false];exact aaZ
 refine aev adT ⟨_,e,rfl⟩ F.entry_list_extend (F.args_list_extend_2 _ _)
  (AutoSeq1.list_extend_list_list_0 l its.toArray n b xO.toArray n2 XR (by rw[aaD];lia) (by lia)) ⟨e,e2,?_⟩
 refine⟨.ib,_,I.XQ (its':=its++xO) hH e (by simp) (r.append r2) ?_,rfl,q⟩
 rw[aaB]
 lia
end
section
end
section
end
end L2
namespace Att
open PySem PySem.W PySem.Calls PyProof.Rows
theorem uF:∀(ns:List Int) (vs:bU),WellAll P h vs (ns.map WData.int)->IntsAre vs ns:=by
 intro ns
 induction ns with
 |nil=>
   intro vs w;cases w;exact .nil
 |cons n ns ih=>
   intro vs w;cases w with
   |cons a b=>
     cases a;exact .cons _ _ (ih _ b)
theorem HZ{l:OpenLaw}(hn:l.most=some n) 
  (Ob:l.row.toRowW.claim.pre args=true)(hwl:WellAll P h vals args):
  ∃a vs ns,vals=[Value.ref a]/\args=[WData.list (ns.map WData.int)]/\h.get? a=some {cls:=.type "list",data:=.seq vs.toArray}/\IntsAre vs ns/\ns.length<=n:=by
 have hsh:=(pre_splitW Ob).1
 have hc:=(pre_splitW Ob).2
 obtain⟨d,r,rfl,h1,h2⟩:=hasAllW_cons hsh
 obtain rfl:=hasAllW_nil h2
 obtain⟨xs,rfl,h3⟩:=hasW_list h1
 obtain⟨ns,rfl⟩:=items_int h3
 have hlen:ns.length<=n:=by
  have h4:(WTm.not (.lt (.lit (.int (n:Int))) (.len (.arg 0)))).holds [] {args:=[.list (ns.map .int)]}=true:=by
   have h4:=(holds_andW hc).1;rw[hn]at h4;exact h4
  have h5:=condW_of h4 (w_not (w_lt w_lit (w_len_list (w_arg rfl))));first
   |(rw[aas q']at h5;exact absurd h5 (by decide))
   |(simp at h5;lia)
 cases hwl with
 |cons w1 w2=>
   cases w2;cases w1 with
   |list ho Oc=>exact⟨_,_,ns,rfl,rfl,ho,uF ns _ Oc,hlen⟩
theorem H8(l:OpenLaw)(args:List WData):l.row.toRowW.claim.post args (.bool true) args=true:=
 postW_of (r:=l.row.toRowW) (X:=(true==true))
  (show WShape.has [] (.bool true) .bool=true by first|rfl|decide|simp[WShape.has])
  (show(WTm.eq .res (.lit (.bool true))).value [] {args:=args,res:=some (.bool true),after:=args}=some (.bool (true==true))from w_eq_bool (w_res rfl) w_lit) rfl
theorem BV{l:OpenLaw} 
  (hn:l.most=some n)(XS:d.params.defaults=[])
  (call:∀(w:World) (h8 bO:Shared) (mg mb:dO) (fa:Addr) (o:Obj) (pm cd doc:Value) (a:Addr) (vs:bU) (ns:List Int),
   Ground q loose [] XP w h8 mg mb bO.heap->YP w bO.heap->
   bO.heap.get? fa=some o->o.data=.func (docDef d.name d.params d.body d.scope pm cd doc)->bO.heap.CodeRec cd d.name->mg d.name=some (.ref fa)->
   bO.heap.get? a=some {cls:=.type "list",data:=.seq vs.toArray}->IntsAre vs ns->ns.length<=n->bO.gens=#[]->
   codeAny (model l.prog w) callerA (.call (.ref fa) ⟨[.ref a],[]⟩) (λr s'=>r=.ok (.ret (.bool true))/\OldK bO.heap s'.heap/\s'.os=bO.os/\AllBare s'.gens) bO):
  WalkO q loose XP YP l.row.toRowW d [] (λf vs=>PySem.call f vs):=by
 intro w h8 bO mg mb G Y fa o pm cd doc dV kV ho hd xM hD XT hg args vals as Ob aeL hrd hwl hlo
 obtain rfl:dV=.none:=Dflts.none hD XS
 obtain rfl:kV=.none:=Dflts.noKw hD
 obtain⟨a,vs,ns,rfl,rfl,Td,hints,hlen⟩:=HZ hn Ob hwl
 refine enter_call (acD (call w h8 bO mg mb fa o pm cd doc a vs ns G Y ho (fd_plain hd) xM XT Td hints hlen hg) λr s' hq=>?_)
 obtain⟨rfl,h2,h3,h4⟩:=hq
 exact⟨.inl ⟨.bool true,.bool true,[],rfl,λ_=>rfl,.bool true,H8 l _,λ_=>⟨List.Pairwise.nil,λ_ hm=>(nomatch hm)⟩⟩,h2,h3,h4⟩
section
end
end Att
namespace L2
open PySem PySem.Spec PyProof.Rows
theorem yP:∀{vs:bU} {ns:List Int},IntsAre vs ns->bz (ns.map V.int) vs
 |_,_,.nil=>.nil
 |_,_,.cons n t h=>.cons ⟨t,rfl⟩ (yP h)
def DP(K:ak)(H:Hp)(a:Addr)(xs:List V):Prop:=
 Rd H a (.lst xs)\/∃(its:bU) (n:Nat),K.lookup a=some {cls:=.type "list",data:=.seq its.toArray n}/\its.length<=sizeLine/\bz xs its
abbrev xQ:QC:=λ_ _ _ _ _ _=>False
abbrev E0:XK:=λ_ _ _=>False
theorem Kk{X:Cx}:lb xQ X E0:=λ_ _ _ _ _ _ _ h=>h.elim
structure xR(K:ak)(x qual:Str)(st:Stmt)(f:Addr)(fd:FuncData):Prop where
 ex:∃(oc:Value) (od:Option Addr) (kV doc pm:Value) (an:Option Addr) (cn ct:Value) (Nu:Array (Option Value)),
  fd=PySem.W.fnOf x qual (d8 st) (bP st) (ah st) .none kV doc pm an cn ct/\K.lookup f=some ⟨oc,od,.func fd,Nu⟩/\PySem.W.codeIn K cn qual=true
 kp:PySem.W.keepIn K (.ref f)=true
section
variable {P:Program}{w:World}{K:ak}{mg:dO}{base:Heap}
theorem xR.ok{st:Stmt}(F:xR K x qual st f fd)(S:aB N ps (ah st))(len:∀vs H Q E,sp vs H Q E->vs.length=ps.length)
  (BR:∀(cn:Value) (A:Around) (outer:List Env) (s:Shared) (H:Hp) (vs:List V) (Q:VK) (E:XK),de k (A.deeper (envOfC qual (ah st) s.heap.objs.size f cn))->sp vs H Q E->
   ∃t,jy (jd xQ P w K mg base N qual (ah st) f cn A outer s H E).JG (bP st) t/\t {nx:=λ_ H'=>Q .ib H',rt:=Q} (start N vs) H):la P w K mg base xQ (k+1) f fd ps sp:=by
 obtain⟨oc,od,kV,doc,pm,an,cn,ct,Nu,rfl,lk,xM⟩:=F.ex
 refine QG lk xM S len λA outer s H vs Q E hr QH=>?_
 obtain⟨t,h,q⟩:=BR cn A outer s H vs Q E hr QH
 exact⟨t,h.JG,q⟩
theorem xR.binds{st:Stmt}(F:xR K x qual st f fd)
  (h:∀(kV doc pm:Value) (an:Option Addr) (cn ct:Value) (us:bU),us.length=ps.length->bindArgs (PySem.W.fnOf x qual (d8 st) (bP st) (ah st) .none kV doc pm an cn ct) ⟨us,[]⟩=pure (ps.zip us)):Binds K fd ps []:=by
 obtain⟨oc,od,kV,doc,pm,an,cn,ct,Nu,rfl,lk,xM⟩:=F.ex
 exact .all (h kV doc pm an cn ct)
theorem eS{st:Stmt}{kV doc pm cn ct:Value}(l:K.lookup f=some ⟨oc,od,.func (PySem.W.fnOf x qual (d8 st) (bP st) (ah st) .none kV doc pm an cn ct),Nu⟩)
  (c:PySem.W.codeIn K cn qual=true)(k:PySem.W.keepIn K (.ref f)=true):xR K x qual st f (PySem.W.fnOf x qual (d8 st) (bP st) (ah st) .none kV doc pm an cn ct):=⟨⟨oc,od,kV,doc,pm,an,cn,ct,Nu,rfl,l,c⟩,k⟩
end
def Od:Option NameKind->Bool
 |some .local=>true
 |some .cell=>true
 |some .free=>true
 |_=>false
theorem Te(h:Od (sc.names.lookup x)=true):Xf sc x:=by
 unfold Xf
 cases e:sc.names.lookup x with
 |none=>rw[e]at h;cases h
 |some k=>
   rw[e]at h;cases k<;>first|exact .inl rfl|exact .inr (.inl rfl)|exact .inr (.inr rfl)|cases h
section
variable {X:Cx}
theorem pv(i:Nat)(hN:X.N[i]?=some x:=by rfl)(hv:Od (X.env.scope.names.lookup x)=true:=by rfl)(hd:(x==("__debug__":Str))=false:=by decide)
  (xM:(x==("__classdict__":Str))=false:=by decide):PE X (.Name x pos) (iO i):=SE hN (Te hv) hd xM
end
def aA(H H':Hp):Prop:=∀b o,H b=some o->H' b=some o
theorem aA.refl(H:Hp):aA H H:=λ_ _ h=>h
theorem aA.trans(a:aA H H1)(b:aA H1 H2):aA H H2:=λc o h=>b c o (a c o h)
theorem aA.free(e:aA H H')(h:H' l=Option.none):H l=Option.none:=by
 cases q:H l with
 |none=>rfl
 |some o=>
   rw[e l o q]at h;cases h
section
variable {κ:Type}[DecidableEq κ]
noncomputable def mO(aX:List (κ×V))(k:κ):Option V:=(aX.find? λkv=>decide (kv.1=k)).map (·.2)
noncomputable def putK(aX:List (κ×V))(k:κ)(v:V):List (κ×V):=
 if(aX.any λkv=>decide (kv.1=k))=true then aX.map (λkv=>if kv.1=k then(kv.1,v)else kv)else aX++[(k,v)]
theorem mP{k:κ}(e:p.1=k):mO (p::r) k=some p.2:=by simp[mO,e]
theorem mQ{k:κ}(e:¬p.1=k):mO (p::r) k=mO r k:=by simp[mO,e]
theorem vw(k:κ):∀aX:List (κ×V),(aX.any λkv=>decide (kv.1=k))=(mO aX k).isSome
 |[]=>rfl
 |p::r=>by
   rw[adl];by_cases e:p.1=k;.simp only[mP e,aas e,Bool.true_or,Option.isSome_some]
   .rw [mQ e,aa3 e,Bool.false_or];exact vw k r
theorem ug(aX:List (κ×V))(k:κ)(v:V):(putK aX k v).length<=aX.length+1:=by
 unfold putK
 split
 .grind
 .grind
theorem ml.rY(r:ml o u):o.isSome=u.isSome:=by
 cases o with
 |none=>cases u with
   |none=>rfl
   |some _=>exact(show False from r).elim
 |some _=>cases u with
   |none=>exact(show False from r).elim
   |some _=>rfl
theorem ml.getD(r:ml o u)(rd:RelV d d'):RelV (o.getD d) (u.getD d'):=by
 cases o with
 |none=>cases u with
   |none=>exact rd
   |some _=>exact(show False from r).elim
 |some _=>cases u with
   |none=>exact(show False from r).elim
   |some _=>exact r
theorem KV.val(r:KV aX vs)(k:κ):ml (mO aX k) (valueAt vs k):=by
 induction r with
 |nil=>exact True.intro
 |@cons p q ps qs h t ih=>
   obtain⟨h1,h2⟩:=h;by_cases e:p.1=k
   .have e':q.1=k:=h1.symm.trans e;have b:valueAt (q::qs) k=some q.2:=by simp[valueAt,e']
    rw[mP e,b];exact h2
   .have e':¬q.1=k:=λz=>e (h1.trans z);have b:valueAt (q::qs) k=valueAt qs k:=by simp[valueAt,e']
    rw[mQ e,b];exact ih
theorem KV.any(r:KV aX vs)(k:κ):(aX.any λkv=>decide (kv.1=k))=vs.any λkv=>decide (kv.1=k):=by
 induction r with
 |nil=>rfl
 |cons h t ih=>rw[adl,adl,ih,h.1]
theorem KV.Tf(r:KV aX vs)(k:κ)(ry:RelV y u):
  KV (aX.map λkv=>if kv.1=k then(kv.1,y)else kv) (vs.map λkv=>if kv.1=k then(kv.1,u)else kv):=by
 induction r with
 |nil=>exact .nil
 |@cons p q ps qs h t ih=>
   refine .cons ?_ ih;by_cases e:p.1=k;.grind
   .grind
theorem KV.put(r:KV aX vs)(k:κ)(ry:RelV y u):KV (putK aX k y) (stored vs k u):=by
 unfold putK stored
 rw[r.any k]
 by_cases e:(vs.any λkv=>decide (kv.1=k))=true
 .rw [aaq e,aaq e];exact r.Tf k ry
 .rw [aaO e,aaO e];exact Paired.snoc r ⟨rfl,ry⟩
theorem KV.length{vs:List (κ×Value)}(r:KV aX vs):aX.length=vs.length:=Paired.length r
end
theorem vz(r:RelV (kV k) u):(cY P w).is k u=true:=by
 cases k with
 |inl i=>obtain⟨t,e⟩:=(show ∃t,u=Value.int i t from r);subst e;exact BE P w i t
 |inr x=>obtain⟨t,e⟩:=(show ∃t,u=Value.str x t from r);subst e;exact BF P w x t
theorem yQ:∀{ks:List Key} {us:bU},bz (ks.map kV) us->ItemsAre (cY P w) ks us
 |[],_,r=>by rw[afb]at r;cases r;exact .nil
 |k::ks,_,r=>by
   cases r with
   |cons h t=>exact .cons (vz h) (yQ t)
abbrev KT(H:Hp):List (List Key×V)->List (List Key×Addr×Value)->Prop:=Paired λp q=>p.1=q.1/\eE H q.2.1 (p.1.map kV)/\RelV p.2 q.2.2
theorem KT.val(r:KT H aX xs)(k:List Key):ml (mO aX k) ((atKey xs k).map (·.2)):=by
 induction r with
 |nil=>exact True.intro
 |@cons p q ps qs h t ih=>
   obtain⟨h1,_,h2⟩:=h;by_cases e:p.1=k
   .have e':q.1=k:=h1.symm.trans e;have b:atKey (q::qs) k=some q.2:=by simp[atKey,e']
    rw[mP e,b];exact h2
   .have e':¬q.1=k:=λz=>e (h1.trans z);have b:atKey (q::qs) k=atKey qs k:=by simp[atKey,e']
    rw[mQ e,b];exact ih
theorem KT.Tf(r:KT H aX xs)(k:List Key)(ry:RelV y u):
  KT H (aX.map λkv=>if kv.1=k then(kv.1,y)else kv) (xs.map (putAt k u)):=by
 induction r with
 |nil=>exact .nil
 |@cons p q ps qs h t ih=>
   refine .cons ?_ ih;unfold putAt;by_cases e:p.1=k;.grind
   .grind
theorem KT.put(r:KT H aX xs)(k:List Key)(hb:eE H b (k.map kV))(ry:RelV y u):
  KT H (putK aX k y) (storedH xs k b u):=by
 have e:(aX.any λkv=>decide (kv.1=k))=(atKey xs k).isSome:=by
  rw[vw,(r.val k).rY,aeM]
 unfold putK storedH
 rw[e]
 by_cases q:(atKey xs k).isSome=true
 .rw [aaq q,aaq q];exact r.Tf k ry
 .rw [aaO q,aaO q];exact Paired.snoc r ⟨rfl,hb,ry⟩
theorem KT.keeps(r:KT H aX xs)(ht:∀b ys,eE H b ys->eE H' b ys):KT H' aX xs:=
 Paired.SD r λ_ _ z=>⟨z.1,ht _ _ z.2.1,z.2.2⟩
section
variable {P:Program}{w:World}{H:Hp}{h:Heap}{a:Addr}
theorem QK(ok:n8 P w H h)(e:Rd H a u):cM P w H h a u:=e.ok ok
theorem yR(ok:n8 P w H h)(e:Rd H a (.dK aX)):aX.length<=sizeLine/\(a==sysModules)=false/\∃vs,KV aX vs/\h.DictOf (cY P w) a vs:=
 show cM P w H h a (.dK aX)from QK ok e
theorem XU(ok:n8 P w H h)(e:H a=some (.dK aX)):aX.length<=sizeLine/\(a==sysModules)=false/\∃vs,KV aX vs/\h.DictOf (cY P w) a vs:=yR ok (.inl e)
theorem rZ(ok:n8 P w H h)(e:eE H a (ks.map kV)):(tupleKind (cY P w)).is h ks a:=by
 obtain⟨_,its,r,o,h1,h2,n,h3⟩:=(show cM P w H h a (.tup (ks.map kV))from Rd.ok e ok)
 exact⟨o,its.toArray,n,h1,h2,h3,by simpa using yQ r⟩
theorem yS(ok:n8 P w H h)(e:Rd H a (.dT aX)):aX.length<=sizeLine/\(a==sysModules)=false/\
  ∃xs,KT H aX xs/\h.DictOfH (tupleKind (cY P w)) a xs:=by
 obtain⟨z,y,xs,r,o,es,ep,h1,h2,h3,h4,h5⟩:=(show cM P w H h a (.dT aX)from QK ok e)
 refine⟨z,y,xs,r,o,es,ep,h1,h2,h3,h4,λx hx=>?_,h5⟩
 have all:∀{l:List (List Key×V)} {m:List (List Key×Addr×Value)},KT H l m->∀x∈m,(tupleKind (cY P w)).is h x.1 x.2.1:=by
  intro l m q;induction q with
  |nil=>intro x hx;exact nomatch hx
  |@cons p q ps qs hq t ih=>
    intro x hx;rcases aam.mp hx with e|hx;.subst e;exact rZ ok (by rw[<-hq.1];exact hq.2.1)
    .grind
 exact all r x hx
theorem QL(ok:n8 P w H h)(e:H a=some (.dT aX)):aX.length<=sizeLine/\(a==sysModules)=false/\
  ∃xs,KT H aX xs/\h.DictOfH (tupleKind (cY P w)) a xs:=yS ok (.inl e)
end
def ph(H:Hp)(a:Addr)(y:V)(r:Option V):Prop:=
 (∃aX k,Rd H a (.dK aX)/\y=kV k/\r=mO aX k)\/∃aX k b,Rd H a (.dT aX)/\y=.ref b/\eE H b (k.map kV)/\r=mO aX k
def BW(H:Hp)(a:Addr)(y v:V)(H':Hp):Prop:=
 (∃aX k,H a=some (.dK aX)/\y=kV k/\aX.length<sizeLine/\H'=upd H a (.dK (putK aX k v)))\/
 ∃aX k b,H a=some (.dT aX)/\y=.ref b/\eE H b (k.map kV)/\aX.length<sizeLine/\H'=upd H a (.dT (putK aX k v))
theorem ph.k{k:Key}(e:H a=some (.dK aX)):ph H a (kV k) (mO aX k):=.inl ⟨aX,k,.inl e,rfl,rfl⟩
theorem ph.t{k:List Key}(e:H a=some (.dT aX))(eb:eE H b (k.map kV)):ph H a (.ref b) (mO aX k):=.inr ⟨aX,k,b,.inl e,rfl,eb,rfl⟩
theorem BW.k{k:Key}(e:H a=some (.dK aX))(hl:aX.length<sizeLine):BW H a (kV k) v (upd H a (.dK (putK aX k v))):=.inl ⟨aX,k,e,rfl,hl,rfl⟩
theorem BW.t{k:List Key}(e:H a=some (.dT aX))(eb:eE H b (k.map kV))(hl:aX.length<sizeLine):
  BW H a (.ref b) v (upd H a (.dT (putK aX k v))):=.inr ⟨aX,k,b,e,rfl,eb,hl,rfl⟩
section
variable {X:Cx}{pins:cz}{σ:St}{H:Hp}{s:Shared}{a:Addr}{y v:V}{u r:Value}{o:Option V}{A:Around}{E:dz}
theorem Inv.big(I:Inv X pins σ H s):sysModules<s.heap.objs.size:=by
 have h:=(I.mod.glob.keeps I.bk).lt
 exact Nat.lt_trans (by decide) h
theorem Ia(hu:A.units+1<cLine)(I:Inv X pins σ H s)(g:ph H a y (some v))(ry:RelV y u)(h:∀w' s',Inv X pins σ H s'->RelV v w'->Q w' s'):
  wpAny (model X.prog X.w) A (getItem (.ref a) u) Q E s:=by
 rcases g with⟨aX,k,e,ey,l⟩|⟨aX,k,b,e,ey,eb,l⟩
 .subst ey;obtain⟨z,hd,vs,rel,dd⟩:=yR I.bM e;obtain⟨w',hw,HN⟩:=ml.some_of (v:=v) (o:=valueAt vs k) (by rw[l];exact rel.val k);exact wpAny_getItem_of (vz ry) dd.mapOf hw (h w' _ (I.tok _) HN)
 .subst ey;cases(show u=Value.ref b from ry);obtain⟨z,hd,xs,rel,dd⟩:=yS I.bM e;obtain⟨w',hw,HN⟩:=ml.some_of (v:=v) (o:=(atKey xs k).map (·.2)) (by rw[l];exact rel.val k);obtain⟨p,hp,ZT⟩:=aca.mp hw;refine wpAny_getItem_heap (adJ hu) (rZ I.bM eb) dd hp ?_;rw[ZT];exact h w' _ (I.tok _) HN
theorem Oe(hu:A.units+1<cLine)(I:Inv X pins σ H s)(g:ph H a y o)(ry:RelV y u)(h:∀s',Inv X pins σ H s'->Q (.bool (!o.isSome)) s'):
  wpAny (model X.prog X.w) A (compareOp .NotIn u (.ref a)) Q E s:=by
 rcases g with⟨aX,k,e,ey,l⟩|⟨aX,k,b,e,ey,eb,l⟩
 .subst ey;obtain⟨z,hd,vs,rel,dd⟩:=yR I.bM e;refine wpAny_notIn_of (vz ry) hd dd.mapOf ?_;rw[<-(rel.val k).rY,<-l];exact h _ (I.tok _)
 .subst ey;cases(show u=Value.ref b from ry);obtain⟨z,hd,xs,rel,dd⟩:=yS I.bM e;refine wpAny_notIn_heap (adJ hu) (rZ I.bM eb) hd dd ?_;have q:=(rel.val k).rY;rw[aeM]at q;rw[<-q,<-l];exact h _ (I.tok _)
theorem zH(I:Inv X pins σ H s)(mu:Xe (H a))(hs:Heap.SameBut a s.heap h')(he:∃q,h'.get? a=some q)(new:cM X.prog X.w (upd H a ob) h' a ob):
  Inv X pins σ (upd H a ob) {s with heap:=h',toks:=t'}:=
 I.write (x:=a) (e:=a) mu (.inl rfl) (λb q hb z=>(hs.2 b hb).trans z) he new
theorem Tg(z:aX.length<=sizeLine)(hd:(a==sysModules)=false)(rel:KV aX vs)(dd:h'.DictOf (cY P w) a vs):
  cM P w H' h' a (.dK aX):=⟨z,hd,vs,rel,dd⟩
theorem Ib(hu:A.units+1<cLine)(I:Inv X pins σ H s)(g:BW H a y v H')(ry:RelV y u)(rv:RelV v r)(h:∀s',Inv X pins σ H' s'->Q () s'):
  wpAny (model X.prog X.w) A (setItem (.ref a) u r) Q E s:=by
 rcases g with⟨aX,k,e,ey,l,eH⟩|⟨aX,k,b,e,ey,eb,l,eH⟩
 .subst ey eH;obtain⟨z,hd,vs,rel,dd⟩:=XU I.bM e;have hz:vs.length<=sizeLine:=by rw[<-rel.length];exact z
  have hl:(putK aX k v).length<=sizeLine:=by have:=ug aX k v;lia
  refine wpAny_setItem_pairs (hsz:=hz) (vz ry) dd λh' V0 hs=>h _ ?_;have he:∃q,h'.get? a=some q:=let⟨q,_,_,hq,_⟩:=V0;⟨q,hq⟩;exact zH I (by rw[e];exact True.intro) hs he (Tg hl hd (rel.put k rv) V0)
 .subst ey eH;cases(show u=Value.ref b from ry);obtain⟨z,hd,xs,rel,dd⟩:=QL I.bM e;have hz:xs.length<=sizeLine:=by rw[<-Paired.length rel];exact z
  have hl:(putK aX k v).length<=sizeLine:=by have:=ug aX k v;lia
  refine wpAny_setItem_heap (hsz:=hz) (adJ hu) (rZ I.bM eb) dd λh' V0 hs=>h _ ?_;obtain⟨q,es,ep,hq,h2,h3,h4,_,h5⟩:=V0;refine zH I (by rw[e];exact True.intro) hs ⟨q,hq⟩ ⟨hl,hd,_,(rel.put k eb rv).keeps λc ys ec=>?_,q,es,ep,hq,h2,h3,h4,h5⟩;exact ec.dT e
end
section
end
def Kl(i:Expr):Prop:=∀ov iv,subscripted i false ov iv=operate [ov,iv] (getItem ov iv)
theorem Gp{T id:String} 
  (hl:typeLookup (.type T) "__getitem__"=pure (some (.builtin id)))(hs:Kl slice)
  (h:wpAny (model prog w) A (eval value env) (λo bO=>wpAny (model prog w) A (eval slice env) (λi mF=>mF.TypeIs o T/\wpAny (model prog w) A (getItem o i) Q E mF) E bO) E s):
  wpAny (model prog w) A (eval (.Subscript value slice pos) env) Q E s:=by
 refine Subscript_ (aa6 h (λo bO vA=>aa6 vA (λi mF zJ=>?_) λ_ _ x=>x) λ_ _ x=>x)
 obtain⟨hT,zJ⟩:=zJ
 refine aaa ?_
 refine aaa (wpAny_specialOf hT hl ?_)
 have fin:wpAny (model prog w) A (subscripted slice false o i) (λr r6=>wpAny (model prog w) A (letTemporaryGo value o r >>= λ_=>pure r) Q E r6) E mF:=by
  rw[hs o i];exact wpAny_operating (aa6 zJ (λr r6 Th=>aaa (wpAny_letTemporaryGo (aae Th))) λ_ _ x=>x)
 first
  |exact aae (aaa fin)
  |exact aaa (aae (aaa fin))
  |exact aaa fin
theorem BX(I:Inv X pins σ H s)(g:ph H a y o):s.TypeIs (.ref a) "dict":=by
 rcases g with⟨aX,k,e,_,_⟩|⟨aX,k,b,e,_,_,_⟩
 .obtain ⟨_,_,vs,_,dd⟩:=yR I.bM e;exact dd.typeIs
 .obtain ⟨_,_,xs,_,dd⟩:=yS I.bM e;exact dd.typeIs
def XW(td ty:TE):TE:=λσ H Q=>td σ H λx H1=>ty σ H1 λy H2=>∃a v,x=.ref a/\ph H2 a y (some v)/\Q v H2
def Of(ty td:TE):TE:=λσ H Q=>ty σ H λy H1=>td σ H1 λx H2=>∃a o,x=.ref a/\ph H2 a y o/\Q (.bl (!o.isSome)) H2
def QN(td ty tv:TE):TS:=λD σ H=>tv σ H λv H1=>td σ H1 λx H2=>ty σ H2 λy H3=>∃a H4,x=.ref a/\BW H3 a y v H4/\D.nx σ H4
section
variable {X:Cx}{o i value:Expr}{pos pos':Pos}{td ty tv:TE}
theorem Gq(hu:X.A.units+1<cLine)(ho:PE X o td)(hi:PE X i ty)(hs:Kl i):PE X (.Subscript o i pos) (XW td ty):=by
 intro pins s σ H Q I h
 refine Gp PySem.F.slot_dict_getitem.lookup hs (dw (ho pins s σ H _ I h) λu s1 ⟨x,H1,I1,rx,q1⟩=>dw (hi pins s1 σ H1 _ I1 q1) λiv s2 ⟨y,H2,I2,ry,a,v,ex,g,q2⟩=>?_)
 subst ex
 obtain rfl:u=Value.ref a:=rx
 exact⟨BX I2 g,Ia hu I2 g ry λw' s3 I3 HN=>⟨v,H2,I3,HN,q2⟩⟩
theorem Ic(hu:X.A.units+1<cLine)(hi:PE X i ty)(ho:PE X o td):PC X .NotIn i o (Of ty td):=by
 intro pins s σ H Q I h
 refine dw (hi pins s σ H _ I h) λiv s1 ⟨y,H1,I1,ry,q1⟩=>dw (ho pins s1 σ H1 _ I1 q1) λu s2 ⟨x,H2,I2,rx,a,ov,ex,g,q2⟩=>?_
 subst ex
 obtain rfl:u=Value.ref a:=rx
 exact Oe hu I2 g ry λs3 I3=>⟨.bl (!ov.isSome),H2,I3,rfl,q2⟩
theorem vb(hu:X.A.units+1<cLine)(ho:PE X o td)(hi:PE X i ty)(hv:PE X value tv)(hs:swapsWith value (some (.Subscript o i pos')) pos.line X.env=pure false):
  PS X (.Assign [.Subscript o i pos'] value pos) (QN td ty tv):=by
 intro pins s σ H D I h
 refine wpAny_Assign_Subscript (dw (hv pins s σ H _ I h) λr s1 ⟨v,H1,I1,rv,q1⟩=>dw (ho pins s1 σ H1 _ I1 q1) λu s2 ⟨x,H2,I2,rx,q2⟩=>dw (hi pins s2 σ H2 _ I2 q2) λiv s3 ⟨y,H3,I3,ry,a,H4,ex,g,q3⟩=>?_) hs
 subst ex
 obtain rfl:u=Value.ref a:=rx
 exact Ib hu I3 g ry rv λs4 I4=>⟨σ,H4,I4,q3⟩
end
theorem Km(h:Heap)(hb:sysModules<h.objs.size):cM P w H (h.push {cls:=.type "dict",data:=.dict #[]}) h.objs.size (.dK []):=
 ⟨ab8 _,ac7.mpr (acb (aat hb)),[],.nil,Heap.DictOf.new h⟩
theorem Kn(h:Heap)(hb:sysModules<h.objs.size):cM P w H (h.push {cls:=.type "dict",data:=.dict #[]}) h.objs.size (.dT []):=
 ⟨ab8 _,ac7.mpr (acb (aat hb)),[],.nil,_,#[],0,aag _ rfl,⟨rfl,rfl,rfl⟩,rfl,rfl,List.nodup_nil⟩
section
end
def Eh:List (TE×TE)->St->Hp->(List (V×V)->Hp->Prop)->Prop
 |[],_,H,Q=>Q [] H
 |(tk,tv)::r,σ,H,Q=>tk σ H λx H1=>tv σ H1 λy H2=>Eh r σ H2 λps H3=>Q ((x,y)::ps) H3
abbrev VV:List (V×V)->List (Value×Value)->Prop:=Paired λp q=>RelV p.1 q.1/\RelV p.2 q.2
def ZU(X:Cx)(pos:Pos)(keys:List (Option Expr))(values:List Expr)(trs:List (TE×TE)):Prop:=
 ∀(pins:cz) (s:Shared) (σ:St) (H:Hp) (Q:List (V×V)->Hp->Prop),Inv X pins σ H s->Eh trs σ H Q->
   wpAny (model X.prog X.w) X.A (evalPairs (pairTrees keys values X.env pos)) (λvs s'=>∃ps H',Inv X pins σ H' s'/\VV ps vs/\Q ps H') X.xe s
theorem Og:ZU X pos [] [] []:=λpins s σ H Q I h=>pairTrees_nil_walk ⟨[],H,I,.nil,h⟩
theorem Ko(hk:PE X k tk)(hv:PE X v tv)(hr:ZU X pos ks vs trs):
  ZU X pos (some k::ks) (v::vs) ((tk,tv)::trs):=λpins s σ H Q I h=>
 pairTrees_cons_walk (dw (hk pins s σ H _ I h) λu s1 ⟨x,H1,I1,rx,q1⟩=>dw (hv pins s1 σ H1 _ I1 q1) λw2 s2 ⟨y,H2,I2,ry,q2⟩=>
  dw (hr pins s2 σ H2 _ I2 q2) λws s3 ⟨ps,H3,I3,rel,q3⟩=>⟨(x,y)::ps,H3,I3,.cons ⟨rx,ry⟩ rel,q3⟩)
structure M2(X:Cx)(o:Expr)(m:Str)(apos:Pos)(e f:Expr)(cR:Pos):Prop where
 base:attributeBase o m X.env (eval o X.env)=eval o X.env
 few:((backTo cR (starEach [e,f] X.env)).all (λx=> !x.1)&&(backToKw cR (keywordEach [] X.env)).all (λx=>x.1.isSome)
  &&decide (([e,f]:List Expr).length+([]:List Keyword).length+(if([]:List Keyword).isEmpty then 0 else 1)<30))=true
 line:(apos.endLine==cR.line)=true
 trees:backTo cR (starEach [e,f] X.env)=[(false,eval e X.env),(false,eval f X.env)]
def QO(H:Hp)(a:Addr):Prop:=(∃aX,Rd H a (.dK aX))\/∃aX,Rd H a (.dT aX)
theorem Ti(I:Inv X pins σ H s)(d:QO H a):
  s.TypeIs (.ref a) "dict"/\(∀b,Value.ref a=.ref b->∃ob,s.heap.get? b=some ob/\ob.dict=none)/\(a==sysModules)=false:=by
 rcases d with⟨aX,e⟩|⟨aX,e⟩
 .obtain ⟨_,hd,vs,_,dd⟩:=yR I.bM e;refine⟨dd.typeIs,λb q=>?_,hd⟩;cases q;obtain⟨ob,_,_,h1,h2,_⟩:=dd;exact⟨ob,h1,h2.2.1⟩
 .obtain ⟨_,hd,xs,_,dd⟩:=yS I.bM e;refine⟨dd.typeIs,λb q=>?_,hd⟩;cases q;obtain⟨ob,_,_,h1,h2,_⟩:=dd;exact⟨ob,h1,h2.2.1⟩
section
variable {X:Cx}{pins:cz}{σ:St}{H:Hp}{s:Shared}{a:Addr}{y d:V}{u r:Value}{o:Option V}{A:Around}{E:dz}
theorem Tj(hu:A.units+1<cLine)(I:Inv X pins σ H s)(g:ph H a y o)(ry:RelV y u)(rd:RelV d r)(h:∀w' s',Inv X pins σ H s'->RelV (o.getD d) w'->Q w' s'):
  wpAny (model X.prog X.w) A (call (.builtin "dict.get") [.ref a,u,r]) Q E s:=by
 rcases g with⟨aX,k,e,ey,l⟩|⟨aX,k,b,e,ey,eb,l⟩
 .subst ey;obtain⟨z,hd,vs,rel,dd⟩:=yR I.bM e;refine call_meetsIn ad4 dd.typeIs PySem.F.entry_dict_get (PySem.F.args_dict_get_3 _ _ _) (meets_dict_get_default (cY X.prog X.w) a (vz ry) hd r) ⟨_,dd.mapOf,h _ _ (I.tok _) ?_⟩;rw[l];exact(rel.val k).getD rd
 .subst ey;cases(show u=Value.ref b from ry);obtain⟨z,hd,xs,rel,dd⟩:=yS I.bM e;refine call_meetsIn ad4 dd.typeIs PySem.F.entry_dict_get (PySem.F.args_dict_get_3 _ _ _) (meetsH_dict_get_default (tupleKind (cY X.prog X.w)) a b hd r) ⟨adJ hu,k,xs,rZ I.bM eb,dd,h _ _ (I.tok _) ?_⟩;rw[l];exact(rel.val k).getD rd
end
def Tn(td ty tx:TE):TE:=λσ H Q=>td σ H λx H1=>∃a,x=.ref a/\QO H1 a/\ty σ H1 λy H2=>tx σ H2 λz H3=>∃o,ph H3 a y o/\Q (o.getD z) H3
section
variable {X:Cx}{o e f:Expr}{apos cR:Pos}{td ty tx:TE}
theorem Kp(hu:X.A.units+1<cLine)(ho:PE X o td)(he:PE X e ty)(hf:PE X f tx)(m:M2 X o "get" apos e f cR):PE X (.Call (.Attribute o "get" apos) [e,f] [] cR) (Tn td ty tx):=by
 intro pins s σ H Q I h
 refine wpAny_Call_method m.base m.few m.line PySem.F.plainAttrs_dict ad4 PySem.F.type_dict_get (dw (ho pins s σ H _ I h) λu s1 ⟨x,H1,I1,rx,a,ex,d,q1⟩=>?_)
 subst ex
 obtain rfl:u=Value.ref a:=rx
 obtain⟨t1,t2,_⟩:=Ti I1 d
 refine⟨t1,t2,?_⟩
 rw[m.trees]
 refine adS rfl (aeb (Calls.spliced_cons (dw (he pins s1 σ H1 _ I1 q1) λiv s2 ⟨y,H2,I2,ry,q2⟩=>
  Calls.spliced_cons (dw (hf pins s2 σ H2 _ I2 q2) λfv s3 ⟨z,H3,I3,rz,ov,g,q3⟩=>Calls.spliced_nil ?_))))
 exact Tj hu I3 g ry rz λw' s4 I4 HN=>⟨_,H3,I4,HN,q3⟩
end
end L2
set_option maxHeartbeats 4000000
namespace L2
open PySem PySem.Spec PyProof.Rows
section
variable {X:Cx}
theorem je:jz X (binaryOp .Mult) (rI IntMulOk λi j=>.int (i*j)):=ZQ λ_ _ _ _ _ _ _ hc q=>mul_int q hc
def Gr(i j:Int):Prop:=j≠0/\Builtin.divisionGoesByPylong i j=false
theorem cb:jz X (binaryOp .FloorDiv) (rI Gr λi j=>.int (i.fdiv j)):=ZQ λ_ _ _ _ _ _ _ hc q=>floordiv_int hc.1 q (.inl hc.2)
theorem yT(h:Builtin.Int.intBits j<=9000):Builtin.divisionGoesByPylong i j=false:=by
 refine PyProof.noPylong_of_log2 ?_
 unfold Builtin.Int.intBits at h
 by_cases hj:j=0
 .simp_all
 .rw [if_neg (by simpa using hj)]at h;lia
theorem mul_right(h1:-(2^64)<j)(h2:j<2^64):IntMulOk i j:=.of_right (intBits_le_64 h1 h2)
def TyW(K:ak)(H:Hp)(x:V)(t:String):Prop:=
 rW K H x (.type t)\/(∃a xs,x=.ref a/\kg K H a xs/\t="tuple")\/(∃a xs,x=.ref a/\kY K H a xs/\t="list")
def aba(K:ak):List V->Hp->VK->Prop:=λxs H Q=>∃x n t b,xs=[x,.ty n]/\TyW K H x t/\PySem.W.kitOne K (.type t) (.type n)=some b/\Q (.bl b) H
theorem Kq:eV X (.builtin "isinstance") (aba X.K):=by
 intro pins s σ H xs us Q I r h
 obtain⟨x,n,t,b,rfl,ty,e,q⟩:=h
 obtain⟨u1,u2,rfl,r1,r2⟩:∃u1 u2,us=[u1,u2]/\RelV x u1/\RelV (.ty n) u2:=by
  cases r with
  |cons p q=>cases q with
    |cons p' q'=>cases q';exact⟨_,_,rfl,p,p'⟩
 cases(show u2=Value.type n from r2)
 have fin:∀tk,EP X pins σ Q (.bool b) {s with toks:=tk}:=λtk=>⟨.bl b,H,I.tok _,rfl,q⟩
 rcases ty with ty|⟨a,ys,rfl,hq,rfl⟩|⟨a,ys,rfl,hq,rfl⟩
 .exact HV I r1 ty e fin
 .cases (show u1=Value.ref a from r1);obtain⟨its,_,p,_⟩:=I.tuple hq;obtain⟨o,h1,h2,_⟩:=p;exact abH PySem.W.kitx_tuple I.my ⟨o,h1,h2⟩ e (λz=>nomatch z) fin
 .cases (show u1=Value.ref a from r1);obtain⟨its,_,p,_⟩:=I.list hq;obtain⟨o,n,h1,h2,_⟩:=p;exact abH aeK I.my ⟨o,h1,h2⟩ e (λz=>nomatch z) fin
theorem Kr{K:ak}:PySem.W.kitOne K (.type t) (.type t)=some true:=by
 unfold PySem.W.kitOne
 rw[aaq (by simp)]
def Dn(P:Program)(w:World)(K:ak)(mg:dO)(base:Heap)(k:Nat)(x:Str)(ps:List Str)(sp:Sp):Prop:=
 ∃f fd,la P w K mg base xQ k f fd ps sp/\mg x=some (.ref f)/\PySem.W.keepIn K (.ref f)=true/\Binds K fd ps []
theorem yU(D:Dn X.prog X.w X.K X.mg X.base k x ps sp)(hr:de kk X.A)(hk:k<=kk)(ha:PA X (e::es) t)(hg:Gl X x:=by rfl)
  (pf:(x==("__debug__":Str))=false:=by decide)(he:starEach (e::es) X.env=(false,eval e X.env)::starEach es X.env:=by rfl)(i8:(backTo pos (starEach es X.env)).any (·.1)=false:=by rfl):
  PE X (.Call (.Name x p) (e::es) [] pos) (QD sp [] E0 t):=by
 obtain⟨f,fd,F,m,kp,b⟩:=D
 exact N0 F (hr.mono hk) hg m kp b .nil Kk ha pf he i8
structure Bs(mg:dO):Prop where
 len:mg "len"=none
 range:mg "range"=none
 isinstance:mg "isinstance"=none
 max:mg "max"=none
 min:mg "min"=none
 int:mg "int"=none
 bool:mg "bool"=none
 tuple:mg "tuple"=none
 list:mg "list"=none
 abs:mg "abs"=none
 str:mg "str"=none
 sum:mg "sum"=none
 sorted:mg "sorted"=none
 reversed:mg "reversed"=none
 enumerate:mg "enumerate"=none
 set:mg "set"=none
 all:mg "all"=none
 zip:mg "zip"=none
 any:mg "any"=none
def Df(K:ak)(mg:dO)(x:Str)(st:Stmt)(ps:List Str):Prop:=∃f fd,xR K x x st f fd/\mg x=some (.ref f)/\Binds K fd ps []
theorem Df.ok{K:ak}{st:Stmt}(F:Df K mg x st ps)(S:aB N ps (ah st))(len:∀vs H Q E,sp vs H Q E->vs.length=ps.length)
  (BR:∀(f:Addr) (cn:Value) (A:Around) (outer:List Env) (s:Shared) (H:Hp) (vs:List V) (Q:VK) (E:XK),de k (A.deeper (envOfC x (ah st) s.heap.objs.size f cn))->sp vs H Q E->
   ∃t,jy (jd xQ P w K mg base N x (ah st) f cn A outer s H E).JG (bP st) t/\t {nx:=λ_ H'=>Q .ib H',rt:=Q} (start N vs) H):Dn P w K mg base (k+1) x ps sp:=by
 obtain⟨f,fd,F,m,b⟩:=F
 exact⟨f,fd,F.ok S len (BR f),m,F.kp,b⟩
def Cn(mg:dO)(x:Str)(v:V):Prop:=∃u,mg x=some u/\RelV v u
theorem oY(c:Cn X.mg x v)(hg:Gl X x:=by rfl)(hd:(x==("__debug__":Str))=false:=by decide):PE X (.Name x pos) (tC v):=by
 obtain⟨u,m,r⟩:=c
 exact NT hg m r hd
end
theorem bj(h:H p=none)(o:HO):aA H (upd H p o):=λb u q=>by rw[av (bT q h)];exact q
theorem small(h:n<=100000):n<=sizeLine:=aaW h (by decide)
theorem mR(h:n<=100000):n<sizeLine:=abl h (by decide)
section
variable {X:Cx}
def QP:V->List V->Hp->VK->Prop:=λx vs H Q=>∃i:Int,x=.int i/\vs=[]/\Q (.int (Builtin.Int.intBits i:Nat)) H
theorem Oh:QJ X "int.bit_length" QP:=by
 intro pins s σ H x vs v us Q I rx rv h
 obtain⟨i,rfl,rfl,q⟩:=h
 obtain⟨t,rfl⟩:=rx
 cases rv
 exact call_int_bit_length ⟨.int _,H,I.tok _,⟨_,rfl⟩,q⟩
theorem Oi(ho:PE X o to)(jG:attributeBase o "bit_length" X.env (eval o X.env)=eval o X.env:=by rfl)(jH:(apos.endLine==cR.line)=true:=by rfl):
  PE X (.Call (.Attribute o "bit_length" apos) [] [] cR) (XO X.K "int" QP to):=Tb PySem.F.plainAttrs_int PySem.F.slot_int_bit_length PySem.F.type_int_bit_length Oh ho jG jH
end
theorem aA.upd(s:aA H H')(h:H l=none)(o:HO):aA H (upd H' l o):=λb u q=>by rw[av (bT q h)];exact s b u q
theorem vB:bootBuiltins "int"=some (.type "int"):=by decide +kernel
theorem Oj:bootBuiltins "bool"=some (.type "bool"):=by decide +kernel
theorem kE:bootBuiltins "tuple"=some (.type "tuple"):=by decide +kernel
theorem Gs:bootBuiltins "list"=some (.type "list"):=by decide +kernel
theorem lh:bootBuiltins "str"=some (.type "str"):=by decide +kernel
theorem dP:bootBuiltins "len"=some (.builtin "len"):=by decide +kernel
theorem Ei:bootBuiltins "abs"=some (.builtin "abs"):=by decide +kernel
theorem To:bootBuiltins "max"=some (.builtin "max"):=by decide +kernel
theorem kh:bootBuiltins "isinstance"=some (.builtin "isinstance"):=by decide +kernel
section
end
section
end
section
variable {X:Cx}
theorem vC(h:∀y∈scope.names,y.2=.free->∃c,env.cells.lookup y.1=some c):
  ∃cl:List (Str×Addr),closureFor scope env=pure cl/\(∀n c,cl.lookup n=some c->env.cells.lookup n=some c)/\∀n,(n,NameKind.free)∈scope.names->∃c,cl.lookup n=some c:=by
 have go:∀(l:List (Str×NameKind)) (cs:List (Str×Addr)),(∀y∈l,y.2=.free->∃c,env.cells.lookup y.1=some c)->(∀n c,cs.lookup n=some c->env.cells.lookup n=some c)->
   ∃cl:List (Str×Addr),(forIn l cs λx r=>(match x with|(name,kind)=>if(kind==NameKind.free)=true then(do let a <-cellOf env name;pure (ForInStep.yield ((name,a)::r)))else pure (ForInStep.yield r):Sem (ForInStep (List (Str×Addr)))))=(pure cl:Sem _)/\
     (∀n c,cl.lookup n=some c->env.cells.lookup n=some c)/\(∀n,(n,NameKind.free)∈l->∃c,cl.lookup n=some c)/\∀n c,cs.lookup n=some c->∃c',cl.lookup n=some c':=by
  intro l;induction l with
  |nil=>intro cs _ hc;exact⟨cs,rfl,hc,λn hn=>by simp at hn,λn c e=>⟨c,e⟩⟩
  |cons y r ih=>
    intro cs hl hc;obtain⟨name,kind⟩:=y;by_cases hk:kind=.free
    .subst hk;obtain⟨c,e⟩:=hl (name,.free) aan rfl;have VY:∀n d,((name,c)::cs).lookup n=some d->env.cells.lookup n=some d:=by grind
     obtain⟨cl,h1,h2,h3,h4⟩:=ih ((name,c)::cs) (λy hy=>hl y (aap _ hy)) VY;refine⟨cl,?_,h2,λn hn=>?_,λn d q=>?_⟩
     .rw [acA];have ec:cellOf env name=pure c:=by unfold cellOf;rw[e]
      simp only[ec];exact h1
     .grind
     .grind
    .obtain ⟨cl,h1,h2,h3,h4⟩:=ih cs (λy hy=>hl y (aap _ hy)) hc;refine⟨cl,?_,h2,λn hn=>?_,h4⟩;.grind
     .grind
 obtain⟨cl,h1,h2,h3,_⟩:=go scope.names [] h (λn c e=>by simp at e)
 refine⟨cl,?_,h2,h3⟩
 simp only[closureFor]
 rw[h1]
 rfl
noncomputable def cB(X:Cx)(scope:Scope)(N':List Str)(cl:List (Str×Addr))(C:Addr)(s2:Shared)(H2:Hp)(fp:List Addr)(pins:cz):Cx:=
 {X with N:=N',h8:=s2,JS:=H2,env:=compEnvC scope cl C X.env,outer:=X.stack,stack:=X.stack,ex:=fp,fn:=λ_=>false,pn:=X.pn++pins,xe:=λ_ _=>False}
def xS(ix:List Nat)(σ:St):St:=ix.map λj=>(σ[j]?).join
section
variable {scope:Scope}{x:Str}{ix:List Nat}{N':List Str}{cl:List (Str×Addr)}{C:Addr}{s2:Shared}{H2:Hp}{fp:List Addr}{pins:cz}{σ:St}
theorem Ks{j:Nat}(h:(xS ix σ)[j]?=some (some v)):∃i,ix[j]?=some i/\σ[i]?=some (some v):=by
 unfold xS at h
 rw[aa4]at h
 cases e:ix[j]? with
 |none=>rw[e]at h;cases h
 |some i=>grind
abbrev Nw(its:bU)(n:Nat):Obj:={cls:=.type "list",data:=.seq its.toArray n}
theorem Inv.XX(I:Inv X pins σ H s)(hD:H D=none)(hs:X.h8.heap.objs.size<=D)(hl:D≠X.env.locals)(hc:∀x c,X.env.cells.lookup x=some c->c≠D)
  (hp:∀p∈X.pn++pins,p.1≠D)(e:s.heap.get? D=some (Nw its n))(r:bz ys its)(hz:ys.length<=sizeLine):Inv X pins σ (upd H D (.lst ys)) s:=by
 have h:=I.step (H':=upd H D (.lst ys)) (h':=s.heap) (g':=s.gens) (t':=s.toks) (d':=s.drawn) (ch:=[D]) (λb hb=>by
   have e:b=D:=by simpa using hb
   subst e;exact⟨.inr hs,hl,hc,hp⟩)
  (λb o _ _ _ q _=>q) (λb o _ _ _ q _=>⟨o.slots,q⟩) (λb o hb _ q=>by rw[av (by simpa using hb)];exact q) (λb o _ q=>⟨o,q⟩)
  (λb xs q=>by rw[av (bT q hD)];exact q) (λb o u q=>by rw[av (bT q hD)];exact q) (λb ps q=>⟨#[],by rw[av (bT q hD),aew];exact q⟩) (λm hm=>hm) (λb u q=>?_) I.bare
 .exact h
 .by_cases hb:b=D
  .subst hb;rw[az]at q;cases q;exact⟨hz,its,n,r,e⟩
  .rw [av hb]at q;exact(I.bM b u q).uA (λ_ _ _ z=>z) (λc z=>by rw[av (bT z hD)];exact z) λc xs z=>z.new hD
theorem Ie(I0:Inv X pins σ H2 s2)(hC:s2.heap.objs.size<=C)(hD:s2.heap.objs.size<=D)(hf:∀b∈fp,uD X pins H2 b) 
  (I:Inv (cB X scope N' cl C s2 H2 fp pins) ((D,Nw its n)::more) cQ H s1)(r:bz ys its)(hz:ys.length<=sizeLine)(hs:Heap.SameBut C s1.heap h')(Tp:D≠C):
  Inv X pins σ (upd H D (.lst ys)) {s1 with heap:=h'}:=by
 have nC:∀b o,s2.heap.get? b=some o->b≠C:=λb o e=>aat (aao (aai e) hC)
 have B:=I.base
 have fC:H C=none:=I.free
 have pD:=I.pin (D,Nw its n) (aad _ aan)
 have u:Un (ud X.stack) fp H2 H s2.heap h':=⟨λb o e n hb hx=>(hs.2 b (nC b o e)).trans (B.keep b o e n hb hx),λb o e n hb hx=>by
   obtain⟨sl,q⟩:=B.slot b o e n hb hx;exact⟨sl,(hs.2 b (nC b o e)).trans q⟩,B.free,λb o e hx=>by
   obtain⟨o',q⟩:=B.there b o e hx;exact⟨o',(hs.2 b (nC b o e)).trans q⟩,B.qu,B.qv,B.rL⟩
 have bM:n8 X.prog X.w H h':=λb o e=>(I.bM b o e).uA (λc v hc q=>(hs.2 c (by
   rintro rfl;rcases hc with z|z;.grind
   .rw [fC]at z;cases z)).trans q) (λ_ q=>q) λ_ _ q=>q
 have I1:=I0.JU (s':={s1 with heap:=h'}) (ch:=fp) I.os u bM I.bare λb hb=>⟨(hf b hb).2.2.2.1,(hf b hb).2.1,(hf b hb).2.2.2.2.1,(hf b hb).2.2.2.2.2⟩
 refine I1.XX (its:=its) (n:=n) pD.2.1 (aaW I0.sz hD) (adg (aao I0.lt hD)) (λa c e z=>?_) (λp hp z=>?_) ((hs.2 D Tp).trans pD.1) r hz
 .obtain ⟨v,q⟩:=I0.cell a c e;exact absurd (aao q.lt (by rw[z];exact hD)) (abM _)
 .exact absurd (aao (aai (I0.pin p hp).1) (by rw[z];exact hD)) (abM _)
end
section
end
def Ol(sc scope:Scope):List (Str×NameKind):=scope.names.map λ(n,k)=>if(k==.free&&sc.kind==.function&&sc.names.lookup n==some .cell)then(n,.cell)else(n,k)
theorem lookup_mem:∀{l:List (Str×NameKind)},l.lookup n=some k->(n,k)∈l
 |[],h=>by simp at h
 |(a,b)::r,h=>by
   rw[ae0]at h;cases e:n==a with
   |true=>rw[e]at h;cases h;rw[eq_of_beq e];exact aan
   |false=>rw[e]at h;exact aap _ (lookup_mem h)
section
end
end
section
end
section
end
abbrev Fr2:=Int×Int
noncomputable def dF(q:Fr2):PyData:=.tuple [.int q.1,.int q.2]
abbrev D:=PyData
abbrev DS:=List (Option D)
noncomputable def dQ:List (Addr×List V):=[(494,[.str "number"]),(495,[.str "number",.str "number"]),(496,[.str "number",.str "number or -1",.str "number",.str "number"]),(497,[.str "number",.str "number",.str "number",.str "number",.str "number"]),(498,[]),(499,[]),(500,[.str "number",.str "number"]),(501,[.str "number",.str "number",.str "fraction"]),(502,[.str "fraction"]),(503,[.str "number",.str "number"]),(504,[]),(505,[.str "fraction",.str "fraction",.str "fraction"]),(506,[.str "name"]),(507,[]),(508,[]),(509,[])]
theorem aA.mq(s:aA H H')(h:eE H a xs):eE H' a xs:=by
 rcases h with h|⟨ob,h⟩
 .exact .inl (s _ _ h)
 .exact .inr ⟨ob,s _ _ h⟩
def wo(H:Hp)(A:List Addr):Hp:=λa=>if a∈A then none else H a
section
variable {H H':Hp}{A A':List Addr}{a l p r:Addr}{o:HO}
theorem aN(h:a∉A):wo H A a=H a:=by unfold wo;rw[if_neg h]
theorem dG(h:a∈A):wo H A a=none:=by unfold wo;rw[if_pos h]
theorem lj(h:wo H A a=some o):a∉A/\H a=some o:=by
 unfold wo at h
 split at h
 .cases h
 .grind
theorem bN:aA (wo H A) H:=λ_ _ h=>(lj h).2
theorem bE(s:aA H H'):aA (wo H A) (wo H' A):=λb u h=>by
 obtain⟨h1,h2⟩:=lj h
 rw[aN h1];exact s b u h2
theorem iu(h:∀a∈A',a∈A):aA (wo H A) (wo H A'):=λb u q=>by
 obtain⟨h1,h2⟩:=lj q
 rw[aN λz=>h1 (h b z)];exact h2
theorem Kt:wo H []=H:=by funext a;exact aN (by simp)
theorem Ku(h:p∉A):wo (upd H p o) A=upd (wo H A) p o:=by
 funext a
 by_cases e:a=p
 .subst e;rw[aN h,az,az]
 .rw [av e];by_cases z:a∈A;.rw [dG z,dG z]
  .rw [aN z,aN z,av e]
theorem Kv(h:l∈A):wo (upd H l o) A=wo H A:=by
 funext a
 by_cases z:a∈A
 .rw [dG z,dG z]
 .rw [aN z,aN z,av];intro e;subst e;exact z h
theorem BY(h:H r=none):wo (upd H r o) (r::A)=wo H A:=by
 funext a
 by_cases e:a=r
 .subst e;rw[dG (by simp)];by_cases z:a∈A;.rw [dG z]
  .rw [aN z,h]
 .by_cases z:a∈A;.rw [dG (by simp[z]),dG z]
  .rw [aN (by simp[e,z]),aN z,av e]
theorem Gu(s:aA H H')(h:H r=none):aA (wo H A) (wo H' (r::A)):=λb u q=>by
 obtain⟨h1,h2⟩:=lj q
 rw[aN (by simp only[aam,not_or];exact⟨bT h2 h,h1⟩)]
 exact s b u h2
def uG:HO->Prop
 |.lst _=>True
 |.dT _=>True
 |.dK _=>True
 |.ins _ _ _=>True
 |.own _=>True
 |_=>False
def Ls(A:List Addr)(H:Hp):Prop:=(∀a∈A,∃o,H a=some o/\uG o)/\∀p xs,(p,xs)∈dQ->eE H p xs
theorem Ls.same(h:Ls A H)(s:aA H H'):Ls A H':=⟨λa ha=>let⟨o,e,q⟩:=h.1 a ha;⟨o,s _ _ e,q⟩,λp xs m=>s.mq (h.2 p xs m)⟩
theorem eE.apart(t:eE H p xs)(e:H l=some o)(w:uG o):p≠l:=λz=>by
 subst z
 rcases t with t|⟨ob,t⟩<;>rw[e]at t<;>cases t<;>exact w
theorem eE.wo(t:eE H p xs)(n:p∉A):eE (L2.wo H A) p xs:=by
 rcases t with t|⟨ob,t⟩
 .exact .inl (by rw[aN n];exact t)
 .exact .inr ⟨ob,by rw[aN n];exact t⟩
theorem Ls.free(h:Ls A H)(n:H p=none):p∉A:=λz=>by
 obtain⟨ys,e,_⟩:=h.1 p z
 rw[n]at e;cases e
end
def uh(_:Heap)(_:Addr):Prop:=True
def Tq(a C:Addr):HO:=.ext λh=>(∃o,h.get? a=some o/\o.cls=.ref C)/\uh h a
def oQ:Key->D:=Sum.elim .int .str
mutual
inductive HD (K:ak) (H:Hp):V->D->Prop
 |ib:HD K H .ib .none
 |bl (b:Bool):HD K H (.bl b) (.bool b)
 |int (i:Int):HD K H (.int i) (.int i)
 |str (x:Str):HD K H (.str x) (.str x)
 |lst {a:Addr} {xs:List V} {ds:List D}:DP K H a xs->cC K H xs ds->HD K H (.ref a) (.list ds)
 |tup {a:Addr} {xs:List V} {ds:List D}:eE H a xs->cC K H xs ds->HD K H (.ref a) (.tuple ds)
 |uH {a:Addr} {aX:List (List Key×V)} {kds:List (D×D)}:H a=some (.dT aX)->kds.map (·.1)=aX.map (λp=>PyData.tuple (p.1.map oQ))->cC K H (aX.map (·.2)) (kds.map (·.2))->HD K H (.ref a) (.dict kds)
 |exc {a C:Addr} {c:Str}:PySem.W.nsIn K mainGlobals c=some (some (.ref C))->H a=some (Tq a C)->HD K H (.ref a) (.dict [(.list [],.tuple [.int (a:Nat),.str c])])
 |ptr (a:Addr):HD K H (.ref a) (.dict [(.list [],.int (a:Nat))])
inductive cC (K:ak) (H:Hp):List V->List D->Prop
 |nil:cC K H [] []
 |cons {x:V} {xs:List V} {d:D} {ds:List D}:HD K H x d->cC K H xs ds->cC K H (x::xs) (d::ds)
end
theorem aA.rd(s:aA H H')(h:Rd H a u):Rd H' a u:=by
 rcases h with h|⟨o,h⟩
 .exact .inl (s _ _ h)
 .exact .inr ⟨o,s _ _ h⟩
theorem DP.of{K:ak}(h:H a=some (.lst xs)):DP K H a xs:=.inl (.inl h)
theorem DP.sq{K:ak}(h:DP K H a xs):kY K H a xs:=by
 rcases h with h|⟨its,n,h1,h2,h3⟩
 .exact .inl h
 .exact .inr ⟨_,its.toArray,n,h1,rfl,rfl,rfl,by rw[List.size_toArray];exact h2,by simpa using h3⟩
theorem DP.same{K:ak}(s:aA H H')(h:DP K H a xs):DP K H' a xs:=by
 rcases h with h|h
 .exact .inl (s.rd h)
 .exact .inr h
theorem Inv.lsd(I:Inv X pins σ H s)(h:DP X.K H a xs):xs.length<=sizeLine/\∃(its:bU) (n:Nat),bz xs its/\s.heap.get? a=some {cls:=.type "list",data:=.seq its.toArray n}:=by
 rcases h with h|⟨its,n,h1,h2,h3⟩
 .exact h.ok I.bM
 .exact ⟨by rw[h3.length];exact h2,its,n,h3,I.my a _ h1⟩
theorem HD.same{K:ak}(e:aA H H')(h:HD K H x d):HD K H' x d:=
 HD.rec (motive_1:=λx d _=>HD K H' x d) (motive_2:=λx d _=>cC K H' x d) .ib .bl .int .str (λhq _ i=>.lst (hq.same e) i) (λhq _ i=>.tup (e.mq hq) i) (λhq k _ i=>.uH (e _ _ hq) k i) (λk h=>.exc k (e _ _ h)) (λa=>.ptr a) .nil (λ_ _ i j=>.cons i j) h
theorem cC.same{K:ak}(e:aA H H')(h:cC K H x d):cC K H' x d:=
 cC.rec (motive_1:=λx d _=>HD K H' x d) (motive_2:=λx d _=>cC K H' x d) .ib .bl .int .str (λhq _ i=>.lst (hq.same e) i) (λhq _ i=>.tup (e.mq hq) i) (λhq k _ i=>.uH (e _ _ hq) k i) (λk h=>.exc k (e _ _ h)) (λa=>.ptr a) .nil (λ_ _ i j=>.cons i j) h
section
variable {X:Cx}{pins:cz}{σ:St}{H:Hp}{s:Shared}
theorem gy(h:SeqAt.shaped d=true):d.canLay0=true:=by
 unfold SeqAt.shaped at h
 rw[aax]at h
 exact h.1
theorem Tr(I:Inv X pins σ H s)(hq:DP X.K H a xs)(r:RelV (.ref a) u)(h:∀{us},bz xs us->∃as,ReadsAll s.heap us ds as):∃as,Reads s.heap u (.list ds) as:=by
 cases(show u=Value.ref a from r)
 obtain⟨its,rv,⟨o,n,h1,h2,_,h3⟩,_⟩:=I.list hq.sq
 obtain⟨as,q⟩:=h rv
 exact⟨_,.list h1 h2 h3 (by simpa using q)⟩
theorem Ts(I:Inv X pins σ H s)(hq:eE H a xs)(r:RelV (.ref a) u)(h:∀{us},bz xs us->∃as,ReadsAll s.heap us ds as):∃as,Reads s.heap u (.tuple ds) as:=by
 cases(show u=Value.ref a from r)
 obtain⟨its,rv,⟨o,h1,h2,n,h3⟩,_⟩:=I.tuple (.inl hq)
 obtain⟨as,q⟩:=h rv
 exact⟨_,.tuple h1 h2 h3 (by simpa using q)⟩
theorem HD.reads(I:Inv X pins σ H s)(h:HD X.K H x d):∀{u:Value},RelV x u->PyData.canLay0 d=true->∃as,Reads s.heap u d as:=
 HD.rec (motive_1:=λx d _=>∀{u},RelV x u->d.canLay0=true->∃as,Reads s.heap u d as) (motive_2:=λx d _=>∀{u},bz x u->PyData.canLayAll0 d=true->∃as,ReadsAll s.heap u d as)
  (λ{u} r _=>by cases(show u=Value.none from r);exact⟨_,.none⟩) (λb {u} r _=>by cases(show u=Value.bool b from r);exact⟨_,.bool b⟩) (λi {u} r _=>by obtain⟨t,rfl⟩:=r;exact⟨_,.int i t⟩) (λi {u} r _=>by obtain⟨t,rfl⟩:=r;exact⟨_,.str i t⟩)
  (λ{_ _ _} hq _ i {_} r c=>Tr I hq r λrv=>i rv (by rw[PyData.canLay0]at c;exact c)) (λ{_ _ _} hq _ i {_} r c=>Ts I hq r λrv=>i rv (by rw[PyData.canLay0]at c;exact c)) (λ{_ _ _} _ _ _ _ {_} _ c=>by rw[PyData.canLay0]at c;cases c) (λ{_ _ _} _ _ {_} _ c=>by rw[PyData.canLay0]at c;cases c) (λ_ {_} _ c=>by rw[PyData.canLay0]at c;cases c)
  (λ{_} r _=>by cases r;exact⟨_,.nil⟩) (λ{_ _ _ _} _ _ i j {_} r c=>by
   rw[PyData.canLayAll0,aax]at c;cases r with
   |cons r rs=>
     obtain⟨as,q⟩:=i r c.1;obtain⟨bs,qs⟩:=j rs c.2;exact⟨_,.cons q qs⟩) h
end
theorem cC.len{K:ak}:∀{xs:List V} {ds:List D},cC K H xs ds->xs.length=ds.length
 |_,_,.nil=>rfl
 |_,_,.cons _ t=>by rw[aaR,aaR,cC.len t]
theorem cC.get{K:ak}:∀{xs:List V} {ds:List D} {i:Nat} {d:D},cC K H xs ds->ds[i]?=some d->∃x,xs[i]?=some x/\HD K H x d
 |_,_,_,_,.nil,e=>by simp at e
 |_,_,0,_,.cons r _,e=>by simp at e;subst e;exact⟨_,rfl,r⟩
 |_,_,i+1,y,.cons _ t,e=>by
   obtain⟨u,h1,h2⟩:=cC.get (i:=i) (d:=y) t (by simpa using e);exact⟨u,by simpa using h1,h2⟩
theorem cC.app{K:ak}:∀{xs xs':List V} {ds ds':List D},cC K H xs ds->cC K H xs' ds'->cC K H (xs++xs') (ds++ds')
 |_,_,_,_,.nil,s=>s
 |_,_,_,_,.cons r t,s=>.cons r (cC.app t s)
theorem cC.QR{K:ak}:∀{xs:List V} {ds:List D} (n:Nat),cC K H xs ds->cC K H (xs.take n) (ds.take n)
 |_,_,0,_=>.nil
 |_,_,_+1,.nil=>.nil
 |_,_,n+1,.cons r t=>.cons r (cC.QR n t)
theorem cC.QS{K:ak}:∀{xs:List V} {ds:List D} (n:Nat),cC K H xs ds->cC K H (xs.drop n) (ds.drop n)
 |_,_,0,r=>r
 |_,_,_+1,.nil=>.nil
 |_,_,n+1,.cons _ t=>cC.QS n t
theorem cC.XY{K:ak}(r:HD K H x d):∀{xs:List V} {ds:List D} (i:Nat),cC K H xs ds->cC K H (xs.set i x) (ds.set i d)
 |_,_,_,.nil=>.nil
 |_,_,0,.cons _ t=>.cons r t
 |_,_,i+1,.cons q t=>.cons q (cC.XY r i t)
theorem cC.ints{K:ak}:∀ns:List Int,cC K H (ns.map V.int) (ns.map PyData.int)
 |[]=>.nil
 |n::ns=>.cons (.int n) (cC.ints ns)
theorem Om(h:eE H a xs)(al:Ls A H):eE (wo H A) a xs:=by
 rcases h with h|⟨ob,h⟩
 .refine .inl ?_;rw[aN λz=>?_];exact h;obtain⟨o,e,q⟩:=al.1 a z;rw[h]at e;cases e;exact q
 .refine .inr ⟨ob,?_⟩;rw[aN λz=>?_];exact h;obtain⟨o,e,q⟩:=al.1 a z;rw[h]at e;cases e;exact q
mutual
def BZ:D->Bool
 |.list _=>false
 |.dict _=>false
 |.tuple ds=>pj ds
 |_=>true
def pj:List D->Bool
 |[]=>true
 |d::ds=>BZ d&&pj ds
end
theorem cC.off{K:ak}(al:Ls A H)(h:cC K H x d):pj d=true->cC K (wo H A) x d:=
 cC.rec (motive_1:=λx d _=>BZ d=true->HD K (wo H A) x d) (motive_2:=λx d _=>pj d=true->cC K (wo H A) x d) (λ_=>.ib) (λb _=>.bl b) (λb _=>.int b) (λb _=>.str b) (λ_ _ _ f=>by rw[BZ]at f;cases f) (λhq _ i f=>.tup (Om hq al) (i (by rw[BZ]at f;exact f))) (λ_ _ _ _ f=>by rw[BZ]at f;cases f) (λ_ _ f=>by rw[BZ]at f;cases f) (λ_ f=>by rw[BZ]at f;cases f) (λ_=>.nil) (λ_ _ i j f=>by rw[pj,aax]at f;exact .cons (i f.1) (j f.2)) h
inductive Ej(K:ak)(H:Hp):HO->D->Prop
 |lst {ys:List V} {ds:List D}:cC K H ys ds->Ej K H (.lst ys) (.list ds)
 |uH {aX:List (List Key×V)} {kds:List (D×D)}:kds.map (·.1)=aX.map (λp=>PyData.tuple (p.1.map oQ))->cC K H (aX.map (·.2)) (kds.map (·.2))->Ej K H (.dT aX) (.dict kds)
theorem Ej.same{K:ak}(s:aA H H')(h:Ej K H o d):Ej K H' o d:=by
 cases h with
 |lst q=>exact .lst (q.same s)
 |uH k q=>exact .uH k (q.same s)
theorem Ej.own{K:ak}(h:Ej K H o d):uG o:=by cases h<;>trivial
theorem Ej.hd{K:ak}(h:Ej K H o d)(e:H l=some o):HD K H (.ref l) d:=by
 cases h with
 |lst q=>exact .lst (.of e) q
 |uH k q=>exact .uH e k q
def Ig:List (D×D)->Bool
 |(.list [],_)::_=>true
 |_=>false
def iX(K:ak)(A:List Addr)(H:Hp)(v:V)(d:D):Prop:=HD K (wo H A) v d\/∃l o,v=.ref l/\H l=some o/\Ej K (wo H A) o d
section
variable {K:ak}{H H':Hp}{A:List Addr}{v:V}{d:D}
theorem iX.of(h:HD K (wo H A) v d):iX K A H v d:=.inl h
theorem iX.same(s:aA H H')(h:iX K A H v d):iX K A H' v d:=by
 rcases h with h|⟨l,o,rfl,e,q⟩
 .exact .inl (h.same (bE s))
 .exact .inr ⟨l,o,rfl,s _ _ e,q.same (bE s)⟩
theorem iX.QT(h:iX K A H v d):HD K H v d:=by
 rcases h with h|⟨l,o,rfl,e,q⟩
 .exact h.same bN
 .exact (q.same bN).hd e
theorem iX.list(h:iX K A H v (.list ds)):∃l ys,v=.ref l/\DP K H l ys/\cC K (wo H A) ys ds:=by
 rcases h with h|⟨l,o,rfl,e,q⟩
 .cases h with
  |lst hq h=>exact⟨_,_,rfl,hq.same bN,h⟩
 .cases q with
  |lst q=>exact⟨l,_,rfl,.of e,q⟩
theorem iX.XZ(h:iX K A H v (.tuple ds)):∃l ys,v=.ref l/\eE H l ys/\cC K (wo H A) ys ds:=by
 rcases h with h|⟨l,o,rfl,e,q⟩
 .cases h with
  |tup hq h=>exact⟨_,_,rfl,bN.mq hq,h⟩
 .cases q
theorem iX.tuple(h:iX K A H v (.tuple ds)):∃l ys,v=.ref l/\kg K H l ys/\cC K (wo H A) ys ds:=
 let⟨l,ys,a,b,c⟩:=h.XZ;⟨l,ys,a,.inl b,c⟩
theorem iX.dict(h:iX K A H v (.dict kds))(hf:Ig kds=false):∃l aX,v=.ref l/\H l=some (.dT aX)/\kds.map (·.1)=aX.map (λp=>PyData.tuple (p.1.map oQ))/\cC K (wo H A) (aX.map (·.2)) (kds.map (·.2)):=by
 rcases h with h|⟨l,o,rfl,e,q⟩
 .cases h with
  |uH hq k h=>exact⟨_,_,rfl,bN _ _ hq,k,h⟩
  |exc _ _=>cases hf
  |ptr _=>cases hf
 .cases q with
  |uH k q=>exact⟨l,_,rfl,e,k,q⟩
theorem iX.fz(h:iX K A H v (.tuple ds)):HD K (wo H A) v (.tuple ds):=by
 rcases h with h|⟨l,o,rfl,e,q⟩
 .exact h
 .cases q
theorem iX.int(h:iX K A H v (.int i)):v=.int i:=by
 rcases h with h|⟨l,o,rfl,e,q⟩
 .cases h;rfl
 .cases q
theorem iX.bool(h:iX K A H v (.bool b)):v=.bl b:=by
 rcases h with h|⟨l,o,rfl,e,q⟩
 .cases h;rfl
 .cases q
theorem iX.str(h:iX K A H v (.str b)):v=.str b:=by
 rcases h with h|⟨l,o,rfl,e,q⟩
 .cases h;rfl
 .cases q
theorem iX.ib(h:iX K A H v .none):v=.ib:=by
 rcases h with h|⟨l,o,rfl,e,q⟩
 .cases h;rfl
 .cases q
end
structure Rel(K:ak)(O:List Nat)(U A0:List Addr)(σ:St)(δ:DS)(H:Hp):Prop where
 len:σ.length=δ.length
 fz:∀(i:Nat) d,i∉O->δ[i]?=some (some d)->∃v,σ[i]?=some (some v)/\HD K (wo H (U++A0)) v d
 ow:∀(i:Nat) d,i∈O->δ[i]?=some (some d)->∃l o,σ[i]?=some (some (.ref l))/\l∈U/\H l=some o/\Ej K (wo H (U++A0)) o d
 inj:∀(i j:Nat) d e l,i∈O->j∈O->i≠j->δ[i]?=some (some d)->δ[j]?=some (some e)->σ[i]?=some (some (.ref l))->σ[j]?=some (some (.ref l))->False
 al:Ls (U++A0) H
section
variable {K:ak}{O:List Nat}{U A0:List Addr}{σ:St}{δ:DS}{H H':Hp}
theorem Rel.same(R:Rel K O U A0 σ δ H)(s:aA H H'):Rel K O U A0 σ δ H' where
 len:=R.len
 fz:=λi d hi e=>let⟨v,a,b⟩:=R.fz i d hi e;⟨v,a,b.same (bE s)⟩
 ow:=λi d hi e=>let⟨l,o,a,c,f,g⟩:=R.ow i d hi e;⟨l,o,a,c,s _ _ f,g.same (bE s)⟩
 inj:=R.inj
 al:=R.al.same s
theorem Rel.owL(R:Rel K O U A0 σ δ H)(i:Nat)(d:D)(hi:i∈O)(e:δ[i]?=some (some d)):(∃l ys ds,σ[i]?=some (some (.ref l))/\d=.list ds/\l∈U/\H l=some (.lst ys)/\cC K (wo H (U++A0)) ys ds)\/∃kds,d=.dict kds:=by
 obtain⟨l,o,a,c,f,g⟩:=R.ow i d hi e
 cases g with
 |lst q=>exact .inl ⟨l,_,_,a,rfl,c,f,q⟩
 |uH k q=>exact .inr ⟨_,rfl⟩
theorem Rel.at(R:Rel K O U A0 σ δ H){i:Nat}(e:δ[i]?=some (some d)):∃v,σ[i]?=some (some v)/\iX K (U++A0) H v d:=by
 by_cases hi:i∈O
 .obtain ⟨l,o,a,c,f,g⟩:=R.ow i d hi e;exact⟨_,a,.inr ⟨l,o,rfl,f,g⟩⟩
 .obtain ⟨v,a,b⟩:=R.fz i d hi e;exact⟨v,a,.inl b⟩
theorem Rel.set(R:Rel K O U A0 σ δ H)(hi:i∉O)(h:HD K (wo H (U++A0)) v d):Rel K O U A0 (σ.set i (some v)) (δ.set i (some d)) H where
 len:=by rw[abW,abW];exact R.len
 fz:=λj e hj q=>by
  by_cases rO:i=j
  .subst rO;have hl:i<δ.length:=by have:=(aal.mp q).1;rwa [abW]at this
   rw[abh hl]at q;cases q;exact⟨v,abh (by rw[R.len];exact hl),h⟩
  .rw [aaT rO]at q ⊢;exact R.fz j e hj q
 ow:=λj e hj q=>by
  have rO:i≠j:=λz=>hi (z ▸ hj);rw[aaT rO]at q ⊢;exact R.ow j e hj q
 inj:=λj k d e l hj hk V1 q1 q2 e1 e2=>by
  have rO:i≠j:=λz=>hi (z ▸ hj);have Tt:i≠k:=λz=>hi (z ▸ hk);rw[aaT rO]at q1 e1;rw[aaT Tt]at q2 e2;exact R.inj j k d e l hj hk V1 q1 q2 e1 e2
 al:=R.al
theorem Rel.X0(R:Rel K O U A0 σ δ H)(s:aA H H')(hr:H r=none)(h:H' r=some ob)(q:Ej K (wo H' (r::(U++A0))) ob db)(hi:i∈O):
  Rel K O (r::U) A0 (σ.set i (some (.ref r))) (δ.set i (some db)) H' where
 len:=by rw[abW,abW];exact R.len
 fz:=λj e hj q=>by
  have rO:i≠j:=λz=>hj (z ▸ hi);rw[aaT rO]at q ⊢;obtain⟨v,a,b⟩:=R.fz j e hj q;exact⟨v,a,b.same (Gu s hr)⟩
 ow:=λj e hj w=>by
  by_cases rO:i=j
  .subst rO;have hl:i<δ.length:=by have:=(aal.mp w).1;rwa [abW]at this
   rw[abh hl]at w;cases w;exact⟨r,ob,abh (by rw[R.len];exact hl),by simp,h,q⟩
  .rw [aaT rO]at w ⊢;obtain⟨l,o,a,c,f,g⟩:=R.ow j e hj w;exact⟨l,o,a,by simp[c],s _ _ f,g.same (Gu s hr)⟩
 inj:=λj k d e l hj hk V1 q1 q2 e1 e2=>by
  have X1:∀{x:D},(δ.set i (some db))[i]?=some (some x)->i<δ.length:=λw=>by have:=(aal.mp w).1;rwa [abW]at this
  by_cases rO:i=j
  .subst rO;have Tt:=V1;rw[abh (by rw[R.len];exact X1 q1)]at e1;rw[aaT Tt]at q2 e2;cases e1;obtain⟨l,o,a,c,f,g⟩:=R.ow k e hk q2;rw[a]at e2;cases e2;rw[hr]at f;cases f
  .by_cases Tt:i=k
   .subst Tt;rw[abh (by rw[R.len];exact X1 q2)]at e2;rw[aaT rO]at q1 e1;cases e2;obtain⟨l,o,a,c,f,g⟩:=R.ow j d hj q1;rw[a]at e1;cases e1;rw[hr]at f;cases f
   .rw [aaT rO]at q1 e1;rw[aaT Tt]at q2 e2;exact R.inj j k d e l hj hk V1 q1 q2 e1 e2
 al:=⟨λa ha=>by
  rcases aaf.mp ha with z|z
  .rcases aam.mp z with z|z;.subst z;exact⟨ob,h,q.own⟩
   .exact (R.al.same s).1 a (aar _ z)
  .exact (R.al.same s).1 a (aad _ z),(R.al.same s).2⟩
theorem Rel.abc(R:Rel K O U A0 σ δ H)(s:aA H H')(hr:H r=none)(h:H' r=some (.lst ys))(q:cC K (wo H' (r::(U++A0))) ys ds)(hi:i∈O):
  Rel K O (r::U) A0 (σ.set i (some (.ref r))) (δ.set i (some (.list ds))) H':=R.X0 s hr h (.lst q) hi
theorem Rel.X2(R:Rel K O U A0 σ δ H)(hi:i∈O)(hl:σ[i]?=some (some (.ref l)))(hU:l∈U)(q:Ej K (wo H (U++A0)) ob db)(hd:∃d,δ[i]?=some (some d)):
  Rel K O U A0 σ (δ.set i (some db)) (upd H l ob):=by
 have hw:wo (upd H l ob) (U++A0)=wo H (U++A0):=Kv (aar _ hU)
 obtain⟨d0,hd⟩:=hd
 have hlen:=(aal.mp hd).1
 exact{
  len:=by rw[abW];exact R.len
  fz:=λj e hj w=>by
   have rO:i≠j:=λz=>hj (z ▸ hi);rw[aaT rO]at w;rw[hw];exact R.fz j e hj w
  ow:=λj e hj w=>by
   rw[hw];by_cases rO:i=j
   .subst rO;rw[abh hlen]at w;cases w;exact⟨l,ob,hl,hU,az,q⟩
   .rw [aaT rO]at w;obtain⟨l',o',a,c,f,g⟩:=R.ow j e hj w;have gK:l'≠l:=by
     intro z;subst z;exact R.inj i j d0 e _ hi hj rO hd w hl a
    exact⟨l',o',a,c,by rw[av gK];exact f,g⟩
  inj:=λj k d e l hj hk V1 q1 q2 e1 e2=>by
   have f:∀{m:Nat} {x:D},(δ.set i (some db))[m]?=some (some x)->∃y,δ[m]?=some (some y):=by grind
   obtain⟨y1,w1⟩:=f q1;obtain⟨y2,w2⟩:=f q2;exact R.inj j k y1 y2 l hj hk V1 w1 w2 e1 e2
  al:=⟨λa ha=>by
   by_cases e:a=l;.subst e;exact⟨ob,az,q.own⟩
   .rw [av e];exact R.al.1 a ha,λp xs m=>
    let⟨_,e,w⟩:=R.al.1 l (aar _ hU);(R.al.2 p xs m).ne ((R.al.2 p xs m).apart e w)⟩}
theorem Rel.put(R:Rel K O U A0 σ δ H)(hi:i∈O)(hl:σ[i]?=some (some (.ref l)))(hU:l∈U)(q:cC K (wo H (U++A0)) ys ds)(hd:∃d,δ[i]?=some (some d)):
  Rel K O U A0 σ (δ.set i (some (.list ds))) (upd H l (.lst ys)):=R.X2 hi hl hU (.lst q) hd
end
structure Fx(H0:Hp)(A0 U:List Addr)(H:Hp):Prop where
 same:aA H0 H
 new:∀a∈U,H0 a=none
 old:Ls A0 H0
section
variable {U U' A0:List Addr}{H0 H H':Hp}
theorem Fx.grow(F:Fx H0 A0 U H)(s:aA H H'):Fx H0 A0 U H':=⟨F.same.trans s,F.new,F.old⟩
theorem Fx.more(F:Fx H0 A0 U H)(s:aA H H')(hr:H r=none):Fx H0 A0 (r::U) H':=⟨F.same.trans s,λa ha=>by
 rcases aam.mp ha with z|z
 .subst z;exact F.same.free hr
 .exact F.new a z,F.old⟩
theorem Fx.put(F:Fx H0 A0 U H)(hl:l∈U)(o:HO):Fx H0 A0 U (upd H l o):=⟨F.same.upd (F.new l hl) o,F.new,F.old⟩
theorem Fx.out(F:Fx H0 A0 U H)(hl:l∈U):l∉A0:=λz=>by
 obtain⟨ys,e,_⟩:=F.old.1 l z
 rw[F.new l hl]at e;cases e
theorem Fx.here(F:Fx H0 A0 U H):Fx (wo H U) A0 U H:=⟨bN,λ_ h=>dG h,λa ha=>by
 obtain⟨ys,e,q⟩:=F.old.1 a ha
 refine⟨ys,?_,q⟩
 rw[aN λz=>?_]
 .exact F.same _ _ e
 .exact F.out z ha,λp xs m=>(F.same.mq (F.old.2 p xs m)).wo λz=>by
 rcases F.old.2 p xs m with t|⟨ob,t⟩<;>rw[F.new p z]at t<;>cases t⟩
theorem Fx.trans(F:Fx H0 A0 U H)(G:Fx (wo H U) A0 U' H'):Fx H0 A0 U' H':=by
 have k:∀a o,H0 a=some o->wo H U a=some o:=λa o e=>by
  rw[aN λz=>?_];.exact F.same _ _ e
  .rw [F.new a z]at e;cases e
 refine⟨λa o e=>G.same _ _ (k a o e),λa ha=>?_,F.old⟩
 cases e:H0 a with
 |none=>rfl
 |some o=>
   have:=G.new a ha;rw[k a o e]at this;cases this
theorem Fx.keeps(G:Fx (wo H U) A0 U' H'):aA (wo H (U++A0)) (wo H' (U'++A0)):=λb o e=>by
 obtain⟨h1,h2⟩:=lj e
 simp only[aaf,not_or]at h1
 have h3:wo H U b=some o:=by rw[aN h1.1];exact h2
 rw[aN]
 .exact G.same _ _ h3
 .simp only[aaf,not_or];refine⟨λz=>?_,h1.2⟩;rw[G.new b z]at h3;cases h3
end
def tE(K:ak)(O:List Nat)(g:DS->Option D):TE:=λσ H Q=>∃U A0 δ d,Rel K O U A0 σ δ H/\g δ=some d/\∀v H',aA H H'->HD K (wo H' (U++A0)) v d->Q v H'
theorem tE.e{K:ak}  {GG:Prop}(hh:tE K O g σ H Q)(kk:∀U A0 δ d,(Rel K O U A0 σ δ H)->(g δ=some d)->(∀v H',aA H H'->HD K (wo H' (U++A0)) v d->Q v H')->GG):GG:=by obtain⟨U,A0,δ,d,x0,x1,x2⟩:=hh;exact kk U A0 δ d x0 x1 x2
def gz(K:ak)(O:List Nat)(g:DS->Option D):TE:=λσ H Q=>∃U A0 δ d,Rel K O U A0 σ δ H/\g δ=some d/\∀v H',aA H H'->iX K (U++A0) H' v d->Q v H'
theorem gz.e{K:ak}  {GG:Prop}(hh:gz K O g σ H Q)(kk:∀U A0 δ d,(Rel K O U A0 σ δ H)->(g δ=some d)->(∀v H',aA H H'->iX K (U++A0) H' v d->Q v H')->GG):GG:=by obtain⟨U,A0,δ,d,x0,x1,x2⟩:=hh;exact kk U A0 δ d x0 x1 x2
def tN(K:ak)(O:List Nat)(g:DS->Option (List D)):TE:=λσ H Q=>∃U A0 δ ds,Rel K O U A0 σ δ H/\g δ=some ds/\
 ∀r ys H',aA H H'->H r=none->H' r=some (.lst ys)->cC K (wo H' (r::(U++A0))) ys ds->Q (.ref r) H'
theorem tN.e{K:ak}  {GG:Prop}(hh:tN K O g σ H Q)(kk:∀U A0 δ ds,(Rel K O U A0 σ δ H)->(g δ=some ds)->(∀r ys H',aA H H'->H r=none->H' r=some (.lst ys)->cC K (wo H' (r::(U++A0))) ys ds->Q (.ref r) H')->GG):GG:=by obtain⟨U,A0,δ,ds,x0,x1,x2⟩:=hh;exact kk U A0 δ ds x0 x1 x2
def tT(K:ak)(O:List Nat)(g:DS->Option Bool):TT:=λσ H Q=>∃U A0 δ b,Rel K O U A0 σ δ H/\g δ=some b/\∀H',aA H H'->Q b H'
theorem tT.e{K:ak}  {GG:Prop}(hh:tT K O g σ H Q)(kk:∀U A0 δ b,(Rel K O U A0 σ δ H)->(g δ=some b)->(∀H',aA H H'->Q b H')->GG):GG:=by obtain⟨U,A0,δ,b,x0,x1,x2⟩:=hh;exact kk U A0 δ b x0 x1 x2
def vD(K:ak)(O:List Nat)(g:DS->Option (List D)):TA:=λσ H Q=>∃U A0 δ ds,Rel K O U A0 σ δ H/\g δ=some ds/\∀vs H',aA H H'->cC K (wo H' (U++A0)) vs ds->Q vs H'
theorem vD.e{K:ak}  {GG:Prop}(hh:vD K O g σ H Q)(kk:∀U A0 δ ds,(Rel K O U A0 σ δ H)->(g δ=some ds)->(∀vs H',aA H H'->cC K (wo H' (U++A0)) vs ds->Q vs H')->GG):GG:=by obtain⟨U,A0,δ,ds,x0,x1,x2⟩:=hh;exact kk U A0 δ ds x0 x1 x2
def Ih(K:ak)(A:List Addr)(H:Hp):List V->List D->Prop:=Paired (iX K A H)
def xT(K:ak)(O:List Nat)(g:DS->Option (List D)):TA:=λσ H Q=>∃U A0 δ ds,Rel K O U A0 σ δ H/\g δ=some ds/\∀vs H',aA H H'->Ih K (U++A0) H' vs ds->Q vs H'
theorem xT.e{K:ak}  {GG:Prop}(hh:xT K O g σ H Q)(kk:∀U A0 δ ds,(Rel K O U A0 σ δ H)->(g δ=some ds)->(∀vs H',aA H H'->Ih K (U++A0) H' vs ds->Q vs H')->GG):GG:=by obtain⟨U,A0,δ,ds,x0,x1,x2⟩:=hh;exact kk U A0 δ ds x0 x1 x2
inductive Res where
 |nx (δ:DS)|rt (d:D)|bk (δ:DS)|ct (δ:DS)
abbrev cq:=DS->Option (List D)
abbrev bB:=DS->Option Res
abbrev oR:=DS->Option Bool
abbrev be:=DS->Option D
abbrev fV:=Option (List D)
abbrev eW:=List (D×D)
def zK(K:ak)(fr:Bool)(H0:Hp)(A0:List Addr)(v:V)(d:D)(H':Hp):Prop:=
 if fr=true then ∃r o,v=.ref r/\aA H0 H'/\H0 r=none/\H' r=some o/\Ej K (wo H' (r::A0)) o d else aA H0 H'/\HD K (wo H' A0) v d
def Ii(c:Str):D:=.dict [(.none,.str c)]
abbrev Fr:=Bool×(Str->Hp->Prop)
def X3(K:ak)(O:List Nat)(fr:Fr)(H0:Hp)(A0:List Addr)(E:Ends):Res->Prop
 |.nx δ=>∀U σ H,Rel K O U A0 σ δ H->Fx H0 A0 U H->E.nx σ H
 |.bk δ=>∀U σ H,Rel K O U A0 σ δ H->Fx H0 A0 U H->E.bk σ H
 |.ct δ=>∀U σ H,Rel K O U A0 σ δ H->Fx H0 A0 U H->E.ct σ H
 |.rt d=>(∀v H,zK K fr.1 H0 A0 v d H->E.rt v H)/\∀c H,d=Ii c->aA H0 H->fr.2 c H
def tS(K:ak)(O:List Nat)(fr:Fr)(g:bB):TS:=λE σ H=>∃H0 U A0 δ r,Rel K O U A0 σ δ H/\Fx H0 A0 U H/\g δ=some r/\X3 K O fr H0 A0 E r
theorem tS.e{K:ak}  {GG:Prop}(hh:tS K O fr g E σ H)(kk:∀H0 U A0 δ r,(Rel K O U A0 σ δ H)->(Fx H0 A0 U H)->(g δ=some r)->(X3 K O fr H0 A0 E r)->GG):GG:=by obtain⟨H0,U,A0,δ,r,x0,x1,x2,x3⟩:=hh;exact kk H0 U A0 δ r x0 x1 x2 x3
def Walks(K:ak)(A:List Addr)(H1:Hp)(J:It)(ds:List D):Prop:=∀(A':List Addr) (i:Nat) (H:Hp),aA (wo H1 A) (wo H A')->Ls A' H->
 (∀d,ds[i]?=some d->J.go i H/\∀x H2,J.Xu i H x H2->aA H H2/\HD K (wo H2 A') x d)/\(i=ds.length->J.stop i H)
def tI(K:ak)(O:List Nat)(g:cq):TI:=λσ H R=>∃U A0 δ ds,Rel K O U A0 σ δ H/\g δ=some ds/\∀J H1,aA H H1->Walks K (U++A0) H1 J ds->R J H1
theorem tI.e{K:ak}  {GG:Prop}(hh:tI K O g σ H R)(kk:∀U A0 δ ds,(Rel K O U A0 σ δ H)->(g δ=some ds)->(∀J H1,aA H H1->Walks K (U++A0) H1 J ds->R J H1)->GG):GG:=by obtain⟨U,A0,δ,ds,x0,x1,x2⟩:=hh;exact kk U A0 δ ds x0 x1 x2
def tG(K:ak)(O:List Nat)(g:D->DS->Option DS):TG:=λv σ H Q=>∃U A0 δ d δ',Rel K O U A0 σ δ H/\HD K (wo H (U++A0)) v d/\g d δ=some δ'/\∀cQ,Rel K O U A0 cQ δ' H->Q cQ H
theorem tG.e{K:ak}  {GG:Prop}(hh:tG K O g v σ H Q)(kk:∀U A0 δ d δ',(Rel K O U A0 σ δ H)->(HD K (wo H (U++A0)) v d)->(g d δ=some δ')->(∀cQ,Rel K O U A0 cQ δ' H->Q cQ H)->GG):GG:=by obtain⟨U,A0,δ,d,δ',x0,x1,x2,x3⟩:=hh;exact kk U A0 δ d δ' x0 x1 x2 x3
section
variable {X:Cx}
theorem PE.mono(h:PE X e t)(m:∀σ H Q,t' σ H Q->t σ H Q):PE X e t':=λpins s σ H Q I q=>h pins s σ H Q I (m σ H Q q)
theorem PT.mono(h:PT X e t)(m:∀σ H Q,t' σ H Q->t σ H Q):PT X e t':=λpins s σ H Q I q=>h pins s σ H Q I (m σ H Q q)
theorem PW.mono(h:PW X e t)(m:∀σ H Q,t' σ H Q->t σ H Q):PW X e t':=λw pins s σ H Q I q=>h w pins s σ H Q I (m σ H Q q)
theorem PA.mono(h:PA X e t)(m:∀σ H Q,t' σ H Q->t σ H Q):PA X e t':=λpos pins s σ H Q I q=>h pos pins s σ H Q I (m σ H Q q)
theorem PS.mono(h:PS X e t)(m:∀E σ H,t' E σ H->t E σ H):PS X e t':=λpins s σ H E I q=>h pins s σ H E I (m E σ H q)
theorem jy.mono(h:jy X e t)(m:∀E σ H,t' E σ H->t E σ H):jy X e t':=λpins s σ H E I q=>h pins s σ H E I (m E σ H q)
theorem PI.mono(h:PI X tg e t)(m:∀σ H R,t' σ H R->t σ H R):PI X tg e t':=λpins s σ H R I q=>h pins s σ H R I (m σ H R q)
theorem PG.mono(h:PG X e t)(m:∀v σ H Q,t' v σ H Q->t v σ H Q):PG X e t':=λpins s σ H v u Q I r q=>h pins s σ H v u Q I r (m v σ H Q q)
theorem PO.mono(h:PO X e t)(m:∀σ H Q,t' σ H Q->t σ H Q):PO X e t':=λpins s σ H Q I q=>h pins s σ H Q I (m σ H Q q)
end
noncomputable def ae(i:Nat):be:=λδ=>(δ[i]?).join
noncomputable def gC(d:D):be:=λ_=>some d
abbrev ax(x:Int):DS->Option D:=gC (.int x)
abbrev bR(x:Str):DS->Option D:=gC (.str x)
noncomputable abbrev eU(x:Str):Option D:=some (.str x)
noncomputable def bb(g:cq):be:=λδ=>(g δ).map .list
theorem join_some{α:Type}{o:Option (Option α)}{d:α}(h:o.join=some d):o=some (some d):=by
 cases o with
 |none=>cases h
 |some p=>cases p with
   |none=>cases h
   |some q=>cases h;rfl
section
variable {X:Cx}{O:List Nat}{e:Expr}{g:be}
theorem Tu(h:PE X e (iO i))(hi:i∉O:=by decide):PE X e (tE X.K O (ae i)):=h.mono λσ H Q hh=>hh.e λU A0 δ d R ed q=>by
 obtain⟨v,hv,hd⟩:=R.fz i d hi (join_some ed)
 exact⟨v,hv,q v H (aA.refl H) hd⟩
theorem Tw(h:PE X e (iO i)):PE X e (gz X.K O (ae i)):=h.mono λσ H Q hh=>hh.e λU A0 δ d R ed q=>by
 obtain⟨v,hv,hd⟩:=R.at (join_some ed)
 exact⟨v,hv,q v H (aA.refl H) hd⟩
theorem Tx(h:PE X e (tC v))(hd:∀H,HD X.K H v d):PE X e (tE X.K O (gC d)):=h.mono λσ H Q hh=>hh.e λU A0 δ d' R ed q=>by
 cases ed
 exact q v H (aA.refl H) (hd _)
theorem aR(h:PE X e (tC (.int i))):PE X e (tE X.K O (gC (.int i))):=Tx h λ_=>.int i
theorem ig(h:PE X e (tC (.bl i))):PE X e (tE X.K O (gC (.bool i))):=Tx h λ_=>.bl i
theorem aJ(h:PE X e (tC (.str i))):PE X e (tE X.K O (gC (.str i))):=Tx h λ_=>.str i
theorem PE.sh(h:PE X e (tE X.K O g)):PE X e (gz X.K O g):=h.mono λσ H Q hh=>hh.e λU A0 δ d R ed q=>⟨U,A0,δ,d,R,ed,λv H' s z=>q v H' s (.inl z)⟩
theorem QU{K:ak}{g:cq}:tE K O (bb g) σ H Q->tN K O g σ H Q:=λ⟨U,A0,δ,d,R,ed,q⟩=>by
 unfold bb at ed
 cases eg:g δ with
 |none=>rw[eg]at ed;cases ed
 |some ds=>
   rw[eg]at ed;cases ed;refine⟨U,A0,δ,ds,R,eg,λr ys H' s hr h1 h2=>q _ H' s ?_⟩;have hn:=R.al.free hr;exact .lst (.of (by rw[aN hn];exact h1)) (h2.same (iu λa ha=>aap _ ha))
theorem PE.nE{g:cq}(h:PE X e (tN X.K O g)):PE X e (tE X.K O (bb g)):=h.mono λ_ _ _=>QU
end
def g2(f:D->D->Option D)(a b:be):be:=λδ=>(a δ).bind λx=>(b δ).bind λy=>f x y
def Oo(f:D->D->fV)(a b:be):cq:=λδ=>(a δ).bind λx=>(b δ).bind λy=>f x y
def iY(K:ak)(r:R2)(f:D->D->Option D):Prop:=∀(A:List Addr) (H:Hp) (x y:V) (dx dy d:D) (Q:VK),Ls A H->iX K A H x dx->iX K A H y dy->f dx dy=some d->(∀v H',aA H H'->HD K (wo H' A) v d->Q v H')->r x y H Q
def Kw(K:ak)(r:R2)(f:D->D->fV):Prop:=∀(A:List Addr) (H:Hp) (x y:V) (dx dy:D) (ds:List D) (Q:VK),Ls A H->iX K A H x dx->iX K A H y dy->f dx dy=some ds->
 (∀p ys,H p=none->cC K (wo H A) ys ds->Q (.ref p) (upd H p (.lst ys)))->r x y H Q
theorem Gv{α β γ:Type}{a:Option α}{b:Option β}{f:α->β->Option γ}{d:γ}(h:(a.bind λx=>b.bind λy=>f x y)=some d):∃x y,a=some x/\b=some y/\f x y=some d:=by
 cases a with
 |none=>cases h
 |some x=>cases b with
   |none=>cases h
   |some y=>exact⟨x,y,rfl,rfl,h⟩
theorem bind1{α β:Type}{a:Option α}{f:α->Option β}{d:β}(h:a.bind f=some d):∃x,a=some x/\f x=some d:=by
 cases a with
 |none=>cases h
 |some x=>exact⟨x,rfl,h⟩
section
variable {X:Cx}{O:List Nat}{a b:Expr}{ga gb:be}{pos:Pos}{r:R2}
theorem Gw{K:ak}(imp:iY K r f):tE K O (g2 f ga gb) σ H Q->SR r (gz K O ga) (gz K O gb) σ H Q:=λ⟨U,A0,δ,d,R,ed,q⟩=>by
 obtain⟨x,y,ex,ey,ef⟩:=Gv ed
 exact⟨U,A0,δ,x,R,ex,λv1 H1 s1 h1=>⟨U,A0,δ,y,R.same s1,ey,λv2 H2 s2 h2=>imp _ H2 v1 v2 x y d Q (R.same (s1.trans s2)).al (h1.same s2) h2 ef λv H' s h=>q v H' ((s1.trans s2).trans s) h⟩⟩
theorem B3{K:ak}{Q:VK}(s:aA H H2)(q:∀r ys H',aA H H'->H r=none->H' r=some (.lst ys)->cC K (wo H' (r::A)) ys ds->Q (.ref r) H'):∀p ys,H2 p=none->cC K (wo H2 A) ys ds->Q (.ref p) (upd H2 p (.lst ys)):=
 λp ys hp h=>q p ys _ (s.trans (bj hp _)) (s.free hp) az (by rw[BY hp];exact h)
theorem X4{K:ak}(imp:Kw K r f):tN K O (Oo f ga gb) σ H Q->SR r (gz K O ga) (gz K O gb) σ H Q:=λ⟨U,A0,δ,d,R,ed,q⟩=>by
 obtain⟨x,y,ex,ey,ef⟩:=Gv ed
 exact⟨U,A0,δ,x,R,ex,λv1 H1 s1 h1=>⟨U,A0,δ,y,R.same s1,ey,λv2 H2 s2 h2=>imp _ H2 v1 v2 x y d Q (R.same (s1.trans s2)).al (h1.same s2) h2 ef (B3 (s1.trans s2) q)⟩⟩
theorem au(ho:jz X (binaryOp op) r)(imp:iY X.K r f)(ha:PE X a (gz X.K O ga))(hb:PE X b (gz X.K O gb)):PE X (.BinOp a op b pos) (tE X.K O (g2 f ga gb)):=(QA ho ha hb).mono λ_ _ _=>Gw imp
theorem Ek(ho:jz X (binaryOp op) r)(imp:Kw X.K r f)(ha:PE X a (gz X.K O ga))(hb:PE X b (gz X.K O gb)):PE X (.BinOp a op b pos) (tN X.K O (Oo f ga gb)):=(QA ho ha hb).mono λ_ _ _=>X4 imp
theorem iw(ho:jz X (compareOp op) r)(imp:iY X.K r f)(ha:PE X a (gz X.K O ga))(hb:PE X b (gz X.K O gb))(hm:behindInMarks op b=false):PE X (.Compare a [op] [b] pos) (tE X.K O (g2 f ga gb)):=(Gh ho ha hb hm).mono λ_ _ _=>Gw imp
noncomputable def gB(g:be):oR:=λδ=>(g δ).bind λ|.bool b=>some b|_=>none
theorem QV{K:ak}{te:TE}(m:∀σ H Q,tE K O g σ H Q->te σ H Q):tT K O (gB g) σ H Q->te σ H λx H'=>∃k,x=.bl k/\Q k H':=λ⟨U,A0,δ,b,R,ed,q⟩=>by
 obtain⟨d,e1,e2⟩:=bind1 ed
 cases d with
 |bool c=>
   cases e2;exact m σ H _ ⟨U,A0,δ,_,R,e1,λv H' s h=>by cases h;exact⟨_,rfl,q H' s⟩⟩
 |_=>cases e2
theorem aT(ho:jz X (compareOp op) r)(imp:iY X.K r f)(ha:PE X a (gz X.K O ga))(hb:PE X b (gz X.K O gb))(hm:behindInMarks op b=false):PT X (.Compare a [op] [b] pos) (tT X.K O (gB (g2 f ga gb))):=(Gi ho ha hb hm).mono λ_ _ _=>QV λ_ _ _=>Gw imp
end
noncomputable def dI(g:Int->Int->D):D->D->Option D
 |.int a,.int b=>some (g a b)
 |_,_=>none
open Classical in
def Tz (C:Int->Int->Prop) (g:Int->Int->D):D->D->Option D
 |.int a,.int b=>if C a b then some (g a b)else none
 |_,_=>none
open Classical in
theorem vE {C:Int->Int->Prop} {g:Int->Int->D} {a b:Int} (h:C a b):Tz C g (.int a) (.int b)=some (g a b):=by
 show(if C a b then some (g a b)else none)=_
 rw[aaq h]
theorem Kx:dI g (.int a) (.int b)=some (g a b):=rfl
theorem qA{K:ak}{g:Int->Int->Int}:iY K (J4 λi j=>.int (g i j)) (dI λi j=>.int (g i j)):=by
 intro A H x y dx dy d Q al hx hy e q
 unfold dI at e
 split at e
 .cases e;exact⟨_,_,hx.int,hy.int,q _ H (aA.refl H) (.int _)⟩
 .cases e
theorem cS{K:ak}{g:Int->Int->Bool}:iY K (J4 λi j=>.bl (g i j)) (dI λi j=>.bool (g i j)):=by
 intro A H x y dx dy d Q al hx hy e q
 unfold dI at e
 split at e
 .cases e;exact⟨_,_,hx.int,hy.int,q _ H (aA.refl H) (.bl _)⟩
 .cases e
set_option tactic.hygienic true in
theorem aV{K:ak}{g:Int->Int->Int}:iY K (rI C λi j=>.int (g i j)) (Tz C λi j=>.int (g i j)):=by
 intro A H x y dx dy d Q al hx hy e q
 unfold Tz at e
 split at e
 .split at e
  .rename_i c;cases e;exact⟨_,_,hx.int,hy.int,c,q _ H (aA.refl H) (.int _)⟩
  .cases e
 .cases e
abbrev ia:D->D->Option D:=dI λi j=>.int (i-j)
abbrev ij:D->D->Option D:=Tz IntMulOk λi j=>.int (i*j)
abbrev gW:D->D->Option D:=Tz Gr λi j=>.int (i.fdiv j)
abbrev eu:D->D->Option D:=Tz (λ_ j=>j≠0) λi j=>.int (i.fmod j)
abbrev r8:D->D->Option D:=Tz SU λi j=>.int (i^j.toNat)
abbrev Ky:D->D->Option D:=dI λi j=>.bool (decide (i<j))
abbrev Oq:D->D->Option D:=dI λi j=>.bool (decide (i<=j))
abbrev xG:D->D->Option D:=dI λi j=>.bool (decide (j<i))
abbrev Ot:D->D->Option D:=dI λi j=>.bool (decide (j<=i))
noncomputable def gT:D->D->Option D
 |.int a,.int b=>some (.bool (decide (a=b)))
 |a,b=>if(SeqAt.shaped a&&SeqAt.shaped b)=true then some (.bool (PyData.eqv a b))else none
def zL:D->D->Option D:=λa b=>(gT a b).bind λ|.bool c=>some (.bool (!c))|_=>none
set_option tactic.hygienic true in
theorem Gx(h:gT a b=some d):SeqAt.shaped a=true/\SeqAt.shaped b=true/\d=.bool (PyData.eqv a b):=by
 unfold gT at h
 split at h
 .cases h;refine⟨by simp[SeqAt.shaped,PyData.canLay0,PyData.depth],by simp[SeqAt.shaped,PyData.canLay0,PyData.depth],?_⟩;rfl
 .grind
def Ou(K:ak)(neg:Bool):R2:=λx y H Q=>∃d e,HD K H x d/\HD K H y e/\SeqAt.shaped d=true/\SeqAt.shaped e=true/\Q (.bl (if neg=true then !PyData.eqv d e else PyData.eqv d e)) H
section
variable {X:Cx}
theorem bQ(hr:de k X.A):jz X (compareOp .Eq) (Ou X.K false):=by
 intro pins s σ H x y v u Q I rx ry h
 obtain⟨d,e,h1,h2,s1,s2,q⟩:=h
 obtain⟨as,r1⟩:=h1.reads I rx (gy s1)
 obtain⟨bs,r2⟩:=h2.reads I ry (gy s2)
 exact eq_dataH r1 r2 s1 s2 hr.units ⟨.bl _,H,I,rfl,q⟩
theorem mS(hr:de k X.A):jz X (compareOp .NotEq) (Ou X.K true):=by
 intro pins s σ H x y v u Q I rx ry h
 obtain⟨d,e,h1,h2,s1,s2,q⟩:=h
 obtain⟨as,r1⟩:=h1.reads I rx (gy s1)
 obtain⟨bs,r2⟩:=h2.reads I ry (gy s2)
 exact ne_dataH r1 r2 s1 s2 hr.units ⟨.bl _,H,I,rfl,q⟩
end
theorem imp_eq{K:ak}:iY K (Ou K false) gT:=by
 intro A H x y dx dy d Q al hx hy e q
 obtain⟨a,b,rfl⟩:=Gx e
 exact⟨dx,dy,hx.QT,hy.QT,a,b,q _ H (aA.refl H) (.bl _)⟩
theorem mT{K:ak}:iY K (Ou K true) zL:=by
 intro A H x y dx dy d Q al hx hy e q
 obtain⟨c,e1,e2⟩:=bind1 e
 obtain⟨a,b,rfl⟩:=Gx e1
 cases e2
 exact⟨dx,dy,hx.QT,hy.QT,a,b,q _ H (aA.refl H) (.bl _)⟩
def Kz(K:ak):R2:=λx y H Q=>∃l b xs zs,x=.ref l/\y=.ref b/\DP K H l xs/\DP K H b zs/\xs.length+zs.length<=sizeLine/\∀p,H p=none->Q (.ref p) (upd H p (.lst (xs++zs)))
theorem vc:jz X (binaryOp .Add) (Kz X.K):=by
 intro pins s σ H x y v u Q I rx ry h
 obtain⟨l,b,xs,zs,rfl,rfl,hH,hB,hz,q⟩:=h
 cases rx
 cases ry
 obtain⟨z,its,n,r,e⟩:=I.lsd hH
 obtain⟨z2,xO,n2,r2,e2⟩:=I.lsd hB
 have hl:=r.length
 have HY:=r2.length
 refine PySem.P.add_list e e2 ?_ (by rw[aaD,aaD];lia)
 have ea:its.toArray++xO.toArray=(its++xO).toArray:=by simp
 rw[ea]
 exact⟨.ref _,_,I.aa5 (t':=s.toks) (r.append r2) (by rw[aaB];lia),rfl,q _ I.fresh⟩
noncomputable def B4:D->D->fV
 |.list a,.list b=>if a.length+b.length<=100000 then some (a++b)else none
 |_,_=>none
set_option tactic.hygienic true in
theorem vd{K:ak}:Kw K (Kz K) B4:=by
 intro A H x y dx dy ds Q al hx hy e q
 unfold B4 at e
 split at e
 .split at e
  .rename_i hz;cases e;obtain⟨l,xs,rfl,h1,h2⟩:=hx.list;obtain⟨b,zs,rfl,h3,h4⟩:=hy.list;have:=h2.len;have:=h4.len;exact⟨l,b,xs,zs,rfl,rfl,h1,h3,small (by lia),λp hp=>q p _ hp (h2.app h4)⟩
  .cases e
 .cases e
noncomputable def TB:D->D->Option D
 |.int a,.int b=>some (.int (a+b))
 |.str a,.str b=>if a.length+b.length<=100000 then some (.str (a++b))else none
 |.list a,.list b=>if a.length+b.length<=100000 then some (.list (a++b))else none
 |.tuple a,.tuple b=>if a.length+b.length<=100000/\a≠[]then some (.tuple (a++b))else none
 |_,_=>none
def Gy(K:ak):R2:=λx y H Q=>J4 (λi j=>.int (i+j)) x y H Q\/(∃i j,x=.str i/\y=.str j/\i.length+j.length<=sizeLine/\Q (.str (i++j)) H)\/Kz K x y H Q\/QI K x y H Q
theorem Ov:jz X (binaryOp .Add) (Gy X.K):=SV.or (D3.or (vc.or N6))
theorem HD.abd{K:ak}(al:Ls A H)(hp:H p=none)(h:cC K (wo H A) ys ds):HD K (wo (upd H p (.lst ys)) A) (.ref p) (.list ds):=by
 rw[Ku (al.free hp)]
 have hn:wo H A p=none:=by
  by_cases z:p∈A;.exact dG z
  .rw [aN z];exact hp
 exact .lst (.of az) (h.same (bj hn _))
theorem HD.xU{K:ak}(al:Ls A H)(hp:H p=none)(h:cC K (wo H A) ys ds):HD K (wo (upd H p (.tup ys)) A) (.ref p) (.tuple ds):=by
 rw[Ku (al.free hp)]
 have hn:wo H A p=none:=by
  by_cases z:p∈A;.exact dG z
  .rw [aN z];exact hp
 exact .tup (.inl az) (h.same (bj hn _))
set_option tactic.hygienic true in
theorem Ow{K:ak}:iY K (Gy K) TB:=by
 intro A H x y dx dy d Q al hx hy e q
 unfold TB at e
 split at e
 .cases e;exact .inl ⟨_,_,hx.int,hy.int,q _ H (aA.refl H) (.int _)⟩
 .split at e
  .cases e;exact .inr (.inl ⟨_,_,hx.str,hy.str,small (by assumption),q _ H (aA.refl H) (.str _)⟩)
  .cases e
 .split at e
  .rename_i hz;cases e;refine .inr (.inr (.inl (vd (K:=K) A H x y _ _ _ Q al hx hy (show(if _ then some _ else none)=some _ from aaq hz) λp ys hp h=>?_)));exact q _ _ (bj hp _) (HD.abd al hp h)
  .cases e
 .split at e
  .rename_i hz;cases e;have hx':=hx.fz;obtain⟨a,xs,rfl,h1,h2⟩:=hx.tuple;obtain⟨b,zs,rfl,h3,h4⟩:=hy.tuple;have l2:=h2.len;have l4:=h4.len;refine .inr (.inr (.inr ⟨a,b,xs,zs,rfl,rfl,h1,h3,?_,small (by lia),λz=>?_,λz p hp=>?_⟩));.grind
   .subst z;cases h4;rw[abk]at q;exact q _ H (aA.refl H) hx'
   .exact q _ _ (bj hp _) (HD.xU al hp (h2.app h4))
  .cases e
 .cases e
def bw:D->D->Option D
 |.list ds,.int i=>yN ds i
 |.tuple ds,.int i=>yN ds i
 |.str z,.int i=>if z.length<=100000 then(yN z.cps.toList i).map λc=>.str ⟨#[c]⟩else none
 |_,_=>none
theorem cC.yN{K:ak}(h:cC K H xs ds)(e:yN ds i=some d):∃v,L2.yN xs i=some v/\HD K H v d:=by
 unfold L2.yN at e ⊢
 obtain⟨j,e1,e2⟩:=bind1 e
 rw[h.len,e1]
 obtain⟨x,hx,q⟩:=h.get e2
 exact⟨x,hx,q⟩
set_option tactic.hygienic true in
theorem KA{K:ak}:iY K (rIx K) bw:=by
 intro A H x y dx dy d Q al hx hy e q
 unfold bw at e
 split at e
 .obtain ⟨l,xs,rfl,h1,h2⟩:=hx.list;obtain⟨v,e1,e2⟩:=h2.yN e;exact .inl ⟨l,xs,_,v,rfl,hy.int,h1.sq,e1,q _ H (aA.refl H) e2⟩
 .obtain ⟨l,xs,rfl,h1,h2⟩:=hx.tuple;obtain⟨v,e1,e2⟩:=h2.yN e;exact .inr (.inl ⟨l,xs,_,v,rfl,hy.int,h1,e1,q _ H (aA.refl H) e2⟩)
 .split at e;.rename_i z i hz;cases ec:L2.yN z.cps.toList i with
   |none=>rw[ec]at e;cases e
   |some c=>
     rw[ec]at e;cases e;exact .inr (.inr ⟨z,i,c,hx.str,hy.int,small hz,ec,q _ H (aA.refl H) (.str _)⟩)
  .cases e
 .cases e
section
variable {X:Cx}{O:List Nat}{a b:Expr}{ga gb:be}{pos:Pos}
theorem aS(ha:PE X a (gz X.K O ga))(hb:PE X b (gz X.K O gb))(hs:u9 b:=by exact λ_ _=>rfl):PE X (.Subscript a b pos) (tE X.K O (g2 bw ga gb)):=(Kf Ed ha hb hs).mono λ_ _ _=>Gw KA
end
def g1(f:D->Option D)(a:be):be:=λδ=>(a δ).bind f
noncomputable def KC:D->Option D
 |.int a=>some (.int (-a))
 |_=>none
def KD:D->Option D
 |.bool a=>some (.bool (!a))
 |_=>none
section
variable {X:Cx}{O:List Nat}{a b c:Expr}{ga gb:be}{pos:Pos}
theorem El(ha:PE X a (gz X.K O ga)):PE X (.UnaryOp .USub a pos) (tE X.K O (g1 KC ga)):=(Xw SW ha).mono λσ H Q hh=>hh.e λU A0 δ d R ed q=>by
 obtain⟨x,e1,e2⟩:=bind1 ed
 cases x with
 |int i=>cases e2;exact⟨U,A0,δ,_,R,e1,λv H' s h=>⟨i,h.int,q _ H' s (.int _)⟩⟩
 |_=>cases e2
theorem KE(ha:PE X a (gz X.K O ga)):PE X (.UnaryOp .Not a pos) (tE X.K O (g1 KD ga)):=(SI ha).mono λσ H Q hh=>hh.e λU A0 δ d R ed q=>by
 obtain⟨x,e1,e2⟩:=bind1 ed
 cases x with
 |bool i=>cases e2;exact⟨U,A0,δ,_,R,e1,λv H' s h=>⟨i,h.bool,q _ H' s (.bl _)⟩⟩
 |_=>cases e2
def jI(a b:be):be:=λδ=>(gB a δ).bind λx=>if x=true then b δ else some (.bool false)
def TC(a b:be):be:=λδ=>(gB a δ).bind λx=>if x=true then some (.bool true)else b δ
theorem Gz{b:Bool}(h:gB g δ=some b):g δ=some (.bool b):=by
 obtain⟨d,e1,e2⟩:=bind1 h
 cases d with
 |bool c=>cases e2;exact e1
 |_=>cases e2
theorem vF{rest:List Expr}(ha:PE X a (tE X.K O ga))(hb:PE X (.BoolOp .And (b::rest) pos) (tE X.K O gb)):PE X (.BoolOp .And (a::b::rest) pos) (tE X.K O (jI ga gb)):=(SH ha hb).mono λσ H Q hh=>hh.e λU A0 δ d R ed q=>by
 obtain⟨x,e1,e2⟩:=bind1 ed
 refine⟨U,A0,δ,_,R,Gz e1,λv H' s h=>?_⟩
 cases h
 refine⟨x,rfl,?_⟩
 cases x with
 |true=>rw[aaq rfl]at e2 ⊢;exact⟨U,A0,δ,d,R.same s,e2,λv H2 s2 h2=>q v H2 (s.trans s2) h2⟩
 |false=>rw[aaO aaZ]at e2 ⊢;cases e2;exact q _ H' s (.bl _)
theorem X5{rest:List Expr}(ha:PE X a (tE X.K O ga))(hb:PE X (.BoolOp .Or (b::rest) pos) (tE X.K O gb)):PE X (.BoolOp .Or (a::b::rest) pos) (tE X.K O (TC ga gb)):=(Xm ha hb).mono λσ H Q hh=>hh.e λU A0 δ d R ed q=>by
 obtain⟨x,e1,e2⟩:=bind1 ed
 refine⟨U,A0,δ,_,R,Gz e1,λv H' s h=>?_⟩
 cases h
 refine⟨x,rfl,?_⟩
 cases x with
 |true=>rw[aaq rfl]at e2 ⊢;cases e2;exact q _ H' s (.bl _)
 |false=>rw[aaO aaZ]at e2 ⊢;exact⟨U,A0,δ,d,R.same s,e2,λv H2 s2 h2=>q v H2 (s.trans s2) h2⟩
def pq(a b:oR):oR:=λδ=>(a δ).bind λx=>if x=true then b δ else some false
def GA(a b:oR):oR:=λδ=>(a δ).bind λx=>if x=true then some true else b δ
noncomputable def iy(a:oR):oR:=λδ=>(a δ).map λx=> !x
variable {ta tb:oR}{rest:List Expr}
theorem oh(ha:PT X a (tT X.K O ta))(hb:PW X (.BoolOp .And (b::rest) pos) (tT X.K O tb)):PW X (.BoolOp .And (a::b::rest) pos) (tT X.K O (pq ta tb)):=(pw_and ha hb).mono λσ H Q hh=>hh.e λU A0 δ d R ed q=>by
 obtain⟨x,e1,e2⟩:=bind1 ed
 refine⟨U,A0,δ,_,R,e1,λH' s=>?_⟩
 cases x with
 |true=>rw[aaq rfl]at e2 ⊢;exact⟨U,A0,δ,d,R.same s,e2,λH2 s2=>q H2 (s.trans s2)⟩
 |false=>rw[aaO aaZ]at e2 ⊢;cases e2;exact q H' s
theorem pw(ha:PT X a (tT X.K O ta))(hb:PW X (.BoolOp .Or (b::rest) pos) (tT X.K O tb)):PW X (.BoolOp .Or (a::b::rest) pos) (tT X.K O (GA ta tb)):=(pw_or ha hb).mono λσ H Q hh=>hh.e λU A0 δ d R ed q=>by
 obtain⟨x,e1,e2⟩:=bind1 ed
 refine⟨U,A0,δ,_,R,e1,λH' s=>?_⟩
 cases x with
 |true=>rw[aaq rfl]at e2 ⊢;cases e2;exact q H' s
 |false=>rw[aaO aaZ]at e2 ⊢;exact⟨U,A0,δ,d,R.same s,e2,λH2 s2=>q H2 (s.trans s2)⟩
theorem fA(ha:PT X a (tT X.K O ta)):PT X (.UnaryOp .Not a pos) (tT X.K O (iy ta)):=(JV ha).mono λσ H Q hh=>hh.e λU A0 δ d R ed q=>by
 unfold iy at ed
 cases e:ta δ with
 |none=>rw[e]at ed;cases ed
 |some x=>rw[e]at ed;cases ed;exact⟨U,A0,δ,x,R,e,λH' s=>q H' s⟩
noncomputable def abe:D->Option Bool
 |.none=>some false
 |.bool b=>some b
 |.int i=>some (i !=0)
 |.str x=>if x.length<=100000 then some ((x.length:Int)!=0)else none
 |.list l=>some (!l.isEmpty)
 |.tuple l=>some (!l.isEmpty)
 |_=>none
def gX(g:be):oR:=λδ=>(g δ).bind abe
theorem vG{K:ak}(h:cC K H xs ds):xs.isEmpty=ds.isEmpty:=by cases h<;>rfl
theorem eA(ha:PE X a (gz X.K O ga))(he:∀whole,isTrue a X.env whole=(do let v <-whole;standAt a.pos;holding [v] (truthy v)):=by exact λ_=>rfl):PT X a (tT X.K O (gX ga)):=(BO ha he).mono λσ H Q hh=>hh.e λU A0 δ k R ed q=>by
 obtain⟨d,e1,e2⟩:=bind1 ed
 refine⟨U,A0,δ,d,R,e1,λv H' s h=>⟨k,?_,q H' s⟩⟩
 cases d with
 |none=>cases e2;rw[h.ib];exact rfl
 |bool b=>cases e2;rw[h.bool];exact rfl
 |int i=>cases e2;rw[h.int];exact rfl
 |str x=>
   rw[h.str];have e3:(if x.length<=100000 then some ((x.length:Int)!=0)else none)=some k:=e2;split at e3;.cases e3;exact⟨small (by assumption),rfl⟩
   .grind
 |list l=>
   cases e2;obtain⟨p,xs,rfl,h1,h2⟩:=h.list;exact .inl ⟨xs,h1.sq,by rw[vG h2]⟩
 |tuple l=>
   cases e2;obtain⟨p,xs,rfl,h1,h2⟩:=h.tuple;exact .inr (.inl ⟨xs,h1,by rw[vG h2]⟩)
 |dict _=>cases e2
end
def ag:cq:=λ_=>some []
noncomputable def aa(a:be)(r:cq):cq:=λδ=>(a δ).bind λx=>(r δ).bind λxs=>some (x::xs)
noncomputable def bC(r:cq):be:=λδ=>(r δ).bind λxs=>if xs.length<=100000 then some (.tuple xs)else none
def df(r:cq):cq:=λδ=>(r δ).bind λxs=>if xs.length<=100000 then some xs else none
section
variable {X:Cx}{O:List Nat}{e:Expr}{es:List Expr}{ga:be}{gr:cq}{pos:Pos}
theorem ai:PA X [] (vD X.K O ag):=b9.mono λσ H Q hh=>hh.e λU A0 δ d R ed q=>by cases ed;exact q [] H (aA.refl H) .nil
theorem af(ha:PE X e (tE X.K O ga))(hr:PA X es (vD X.K O gr))(hs:starEach (e::es) X.env=(false,eval e X.env)::starEach es X.env:=by rfl):PA X (e::es) (vD X.K O (aa ga gr)):=(aY ha hr hs).mono λσ H Q hh=>hh.e λU A0 δ ds R ed q=>by
 obtain⟨x,xs,e1,e2,e3⟩:=Gv ed
 cases e3
 exact⟨U,A0,δ,x,R,e1,λv H1 s1 h1=>⟨U,A0,δ,xs,R.same s1,e2,λvs H2 s2 h2=>q _ H2 (s1.trans s2) (.cons (h1.same (bE s2)) h2)⟩⟩
theorem aH:PA X [] (xT X.K O ag):=b9.mono λσ H Q hh=>hh.e λU A0 δ d R ed q=>by cases ed;exact q [] H (aA.refl H) .nil
theorem ay(ha:PE X e (gz X.K O ga))(hr:PA X es (xT X.K O gr))(hs:starEach (e::es) X.env=(false,eval e X.env)::starEach es X.env:=by rfl):PA X (e::es) (xT X.K O (aa ga gr)):=(aY ha hr hs).mono λσ H Q hh=>hh.e λU A0 δ ds R ed q=>by
 obtain⟨x,xs,e1,e2,e3⟩:=Gv ed
 cases e3
 exact⟨U,A0,δ,x,R,e1,λv H1 s1 h1=>⟨U,A0,δ,xs,R.same s1,e2,λvs H2 s2 h2=>q _ H2 (s1.trans s2) (.cons (h1.same s2) h2)⟩⟩
set_option tactic.hygienic true in
theorem cU(h:PA X es (vD X.K O gr)):PE X (.Tuple es x1 pos) (tE X.K O (bC gr)):=(Eb h).mono λσ H Q hh=>hh.e λU A0 δ d R ed q=>by
 obtain⟨xs,e1,e2⟩:=bind1 ed
 split at e2
 .rename_i hz;cases e2;refine⟨U,A0,δ,xs,R,e1,λvs H' s h=>⟨by have:=h.len;exact small (by lia),λp hp=>q _ _ (s.trans (bj hp _)) (HD.xU (R.same s).al hp h)⟩⟩
 .grind
set_option tactic.hygienic true in
theorem eF(h:PA X es (vD X.K O gr)):PE X (.List es pos) (tN X.K O (df gr)):=(vv h).mono λσ H Q hh=>hh.e λU A0 δ d R ed q=>by
 obtain⟨xs,e1,e2⟩:=bind1 ed
 split at e2
 .rename_i hz;cases e2;refine⟨U,A0,δ,d,R,e1,λvs H' s h=>⟨by have:=h.len;exact small (by lia),λp hp=>B3 s q p vs hp h⟩⟩
 .grind
end
def kF(K:ak)(n:Nat)(G:List D->Option D):Sp:=λvs H Q _=>vs.length=n/\∃A ds d,Ls A H/\cC K (wo H A) vs ds/\G ds=some d/\∀v H',aA H H'->HD K (wo H' A) v d->Q v H'
def KG(K:ak)(n:Nat)(G:List D->fV):Sp:=λvs H Q _=>vs.length=n/\∃A ds d,Ls A H/\cC K (wo H A) vs ds/\G ds=some d/\
 ∀r ys H',aA H H'->H r=none->H' r=some (.lst ys)->cC K (wo H' (r::A)) ys d->Q (.ref r) H'
noncomputable def aP(G:List D->Option D)(n:Nat)(g:cq):be:=λδ=>(g δ).bind λds=>if ds.length=n then G ds else none
def cD(G:List D->fV)(n:Nat)(g:cq):cq:=λδ=>(g δ).bind λds=>if ds.length=n then G ds else none
section
variable {X:Cx}{O:List Nat}{e:Expr}{es:List Expr}{gr:cq}{pos p:Pos}{n k kk:Nat}{x:Str}{ps:List Str}
set_option tactic.hygienic true in
theorem Ox(F:Dn X.prog X.w X.K X.mg X.base k x ps (kF X.K n G))(hr:de kk X.A)(hk:k<=kk)(ha:PA X (e::es) (vD X.K O gr))(hg:Gl X x:=by rfl)
  (pf:(x==("__debug__":Str))=false:=by decide)(he:starEach (e::es) X.env=(false,eval e X.env)::starEach es X.env:=by rfl)(i8:(backTo pos (starEach es X.env)).any (·.1)=false:=by rfl):
  PE X (.Call (.Name x p) (e::es) [] pos) (tE X.K O (aP G n gr)):=(yU F hr hk ha hg pf he i8).mono λσ H Q hh=>hh.e λU A0 δ d R ed q=>by
 obtain⟨ds,e1,e2⟩:=bind1 ed
 split at e2
 .rename_i hn;refine⟨U,A0,δ,ds,R,e1,λvs H' s h=>?_⟩;show kF X.K n G (vs++[]) H' Q E0;rw[abk];exact⟨by rw[h.len];exact hn,U++A0,ds,d,(R.same s).al,h,e2,λv H2 s2 h2=>q v H2 (s.trans s2) h2⟩
 .grind
set_option tactic.hygienic true in
theorem fW(F:Dn X.prog X.w X.K X.mg X.base k x ps (KG X.K n G))(hr:de kk X.A)(hk:k<=kk)(ha:PA X (e::es) (vD X.K O gr))(hg:Gl X x:=by rfl)
  (pf:(x==("__debug__":Str))=false:=by decide)(he:starEach (e::es) X.env=(false,eval e X.env)::starEach es X.env:=by rfl)(i8:(backTo pos (starEach es X.env)).any (·.1)=false:=by rfl):
  PE X (.Call (.Name x p) (e::es) [] pos) (tN X.K O (cD G n gr)):=(yU F hr hk ha hg pf he i8).mono λσ H Q hh=>hh.e λU A0 δ d R ed q=>by
 obtain⟨ds,e1,e2⟩:=bind1 ed
 split at e2
 .rename_i hn;refine⟨U,A0,δ,ds,R,e1,λvs H' s h=>?_⟩;show KG X.K n G (vs++[]) H' Q E0;rw[abk];exact⟨by rw[h.len];exact hn,U++A0,ds,d,(R.same s).al,h,e2,λr ys H2 s2 h0 h1 h2=>q r ys H2 (s.trans s2) (s.free h0) h1 h2⟩
 .grind
end
def vH(K:ak)(r:List V->Hp->VK->Prop)(f:List D->Option D):Prop:=∀(A:List Addr) (H:Hp) (vs:List V) (ds:List D) (d:D) (Q:VK),Ls A H->Ih K A H vs ds->f ds=some d->(∀v H',aA H H'->HD K (wo H' A) v d->Q v H')->r vs H Q
def KH(K:ak)(r:List V->Hp->VK->Prop)(f:List D->fV):Prop:=∀(A:List Addr) (H:Hp) (vs:List V) (ds:List D) (d:List D) (Q:VK),Ls A H->Ih K A H vs ds->f ds=some d->
 (∀p ys,H p=none->cC K (wo H A) ys d->Q (.ref p) (upd H p (.lst ys)))->r vs H Q
def dS(f:List D->Option D)(g:cq):be:=λδ=>(g δ).bind f
def KI(f:List D->fV)(g:cq):cq:=λδ=>(g δ).bind f
section
variable {X:Cx}{O:List Nat}{e:Expr}{es:List Expr}{gr:cq}{pos p:Pos}{x:Str}{r:List V->Hp->VK->Prop}{id T:String}
theorem QW{K:ak}(imp:vH K r f):tE K O (dS f gr) σ H Q->ZS r (xT K O gr) σ H Q:=λ⟨U,A0,δ,d,R,ed,q⟩=>by
 obtain⟨ds,e1,e2⟩:=bind1 ed
 exact⟨U,A0,δ,ds,R,e1,λvs H' s h=>imp _ H' vs ds d Q (R.same s).al h e2 λv H2 s2 h2=>q v H2 (s.trans s2) h2⟩
theorem X6{K:ak}(imp:KH K r f):tN K O (KI f gr) σ H Q->ZS r (xT K O gr) σ H Q:=λ⟨U,A0,δ,d,R,ed,q⟩=>by
 obtain⟨ds,e1,e2⟩:=bind1 ed
 exact⟨U,A0,δ,ds,R,e1,λvs H' s h=>imp _ H' vs ds d Q (R.same s).al h e2 (B3 s q)⟩
theorem bx(hc:eV X (.builtin id) r)(imp:vH X.K r f)(hg:Gl X x)(hm:X.mg x=none)(hv:bootBuiltins x=some (.builtin id))(ha:PA X (e::es) (xT X.K O gr))(hn:x≠"__name__":=by decide)(pf:(x==("__debug__":Str))=false:=by decide)
  (he:starEach (e::es) X.env=(false,eval e X.env)::starEach es X.env:=by rfl)(i8:(backTo pos (starEach es X.env)).any (·.1)=false:=by rfl):PE X (.Call (.Name x p) (e::es) [] pos) (tE X.K O (dS f gr)):=
 (mJ hc hg hm hv ha hn pf he i8).mono λ_ _ _=>QW imp
theorem bV(hc:eV X (.type T) r)(imp:vH X.K r f)(hg:Gl X x)(hm:X.mg x=none)(hv:bootBuiltins x=some (.type T))(ha:PA X (e::es) (xT X.K O gr))(hn:x≠"__name__":=by decide)(pf:(x==("__debug__":Str))=false:=by decide)
  (he:starEach (e::es) X.env=(false,eval e X.env)::starEach es X.env:=by rfl)(i8:(backTo pos (starEach es X.env)).any (·.1)=false:=by rfl):PE X (.Call (.Name x p) (e::es) [] pos) (tE X.K O (dS f gr)):=
 (rX hc hg hm hv ha hn pf he i8).mono λ_ _ _=>QW imp
theorem vI(hc:eV X (.type T) r)(imp:KH X.K r f)(hg:Gl X x)(hm:X.mg x=none)(hv:bootBuiltins x=some (.type T))(ha:PA X (e::es) (xT X.K O gr))(hn:x≠"__name__":=by decide)(pf:(x==("__debug__":Str))=false:=by decide)
  (he:starEach (e::es) X.env=(false,eval e X.env)::starEach es X.env:=by rfl)(i8:(backTo pos (starEach es X.env)).any (·.1)=false:=by rfl):PE X (.Call (.Name x p) (e::es) [] pos) (tN X.K O (KI f gr)):=
 (rX hc hg hm hv ha hn pf he i8).mono λ_ _ _=>X6 imp
end
theorem Ij{K:ak}(h:Ih K A H vs [d]):∃v,vs=[v]/\iX K A H v d:=by
 cases h with
 |cons a t=>cases t;exact⟨_,rfl,a⟩
theorem sh2{K:ak}(h:Ih K A H vs [d,e]):∃v u,vs=[v,u]/\iX K A H v d/\iX K A H u e:=by
 cases h with
 |cons a t=>cases t with
   |cons b t=>cases t;exact⟨_,_,rfl,a,b⟩
noncomputable def dU:List D->Option D
 |[.list l]=>some (.int l.length)
 |[.tuple l]=>some (.int l.length)
 |[.str z]=>if z.length<=100000 then some (.int z.length)else none
 |_=>none
theorem bG:eV X (.builtin "len") (λxs H Q=>(∃p ys,xs=[.ref p]/\(kY X.K H p ys\/kg X.K H p ys)/\Q (.int ys.length) H)\/∃z,xs=[.str z]/\z.length<=sizeLine/\Q (.int z.length) H):=zD.or zF
theorem cG{K:ak}:vH K (λxs H Q=>(∃p ys,xs=[.ref p]/\(kY K H p ys\/kg K H p ys)/\Q (.int ys.length) H)\/∃z,xs=[.str z]/\z.length<=sizeLine/\Q (.int z.length) H) dU:=by
 intro A H vs ds d Q al h e q
 unfold dU at e
 split at e
 .cases e;obtain⟨v,rfl,h1⟩:=Ij h;have h:=h1;obtain⟨p,xs,rfl,h1,h2⟩:=h.list;refine .inl ⟨p,xs,rfl,.inl h1.sq,?_⟩;rw[h2.len];exact q _ H (aA.refl H) (.int _)
 .cases e;obtain⟨v,rfl,h1⟩:=Ij h;have h:=h1;obtain⟨p,xs,rfl,h1,h2⟩:=h.tuple;refine .inl ⟨p,xs,rfl,.inr h1,?_⟩;rw[h2.len];exact q _ H (aA.refl H) (.int _)
 .split at e
  .cases e;obtain⟨v,rfl,h1⟩:=Ij h;exact .inr ⟨_,by rw[h1.str],small (by assumption),q _ H (aA.refl H) (.int _)⟩
  .cases e
 .cases e
noncomputable def zM:List D->Option D
 |[.int i]=>some (.int (if i<0 then -i else i))
 |_=>none
theorem zQ{K:ak}:vH K (λxs H Q=>∃i,xs=[.int i]/\Q (.int (if i<0 then -i else i)) H) zM:=by
 intro A H vs ds d Q al h e q
 unfold zM at e
 split at e
 .cases e;obtain⟨v,rfl,h1⟩:=Ij h;have h:=h1;exact⟨_,by rw[h.int],q _ H (aA.refl H) (.int _)⟩
 .cases e
noncomputable def B5:List D->Option D
 |[.int i,.int j]=>some (.int (if j>i then j else i))
 |_=>none
theorem Oy{K:ak}:vH K (λxs H Q=>∃i j,xs=[.int i,.int j]/\Q (.int (if j>i then j else i)) H) B5:=by
 intro A H vs ds d Q al h e q
 unfold B5 at e
 split at e
 .cases e;obtain⟨v,u,rfl,h1,h'⟩:=sh2 h;have h:=h1;exact⟨_,_,by rw[h.int,h'.int],q _ H (aA.refl H) (.int _)⟩
 .cases e
noncomputable def xV:List D->Option D
 |[.int i]=>some (.int i)
 |[.bool k]=>some (.int (if k then 1 else 0))
 |_=>none
theorem zR{K:ak}:vH K (λxs H Q=>(∃i,xs=[.int i]/\Q (.int i) H)\/∃k,xs=[.bl k]/\Q (.int (if k then 1 else 0)) H) xV:=by
 intro A H vs ds d Q al h e q
 unfold xV at e
 split at e
 .cases e;obtain⟨v,rfl,h1⟩:=Ij h;have h:=h1;exact .inl ⟨_,by rw[h.int],q _ H (aA.refl H) (.int _)⟩
 .cases e;obtain⟨v,rfl,h1⟩:=Ij h;have h:=h1;exact .inr ⟨_,by rw[h.bool],q _ H (aA.refl H) (.int _)⟩
 .cases e
noncomputable def vJ:List D->fV
 |[.list l]=>some l
 |[.tuple l]=>some l
 |_=>none
theorem B6{K:ak}:KH K (λxs H Q=>∃p ys,xs=[.ref p]/\(kY K H p ys\/kg K H p ys)/\∀l,H l=none->Q (.ref l) (upd H l (.lst ys))) vJ:=by
 intro A H vs ds d Q al h e q
 unfold vJ at e
 split at e
 .cases e;obtain⟨v,rfl,h1⟩:=Ij h;have h:=h1;obtain⟨p,xs,rfl,h1,h2⟩:=h.list;exact⟨p,xs,rfl,.inl h1.sq,λl hl=>q l xs hl h2⟩
 .cases e;obtain⟨v,rfl,h1⟩:=Ij h;have h:=h1;obtain⟨p,xs,rfl,h1,h2⟩:=h.tuple;exact⟨p,xs,rfl,.inr h1,λl hl=>q l xs hl h2⟩
 .cases e
noncomputable def kG:List D->Option D
 |[.list l]=>some (.tuple l)
 |[.tuple l]=>some (.tuple l)
 |_=>none
theorem oi{K:ak}:vH K (λxs H Q=>∃p ys,xs=[.ref p]/\((kY K H p ys/\∀l,H l=none->Q (.ref l) (upd H l (.tup ys)))\/(kg K H p ys/\Q (.ref p) H))) kG:=by
 intro A H vs ds d Q al h e q
 unfold kG at e
 split at e
 .cases e;obtain⟨v,rfl,h1⟩:=Ij h;have h:=h1;obtain⟨p,xs,rfl,h1,h2⟩:=h.list;exact⟨p,xs,rfl,.inl ⟨h1.sq,λl hl=>q _ _ (bj hl _) (HD.xU al hl h2)⟩⟩
 .cases e;obtain⟨v,rfl,h1⟩:=Ij h;have h:=h1;have h':=h.fz;obtain⟨p,xs,rfl,h1,h2⟩:=h.tuple;exact⟨p,xs,rfl,.inr ⟨h1,q _ H (aA.refl H) h'⟩⟩
 .cases e
noncomputable def tyName:D->String
 |.none=>"NoneType"
 |.bool _=>"bool"
 |.int _=>"int"
 |.str _=>"str"
 |.list _=>"list"
 |.tuple _=>"tuple"
 |.dict _=>"dict"
theorem TF{K:ak}(h:(Value.type t==Value.type n)=false)(h2:PySem.W.kitMeta n=true)(h3:(fastBuiltinMro t).map (·.contains (Value.type n))=some b):PySem.W.kitOne K (.type t) (.type n)=some b:=by
 unfold PySem.W.kitOne PySem.W.kitCls
 rw[h,aaO (by decide)]
 show(if PySem.W.kitMeta n=true then PySem.W.subIn K (.type t) (.type n)else none)=some b
 rw[aaq h2]
 exact h3
noncomputable def dh:List String:=["int","bool","str","list","tuple","NoneType"]
def abf(n:String):List D->Option D
 |[d]=>if tyName d∈dh/\n∈dh then some (.bool (decide (tyName d=n)||(decide (tyName d="bool")&&decide (n="int"))))else none
 |_=>none
theorem Oz{K:ak}(ht:t∈dh)(hn:n∈dh):PySem.W.kitOne K (.type t) (.type n)=some (decide (t=n)||(decide (t="bool")&&decide (n="int"))):=by
 by_cases h:t=n
 .subst h;rw[Kr];simp
 .have all:∀t∈dh,∀n∈dh,t≠n->(Value.type t==Value.type n)=false/\PySem.W.kitMeta n=true/\(fastBuiltinMro t).map (·.contains (Value.type n))=some (decide (t=n)||(decide (t="bool")&&decide (n="int"))):=by decide +kernel
  obtain⟨h1,h2,h3⟩:=all t ht n hn h;exact TF h1 h2 h3
theorem iX.ty{K:ak}(h:iX K A H v d)(hn:tyName d∈dh):TyW K H v (tyName d):=by
 cases d with
 |none=>rw[h.ib];exact .inl .ib
 |bool b=>rw[h.bool];exact .inl (.bl b)
 |int i=>rw[h.int];exact .inl (.int i)
 |str x=>rw[h.str];exact .inl (.str x)
 |list l=>obtain⟨p,xs,rfl,h1,_⟩:=h.list;exact .inr (.inr ⟨p,xs,rfl,h1.sq,rfl⟩)
 |tuple l=>obtain⟨p,xs,rfl,h1,_⟩:=h.tuple;exact .inr (.inl ⟨p,xs,rfl,h1,rfl⟩)
 |dict l=>simp[tyName,dh]at hn
section
variable {X:Cx}{O:List Nat}{e:Expr}{ga:be}{pos p p2:Pos}
def xW(n:String)(g:be):be:=λδ=>(g δ).bind λd=>abf n [d]
set_option tactic.hygienic true in
theorem zS(T:String)(hB:X.mg "isinstance"=none)(ha:PE X e (gz X.K O ga))(ht:PE X (.Name n p2) (tC (.ty T)))(hg:Gl X "isinstance":=by rfl)
  (he:starEach [e,.Name n p2] X.env=(false,eval e X.env)::starEach [.Name n p2] X.env:=by rfl)(KJ:starEach [.Name n p2] X.env=(false,eval (.Name n p2) X.env)::starEach [] X.env:=by rfl)(i8:(backTo pos (starEach [.Name n p2] X.env)).any (·.1)=false:=by rfl):
  PE X (.Call (.Name "isinstance" p) [e,.Name n p2] [] pos) (tE X.K O (xW T ga)):=
 (mJ Kq hg hB kh (aY ha (aY ht b9 KJ) he) (by decide) (by decide) he i8).mono λσ H Q hh=>hh.e λU A0 δ d R ed q=>by
  obtain⟨x,e1,e2⟩:=bind1 ed;have e3:(if tyName x∈dh/\T∈dh then some (PyData.bool (decide (tyName x=T)||(decide (tyName x="bool")&&decide (T="int"))))else none)=some d:=e2;split at e3
  .rename_i hz;cases e3;refine⟨U,A0,δ,x,R,e1,λv H' s h=>?_⟩;exact⟨v,T,tyName x,_,rfl,h.ty hz.1,Oz hz.1 hz.2,q _ H' s (.bl _)⟩
  .grind
end
noncomputable def e9(g:be):DS->Option (Option Int):=λδ=>(g δ).bind λ|.int i=>some (some i)|_=>none
def jf:DS->Option (Option Int):=λ_=>some none
def QX(K:ak)(O:List Nat)(g:DS->Option (Option Int)):TO:=λσ H Q=>∃U A0 δ d,Rel K O U A0 σ δ H/\g δ=some d/\∀H',aA H H'->Q d H'
theorem QX.e{K:ak}  {GG:Prop}(hh:QX K O g σ H Q)(kk:∀U A0 δ d,(Rel K O U A0 σ δ H)->(g δ=some d)->(∀H',aA H H'->Q d H')->GG):GG:=by obtain⟨U,A0,δ,d,x0,x1,x2⟩:=hh;exact kk U A0 δ d x0 x1 x2
def cutD(xs:List D)(lo hi:Option Int):List D:=(xs.drop (HT.u6 xs.length 0 lo)).take (HT.u6 xs.length xs.length hi-HT.u6 xs.length 0 lo)
def xX(a:be)(lo hi:DS->Option (Option Int)):cq:=λδ=>(a δ).bind λx=>(lo δ).bind λl=>(hi δ).bind λh=>match x with
 |.list ds=>some (cutD ds l h)
 |_=>none
section
variable {X:Cx}{O:List Nat}{e:Expr}{lo hi:Option Expr}{ga:be}{gl gh:DS->Option (Option Int)}{pos p2:Pos}
theorem qB:PO X none (QX X.K O jf):=N4.mono λσ H Q hh=>hh.e λU A0 δ d R ed q=>by cases ed;exact q H (aA.refl H)
theorem iP(h:PE X e (gz X.K O ga)):PO X (some e) (QX X.K O (e9 ga)):=(N5 h).mono λσ H Q hh=>hh.e λU A0 δ d R ed q=>by
 obtain⟨x,e1,e2⟩:=bind1 ed
 cases x with
 |int i=>cases e2;exact⟨U,A0,δ,_,R,e1,λv H' s h=>⟨i,h.int,q H' s⟩⟩
 |_=>cases e2
theorem zU(ha:PE X e (gz X.K O ga))(hl:PO X lo (QX X.K O gl))(hh:PO X hi (QX X.K O gh)):PE X (.Subscript e (.Slice lo hi none p2) pos) (tN X.K O (xX ga gl gh)):=(BS N9 ha hl hh).mono λσ H Q hh=>hh.e λU A0 δ d R ed q=>by
 obtain⟨x,e1,e2⟩:=bind1 ed
 obtain⟨l,e3,e4⟩:=bind1 e2
 obtain⟨h,e5,e6⟩:=bind1 e4
 cases x with
 |list ds=>
   cases e6;refine⟨U,A0,δ,_,R,e1,λv H1 s1 h1=>⟨U,A0,δ,l,R.same s1,e3,λH2 s2=>⟨U,A0,δ,h,R.same (s1.trans s2),e5,λH3 s3=>?_⟩⟩⟩;obtain⟨p,xs,rfl,r1,r2⟩:=(h1.same (s2.trans s3)).list;refine⟨p,xs,rfl,r1.sq,λr hr=>B3 ((s1.trans s2).trans s3) q r _ hr ?_⟩;unfold Ke cutD;rw[r2.len];exact(r2.QS _).QR _
 |_=>cases e6
end
def aM(a b:bB):bB:=λδ=>(a δ).bind λ|.nx δ'=>b δ'|r=>some r
def bF:bB:=λδ=>some (.nx δ)
def gU(c:oR)(a b:bB):bB:=λδ=>(c δ).bind λx=>if x=true then a δ else b δ
def bp(i:Nat)(g:be):bB:=λδ=>(g δ).bind λd=>some (.nx (δ.set i (some d)))
noncomputable def ui(i:Nat)(g:cq):bB:=λδ=>(g δ).bind λd=>some (.nx (δ.set i (some (.list d))))
noncomputable def bo(g:be):bB:=λδ=>(g δ).bind λd=>some (.rt d)
noncomputable def qC(g:be):bB:=λδ=>(g δ).bind λ_=>some (.nx δ)
section
variable {X:Cx}{O:List Nat}{fr:Fr}{xk:Str->Hp->Prop}{st:Stmt}{rest a b:List Stmt}{ga gb:bB}{gc:oR}{ge:be}{gl:cq}{e c:Expr}{pos:Pos}
theorem aq(h1:PS X st (tS X.K O fr ga))(h2:jy X rest (tS X.K O fr gb)):jy X (st::rest) (tS X.K O fr (aM ga gb)):=(mH h1 h2).mono λE σ H hh=>hh.e λH0 U A0 δ r R F ed P=>by
 obtain⟨r1,e1,e2⟩:=bind1 ed
 cases r1 with
 |nx δ'=>exact⟨H0,U,A0,δ,.nx δ',R,F,e1,λU' cQ H' R' F'=>⟨H0,U',A0,δ',r,R',F',e2,P⟩⟩
 |rt d=>cases e2;exact⟨H0,U,A0,δ,_,R,F,e1,P⟩
 |bk d=>cases e2;exact⟨H0,U,A0,δ,_,R,F,e1,P⟩
 |ct d=>cases e2;exact⟨H0,U,A0,δ,_,R,F,e1,P⟩
theorem ar(h1:PS X st (tS X.K O fr ga)):jy X [st] (tS X.K O fr ga):=zw h1
theorem bK:jy X [] (tS X.K O fr bF):=Gf.mono λE σ H hh=>hh.e λH0 U A0 δ r R F ed P=>by cases ed;exact P U σ H R F
theorem cW:PS X st (tS X.K O fr λ_=>none):=JW.mono λE σ H hh=>hh.e λH0 U A0 δ r R F ed P=>by cases ed
theorem cI(hc:PT X c (tT X.K O gc))(ha:jy X a (tS X.K O fr ga))(hb:jy X b (tS X.K O fr gb)):PS X (.If c a b pos) (tS X.K O fr (gU gc ga gb)):=(Qw hc ha hb).mono λE σ H hh=>hh.e λH0 U A0 δ r R F ed P=>by
 obtain⟨x,e1,e2⟩:=bind1 ed
 refine⟨U,A0,δ,x,R,e1,λH' s=>?_⟩
 cases x with
 |true=>rw[aaq rfl]at e2 ⊢;exact⟨H0,U,A0,δ,r,R.same s,F.grow s,e2,P⟩
 |false=>rw[aaO aaZ]at e2 ⊢;exact⟨H0,U,A0,δ,r,R.same s,F.grow s,e2,P⟩
theorem Em(h:PS X st (uC (tE X.K O ge) (mI i)))(hi:i∉O:=by decide):PS X st (tS X.K O fr (bp i ge)):=h.mono λE σ H hh=>hh.e λH0 U A0 δ r R F ed P=>by
 obtain⟨d,e1,e2⟩:=bind1 ed
 cases e2
 exact⟨U,A0,δ,d,R,e1,λv H' s hv=>P U _ H' ((R.same s).set hi hv) (F.grow s)⟩
theorem lq(h:PS X st (uC (tN X.K O gl) (mI i)))(hi:i∈O:=by decide):PS X st (tS X.K O fr (ui i gl)):=h.mono λE σ H hh=>hh.e λH0 U A0 δ r R F ed P=>by
 obtain⟨d,e1,e2⟩:=bind1 ed
 cases e2
 exact⟨U,A0,δ,d,R,e1,λr ys H' s hr h1 h2=>P (r::U) _ H' (R.abc s hr h1 h2 hi) (F.more s hr)⟩
theorem qD(h:PS X st (BK (tE X.K O ge))):PS X st (tS X.K O fr (qC ge)):=h.mono λE σ H hh=>hh.e λH0 U A0 δ r R F ed P=>by
 obtain⟨d,e1,e2⟩:=bind1 ed
 cases e2
 exact⟨U,A0,δ,d,R,e1,λv H' s hv=>P U σ H' (R.same s) (F.grow s)⟩
theorem aW(h:PE X e (tE X.K O ge)):PS X (.Return (some e) pos) (tS X.K O (false,xk) (bo ge)):=(rN h).mono λE σ H hh=>hh.e λH0 U A0 δ r R F ed P=>by
 obtain⟨d,e1,e2⟩:=bind1 ed
 cases e2
 refine⟨U,A0,δ,d,R,e1,λv H' s hv=>P.1 v H' ?_⟩
 exact⟨F.same.trans s,hv.same (iu λa ha=>aad _ ha)⟩
theorem ve(h:PE X e (tN X.K O gl)):PS X (.Return (some e) pos) (tS X.K O (true,xk) (bo (bb gl))):=(rN h).mono λE σ H hh=>hh.e λH0 U A0 δ r R F ed P=>by
 obtain⟨d,e1,e2⟩:=bind1 ed
 cases e2
 unfold bb at e1
 cases eg:gl δ with
 |none=>rw[eg]at e1;cases e1
 |some l=>
   rw[eg]at e1;cases e1;refine⟨U,A0,δ,l,R,eg,λr ys H' s hr h1 h2=>P.1 (.ref r) H' ?_⟩;refine⟨r,_,rfl,F.same.trans s,F.same.free hr,h1,.lst (h2.same (iu λa ha=>?_))⟩;rcases aam.mp ha with z|z;.grind
   .grind
theorem gL(h:PE X e (iO i))(hi:i∈O:=by decide):PS X (.Return (some e) pos) (tS X.K O fr (bo (ae i))):=(rN h).mono λE σ H hh=>hh.e λH0 U A0 δ r R F ed P=>by
 obtain⟨d,e1,e2⟩:=bind1 ed
 cases e2
 obtain⟨l,o,hl,hU,h1,h2⟩:=R.ow i d hi (join_some e1)
 refine⟨.ref l,hl,P.1 (.ref l) H ?_⟩
 unfold zK
 split
 .refine ⟨l,o,rfl,F.same,F.new l hU,h1,h2.same (iu λa ha=>?_)⟩;rcases aam.mp ha with z|z;.grind
  .grind
 .refine ⟨F.same,(h2.same (iu λa ha=>aad _ ha)).hd ?_⟩;rw[aN (F.out hU)];exact h1
def B7(i:Nat)(g:be):bB:=λδ=>(ae i δ).bind λx=>(g δ).bind λd=>match x with
 |.list ds=>if ds.length<100000 then some (.nx (δ.set i (some (.list (ds++[d])))))else none
 |_=>none
set_option tactic.hygienic true in
theorem kH(h:PS X st (BK (tBM X.K "list" Gm (iO i) (Ka (tE X.K O ge) NZ))))(hi:i∈O:=by decide):PS X st (tS X.K O fr (B7 i ge)):=h.mono λE σ H hh=>hh.e λH0 U A0 δ r R F ed P=>by
 obtain⟨x,e1,e2⟩:=bind1 ed
 obtain⟨d,e3,e4⟩:=bind1 e2
 rcases R.owL i x hi (join_some e1)with⟨l,ys,ds,hl,rfl,hU,h1,h2⟩|⟨kds,rfl⟩
 rotate_left
 .grind
 simp only at e4
 split at e4
 .rename_i hz;cases e4;refine⟨.ref l,hl,.inl ⟨rfl,ys,kY.of h1⟩,U,A0,δ,d,R,e3,λv H' s hv=>?_⟩;have X7:=s _ _ h1;have X8:=h2.same (bE (A:=U++A0) s);have hlen:=h2.len;refine⟨l,ys,v,rfl,rfl,X7,mR (by lia),?_⟩;exact P U σ _ ((R.same s).put hi hl hU (X8.app (.cons hv .nil)) ⟨_,join_some e1⟩) ((F.grow s).put hU _)
 .grind
end
noncomputable def By(c:oR)(b:bB):Nat->bB
 |0,_=>none
 |n+1,δ=>(c δ).bind λx=>if x=true then(b δ).bind (λ|.nx δ'=>By c b n δ'|.ct δ'=>By c b n δ'|.bk δ'=>some (.nx δ')|.rt d=>some (.rt d))else some (.nx δ)
theorem En:∀{n:Nat} {δ:DS} {r:Res},By c b n δ=some r->By c b (n+1) δ=some r
 |0,_,_,h=>by cases h
 |n+1,δ,r,h=>by
   rw[By]at h ⊢;obtain⟨x,e1,e2⟩:=bind1 h;rw[e1,aac];cases x with
   |false=>exact e2
   |true=>
     obtain⟨q,e3,e4⟩:=bind1 e2;rw[e3,aac];cases q with
     |nx δ'=>exact En e4
     |ct δ'=>exact En e4
     |bk _=>exact e4
     |rt _=>exact e4
theorem KL(h:By c b n δ=some r)(hm:n<=m):By c b m δ=some r:=by
 induction hm with
 |refl=>exact h
 |step _ ih=>exact En ih
open Classical in
def jJ (c:oR) (b:bB):bB:=λδ=>if h:∃p:Nat×Res,By c b p.1 δ=some p.2 then some (choose h).2 else none
set_option tactic.hygienic true in
theorem B8(h:jJ c b δ=some r):∃n,By c b n δ=some r:=by
 unfold jJ at h
 split at h
 .grind
 .cases h
theorem Ik(h:By c b n δ=some r):jJ c b δ=some r:=by
 have hp:∃p:Nat×Res,By c b p.1 δ=some p.2:=⟨(n,r),h⟩
 unfold jJ
 rw[dif_pos hp]
 have h2:=Classical.choose_spec hp
 have a1:=KL h (Nat.le_max_left n (Classical.choose hp).1)
 have a2:=KL h2 (Nat.le_max_right n (Classical.choose hp).1)
 rw[a1]at a2
 exact a2.symm
theorem Il(W:Nat->DS->Prop)(r:DS->Res->Prop)(m:Nat)(δ:DS)(h:W m δ)
  (hs:∀m δ,W m δ->(c δ=some false/\r δ (.nx δ))\/(c δ=some true/\((∃δ' m',(b δ=some (.nx δ')\/b δ=some (.ct δ'))/\m'<m/\W m' δ'/\∀q,r δ' q->r δ q)\/(∃δ',b δ=some (.bk δ')/\r δ (.nx δ'))\/∃d,b δ=some (.rt d)/\r δ (.rt d)))):
  ∃q,jJ c b δ=some q/\r δ q:=by
 suffices hh:∀k m δ,m<k->W m δ->∃n q,By c b n δ=some q/\r δ q by
  obtain⟨n,q,e,hq⟩:=hh (m+1) m δ (acp m) h;exact⟨q,Ik e,hq⟩
 intro k
 induction k with
 |zero=>intro m δ hm;lia
 |succ k ih=>
   intro m δ hm hW;rcases hs m δ hW with⟨hc,hr⟩|⟨hc,⟨δ',m',hb,i9,hW',imp⟩|⟨δ',hb,hr⟩|⟨d,hb,hr⟩⟩;.exact ⟨1,_,by rw[By,hc];rfl,hr⟩
   .obtain ⟨n,q,e,hq⟩:=ih m' δ' (by lia) hW';refine⟨n+1,q,?_,imp q hq⟩;rw[By,hc,aac,aaq rfl];rcases hb with hb|hb<;>rw[hb,aac]<;>exact e
   .exact ⟨1,_,by rw[By,hc,aac,aaq rfl,hb];rfl,hr⟩
   .exact ⟨1,_,by rw[By,hc,aac,aaq rfl,hb];rfl,hr⟩
section
variable {X:Cx}{O:List Nat}{fr:Fr}{body:List Stmt}{gb:bB}{gc:oR}{c:Expr}{pos:Pos}
theorem vK(hp:PassesOwn (model X.prog X.w) X.A X.env X.xe)(hc:PT X c (tT X.K O gc))(hb:jy X body (tS X.K O fr gb)):PS X (.While c body [] pos) (tS X.K O fr (jJ gc gb)):=(JY hp hc hb).mono λE σ H hh=>hh.e λH0 U A0 δ r R F ed P=>by
 obtain⟨n,en⟩:=B8 ed
 refine⟨λm σ H=>∃U δ,Rel X.K O U A0 σ δ H/\Fx H0 A0 U H/\By gc gb m δ=some r,⟨n,U,δ,R,F,en⟩,?_⟩
 rintro m σ H ⟨U,δ,R,F,em⟩
 cases m with
 |zero=>cases em
 |succ m=>
   obtain⟨x,e1,e2⟩:=bind1 em;refine⟨U,A0,δ,x,R,e1,λH' s=>?_⟩;cases x with
   |false=>rw[aaO aaZ]at e2 ⊢;cases e2;exact P U σ H' (R.same s) (F.grow s)
   |true=>
     obtain⟨q,e3,e4⟩:=bind1 e2;refine⟨λcQ H'=>∃m',m'<m+1/\∃U δ,Rel X.K O U A0 cQ δ H'/\Fx H0 A0 U H'/\By gc gb m' δ=some r,λ_ _ h=>h,H0,U,A0,δ,q,R.same s,F.grow s,e3,?_⟩;cases q with
     |nx δ'=>exact λU' cQ H' R' F'=>⟨m,acp m,U',δ',R',F',e4⟩
     |ct δ'=>exact λU' cQ H' R' F'=>⟨m,acp m,U',δ',R',F',e4⟩
     |bk δ'=>cases e4;exact P
     |rt d=>cases e4;exact P
end
def aO(i:Nat):D->DS->Option DS:=λd δ=>some (δ.set i (some d))
noncomputable def kI(n:Nat)(g:List D->DS->Option DS):D->DS->Option DS:=λd δ=>match d with
 |.tuple ds=>if ds.length=n then g ds δ else none
 |_=>none
def jW:List D->DS->Option DS:=λds δ=>if ds=[]then some δ else none
def cE(t:D->DS->Option DS)(u:List D->DS->Option DS):List D->DS->Option DS:=λds δ=>match ds with
 |d::r=>(t d δ).bind λδ'=>u r δ'
 |[]=>none
def TH(K:ak)(O:List Nat)(g:List D->DS->Option DS):SK:=λvs σ H Q=>∃U A0 δ ds δ',Rel K O U A0 σ δ H/\cC K (wo H (U++A0)) vs ds/\g ds δ=some δ'/\∀cQ,Rel K O U A0 cQ δ' H->Q cQ H
theorem TH.e{K:ak}  {GG:Prop}(hh:TH K O g vs σ H Q)(kk:∀U A0 δ ds δ',(Rel K O U A0 σ δ H)->(cC K (wo H (U++A0)) vs ds)->(g ds δ=some δ')->(∀cQ,Rel K O U A0 cQ δ' H->Q cQ H)->GG):GG:=by obtain⟨U,A0,δ,ds,δ',x0,x1,x2,x3⟩:=hh;exact kk U A0 δ ds δ' x0 x1 x2 x3
section
variable {X:Cx}{O:List Nat}{e:Expr}{es:List Expr}{pos:Pos}
theorem HM.mono(h:HM X es t)(m:∀v σ H Q,t' v σ H Q->t v σ H Q):HM X es t':=λpins s σ H v u Q I r q=>h pins s σ H v u Q I r (m v σ H Q q)
theorem aI(h:PG X e (mI i))(hi:i∉O:=by decide):PG X e (tG X.K O (aO i)):=h.mono λv σ H Q hh=>hh.e λU A0 δ d δ' R hd e1 q=>by
 cases e1
 exact q _ (R.set hi hd)
set_option tactic.hygienic true in
theorem lr:HM X [] (TH X.K O jW):=NU.mono λvs σ H Q hh=>hh.e λU A0 δ ds δ' R hd e1 q=>by
 unfold jW at e1
 split at e1
 .rename_i hz;cases e1;subst hz;cases hd;exact⟨rfl,q σ R⟩
 .grind
theorem di(h1:PG X e (tG X.K O t))(h2:HM X es (TH X.K O u))(hs:(assignEach (e::es) X.env).map (·.2)=assign e X.env::(assignEach es X.env).map (·.2):=by rfl):HM X (e::es) (TH X.K O (cE t u)):=
 (JX h1 h2 hs).mono λvs σ H Q hh=>hh.e λU A0 δ ds δ' R hd e1 q=>by
  cases hd with
  |nil=>cases e1
  |cons hx hr=>
    obtain⟨gY,e2,e3⟩:=bind1 e1;exact⟨_,_,rfl,U,A0,δ,_,gY,R,hx,e2,λBu R1=>⟨U,A0,gY,_,δ',R1,hr,e3,q⟩⟩
set_option tactic.hygienic true in
theorem oj(hc:X.calm=true)(h:HM X es (TH X.K O t))(hn:(assignEach es X.env).length=n:=by rfl)(Bv:(assignEach es X.env).findIdx? (·.1)=none:=by rfl):PG X (.Tuple es k pos) (tG X.K O (kI n t)):=
 (SM hc h hn Bv).mono λv σ H Q hh=>hh.e λU A0 δ d δ' R hd e1 q=>by
  unfold kI at e1;split at e1
  .split at e1
   .rename_i hz;obtain⟨a,xs,rfl,h1,h2⟩:=(iX.of hd).tuple;exact⟨a,xs,rfl,h1,by rw[h2.len];exact hz,U,A0,δ,_,δ',R,h2,e1,q⟩
   .grind
  .grind
end
noncomputable def ls(t:D->DS->Option DS)(b:bB):List D->bB
 |[],δ=>some (.nx δ)
 |d::ds,δ=>(t d δ).bind λgY=>(b gY).bind λ|.nx δ'=>ls t b ds δ'|.ct δ'=>ls t b ds δ'|.bk δ'=>some (.nx δ')|.rt d=>some (.rt d)
def fS(gi:cq)(t:D->DS->Option DS)(b:bB):bB:=λδ=>(gi δ).bind λds=>ls t b ds δ
theorem Fx.X9(F:Fx H0 A0 U H)(s:aA (wo H U) H'):aA H0 H':=λa o e=>s a o (by
 rw[aN λz=>?_]
 .exact F.same _ _ e
 .rw [F.new a z]at e;cases e)
set_option tactic.hygienic true in
theorem zK.trans{K:ak}(F:Fx H0 A0 U H)(h:zK K fr (wo H U) A0 v d H'):zK K fr H0 A0 v d H':=by
 have k:∀a o,H0 a=some o->wo H U a=some o:=λa o e=>by
  rw[aN λz=>?_];.exact F.same _ _ e
  .rw [F.new a z]at e;cases e
 unfold zK at h ⊢
 split
 .rename_i hf;rw[aaq hf]at h;obtain⟨r,ob,a,c,e,f,g⟩:=h;refine⟨r,ob,a,λx o q=>c _ _ (k x o q),?_,f,g⟩;cases q:H0 r with
  |none=>rfl
  |some o=>rw[k r o q]at e;cases e
 .rename_i hf;rw[aaO hf]at h;exact⟨λx o q=>h.1 _ _ (k x o q),h.2⟩
section
variable {X:Cx}{O:List Nat}{fr:Fr}{body:List Stmt}{gb:bB}{gi:cq}{tg iter:Expr}{gt:D->DS->Option DS}{pos:Pos}
theorem fb(hp:PassesOwn (model X.prog X.w) X.A X.env X.xe)(hc:X.calm=true)(hi:PI X tg iter (tI X.K O gi))(hg:PG X tg (tG X.K O gt))(hb:jy X body (tS X.K O fr gb))
  (hs:∀x,foldedSetIterable iter X.env x=pure x:=by intro _;rfl):PS X (.For tg iter body [] pos) (tS X.K O fr (fS gi gt gb)):=(J2 hp hc hi hg hb hs).mono λE σ H hh=>hh.e λH0 U A0 δ r R F ed P=>by
 obtain⟨ds,e1,e2⟩:=bind1 ed
 refine⟨U,A0,δ,ds,R,e1,λJ H1 s hw=>?_⟩
 have F1:=F.grow s
 refine⟨λi m σ H=>m=ds.length-i/\i<=ds.length/\∃U2 δ,Rel X.K O U2 A0 σ δ H/\Fx H0 A0 U2 H/\Fx (wo H1 U) A0 U2 H/\ls gt gb (ds.drop i) δ=some r,⟨ds.length,by simp,Nat.zero_le _,U,δ,R.same s,F1,F1.here,by simpa using e2⟩,?_⟩
 rintro i m σ H ⟨rfl,hle,U2,δ,R2,F2,G2,ef⟩
 obtain⟨Yb,B9⟩:=hw (U2++A0) i H G2.keeps R2.al
 by_cases i9:i<ds.length
 .obtain ⟨d,hd⟩:∃d,ds[i]?=some d:=⟨_,aau i9⟩;have KN:ds.drop i=d::ds.drop (i+1):=by
   rw[acW i9];rw[aau i9]at hd;cases hd;rfl
  obtain⟨go,hy⟩:=Yb d hd;rw[KN,ls]at ef;obtain⟨gY,e3,e4⟩:=bind1 ef;obtain⟨q,e5,e6⟩:=bind1 e4;refine .inr ⟨go,λcQ H'=>∃m',m'<ds.length-i/\(m'=ds.length-(i+1)/\i+1<=ds.length/\∃U2 δ,Rel X.K O U2 A0 cQ δ H'/\Fx H0 A0 U2 H'/\Fx (wo H1 U) A0 U2 H'/\ls gt gb (ds.drop (i+1)) δ=some r),λ_ _ h=>h,λx H2 y=>?_⟩;obtain⟨s2,hx⟩:=hy x H2 y;refine⟨U2,A0,δ,d,gY,R2.same s2,hx,e3,λcQ R'=>?_⟩;have F3:=F2.grow s2;have G3:=G2.grow s2;refine⟨wo H2 U2,U2,A0,gY,q,R',F3.here,e5,?_⟩;cases q with
  |nx δ'=>exact λU' cQ H' R' F'=>⟨_,by lia,rfl,i9,U',δ',R',F3.trans F',G3.trans F',e6⟩
  |ct δ'=>exact λU' cQ H' R' F'=>⟨_,by lia,rfl,i9,U',δ',R',F3.trans F',G3.trans F',e6⟩
  |bk δ'=>cases e6;exact λU' cQ H' R' F'=>P U' cQ H' R' (F3.trans F')
  |rt d=>cases e6;exact⟨λv H' h=>P.1 v H' (h.trans F3),λc H' e s=>P.2 c H' e (F3.X9 s)⟩
 .have hi:i=ds.length:=by lia
  subst hi;rw[ae1,ls]at ef;cases ef;exact .inl ⟨B9 rfl,P U2 σ H R2 F2⟩
end
def jK(lo:Int)(n:Nat):List D:=(List.range n).map λk:Nat=>PyData.int (lo+k)
theorem Eo{lo:Int}(h:(jK lo n)[i]?=some d):i<n/\d=.int (lo+i):=by
 unfold jK at h
 rw[aa4]at h
 cases e:(List.range n)[i]? with
 |none=>rw[e]at h;cases h
 |some k=>grind
theorem Ep{lo:Int}:(jK lo n).length=n:=by unfold jK;simp
theorem Ca{K:ak}{lo:Int}:Walks K A H1 (ZP lo n) (jK lo n):=by
 intro A' i H _ _
 refine⟨λd hd=>?_,λhi=>?_⟩
 .obtain ⟨hi,rfl⟩:=Eo hd;refine⟨hi,λx H2 y=>?_⟩;obtain⟨rfl,rfl⟩:=y;exact⟨aA.refl _,.int _⟩
 .rw [Ep]at hi;subst hi;exact aah _
noncomputable def eX(g:cq):cq:=λδ=>(g δ).bind λ|[.int j]=>if -(2^62)<=j/\j<2^62 then some (jK 0 j.toNat)else none|_=>none
noncomputable def aZ(g:be):cq:=λδ=>(g δ).bind λ|.list l=>some l|.tuple l=>some l|_=>none
section
variable {X:Cx}{O:List Nat}{tg a b e:Expr}{gr:cq}{ge:be}{pos p:Pos}
set_option tactic.hygienic true in
theorem gM(hm:X.mg "range"=none)(ha:PA X [a] (vD X.K O gr))(hg:Gl X "range":=by rfl)(hs:starEach [a] X.env=[(false,eval a X.env)]:=by rfl):PI X tg (.Call (.Name "range" p) [a] [] pos) (tI X.K O (eX gr)):=(HQ hg hm ha hs).mono λσ H Q hh=>hh.e λU A0 δ ds R ed q=>by
 obtain⟨x,e1,e2⟩:=bind1 ed
 refine⟨U,A0,δ,x,R,e1,λvs H' s h=>?_⟩
 split at e2
 .split at e2
  .rename_i hz;cases e2;cases h with
   |cons h1 h2=>
     cases h2;cases h1;exact⟨_,rfl,hz.1,hz.2,q _ H' s Ca⟩
  .grind
 .grind
def abg(K:ak)(tl:TE):TI:=λσ H R=>tl σ H λx H1=>(∃a,x=.ref a/\(∃xs,kY K H1 a xs)/\R (Itl K a) H1)\/∃a,x=.ref a/\(∃xs,kg K H1 a xs)/\R (Itt K a) H1
theorem TJ(hl:PE X l tl):PI X tg l (abg X.K tl):=by
 intro pins s σ H R I h
 refine dw (hl pins s σ H _ I h) λv s1 ⟨x,H1,I1,r1,q1⟩=>?_
 rcases q1 with⟨a,e,⟨xs,hq⟩,q⟩|⟨a,e,⟨xs,hq⟩,q⟩
 .subst e;cases r1;obtain⟨its,rv,p,hz⟩:=I1.list hq;refine adU p.isList ?_;refine⟨s1.heap.objs.size,[s1.heap.objs.size],_,_,H1,rfl,I1.kept (t':=s1.toks) λb o e=>aab _ e,HP a _,⟨_,aag _ rfl,rfl,rfl⟩,λb hb=>?_,q⟩;have e:b=s1.heap.objs.size:=by simpa using hb
  subst e;exact I1.uE (aah _) (I1.bM.fresh (aah _))
 .subst e;cases r1;obtain⟨its,rv,p,hz⟩:=I1.tuple hq;refine wpAny_pyIter_tuple (show s1.heap.IsTuple a its.toArray from p) ?_;refine⟨s1.heap.objs.size,[s1.heap.objs.size],_,_,H1,rfl,I1.kept (t':=s1.toks) λb o e=>aab _ e,DW a _,⟨_,aag _ rfl,rfl,rfl⟩,λb hb=>?_,q⟩;have e:b=s1.heap.objs.size:=by simpa using hb
  subst e;exact I1.uE (aah _) (I1.bM.fresh (aah _))
theorem cy(h:PE X e (tE X.K O ge)):PI X tg e (tI X.K O (aZ ge)):=(TJ h).mono λσ H Q hh=>hh.e λU A0 δ ds R ed q=>by
 obtain⟨x,e1,e2⟩:=bind1 ed
 cases x with
 |list l=>
   cases e2;refine⟨U,A0,δ,_,R,e1,λv H' s h=>?_⟩;cases h with
   |lst hq h=>
     refine .inl ⟨_,rfl,⟨_,(hq.same bN).sq⟩,q _ H' s ?_⟩;intro A' i H2 s2 _;have Im:=hq.same s2;have h2:=h.same s2;have hL:=(Im.same bN).sq;refine⟨λd hd=>?_,λhi=>⟨_,hL,by rw[h2.len];lia⟩⟩;obtain⟨x,hx,hxd⟩:=h2.get hd;refine⟨⟨_,x,hL,hx⟩,λy H3 hy=>?_⟩;obtain⟨rfl,hy⟩:=hy;have:=hy _ hL;rw[hx]at this;cases this;exact⟨aA.refl _,hxd⟩
 |tuple l=>
   cases e2;refine⟨U,A0,δ,_,R,e1,λv H' s h=>?_⟩;cases h with
   |tup hq h=>
     refine .inr ⟨_,rfl,⟨_,(.inl (bN.mq hq))⟩,q _ H' s ?_⟩;intro A' i H2 s2 _;have Im:=s2.mq hq;have h2:=h.same s2;have hL:kg X.K H2 _ _:=.inl (bN.mq Im);refine⟨λd hd=>?_,λhi=>⟨_,hL,by rw[h2.len];lia⟩⟩;obtain⟨x,hx,hxd⟩:=h2.get hd;refine⟨⟨_,x,hL,hx⟩,λy H3 hy=>?_⟩;obtain⟨rfl,hy⟩:=hy;have:=hy _ hL;rw[hx]at this;cases this;exact⟨aA.refl _,hxd⟩
 |_=>cases e2
end
def iQ(ix:List Nat)(δ:DS):DS:=ix.map λj=>(δ[j]?).join
noncomputable def KO(f:D->Option D):List D->fV
 |[]=>some []
 |d::ds=>(f d).bind λx=>(KO f ds).bind λxs=>some (x::xs)
def cN(gi:cq)(ix:List Nat)(ge:be):cq:=λδ=>(gi δ).bind λds=>if ds.length<=100000 then KO (λd=>ge (some d::iQ ix δ)) ds else none
section
variable {X:Cx}{O:List Nat}
theorem PS.nE{st:Stmt}(h:PS X st (uC (tN X.K O g) (mI i))):PS X st (uC (tE X.K O (bb g)) (mI i)):=h.mono λ_ _ _ h=>QU h
end
noncomputable def fT:Res->Option D
 |.rt d=>some d
 |.nx _=>some .none
 |_=>none
noncomputable def qE:Res->fV
 |.rt (.list l)=>some l
 |_=>none
def fB(n:Nat)(g:bB):List D->Option D:=λds=>(g (ds.map some++List.replicate (n-ds.length) none)).bind fT
def qF(n:Nat)(g:bB):List D->fV:=λds=>(g (ds.map some++List.replicate (n-ds.length) none)).bind qE
theorem Rel.start{K:ak}(al:Ls A H)(h:cC K (wo H A) vs ds)(hO:∀i∈O,ds.length<=i):Rel K O [] A (start N vs) (ds.map some++List.replicate (N.length-ds.length) none) H:=by
 have hl:=h.len
 have none_of:∀(i:Nat) d,ds.length<=i->(ds.map some++List.replicate (N.length-ds.length) none)[i]?=some (some d)->False:=by grind
 exact{
  len:=by unfold L2.start;simp[hl]
  fz:=λi d _ q=>by
   by_cases hi:i<ds.length
   .rw [List.getElem?_append_left (by simpa using hi),List.getElem?_map,List.getElem?_eq_getElem hi]at q;obtain⟨v,e,hv⟩:=h.get (aau hi);refine⟨v,?_,?_⟩;.unfold L2.start;rw[List.getElem?_append_left (by rw[aaj];lia),aa4,e];rfl
    .grind
   .grind
  ow:=λi d hi q=>(none_of i d (hO i hi) q).elim
  inj:=λi j d e l hi _ _ q=>(none_of i d (hO i hi) q).elim
  al:=al}
theorem Fx.start(al:Ls A H):Fx H A [] H:=⟨aA.refl H,λ_ h=>by simp at h,al⟩
section
variable {P:Program}{w:World}{K:ak}{mg:dO}{base:Heap}{x:Str}{st:Stmt}{N ps:List Str}{k:Nat}
theorem cc(O:List Nat)(g:bB)(F:Df K mg x st ps)(S:aB N ps (ah st))
  (body:∀(f:Addr) (cn:Value) (A:Around) (outer:List Env) (s:Shared) (H:Hp) (E:XK),de k (A.deeper (envOfC x (ah st) s.heap.objs.size f cn))->jy (jd xQ P w K mg base N x (ah st) f cn A outer s H E).JG (bP st) (tS K O (false,λ_ _=>True) g))
  (hO:∀i∈O,ps.length<=i:=by decide)(hN:N.length=n:=by rfl)(hP:ps.length=m:=by rfl):Dn P w K mg base (k+1) x ps (kF K m (fB n g)):=by
 subst hN hP
 refine F.ok S (λvs H Q E h=>h.1) (λf cn A outer s H vs Q E hr h=>⟨_,body f cn A outer s H E hr,?_⟩)
 obtain⟨hn,A',ds,d,al,hd,e,q⟩:=h
 obtain⟨r,e1,e2⟩:=bind1 e
 refine⟨H,[],A',_,r,Rel.start al hd (λi hi=>by have:=hO i hi;rw[<-hd.len,hn];exact this),Fx.start al,e1,?_⟩
 cases r with
 |nx δ=>cases e2;exact λU σ H' R F'=>q .ib H' F'.same .ib
 |rt d=>cases e2;exact⟨λv H' h=>by unfold zK at h;rw[if_neg Bool.false_ne_true]at h;exact q v H' h.1 h.2,λ_ _ _ _=>trivial⟩
 |bk _=>cases e2
 |ct _=>cases e2
theorem QY(O:List Nat)(g:bB)(F:xR K x x st f fd)(S:aB N ps (ah st))
  (body:∀(f:Addr) (cn:Value) (A:Around) (outer:List Env) (s:Shared) (H:Hp) (E:XK),de k (A.deeper (envOfC x (ah st) s.heap.objs.size f cn))->jy (jd xQ P w K mg base N x (ah st) f cn A outer s H E).JG (bP st) (tS K O (false,λ_ _=>True) g))
  (hO:∀i∈O,ps.length<=i:=by decide)(hN:N.length=n:=by rfl)(hP:ps.length=m:=by rfl):la P w K mg base xQ (k+1) f fd ps (kF K m (fB n g)):=by
 subst hN hP
 refine F.ok S (λvs H Q E h=>h.1) (λcn A outer s H vs Q E hr h=>⟨_,body f cn A outer s H E hr,?_⟩)
 obtain⟨hn,A',ds,d,al,hd,e,q⟩:=h
 obtain⟨r,e1,e2⟩:=bind1 e
 refine⟨H,[],A',_,r,Rel.start al hd (λi hi=>by have:=hO i hi;rw[<-hd.len,hn];exact this),Fx.start al,e1,?_⟩
 cases r with
 |nx δ=>cases e2;exact λU σ H' R F'=>q .ib H' F'.same .ib
 |rt d=>cases e2;exact⟨λv H' h=>by unfold zK at h;rw[if_neg Bool.false_ne_true]at h;exact q v H' h.1 h.2,λ_ _ _ _=>trivial⟩
 |bk _=>cases e2
 |ct _=>cases e2
theorem jX(O:List Nat)(g:bB)(F:Df K mg x st ps)(S:aB N ps (ah st))
  (body:∀(f:Addr) (cn:Value) (A:Around) (outer:List Env) (s:Shared) (H:Hp) (E:XK),de k (A.deeper (envOfC x (ah st) s.heap.objs.size f cn))->jy (jd xQ P w K mg base N x (ah st) f cn A outer s H E).JG (bP st) (tS K O (true,λ_ _=>True) g))
  (hO:∀i∈O,ps.length<=i:=by decide)(hN:N.length=n:=by rfl)(hP:ps.length=m:=by rfl):Dn P w K mg base (k+1) x ps (KG K m (qF n g)):=by
 subst hN hP
 refine F.ok S (λvs H Q E h=>h.1) (λf cn A outer s H vs Q E hr h=>⟨_,body f cn A outer s H E hr,?_⟩)
 obtain⟨hn,A',ds,d,al,hd,e,q⟩:=h
 obtain⟨r,e1,e2⟩:=bind1 e
 refine⟨H,[],A',_,r,Rel.start al hd (λi hi=>by have:=hO i hi;rw[<-hd.len,hn];exact this),Fx.start al,e1,?_⟩
 cases r with
 |rt d'=>
   refine⟨λv H' h=>?_,λ_ _ _ _=>trivial⟩;obtain⟨r,ob,rfl,a,b,c,f⟩:=h;cases f with
   |lst f=>cases e2;exact q r _ H' a b c f
   |uH _ _=>cases e2
 |nx δ=>cases e2
 |bk _=>cases e2
 |ct _=>cases e2
end
noncomputable def iZ(f f':D->D->Option D)(a b c:be):be:=λδ=>(a δ).bind λx=>(b δ).bind λy=>(f x y).bind λz=>match z with
 |.bool true=>(c δ).bind λw=>f' y w
 |.bool false=>some (.bool false)
 |_=>none
section
variable {X:Cx}{O:List Nat}{a b c:Expr}{ga gb gc:be}{pos:Pos}{r r':R2}
theorem Cb{K:ak}(imp:iY K r f)(imp':iY K r' f'):tE K O (iZ f f' ga gb gc) σ H Q->DZ r r' (gz K O ga) (gz K O gb) (gz K O gc) σ H Q:=λ⟨U,A0,δ,d,R,ed,q⟩=>by
 obtain⟨x,e1,ed⟩:=bind1 ed
 obtain⟨y,e2,ed⟩:=bind1 ed
 obtain⟨z,e3,ed⟩:=bind1 ed
 refine⟨U,A0,δ,x,R,e1,λv1 H1 s1 h1=>⟨U,A0,δ,y,R.same s1,e2,λv2 H2 s2 h2=>imp _ H2 v1 v2 x y z _ (R.same (s1.trans s2)).al (h1.same s2) h2 e3 λv3 H3 s3 h3=>?_⟩⟩
 cases z with
 |bool k=>
   cases h3;refine⟨k,rfl,?_⟩;cases k with
   |true=>
     obtain⟨w,e4,e5⟩:=bind1 ed;first
      |rw[aaq rfl]
      |skip
     exact⟨U,A0,δ,w,R.same ((s1.trans s2).trans s3),e4,λv4 H4 s4 h4=>imp' _ H4 v2 v4 y w d Q (R.same (((s1.trans s2).trans s3).trans s4)).al (h2.same (s3.trans s4)) h4 e5 λv H' s h=>q v H' ((((s1.trans s2).trans s3).trans s4).trans s) h⟩
   |false=>
     cases ed;exact q _ H3 ((s1.trans s2).trans s3) (.bl _)
 |_=>cases ed
theorem KP(ho:jz X (compareOp op) r)(imp:iY X.K r f)(DU:jz X (compareOp op') r')(imp':iY X.K r' f')(ha:PE X a (gz X.K O ga))(hb:PE X b (gz X.K O gb))(hc:PE X c (gz X.K O gc))(hm:lastMarks [op,op'] [b,c]=false:=by with_unfolding_all rfl):PE X (.Compare a [op,op'] [b,c] pos) (tE X.K O (iZ f f' ga gb gc)):=(J5 ho DU ha hb hc hm).mono λ_ _ _=>Cb imp imp'
theorem r9(ho:jz X (compareOp op) r)(imp:iY X.K r f)(DU:jz X (compareOp op') r')(imp':iY X.K r' f')(ha:PE X a (gz X.K O ga))(hb:PE X b (gz X.K O gb))(hc:PE X c (gz X.K O gc))(hm:lastMarks [op,op'] [b,c]=false:=by with_unfolding_all rfl):PT X (.Compare a [op,op'] [b,c] pos) (tT X.K O (gB (iZ f f' ga gb gc))):=(J6 ho DU ha hb hc hm).mono λ_ _ _=>QV λ_ _ _=>Cb imp imp'
end
noncomputable def OA(i j:Nat)(g:cq):bB:=λδ=>(g δ).bind λ|[x,y]=>some (.nx ((δ.set i (some x)).set j (some y)))|_=>none
section
variable {X:Cx}{O:List Nat}{fr:Fr}{st:Stmt}{gr:cq}{i j:Nat}
theorem TL(h:PS X st (Xs i j (vD X.K O gr)))(hi:i∉O:=by decide)(hj:j∉O:=by decide):PS X st (tS X.K O fr (OA i j gr)):=h.mono λE σ H hh=>hh.e λH0 U A0 δ r R F ed P=>by
 obtain⟨ds,e1,e2⟩:=bind1 ed
 split at e2
 .cases e2;refine⟨U,A0,δ,_,R,e1,λvs H' s hv=>?_⟩;cases hv with
  |cons h1 h2=>cases h2 with
    |cons h2 h3=>
      cases h3;exact⟨_,_,rfl,P U _ H' (((R.same s).set hi h1).set hj h2) (F.grow s)⟩
 .grind
end
noncomputable def KQ:D->Option D
 |.int i=>some (.int (Builtin.Int.intBits i:Nat))
 |_=>none
theorem OB(ho:PE X o (gz X.K O ga))(jG:attributeBase o "bit_length" X.env (eval o X.env)=eval o X.env:=by rfl)(jH:(apos.endLine==cR.line)=true:=by rfl):
  PE X (.Call (.Attribute o "bit_length" apos) [] [] cR) (tE X.K O (g1 KQ ga)):=(Oi ho jG jH).mono λσ H Q hh=>hh.e λU A0 δ d R ed q=>by
 obtain⟨x,e1,e2⟩:=bind1 ed
 cases x with
 |int i=>
   cases e2;refine⟨U,A0,δ,_,R,e1,λv H' s h=>?_⟩;rw[h.int];exact⟨rfl,i,rfl,rfl,q _ H' s (.int _)⟩
 |_=>cases e2
def kJ:D->Bool
 |.none|.bool _|.int _|.str _=>true
 |_=>false
noncomputable def dV:D->V
 |.none=>.ib
 |.bool b=>.bl b
 |.int i=>.int i
 |.str x=>.str x
 |_=>.ib
def V2(a b:D):Bool:=Oa (dV a) (dV b)
def JH:D->D->Option D:=λx y=>match y with
 |.list l=>if(kJ x&&l.all kJ)=true then some (.bool (l.any λz=>V2 z x))else none
 |.tuple l=>if(kJ x&&l.all kJ)=true then some (.bool (l.any λz=>V2 z x))else none
 |_=>none
def i3:D->D->Option D:=λx y=>(JH x y).bind λ|.bool c=>some (.bool (!c))|_=>none
theorem iX.flat{K:ak}(h:iX K A H v d)(f:kJ d=true):v=dV d/\mf v=true:=by
 cases d with
 |none=>rw[h.ib];exact⟨rfl,rfl⟩
 |bool b=>rw[h.bool];exact⟨rfl,rfl⟩
 |int i=>rw[h.int];exact⟨rfl,rfl⟩
 |str x=>rw[h.str];exact⟨rfl,rfl⟩
 |_=>cases f
theorem cC.flat{K:ak}:∀{xs:List V} {ds:List D},cC K H xs ds->ds.all kJ=true->xs=ds.map dV/\xs.all mf=true
 |_,_,.nil,_=>⟨rfl,rfl⟩
 |_,_,.cons h t,f=>by
   rw[adE,aax]at f;obtain⟨e1,e2⟩:=cC.flat t f.2;obtain⟨e3,e4⟩:=(iX.of (A:=[]) (by rw[Kt];exact h)).flat f.1;exact⟨by rw[aaw,<-e1,<-e3],by rw[adE,e4,e2];rfl⟩
theorem QZ(x:D)(l:List D):XN (dV x) (l.map dV)=l.any λz=>V2 z x:=by
 unfold XN V2
 rw[ael];rfl
section
variable {X:Cx}
theorem KR:jz X (compareOp .In) (VZ X.K false):=HX
theorem sd:jz X (compareOp .NotIn) (VZ X.K true):=zC
end
set_option tactic.hygienic true in
theorem GB{K:ak}(hx:iX K A H x dx)(hy:iX K A H y dy)(e:JH dx dy=some d):∃p xs b,y=.ref p/\(kY K H p xs\/kg K H p xs)/\mf x=true/\xs.all mf=true/\d=.bool b/\XN x xs=b:=by
 unfold JH at e
 split at e
 .split at e
  .rename_i hf;rw[aax]at hf;cases e;obtain⟨p,xs,rfl,h1,h2⟩:=hy.list;obtain⟨e1,e2⟩:=h2.flat hf.2;obtain⟨e3,e4⟩:=hx.flat hf.1;exact⟨p,xs,_,rfl,.inl h1.sq,e4,e2,rfl,by rw[e1,e3,QZ]⟩
  .cases e
 .split at e
  .rename_i hf;rw[aax]at hf;cases e;obtain⟨p,xs,rfl,h1,h2⟩:=hy.tuple;obtain⟨e1,e2⟩:=h2.flat hf.2;obtain⟨e3,e4⟩:=hx.flat hf.1;exact⟨p,xs,_,rfl,.inr h1,e4,e2,rfl,by rw[e1,e3,QZ]⟩
  .cases e
 .cases e
theorem KS{K:ak}:iY K (VZ K false) JH:=by
 intro A H x y dx dy d Q al hx hy e q
 obtain⟨p,xs,b,h1,h2,h3,h4,rfl,h5⟩:=GB hx hy e
 refine⟨p,xs,h1,h2,h3,h4,?_⟩
 rw[h5]
 exact q _ H (aA.refl H) (.bl _)
theorem se{K:ak}:iY K (VZ K true) i3:=by
 intro A H x y dx dy d Q al hx hy e q
 obtain⟨c,e1,e2⟩:=bind1 e
 obtain⟨p,xs,b,h1,h2,h3,h4,rfl,h5⟩:=GB hx hy e1
 cases e2
 refine⟨p,xs,h1,h2,h3,h4,?_⟩
 rw[h5]
 exact q _ H (aA.refl H) (.bl _)
theorem GC(a b:Int):V2 (.int a) (.int b)=decide (a=b):=rfl
section
variable {X:Cx}{O:List Nat}{fr:Fr}{st:Stmt}{gl:cq}{i:Nat}
def KU(i:Nat)(g:cq):bB:=λδ=>(ae i δ).bind λx=>(g δ).bind λzs=>match x with
 |.list ds=>if ds.length+zs.length<=100000 then some (.nx (δ.set i (some (.list (ds++zs)))))else none
 |_=>none
set_option tactic.hygienic true in
theorem yV(h:PS X st (BK (tBM X.K "list" Gn (iO i) (Ka (tN X.K O gl) NZ))))(hi:i∈O:=by decide):PS X st (tS X.K O fr (KU i gl)):=h.mono λE σ H hh=>hh.e λH0 U A0 δ r R F ed P=>by
 obtain⟨x,e1,e2⟩:=bind1 ed
 obtain⟨zs,e3,e4⟩:=bind1 e2
 rcases R.owL i x hi (join_some e1)with⟨l,ys,ds,hl,rfl,hU,h1,h2⟩|⟨kds,rfl⟩
 rotate_left
 .grind
 simp only at e4
 split at e4
 .rename_i hz;cases e4;refine⟨.ref l,hl,.inl ⟨rfl,ys,kY.of h1⟩,U,A0,δ,zs,R,e3,λp ws H' s hp hp1 ZT=>?_⟩;have X7:=s _ _ h1;have X8:=h2.same (bE (A:=U++A0) s);have hp3:=ZT.same (iu (A':=U++A0) λa ha=>aap _ ha);have hlen:=h2.len;have Q0:=ZT.len;refine⟨l,p,ys,ws,rfl,rfl,X7,hp1,small (by lia),?_⟩;exact P U σ _ ((R.same s).put hi hl hU (X8.app hp3) ⟨_,join_some e1⟩) ((F.grow s).put hU _)
 .grind
end
section
end
section
variable {X:Cx}{pins:cz}{σ:St}{H:Hp}{s:Shared}{h':Heap}
theorem Inv.jY{ch:List Addr}(I:Inv X pins σ H s)(k:∀b o,b∉ch->s.heap.get? b=some o->h'.get? b=some o)(hf:∀b∈ch,uD X pins H b):Inv X pins σ H {s with heap:=h',toks:=t'}:=by
 have nit:∀b u,H b=some u->b∉ch:=λb u e z=>by rw[(hf b z).1]at e;cases e
 refine I.step (g':=s.gens) (d':=s.drawn) (ch:=ch) (λb hb=>?_) (λb o _ _ hc e _=>k b o hc e) (λb o _ _ hc e _=>⟨o.slots,k b o hc e⟩) (λ_ _ _ _ n=>n)
  (λb o hc e=>⟨o,k b o hc e⟩) (λ_ _ e=>e) (λ_ _ _ e=>e) (λb ps e=>⟨#[],by rw[e];simp⟩) (λm hm=>?_) (λb u e=>?_) I.bare
 .obtain ⟨_,a,_,b',c,d⟩:=hf b hb;exact⟨b',a,c,d⟩
 .obtain ⟨o,es,ep,ho,r⟩:=hm;exact⟨o,es,ep,k _ o (λz=>(hf _ z).2.1 rfl) ho,r⟩
 .refine (I.bM b u e).uA (λc v hc q=>k c v ?_ q) (λ_ q=>q) λ_ _ q=>q;rcases hc with z|z;.grind
  .grind
theorem Inv.zV{D:Addr}(I:Inv X pins σ H s)(hD:H D=none)(hs:X.h8.heap.objs.size<=D)(hl:D≠X.env.locals)(hc:∀x c,X.env.cells.lookup x=some c->c≠D)
  (hp:∀p∈X.pn++pins,p.1≠D)(e:IsTup s.heap D its.toArray)(r:bz ys its)(hz:ys.length<=sizeLine):Inv X pins σ (upd H D (.tup ys)) s:=by
 have h:=I.step (H':=upd H D (.tup ys)) (h':=s.heap) (g':=s.gens) (t':=s.toks) (d':=s.drawn) (ch:=[D]) (λb hb=>by
   have e:b=D:=by simpa using hb
   subst e;exact⟨.inr hs,hl,hc,hp⟩)
  (λb o _ _ _ q _=>q) (λb o _ _ _ q _=>⟨o.slots,q⟩) (λb o hb _ q=>by rw[av (by simpa using hb)];exact q) (λb o _ q=>⟨o,q⟩)
  (λb xs q=>by rw[av (bT q hD)];exact q) (λb o u q=>by rw[av (bT q hD)];exact q) (λb ps q=>⟨#[],by rw[av (bT q hD),aew];exact q⟩) (λm hm=>hm) (λb u q=>?_) I.bare
 .exact h
 .by_cases hb:b=D
  .subst hb;rw[az]at q;cases q;exact⟨hz,its,r,e⟩
  .rw [av hb]at q;exact(I.bM b u q).uA (λ_ _ _ z=>z) (λc z=>by rw[av (bT z hD)];exact z) λc xs z=>z.new hD
end
def Ite(K:ak)(a:Addr):It:=
 ⟨λi H=>∃xs x,kY K H a xs/\xs[i]?=some x,λi H x H'=>∃p v,H p=none/\x=.ref p/\H'=upd H p (.tup [.int i,v])/\∀xs,kY K H a xs->xs[i]?=some v,λi H=>∃xs,kY K H a xs/\xs.length<=i⟩
theorem Io{K:ak}(a e it:Addr)(gK:e≠it):Turn P w K (.Tuple es kk pz) (Ite K a) [e,it] e (λi h=>(∃old,IsEnum h e it i old)/\h.IsListIter it a i) where
 mem:=by simp
 obj:=λi h st b hb=>by
  obtain⟨⟨old,he⟩,o,ho,c,d⟩:=st;rcases aam.mp hb with z|z;.grind
  .grind
 keep:=λi h h' st k=>by
  obtain⟨⟨old,he⟩,jF⟩:=st;exact⟨⟨old,k e (by simp) _ he⟩,jF.at λo eo=>k it (by simp) o eo⟩
 item:=by
  intro X hP hw hK hc i pins s σ H E I hf st hg;subst hP hw hK;obtain⟨xs,x,hq,hx⟩:=hg;obtain⟨its,rv,p,hz⟩:=I.list hq;obtain⟨u,hu,ru⟩:=rv.get hx;obtain⟨⟨old,he⟩,jF⟩:=st;refine wpAny_pyNext_enum_item he jF p.isList (x:=u) (by simpa using hu) gK λh1 JQ abj Yc OC Cc=>?_;refine⟨_,rfl,adn JQ λh2 KJ rJ=>?_⟩;have Yd:=aai he;have I1:Inv X pins σ H {s with heap:=h2,toks:=s.toks+1}:=I.jY (t':=s.toks+1) (ch:=[e,it]) (λb o hb eo=>by
   simp at hb;exact(rJ.2 b hb.1).trans (Cc b o hb.1 hb.2 eo)) hf;have TM:IsTup h2 s.heap.objs.size [Value.int i s.toks,u].toArray:=⟨_,(rJ.2 _ (adg Yd)).trans Yc,rfl,_,rfl⟩;have xH:=I.bM.fresh (aah _);have fo:=I.uE (H':=H) (aah _) xH;have I2:Inv X pins σ (upd H s.heap.objs.size (.tup [.int i,x])) {s with heap:=h2,toks:=s.toks+1}:=I1.zV xH (aaW I.sz (aah _)) fo.2.1 fo.2.2.2.2.1 fo.2.2.2.2.2 TM (.cons ⟨_,rfl⟩ (.cons ru .nil)) (by show 2<=sizeLine;decide);refine⟨.ref s.heap.objs.size,_,I2,rfl,⟨_,x,xH,rfl,rfl,λys hy=>by rw[I.vo hy hq];exact hx⟩,⟨⟨u,KJ⟩,abj.extBut rJ.extBut (acb gK)⟩,λb hb=>?_⟩;have i9:b<s.heap.objs.size:=by
   rcases aam.mp hb with z|z;.grind
   .have z:b=it:=by simpa using z
    subst z;obtain⟨o,ho,_⟩:=jF;exact aai ho
  rw[av (aat i9)];exact(hf b hb).1
 done:=by
  intro X hP hw hK hc i pins s σ H E I hf st hg;subst hP hw hK;obtain⟨xs,hq,hx⟩:=hg;obtain⟨its,rv,p,hz⟩:=I.list hq;obtain⟨⟨old,he⟩,jF⟩:=st;have hl:=rv.length;refine wpAny_pyNext_enum_end (I.ok.hd hc) he jF p.isList (by simp;lia) λh1 eb=>⟨rfl,?_⟩;exact I.jY (t':=s.toks) (ch:=[e,it]) (λb o hb eo=>eb b o (λz=>hb (by simp[z])) eo) hf
 self:=λ_ _ _ _ _ st h=>by
  obtain⟨⟨old,he⟩,_⟩:=st;exact ac0 he h
theorem lu:bootBuiltins "enumerate"=some (.type "enumerate"):=by decide +kernel
noncomputable def jZ(l:List D):List D:=l.zipIdx.map λp=>.tuple [.int (p.2:Nat),p.1]
theorem yW{d:D}(h:(jZ l)[i]?=some d):∃x,l[i]?=some x/\d=.tuple [.int (i:Nat),x]:=by
 unfold jZ at h
 rw[aa4,acx]at h
 cases e:l[i]? with
 |none=>rw[e]at h;cases h
 |some x=>rw[e]at h;simp at h;exact⟨x,rfl,h.symm⟩
theorem sf:(jZ l).length=l.length:=by unfold jZ;simp
section
variable {X:Cx}{O:List Nat}{a:Expr}{ge:be}{p pos:Pos}{es:List Expr}{kk}{pz:Pos}
def Ye(K:ak)(ta:TA):TI:=λσ H R=>ta σ H λvs H1=>∃a xs,vs=[.ref a]/\kY K H1 a xs/\R (Ite K a) H1
theorem OD(hg:Gl X "enumerate")(hm:X.mg "enumerate"=none)(ha:PA X [a] ta)(hs:starEach [a] X.env=[(false,eval a X.env)]:=by rfl):PI X (.Tuple es kk pz) (.Call (.Name "enumerate" p) [a] [] pos) (Ye X.K ta):=by
 intro pins s σ H R I h
 refine Call_ (mE I hg hm lu (acq (dw (ha pos pins s σ H _ I h) λus s1 ⟨vs,H1,I1,r1,q1⟩=>?_) hs rfl))
 obtain⟨b,xs,e,hq,q⟩:=q1
 subst e
 obtain⟨u,rfl,ru⟩:=vals1 r1
 cases ru
 obtain⟨its,rv,pl,hz⟩:=I1.list hq
 refine call_enumerate_list pl.isList λh' he hit hsz hk=>?_
 refine ac0 he ?_
 refine⟨s1.heap.objs.size+1,[s1.heap.objs.size+1,s1.heap.objs.size],_,_,H1,rfl,I1.kept (t':=s1.toks) hk,Io b _ s1.heap.objs.size (ae2 _),⟨⟨_,he⟩,hit⟩,λb hb=>?_,q⟩
 have hle:s1.heap.objs.size<=b:=by grind
 exact I1.uE hle (I1.bM.fresh hle)
def lx(g:be):cq:=λδ=>(g δ).bind λ|.list l=>some (jZ l)|_=>none
theorem zW(hm:X.mg "enumerate"=none)(ha:PE X a (tE X.K O ge))(hg:Gl X "enumerate":=by rfl)(hs:starEach [a] X.env=[(false,eval a X.env)]:=by rfl)(zX:starEach ([]:List Expr) X.env=[]:=by rfl):PI X (.Tuple es kk pz) (.Call (.Name "enumerate" p) [a] [] pos) (tI X.K O (lx ge)):=
 (OD hg hm (aY ha b9 (by rw[hs,zX])) hs).mono λσ H Q hh=>hh.e λU A0 δ ds R ed q=>by
  obtain⟨x,e1,e2⟩:=bind1 ed;cases x with
  |list l=>
    cases e2;refine⟨U,A0,δ,_,R,e1,λv H' s h=>?_⟩;cases h with
    |lst hq h=>
      refine⟨_,_,rfl,(hq.same bN).sq,q _ H' s ?_⟩;intro A' i H2 s2 al;have h2:=h.same s2;have hL:=((hq.same s2).same bN).sq;refine⟨λd hd=>?_,λhi=>⟨_,hL,by rw[hi,sf,h2.len];exact aah _⟩⟩;obtain⟨y,hy,rfl⟩:=yW hd;obtain⟨v,hv,Yg⟩:=h2.get hy;refine⟨⟨_,v,hL,hv⟩,λz H3 hz=>?_⟩;obtain⟨p,v',hp,rfl,rfl,S0⟩:=hz;have:=S0 _ hL;rw[hv]at this;cases this;exact⟨bj hp _,HD.xU al hp (.cons (.int _) (.cons Yg .nil))⟩
  |_=>cases e2
end
def WalksS(K:ak)(A:List Addr)(H1:Hp)(J:It)(ds:List D):Prop:=∀(i:Nat) (H:Hp),aA H1 H->
 (∀d,ds[i]?=some d->J.go i H/\∀x H2,J.Xu i H x H2->aA H H2/\HD K (wo H2 A) x d)/\(i=ds.length->J.stop i H)
def V3(K:ak)(O:List Nat)(g:cq):TI:=λσ H R=>∃U A0 δ ds,Rel K O U A0 σ δ H/\g δ=some ds/\∀J H1,aA H H1->WalksS K (U++A0) H1 J ds->R J H1
theorem V3.e{K:ak}  {GG:Prop}(hh:V3 K O g σ H R)(kk:∀U A0 δ ds,(Rel K O U A0 σ δ H)->(g δ=some ds)->(∀J H1,aA H H1->WalksS K (U++A0) H1 J ds->R J H1)->GG):GG:=by obtain⟨U,A0,δ,ds,x0,x1,x2⟩:=hh;exact kk U A0 δ ds x0 x1 x2
section
variable {X:Cx}{O:List Nat}{tg e:Expr}{gi:cq}
theorem PI.c(h:PI X tg e (tI X.K O gi)):PI X tg e (V3 X.K O gi):=h.mono λσ H Q hh=>hh.e λU A0 δ ds R ed q=>⟨U,A0,δ,ds,R,ed,λJ H1 s hw=>q J H1 s λi H2 s2=>hw (U++A0) i H2 (bE s2) ((R.same (s.trans s2)).al)⟩
end
section
end
end L2
namespace LS
open PySem PySem.Spec PyProof.Rows
section
variable {prog:Program}{w:World}{A:Around}{E:dz}{s:Shared}{it t:Addr}{i:Nat}{items:Array Value}
theorem Er(hit:s.heap.IsTupleIter it t i)(ht:s.heap.IsTuple t items)(hx:items[i]?=some x)
  (hQ:∀h',h'.IsTupleIter it t (i+1)->Heap.SameBut it s.heap h'->Q x {s with heap:=h'}):wpAny (model prog w) A (Builtin.SmallTypes.nextOf (.ref it)) Q E s:=by
 obtain⟨o,ho,hc,hd⟩:=id hit
 obtain⟨ol,TN,_,nl,hdl⟩:=ht
 refine aaa (abL (name:=Str.ofString "__next__") hit.typeIs acs (ab0 acs hit.typeIs adQ ?_ (adK _)))
 show wpAny _ _ (field (.ref it) 0 >>= _) _ _ s
 refine aaa (wpAny_field ho hd (x:=.ref t) rfl ?_)
 refine aaa (wpAny_field ho hd (x:=.int i 0) rfl ?_)
 refine aaa (aex TN hdl ?_)
 simp only[ab4,hx]
 refine aaa (acT ho hd (by simp) (aae ⟨x,rfl,aae (hQ _ ?_ (abz ..))⟩))
 exact⟨_,abi _ ho (acV (abT hd _)),(adV ..).trans hc,by rw[abT hd];simp[rawInt]⟩
theorem Ip(hh:A.handled=none)(hit:s.heap.IsTupleIter it t i)(ht:s.heap.IsTuple t items)(hx:items[i]?=none)
  (hE:∀h' e,Heap.ExtBut it s.heap h'->(∃o,h'.get? e=some o/\o.cls=.type "StopIteration")->E (.ref e) {s with heap:=h'}):wpAny (model prog w) A (Builtin.SmallTypes.nextOf (.ref it)) Q E s:=by
 obtain⟨o,ho,hc,hd⟩:=id hit
 obtain⟨ol,TN,_,nl,hdl⟩:=ht
 refine aaa (abL (name:=Str.ofString "__next__") hit.typeIs acs (ab0 acs hit.typeIs adQ ?_ (adK _)))
 show wpAny _ _ (field (.ref it) 0 >>= _) _ _ s
 refine aaa (wpAny_field ho hd (x:=.ref t) rfl ?_)
 refine aaa (wpAny_field ho hd (x:=.int i 0) rfl ?_)
 refine aaa (aex TN hdl ?_)
 simp only[ab4,hx]
 refine aaa (ad7 (aaa (acT ho hd (by simp) ?_)))
 refine aaa ?_
 refine aaa (m:=firstArgMember _ _) (aeN (a:=Value.none) (by first|rfl|(simp only[firstArgMember];rfl)) ?_)
 refine acr ?_ (by size_fits)
 refine aaa (wpAny_handled ?_)
 first|rw[show A.in1.handled=none from hh]|rw[hh]
 refine aaa (aae (wpAny_throw ?_))
 exact hE _ _ (((abz ..).extBut.push _).push _) ⟨_,aag _ rfl,rfl⟩
theorem gN(hh:A.handled=none)(it l:Addr)(gK:l≠it)(items:Array Value):
  Draws prog w A it [it,l] items.size (λi v=>items[i]?=some v) (λi h=>h.IsTupleIter it l i/\h.IsTuple l items) where
 live:=λ_ _ st=>let⟨o,ho,_⟩:=st.1;⟨o,ho⟩
 frame:=λ_ _ _ st hk=>⟨st.1.at λo e=>hk it (by simp) o e,st.2.at λo e=>hk l (by simp) o e⟩
 item:=λi s Q E hi st hQ=>Er st.1 st.2 (x:=items[i]) (by simp[hi]) λh' Es qr=>hQ _ h' s.toks (by simp[hi]) ⟨Es,st.2.extBut qr.extBut gK⟩ qr
 done:=λs Q E st hE=>Ip hh st.1 st.2 (by simp) hE
end
set_option maxHeartbeats 1000000 in
set_option tactic.hygienic true in
theorem xU(l:Addr)(items:Array Value)(n:Nat)(uH:Option Addr)(sl:Array (Option Value)):
  Meets (Builtin.«enumerate.__new__» ⟨[.type "enumerate",.ref l],[]⟩) (λ_ R s=>s.heap.get? l=some {cls:=.type "tuple",dict:=uH,data:=.seq items n,slots:=sl}/\
   R (.ok (.ret (.ref (s.heap.push {cls:=.type "tuple_iterator",data:=.fields #[.ref l,.int 0 0]}).objs.size)))
     {s with heap:=(s.heap.push {cls:=.type "tuple_iterator",data:=.fields #[.ref l,.int 0 0]}).push {cls:=.type "enumerate",data:=.fields #[.none,.bool false,.ref s.heap.objs.size,rawInt 0,.none,.none]}}):=
 .of_wp λprog w A R s h=>by
  obtain⟨hp,g,d,tk,os⟩:=s;obtain⟨hl,h⟩:=h;have vL:=sub_enumerate;have hL:Heap.IsTuple (Shared.heap ⟨hp,g,d,tk,os⟩) l items:=⟨_,hl,rfl,n,rfl⟩;wp_walk using AutoSeq1.wpAny_loadPart' hl;refine wpAny_stack_any λst=>aae ?_;split
  .rename_i c _ _ _ _ _;cases(c==Value.type "enumerate");.wp_walk using AutoSeq1.wpAny_loadPart' hl,wpAny_pyIter_tuple hL;exact⟨_,rfl,h⟩
   .wp_walk using AutoSeq1.wpAny_loadPart' hl,wpAny_pyIter_tuple hL;exact⟨_,rfl,h⟩
  .wp_walk using AutoSeq1.wpAny_loadPart' hl,wpAny_pyIter_tuple hL;exact⟨_,rfl,h⟩
section
variable {prog:Program}{w:World}{A:Around}{E:dz}{s:Shared}
theorem Et(hL:s.heap.IsTuple l items)
  (h:∀h',IsEnum h' (s.heap.objs.size+1) s.heap.objs.size 0 .none->h'.IsTupleIter s.heap.objs.size l 0->h'.objs.size=s.heap.objs.size+2->(∀b o,s.heap.get? b=some o->h'.get? b=some o)->Q (.ref (s.heap.objs.size+1)) {s with heap:=h'}):
  wpAny (model prog w) A (call (.type "enumerate") [.ref l]) Q E s:=by
 obtain⟨⟨c,uH,dt,sl⟩,hl,hc,n,hd⟩:=hL
 subst hc hd
 refine callType_new ac5 (by decide) (PySem.F.typeCall_enumerate_1 _) (PySem.F.newCall_enumerate_1 _) (λobj=>PySem.F.args_object_init_2 obj _) PySem.F.entry_enumerate_new (xU l items n uH sl) ⟨hl,?_⟩
 have hz:(s.heap.push {cls:=.type "tuple_iterator",data:=.fields #[.ref l,.int 0 0]}).objs.size=s.heap.objs.size+1:=abK ..
 rw[hz]
 have he:IsEnum ((s.heap.push {cls:=.type "tuple_iterator",data:=.fields #[.ref l,.int 0 0]}).push {cls:=.type "enumerate",data:=.fields #[.none,.bool false,.ref s.heap.objs.size,rawInt 0,.none,.none]}) (s.heap.objs.size+1) s.heap.objs.size 0 .none:=by
  have q:=aag (s.heap.push {cls:=.type "tuple_iterator",data:=.fields #[.ref l,.int 0 0]}) (o:={cls:=.type "enumerate",data:=.fields #[.none,.bool false,.ref s.heap.objs.size,rawInt 0,.none,.none]}) rfl;rw[hz]at q;exact q
 exact⟨⟨_,he,rfl⟩,h _ he ⟨_,aab _ (aag _ rfl),rfl,rfl⟩ (by rw[abK,hz]) λb o x=>aab _ (aab _ x)⟩
end
end LS
namespace LS
open PySem
def zY(l:List Nat):Prop:=l.Pairwise (·<·)
theorem qG{xs:Array Nat}(h:zY xs.toList)(hab:a<b)(hb:b<xs.size)(d e:Nat):xs.getD a d<xs.getD b e:=by
 have ha:a<xs.size:=by lia
 have:=List.pairwise_iff_getElem.mp h a b (by simpa using ha) (by simpa using hb) hab
 simpa[ha,hb]using this
theorem KW(hs:zY xs.toList)(j:Nat)(fuel:Nat):∀(lo hi:Nat),hi-lo<=fuel->lo<=hi->hi<=xs.size->(∀k,k<lo->xs.getD k 0<j)->(∀k,hi<=k->k<xs.size->j<=xs.getD k 0)->
  SetTable.below.go xs j fuel lo hi<=xs.size/\(∀k,k<SetTable.below.go xs j fuel lo hi->xs.getD k 0<j)/\∀k,SetTable.below.go xs j fuel lo hi<=k->k<xs.size->j<=xs.getD k 0:=by
 induction fuel with
 |zero=>
   intro lo hi h1 h2 h3 h4 h5;have e:=Nat.le_antisymm h2 (Nat.le_of_sub_eq_zero (Nat.le_zero.mp h1));subst e;exact⟨h3,h4,h5⟩
 |succ fuel ih=>
   intro lo hi h1 h2 h3 h4 h5;rw[SetTable.below.go];by_cases hl:lo<hi
   .rw [aaq hl];have a:lo<=(lo+hi)/2/\(lo+hi)/2<hi:=by lia
    dsimp only;generalize (lo+hi)/2=m at a;have hm:=aao a.2 h3;have hg:xs.getD m j=xs.getD m 0:=by simp[hm]
    rw[hg];by_cases hc:xs.getD m 0<j
    .rw [aaq hc];refine ih _ hi (by lia) a.2 h3 (λk hk=>?_) h5;rcases Nat.lt_or_eq_of_le (Nat.le_of_lt_succ hk)with q|q;.exact Nat.lt_trans (qG hs q hm 0 0) hc
     .grind
    .rw [aaO hc];have hc:=ae3 hc;refine ih lo _ (by lia) a.1 (acZ hm) h4 (λk hk TQ=>?_);rcases Nat.lt_or_eq_of_le hk with q|q;.exact aaW hc (acZ (qG hs q TQ 0 0))
     .rw [<-q];exact hc
   .rw [aaO hl];have e:=Nat.le_antisymm h2 (ae3 hl);subst e;exact⟨h3,h4,h5⟩
theorem below_at(hs:zY xs.toList)(j:Nat):SetTable.below xs j<=xs.size/\(∀k,k<SetTable.below xs j->xs.getD k 0<j)/\∀k,SetTable.below xs j<=k->k<xs.size->j<=xs.getD k 0:=
 KW hs j xs.size 0 xs.size (by lia) (ab8 _) (aah _) (λk hk=>by lia) λk h1 h2=>by lia
theorem vM(hs:zY xs.toList)(hi:i<=xs.size)(h1:∀k,k<i->xs.getD k 0<j)(h2:∀k,i<=k->k<xs.size->j<=xs.getD k 0):SetTable.below xs j=i:=by
 obtain⟨a,b,c⟩:=below_at hs j
 rcases Nat.lt_trichotomy (SetTable.below xs j) i with h|h|h
 .grind
 .exact h
 .grind
theorem KY(hs:zY xs.toList)(h:xs[SetTable.below xs j]?≠some j):j∉xs.toList:=by
 intro hm
 obtain⟨k,hk,e⟩:=ac8 hm
 have TQ:k<xs.size:=by simpa using hk
 have ek:xs.getD k 0=j:=by simpa[TQ]using e
 have:SetTable.below xs j=k:=vM hs (acZ TQ) (λi hi=>by rw[<-ek];exact qG hs hi TQ 0 0) (λi h1 h2=>by
  by_cases Tt:k=i;.grind
  .have:=qG hs (show k<i by lia) h2 0 0;lia)
 rw[this]at h
 refine h ?_
 rw[abQ TQ]
 simpa using e
theorem OE{t:SetTable}(hs:zY t.place.toList)(h:t.place[SetTable.below t.place j]?≠some j):zY (t.put j).1.place.toList:=by
 have hn:=KY hs h
 obtain⟨a,b,c⟩:=below_at hs j
 show zY (SetTable.insertAt t.place (SetTable.below t.place j) j).toList
 rw[SetTable.toList_insertAt]
 have qr:(t.place.toList.take (SetTable.below t.place j)++t.place.toList.drop (SetTable.below t.place j)).Pairwise (·<·):=by rw[ad5];exact hs
 rw[List.pairwise_append]at qr
 refine List.pairwise_append.mpr ⟨qr.1,acu.mpr ⟨λx hx=>?_,qr.2.1⟩,λx hx y hy=>?_⟩
 .obtain ⟨k,hk,e⟩:=ac8 hx;have V4:SetTable.below t.place j+k<t.place.size:=by grind
  have:=c (SetTable.below t.place j+k) (by lia) V4;have e2:t.place.getD (SetTable.below t.place j+k) 0=x:=by simpa[V4]using e
  have gK:x≠j:=λz=>hn (by rw[<-z];exact List.mem_of_mem_drop hx);lia
 .obtain ⟨k,hk,e⟩:=ac8 hx;have V4:k<SetTable.below t.place j:=by grind
  have hk3:k<t.place.size:=by lia
  have e2:t.place.getD k 0=x:=by simpa[hk3]using e
  rcases aam.mp hy with z|z;.grind
  .grind
set_option tactic.hygienic true in
theorem pA:∀{fuel:Nat} {p:SetTable.Probe} {j:Nat} {dm:Option Nat},(∀d,p.dummy=some d->t.place[SetTable.below t.place d]?≠some d)->
  SetTable.probe.go t f h fuel p=some (.empty j dm)->t.place[SetTable.below t.place (dm.getD j)]?≠some (dm.getD j)
 |0,p,j,dm,_,e=>by cases e
 |fuel+1,p,j,dm,hd,e=>by
   have V5:∀q:SetTable.Probe,(t.advance q).dummy=q.dummy:=λq=>by unfold SetTable.advance;split<;>rfl
   rw[SetTable.probe.go]at e;have nl:∀i,t.slot i=.empty\/t.slot i=.dummy->t.place[SetTable.below t.place i]?≠some i:=by
    intro i hi z;unfold SetTable.slot at hi;dsimp only at hi;rw[z]at hi;simp at hi
   split at e
   .rename_i hs;cases e;cases hp:p.dummy with
    |none=>exact nl _ (.inl hs)
    |some d=>exact hd d hp
   .rename_i hs;refine pA (λd uZ=>?_) e;rw[V5]at uZ;cases uZ;exact nl _ (.inr hs)
   .split at e;.cases e
    .exact pA (λd uZ=>hd d (by rw[V5]at uZ;exact uZ)) e
theorem om(n:Nat):zY (Array.range n).toList:=by rw[Array.toList_range];exact List.pairwise_lt_range
theorem xY{t:SetTable}(h:zY t.place.toList):zY (t.orStandIn n).place.toList/\(t.orStandIn n).led=t.led:=by
 unfold SetTable.orStandIn
 split
 .grind
 .exact ⟨om n,rfl⟩
set_option tactic.hygienic true in
theorem Eu(hs:zY t.place.toList):zY (layNew t es h x).2.1.place.toList/\(layNew t es h x).2.1.led=t.led:=by
 unfold layNew
 split
 .rename_i slot wd e;unfold SetTable.freeSlot at e;split at e
  .rename_i j dm ep;cases e;have:=pA (t:=t) (λd z=>by cases z) ep;obtain⟨a,b⟩:=xY (n:=(SetTable.insertAt es (t.put (dm.getD j)).2 (h,x)).size) (OE hs this);exact⟨a,b⟩
  .cases e
 .exact ⟨om _,rfl⟩
set_option tactic.hygienic true in
theorem zZ:zY (relayAll t es n).2.1.place.toList/\(relayAll t es n).2.1.led=t.led:=by
 unfold relayAll
 split
 .rename_i t' order e;dsimp only;split
  .unfold SetTable.relaid SetTable.laid at e;obtain⟨owner,_,e2⟩:=Option.bind_eq_some_iff.mp e;cases e2;refine⟨?_,rfl⟩;refine List.pairwise_map.mpr (List.pairwise_filterMap.mpr ?_);refine List.pairwise_lt_range.imp λ{a b} hab x hx y hy=>?_;cases ea:owner.getD a none with
   |none=>rw[ea]at hx;cases hx
   |some u=>
     cases eb:owner.getD b none with
     |none=>rw[eb]at hy;cases hy
     |some v=>grind
  .exact ⟨om _,rfl⟩
 .exact ⟨om _,rfl⟩
end LS
namespace LS
open PySem PyProof.Rows
def iv:Value->Int
 |.int n _=>n
 |_=>0
theorem eM:∀{vs:bU} {ns:List Int},IntsAre vs ns↔(∀v∈vs,∃n t,v=.int n t)/\ns=vs.map iv
 |[],ns=>⟨λh=>by cases h;exact⟨λv hv=>by simp at hv,rfl⟩,λ⟨_,h⟩=>by subst h;exact .nil⟩
 |v::vs,ns=>⟨λh=>by
     cases h with
     |cons n t h=>
       obtain⟨h1,h2⟩:=eM.mp h;refine⟨λu hu=>?_,by rw[h2];rfl⟩;rcases aam.mp hu with z|z;.grind
       .exact h1 u z,λ⟨h1,h2⟩=>by
     obtain⟨n,t,rfl⟩:=h1 v aan;subst h2;exact .cons n t (eM.mpr ⟨λu hu=>h1 u (aap _ hu),rfl⟩)⟩
theorem si(h:IntsAre vs ns)(p:vs'.Perm vs):∃qH,IntsAre vs' qH/\qH.Perm ns:=by
 obtain⟨h1,h2⟩:=eM.mp h
 exact⟨vs'.map iv,eM.mpr ⟨λv hv=>h1 v (p.mem_iff.mp hv),rfl⟩,by rw[h2];exact p.map iv⟩
def mr(prog:Program)(w:World)(h:Heap)(a:Addr)(led:Bool)(ns:List Int):Prop:=∃o es ep t,h.get? a=some o/\o.ExactSet/\o.data=.set es ep t/\ElemsOf (intKind prog w) es.toList/\
 IntsAre (es.toList.map (·.2)) ns/\ns.Nodup/\es.size<scanBound/\t.fits es.size=true/\t.led=led/\zY t.place.toList
section
variable {prog:Program}{w:World}{A:Around}{E:dz}{s:Shared}{a:Addr}{led:Bool}{ns:List Int}
theorem mr.keeps(x:mr prog w h a led ns)(k:∀o,h.get? a=some o->h'.get? a=some o):mr prog w h' a led ns:=by
 obtain⟨o,es,ep,t,ho,r⟩:=x
 exact⟨o,es,ep,t,k o ho,r⟩
theorem Cd{h:Heap}(ho:h.get? a=some o)(hex:o.ExactSet)(hd:o.data=.set es ep t) 
  (h1:ElemsOf (intKind prog w) uB.toList)(h2:IntsAre (uB.toList.map (·.2)) qH)(h3:qH.Nodup)(h4:uB.size<scanBound)(h5:t'.fits uB.size=true)(h6:t'.led=led)(h7:zY t'.place.toList):
  (h.update a (Obj.putSet uB t')).get? a=some {o with data:=.set uB (ep+1) t'}/\mr prog w (h.update a (Obj.putSet uB t')) a led qH:=by
 have hg:(h.update a (Obj.putSet uB t')).get? a=some {o with data:=.set uB (ep+1) t'}:=by
  have q:=abi (Obj.putSet uB t') ho (by rw[putSet_of uB t' hd];rfl);rwa [putSet_of uB t' hd]at q
 exact⟨hg,_,uB,ep+1,t',hg,hex,rfl,h1,h2,h3,h4,h5,h6,h7⟩
theorem yX{g:Bool->Sem Unit}(hg:∀(b:Bool) (bO:Shared) (Q':Unit->Shared->Prop),Q' () bO->wpAny (model prog w) A (g b) Q' E bO) 
  (ho:s.heap.get? a=some o)(hex:o.ExactSet)(hd:o.data=.set es ep t)(h1:ElemsOf (intKind prog w) vN.toList)(h2:IntsAre (vN.toList.map (·.2)) V6)(h3:V6.Nodup)(h4:vN.size<scanBound)
  (h5:t2.fits vN.size=true)(h6:t2.led=led)(h7:zY t2.place.toList) 
  (h:∀h' qH,Heap.SameBut a s.heap h'->mr prog w h' a led qH->qH.Perm V6->R (some true) {s with heap:=h'}):
  wpAny (model prog w) A (do
    storeSet a vN t2
    if(!wd&&t2.tooFull)=true then do
        g (relayAll t2 vN (SetTable.grown vN.size)).2.2
        storeSet a (relayAll t2 vN (SetTable.grown vN.size)).1 (relayAll t2 vN (SetTable.grown vN.size)).2.1
        pure (some true)
     else pure (some true)) R E s:=by
 refine aaa (wpAny_storeSet_of ho hd ?_ (fits_of_scanBound h4))
 obtain⟨uz,S1⟩:=Cd (led:=led) ho hex hd h1 h2 h3 h4 h5 h6 h7
 have b1:=abz s.heap a (Obj.putSet vN t2)
 split
 .have hp:=relayAll_perm t2 vN (SetTable.grown vN.size);have hf:=relayAll_fits t2 vN (SetTable.grown vN.size);obtain⟨hr,hl⟩:=zZ (t:=t2) (es:=vN) (n:=SetTable.grown vN.size);generalize relayAll t2 vN (SetTable.grown vN.size)=Z at hp hf hr hl ⊢;obtain⟨ZV,t3,abm⟩:=Z;obtain⟨ns2,i2,p2⟩:=si h2 (hp.map (·.2));have hz:ZV.size=vN.size:=by rw[<-Array.length_toList,hp.length_eq,aaP]
  have b2:ZV.size<scanBound:=by rw[hz];exact h4
  refine aaa (hg _ _ _ (aaa (wpAny_storeSet_of uz rfl ?_ (fits_of_scanBound b2))));obtain⟨_,S2⟩:=Cd (led:=led) uz hex rfl (h1.perm hp) i2 (p2.nodup_iff.mpr h3) b2 hf (hl.trans h6) hr;exact aae (h _ ns2 (b1.trans (abz _ a _)) S2 p2)
 .exact aae (h _ V6 b1 S1 (.refl _))
theorem Ce{es:List (Int×Value)}(h:IntsAre (es.map (·.2)) ns):i∈ns↔∃e∈es,Value.isInt i e.2=true:=by
 obtain⟨h1,h2⟩:=eM.mp h
 subst h2
 constructor
 .intro hm;obtain⟨v,hv,e⟩:=aa9.mp hm;obtain⟨x,hx,rfl⟩:=aa9.mp hv;obtain⟨n,t,q⟩:=h1 _ hv;cases e;exact⟨x,hx,by rw[q];simp[Value.isInt,iv]⟩
 .rintro ⟨e,he,q⟩;obtain⟨t,z⟩:=Value.isInt_shape q;exact aa9.mpr ⟨e.2,aa9.mpr ⟨e,he,rfl⟩,by rw[z];rfl⟩
theorem KZ(hS:mr prog w s.heap a led ns)(room:ns.length+1<scanBound)
  (h:∀h' qH b,Heap.SameBut a s.heap h'->mr prog w h' a led qH->(∀k,k∈qH↔k∈ns\/k=i)->qH.length<=ns.length+1->Q b {s with heap:=h'}):
  wpAny (model prog w) A (setAddHashed a (.int i tk) (hashInt i)) Q E s:=by
 obtain⟨o,es,ep,t,ho,hex,hd,h1,h2,h3,h4,h5,h6,h7⟩:=hS
 have hlen:ns.length=es.size:=by
  obtain⟨_,e⟩:=eM.mp h2;rw[e];simp
 have hk:(intKind prog w).is i (.int i tk)=true:=intKind_is prog w i tk
 have hsc:(Value.int i tk).scannable=true:=rfl
 unfold setAddHashed setAddHashedIn
 refine abN (aaa (ac1 ho hd h5 ?_))
 dsimp only
 rw[byScan_of hsc h4 h1]
 simp only[↓reduceIte]
 unfold setAddByScan
 refine aaa (aaa (ad7 (aaa (wpAny_setScan_of (knd:=intKind prog w) (k:=i) hk ho hd h5 h1 ?_))))
 cases hf:List.findIdx? (λe=>(intKind prog w).is i e.2) es.toList with
 |some j=>
   obtain⟨hj,hpj,_⟩:=List.findIdx?_eq_some_iff_getElem.mp hf;have hm:=(Ce h2).mpr ⟨_,adv hj,hpj⟩;refine aae (aae ?_);have q:=h s.heap ns false (Heap.SameBut.refl a s.heap) ⟨o,es,ep,t,ho,hex,hd,h1,h2,h3,h4,h5,h6,h7⟩ (λk=>⟨.inl,λz=>z.elim id λe=>e ▸ hm⟩) (adN _);exact q
 |none=>
   have hn:i∉ns:=λhm=>by
    obtain⟨e,he,q⟩:=(Ce h2).mp hm;have z:=List.findIdx?_eq_none_iff.mp hf e he;rw[show(intKind prog w).is i e.2=true from q]at z;cases z
   have gw:∀(b:Bool) {bO:Shared} {Q':Unit->Shared->Prop},Q' () bO->wpAny (model prog w) A (match b with|true=>rule "set.scan.the-table-gave-way" |false=>pure ()) Q' E bO:=
    λb bO Q' hq=>by cases b<;>first|exact aae hq|exact ad7 hq
   have hp:=layNew_perm t es (hashInt i) (.int i tk);have ZW:=layNew_fits t es (hashInt i) (.int i tk);obtain⟨hr,hl⟩:=Eu (t:=t) (es:=es) (h:=hashInt i) (x:=.int i tk) h7;generalize layNew t es (hashInt i) (.int i tk)=Z at hp ZW hr hl ⊢;obtain⟨vN,t1,wd,abm⟩:=Z;dsimp only at hp ZW hr hl ⊢;rw[adW]at hp;have e1:=(h1.push hk hsc).perm hp;have i0:IntsAre ((es.toList++[(hashInt i,Value.int i tk)]).map (·.2)) (ns++[i]):=by
    obtain⟨x1,x2⟩:=eM.mp h2;refine eM.mpr ⟨λv hv=>?_,by rw[x2];simp[iv]⟩;rw[abb]at hv;rcases aaf.mp hv with z|z;.exact x1 v z
    .grind
   obtain⟨V6,i1,p1⟩:=si i0 (hp.map (·.2));have nd:V6.Nodup:=p1.nodup_iff.mpr (by
    rw[List.nodup_append];exact⟨h3,by simp,λx hx y hy=>by simp at hy;rw[hy];exact λz=>hn (z ▸ hx)⟩);have hz:vN.size=es.size+1:=by rw[<-Array.length_toList,hp.length_eq,aaB,aaP];rfl
   have b1:vN.size<scanBound:=by lia
   have fin:∀h' qH,Heap.SameBut a s.heap h'->mr prog w h' a led qH->qH.Perm V6->Q true {s with heap:=h'}:=λh' qH sb S p=>by
    refine h h' qH true sb S (λk=>?_) ?_;.grind
    .rw [p.length_eq,p1.length_eq];simp
   refine aaa (gw _ ?_);split
   .rw [hashByValue_scannable 8 hsc];refine yX (led:=led) ?_ ho hex hd e1 i1 nd b1 ?_ ?_ ?_ λh' qH sb S p=>?_;.intro b bO Q' hq;cases b<;>first|exact aae hq|exact ad7 hq
    .split;.lia
     .exact SetTable.fits_plain_off ZW
    .grind
    .split<;>exact hr
    .exact aae (fin h' qH sb S p)
   .refine aaa (aae ?_);refine yX (led:=led) ?_ ho hex hd e1 i1 nd b1 ZW (hl.trans h6) hr λh' qH sb S p=>?_;.intro b bO Q' hq;cases b<;>first|exact aae hq|exact ad7 hq
    .exact aae (fin h' qH sb S p)
end
end LS
namespace LS
open PySem PySem.Spec PyProof.Rows
section
variable {prog:Program}{w:World}{A:Around}{E:dz}{s:Shared}
noncomputable abbrev qI(w:World):Bool:= !w.params.followText "set-order"
abbrev iG(w:World):Obj:={cls:=.type "set",dict:=none,data:=.set #[] 0 (.fresh 0 0 (qI w))}
theorem Iq(e:h.get? a=some (iG w)):mr prog w h a (qI w) []:=
 ⟨_,#[],0,_,e,⟨rfl,rfl,rfl⟩,rfl,λx hx=>by simp at hx,.nil,.nil,by decide,rfl,rfl,List.Pairwise.nil⟩
theorem OF(a:Value)(h:Q₁ (.ref s.heap.objs.size) {s with heap:=s.heap.push (iG w)}):
  codeAny (model prog w) A (.call (.builtin "set.__new__") ⟨[.type "set",a],[]⟩) (wants Q₁ E) s:=by
 refine codeAny_of_tree ?_
 show wpAny _ A.in1 (checkBuiltinCall "set.__new__" ⟨[.type "set",a],[]⟩ >>= λ_=>again (.builtin "set.__new__" ⟨[.type "set",a],[]⟩)) _ _ s
 refine aaa (aeN (PySem.F.newCall_set_1 a) (aae ⟨aea PySem.F.plain_set_new _,acB PySem.F.entry_set_new ?_⟩))
 rw[ado PySem.F.plain_set_new _]
 unfold Builtin.«set.__new__» Builtin.Frozenset.newClass
 have vL:=sub_set_self
 obtain⟨hp,g,d,tk,os⟩:=s
 dsimp only
 wp_walk
 refine adb (aae ?_)
 dsimp only
 simp only[newObj]
 exact aaa (wpAny_alloc (aae (aae h)))
end
section
variable {prog:Program}{w:World}{A:Around}{R:Result->Shared->Prop}{I:Addr}{fp wr:List Addr}{G:Array GenState->Array GenState->Prop}{n:Nat}{P:Nat->Value->Prop}{St:Nat->Shared->Prop}{led:Bool}
theorem K2(W:WalksS prog w A.in1 I fp wr G n P St)(S:Addr)(TU:S∉fp)(val:Nat->Int)(Ir:∀i v,P i v->∃t,v=.int (val i) t)(hb:n+1<scanBound):
  ∀(k i:Nat) (s:Shared) (ns:List Int),n-i=k->i<=n->St i s->mr prog w s.heap S led ns->ns.length<=i->(∀x,x∈ns↔∃j,j<i/\val j=x)->
    (∀s' qH,Moved (S::wr) G s s'->mr prog w s'.heap S led qH->qH.length<=n->(∀x,x∈qH↔∃j,j<n/\val j=x)->R (.ok (.ret .none)) s')->
    codeAny (model prog w) A (.builtin "set.update.loop" ⟨[.ref S,.ref I],[]⟩) R s:=by
 have hSw:=λh=>TU (W.sub _ h)
 have vL:∀b∈wr,b∈S::wr:=λb hb=>aap _ hb
 intro k
 induction k with
 |zero=>
   intro i s ns hk hi st hS hl hm hR;have V7:i=n:=by lia
   subst V7;refine acB adx ?_;refine aaa (W.done s _ _ st λs' mv=>?_);exact aae (hR s' ns (mv.mono vL) (hS.keeps λo e=>mv.heap S o hSw e) hl hm)
 |succ k ih=>
   intro i s ns hk hi st hS hl hm hR;have i9:i<n:=by lia
   refine acB adx ?_;rw[ado ady _];refine aaa (W.item i s _ _ i9 st λv s' hP Bw mv=>?_);obtain⟨t,rfl⟩:=Ir i v hP;have V8:=hS.keeps λo e=>mv.heap S o hSw e;show wpAny _ A.in1 (holding [Value.int (val i) t] (setAdd S (.int (val i) t)) >>= _) _ _ s';refine aaa (abN ?_);unfold setAdd;refine abN (aaa ((intKind prog w).pyHash (k:=val i) (intKind_is _ _ _ _) ?_));refine KZ (s:={s' with toks:=s'.toks+1}) V8 (by lia) λh' qH b sb S2 TV HY=>?_;refine aae ⟨aea ady _,ih (i+1) _ qH (by lia) i9 (W.frame _ s' _ _ Bw (adN _) λb hb o e=>?_) S2 (by lia) (λx=>?_) λXE abo abp S3 l3 m3=>?_⟩;.rw [sb.2 b (λz:b=S=>TU (by rw[<-z];exact hb))];exact e
   .grind
   .refine hR XE abo (Moved.trans W.gtrans ((mv.mono vL).then_heap (adN _) λb o hb e=>?_) abp) S3 l3 m3;rw[sb.2 b (λz:b=S=>hb (by rw[z];exact aan))];exact e
end
section
variable {prog:Program}{w:World}{A:Around}{E:dz}{s:Shared}
structure Ew(prog:Program)(w:World)(h:Heap)(r:Addr)(items:Array Value)(T:String)(oI:Obj)(St:Addr->Nat->Heap->Prop):Prop where
 ty:∃o,h.get? r=some o/\o.cls=.type T
 TX:isSubtype (.type T) (.type "set")=pure false
 TY:isSubtype (.type T) (.type "frozenset")=pure false
 nd:(Value.type T==Value.type "dict")=false
 iter:∀(A':Around) (s':Shared) (Q:dz) (E:dz),(∀o,h.get? r=some o->s'.heap.get? r=some o)->Q (.ref s'.heap.objs.size) {s' with heap:=s'.heap.push oI}->wpAny (model prog w) A' (pyIter (.ref r)) Q E s'
 walk:∀(A':Around) (I:Addr),A'.handled=none->r≠I->Walks prog w A' I [I,r] [I] items.size (λi v=>items[i]?=some v) (St I)
 st:∀h':Heap,(∀o,h.get? r=some o->h'.get? r=some o)->St h'.objs.size 0 (h'.push oI)
theorem src_list(hl:h.IsList l items):Ew prog w h l items "list" {cls:=.type "list_iterator",data:=.fields #[.ref l,.int 0 0]} (λI i h=>h.IsListIter I l i/\h.IsList l items) where
 ty:=let⟨o,e,c,_⟩:=hl;⟨o,e,c⟩
 TX:=PySem.F.sub_list_set
 TY:=PySem.F.sub_list_frozenset
 nd:=by decide
 iter:=λA' s' Q E k q=>adU (hl.at k) q
 walk:=λA' I hh gK=>Walks.list hh I l gK items
 st:=λh' k=>⟨⟨_,aag _ rfl,rfl,rfl⟩,(hl.at k).push _⟩
theorem src_tuple(hl:h.IsTuple l items):Ew prog w h l items "tuple" {cls:=.type "tuple_iterator",data:=.fields #[.ref l,.int 0 0]} (λI i h=>h.IsTupleIter I l i/\h.IsTuple l items) where
 ty:=let⟨o,e,c,_⟩:=hl;⟨o,e,c⟩
 TX:=by rw[adX];kernel_rfl
 TY:=by rw[adX];kernel_rfl
 nd:=by decide
 iter:=λA' s' Q E k q=>wpAny_pyIter_tuple (hl.at k) q
 walk:=λA' I hh gK=>Walks.tuple hh I l gK items
 st:=λh' k=>⟨⟨_,aag _ rfl,rfl,rfl⟩,(hl.at k).push _⟩
set_option maxHeartbeats 3200000 in
theorem Cf{r:Addr}{items:Array Value}{ms:List Int}{T:String}{oI:Obj}{St:Addr->Nat->Heap->Prop}{Q:dz}(hh:A.handled=none)(src:Ew prog w s.heap r items T oI St)(hi:IntsAre items.toList ms)(hb:items.size+1<scanBound)
  (h:∀(h':Heap) (tk:Nat) (ns:List Int),mr prog w h' s.heap.objs.size (qI w) ns->(∀x,x∈ns↔x∈ms)->ns.length<=ms.length->(∀b o,s.heap.get? b=some o->h'.get? b=some o)->Q (.ref s.heap.objs.size) {s with heap:=h',toks:=tk}):
  wpAny (model prog w) A (call (.type "set") [.ref r]) Q E s:=by
 obtain⟨c,tl,aeT⟩:=ack.mro
 have adu:=ack.made
 have vL:=ack.sub
 refine wpAny_call (codeAny_of_tree ?_)
 show wpAny _ _ (callAny (.type "set") _) _ _ _
 refine aae ⟨Code.quiet_builtin _ (by decide +kernel),acB PySem.F.entry_type_call ?_⟩
 rw[Around.under_plain (weight_type_call_type "set" [.ref r] []) rfl]
 have h1:=ack.notType
 have h2:=ack.canCreate
 have hct:=PySem.F.typeCall_set_1 (.ref r)
 repeat(any_goals (first|assumption|wp_step))
 refine acD (OF (.ref r) (E:=E) (Q₁:=λobj bO=>obj=.ref s.heap.objs.size/\bO={s with heap:=s.heap.push (iG w)}) ⟨rfl,rfl⟩) λq bO hq=>?_
 cases q with
 |error e=>exact hq
 |ok fl=>
   cases fl with
   |ret obj=>
     obtain⟨rfl,rfl⟩:=hq;have hS:(s.heap.push (iG w)).get? s.heap.objs.size=some (iG w):=aag _ rfl;have hT:Shared.TypeIs {s with heap:=s.heap.push (iG w)} (.ref s.heap.objs.size) "set":=⟨_,hS,rfl⟩;have ZX:=ack.init.lookup;have hbi:=ack.init.bind (.ref s.heap.objs.size);repeat(any_goals (first|assumption|wp_step))
     refine acD (ac2 (R:=wants (λv mF=>v=.none/\∃h' tk ns,mF={s with heap:=h',toks:=tk}/\mr prog w h' s.heap.objs.size (qI w) ns/\(∀x,x∈ns↔x∈ms)/\ns.length<=ms.length/\∀b o,s.heap.get? b=some o->h'.get? b=some o) E)
      ack.init.plain PySem.F.entry_set_init (check_set_init_1 hT ?_)) λabq mF K3=>?_
     .obtain ⟨abr,Q2,uI⟩:=src.ty;obtain⟨aeU,Yh,Yi,TZ⟩:=abr;simp only at uI;subst uI;have aeV:(s.heap.push (iG w)).get? r=some {cls:=.type T,dict:=Yh,data:=Yi,slots:=TZ}:=aab _ Q2;have Ny:=src.TX;have rJ:=src.TY;have gK:=src.nd;unfold Builtin.«set.__init__» noKeywords Builtin.Frozenset.updateFrom;generalize hPI:pyIter=PI;wp_walk;subst hPI;refine src.iter _ _ _ _ (λo e=>aab _ e) ?_;refine aaa (wpAny_runValue ?_);have hrS:r<s.heap.objs.size:=aai Q2;have hh3:A.in1.in1.in1.handled=none:=by simp[hh]
      have hz:(s.heap.push (iG w)).objs.size=s.heap.objs.size+1:=abK _ _;have abt:r≠(s.heap.push (iG w)).objs.size:=by rw[hz];exact aat (ac3 hrS)
      have TU:s.heap.objs.size∉[(s.heap.push (iG w)).objs.size,r]:=by
       rw[hz];simp only[aam,ade,or_false,not_or];exact⟨aat (acp _),adg hrS⟩
      have Ir:∀(i:Nat) (v:Value),items[i]?=some v->∃t,v=.int ((λi=>ms.getD i 0) i) t:=λi v hv=>IntsAre.int_at hi i v (by rw[Array.getElem?_toList];exact hv);have hlen:ms.length=items.size:=by have:=(eM.mp hi).2;rw[this];simp
      refine K2 ((src.walk _ _ hh3 abt).toS) s.heap.objs.size TU (λi=>ms.getD i 0) Ir hb (items.size-0) 0 _ [] (by lia) (ab8 _) (src.st _ λo e=>aab _ e) (Iq (aab _ hS)) (aah _) (λx=>by simp) ?_;intro s' qH mv S' l' m';obtain⟨h',g',d',tk',os'⟩:=s';have eg:g'=s.gens:=mv.gens;have ed:d'=s.drawn:=mv.drawn;have eo:os'=s.os:=mv.os;subst eg ed eo;show wpAny _ _ _ _ _ _;refine aae ?_;show wpAny _ _ (ret Value.none) _ _ _;refine aae ⟨rfl,h',tk',qH,rfl,S',λx=>?_,by lia,λb o e=>?_⟩
      .rw [m',<-hlen];constructor
       .rintro ⟨j,hj,e⟩;rw[aa2,aau hj]at e;rw[<-e];exact adv hj
       .intro hx;obtain⟨j,hj,e⟩:=ac8 hx;exact⟨j,hj,by rw[aa2,aau hj];exact e⟩
      .have Yj:=aai e;refine mv.heap b o ?_ (aab _ (aab _ e));rw[hz];simp only[aam,ade,or_false,not_or];exact⟨aat Yj,aat (ac3 Yj)⟩
     .cases abq with
      |error e=>exact K3
      |ok Yk=>
        cases Yk with
        |ret v=>
          obtain⟨rfl,h',tk,ns,rfl,S',m',l',k'⟩:=K3;repeat(any_goals (first|assumption|wp_step))
          exact h _ _ ns S' m' l' k'
        |_=>exact K3.elim
   |_=>exact hq.elim
end
end LS
namespace LS
open PySem PyProof.Rows
set_option maxRecDepth 100000
theorem cf:Slot "set_iterator" "__next__" "set_iterator.__next__":=
 .of (owner:="set_iterator") (n:="__next__") (by rw[typeLookup_type,builtinLookup_eq_fast];kernel_rfl) (by decide +kernel) (by decide +kernel) (by decide +kernel) (by first|exact .inl (by decide +kernel)|exact .inr (by decide +kernel)) (by rw[adX];kernel_rfl)
theorem qJ:Slot "set_iterator" "__iter__" "set_iterator.__iter__":=
 .of (owner:="set_iterator") (n:="__iter__") (by rw[typeLookup_type,builtinLookup_eq_fast];kernel_rfl) (by decide +kernel) (by decide +kernel) (by decide +kernel) (by first|exact .inl (by decide +kernel)|exact .inr (by decide +kernel)) (by rw[adX];kernel_rfl)
theorem iH:entryFor table "set_iterator.__next__"=some Builtin.«set_iterator.__next__»:=entryFor_of_tree (by kernel_rfl)
theorem xZ:entryFor table "set_iterator.__iter__"=some Builtin.«dict_keyiterator.__iter__»:=
 entryFor_alias (id':="dict_keyiterator.__iter__") (by kernel_rfl) (by first|rfl|decide +kernel|(unfold String.splitOn;simp +decide[String.splitOnAux])) (by decide +kernel) (by kernel_rfl)
theorem vO:entryFor table "set.__iter__"=some Builtin.«frozenset.__iter__»:=
 entryFor_alias (id':="frozenset.__iter__") (by kernel_rfl) (by first|rfl|decide +kernel|(unfold String.splitOn;simp +decide[String.splitOnAux])) (by decide +kernel) (by kernel_rfl)
theorem Cg:Manifest.owners.lookup (String.ofList ['r','o','t','a','r','e','t','i','_','t','e','s'].reverse)=some Manifest.sig_set_iterator:=by kernel_rfl
theorem jg(a:Value):argsOk "set_iterator.__next__" ⟨[a],[]⟩:=by
 unfold argsOk;rw[signature?_of (id:="set_iterator.__next__") (n:=['_','_','t','x','e','n','_','_']) (o:=['r','o','t','a','r','e','t','i','_','t','e','s']) (by kernel_rfl) Cg];kernel_rfl
theorem z6(a:Value):argsOk "set_iterator.__iter__" ⟨[a],[]⟩:=by
 unfold argsOk;rw[signature?_of (id:="set_iterator.__iter__") (n:=['_','_','r','e','t','i','_','_']) (o:=['r','o','t','a','r','e','t','i','_','t','e','s']) (by kernel_rfl) Cg];kernel_rfl
def ly(h:Heap)(it a:Addr)(first:Value)(i n ep:Nat):Prop:=∃o,h.get? it=some o/\o.cls=.type "set_iterator"/\o.data=.fields #[first,.int i 0,.ref a,.int n 0,.int ep 0]
section
variable {prog:Program}{w:World}{A:Around}{E:dz}{s:Shared}{it a:Addr}{first:Value}{i n ep:Nat}
theorem ly.at(x:ly h it a first i n ep)(k:∀o,h.get? it=some o->h'.get? it=some o):ly h' it a first i n ep:=let⟨o,e,r⟩:=x;⟨o,k o e,r⟩
theorem ly.typeIs(x:ly s.heap it a first i n ep):s.TypeIs (.ref it) "set_iterator":=let⟨o,e,c,_⟩:=x;⟨o,e,c⟩
def ik(h:Heap)(a:Addr)(es:Array (Int×Value))(ep:Nat)(t:SetTable):Prop:=∃o,h.get? a=some o/\o.ExactSet/\o.data=.set es ep t
theorem ik.at(x:ik h a es ep t)(k:∀o,h.get? a=some o->h'.get? a=some o):ik h' a es ep t:=let⟨o,e,r⟩:=x;⟨o,k o e,r⟩
theorem z8(hit:ly s.heap it a first i n ep)(h:Q (.ref it) s):wpAny (model prog w) A (pyIter (.ref it)) Q E s:=by
 refine wpAny_pyIter_slot hit.typeIs qJ (ab0 qJ hit.typeIs xZ ?_ (z6 _))
 exact aae ⟨_,rfl,"set_iterator",_,hit.typeIs,cf.lookup,h⟩
variable {es:Array (Int×Value)}{t:SetTable}{slot:Nat}
theorem GF(hit:ly s.heap it a (.int slot 0) i n ep)(hS:ik s.heap a es ep t)(hf:t.fits es.size=true)(hn:es.size=n)
  (hx:∀(A':Around) (Q':Option (Value×Nat)->Shared->Prop) (E':dz),Q' (some (x,next)) s->wpAny (model prog w) A' (setNext a slot i ep) Q' E' s)
  (hQ:∀h',ly h' it a (.int next 0) (i+1) n ep->Heap.SameBut it s.heap h'->Q (some x) {s with heap:=h'}):wpAny (model prog w) A (pyNext (.ref it)) Q E s:=by
 obtain⟨o,ho,hc,hd⟩:=id hit
 obtain⟨os,Q3,hex,Q4⟩:=id hS
 refine aaa (adF (abL (name:=Str.ofString "__next__") hit.typeIs cf (ab0 cf hit.typeIs iH ?_ (jg _))))
 refine aaa (aae ?_)
 refine aaa (aez ho hd ?_)
 dsimp only
 refine aaa (ac9 Q3 Q4 hf ?_)
 rw[aaO (by rw[hn];simp)]
 refine aaa ?_
 refine hx _ _ _ ?_
 refine aaa (acT ho hd (by simp) ?_)
 have e1:=abi (Obj.mapFields (·.setIfInBounds 0 (rawInt next))) ho (acV (abT hd _))
 have d1:=abT hd (·.setIfInBounds 0 (rawInt next))
 refine aaa (acT e1 d1 (by simp) ?_)
 refine aae ⟨x,rfl,aae (hQ _ ?_ ((abz ..).trans (abz ..)))⟩
 refine⟨_,abi _ e1 (acV (abT d1 _)),?_,?_⟩
 .rw [adV,adV];exact hc
 .rw [abT d1];simp[rawInt]
theorem K4(hh:A.handled=none)(hit:ly s.heap it a (.int slot 0) i n ep)(hS:ik s.heap a es ep t)(hf:t.fits es.size=true)(hn:es.size=n)
  (hx:∀(A':Around) (Q':Option (Value×Nat)->Shared->Prop) (E':dz),Q' none s->wpAny (model prog w) A' (setNext a slot i ep) Q' E' s)
  (hQ:∀h',Heap.ExtBut it s.heap h'->Q none {s with heap:=h'}):wpAny (model prog w) A (pyNext (.ref it)) Q E s:=by
 obtain⟨o,ho,hc,hd⟩:=id hit
 obtain⟨os,Q3,hex,Q4⟩:=id hS
 refine aaa (adF (abL (name:=Str.ofString "__next__") hit.typeIs cf (ab0 cf hit.typeIs iH ?_ (jg _))))
 refine aaa (aae ?_)
 refine aaa (aez ho hd ?_)
 dsimp only
 refine aaa (ac9 Q3 Q4 hf ?_)
 rw[aaO (by rw[hn];simp)]
 refine aaa ?_
 simp only[ab4]
 refine hx _ _ _ ?_
 refine aaa (acT ho hd (by simp) ?_)
 refine aaa ?_
 refine aaa (m:=firstArgMember _ _) (aeN (a:=Value.none) (by first|rfl|(simp only[firstArgMember];rfl)) ?_)
 refine acr ?_ (by size_fits)
 refine aaa (wpAny_handled ?_)
 first|rw[show A.in1.handled=none from hh]|rw[hh]
 refine aaa (aae (wpAny_throw ?_))
 refine aaa (wpAny_isInstance (T:="StopIteration") (b:=true) ⟨_,aag _ rfl,rfl⟩ isSubtype_stop ?_)
 exact aae (hQ _ (((abz ..).extBut.push _).push _))
theorem K5{pl:Nat}(hit:ly s.heap it a (.ref tp) i n ep)(ht:s.heap.IsTuple tp ps)(hS:ik s.heap a es ep t)(hf:t.fits es.size=true)(hn:es.size=n)
  (hp:ps[i]?=some (.int pl 0))(hx:es[pl]?=some (hsh,x))
  (hQ:∀h',ly h' it a (.ref tp) (i+1) n ep->Heap.SameBut it s.heap h'->Q (some x) {s with heap:=h'}):wpAny (model prog w) A (pyNext (.ref it)) Q E s:=by
 obtain⟨o,ho,hc,hd⟩:=id hit
 obtain⟨os,Q3,hex,Q4⟩:=id hS
 obtain⟨ot,hot,_,nt,hdt⟩:=ht
 refine aaa (adF (abL (name:=Str.ofString "__next__") hit.typeIs cf (ab0 cf hit.typeIs iH ?_ (jg _))))
 refine aaa (aae ?_)
 refine aaa (aez ho hd ?_)
 refine aaa (ac9 Q3 Q4 hf ?_)
 rw[aaO (by rw[hn];simp)]
 refine aaa (aex hot hdt ?_)
 simp only[ab4,hp]
 refine aaa ?_
 refine aaa (ac1 Q3 Q4 hf ?_)
 dsimp only
 rw[aaO (by simp)]
 simp only[hx]
 refine aae ?_
 refine aaa (acT ho hd (by simp) ?_)
 refine aae ⟨x,rfl,aae (hQ _ ?_ (abz ..))⟩
 refine⟨_,abi _ ho (acV (abT hd _)),?_,?_⟩
 .rw [adV];exact hc
 .rw [abT hd];simp[rawInt]
theorem OG(hh:A.handled=none)(hit:ly s.heap it a (.ref tp) i n ep)(ht:s.heap.IsTuple tp ps)(hS:ik s.heap a es ep t)(hf:t.fits es.size=true)(hn:es.size=n)
  (hp:ps[i]?=none)(hQ:∀h',Heap.ExtBut it s.heap h'->Q none {s with heap:=h'}):wpAny (model prog w) A (pyNext (.ref it)) Q E s:=by
 obtain⟨o,ho,hc,hd⟩:=id hit
 obtain⟨os,Q3,hex,Q4⟩:=id hS
 obtain⟨ot,hot,_,nt,hdt⟩:=ht
 refine aaa (adF (abL (name:=Str.ofString "__next__") hit.typeIs cf (ab0 cf hit.typeIs iH ?_ (jg _))))
 unfold Builtin.«set_iterator.__next__»
 refine aaa (aae ?_)
 dsimp only
 refine aaa (aez ho hd ?_)
 dsimp only
 refine aaa (ac9 Q3 Q4 hf ?_)
 rw[aaO (by rw[hn];simp)]
 refine aaa (aex hot hdt ?_)
 dsimp only
 simp only[ab4,hp]
 refine aaa (acT ho hd (by simp) ?_)
 have e1:=abi (Obj.mapFields (·.setIfInBounds 0 (rawInt 0))) ho (acV (abT hd _))
 have d1:=abT hd (·.setIfInBounds 0 (rawInt 0))
 refine aaa (acT e1 d1 (by simp) ?_)
 refine aaa ?_
 simp only[newExc]
 refine aaa (m:=firstArgMember _ _) (aeN (a:=Value.none) (by first|rfl|(simp only[firstArgMember];rfl)) ?_)
 refine acr ?_ (by size_fits)
 refine aaa (wpAny_handled ?_)
 first|rw[show A.in1.handled=none from hh]|rw[hh]
 refine aaa (aae (wpAny_throw ?_))
 refine aaa (wpAny_isInstance (T:="StopIteration") (b:=true) ⟨_,aag _ rfl,rfl⟩ isSubtype_stop ?_)
 exact aae (hQ _ ((((abz ..).trans (abz ..)).extBut.push _).push _))
theorem vP(hS:ik s.heap a es ep t)(hf:t.fits es.size=true)(hw:w.params.followText "set-order"=false)(hl:t.led=true)(hp:(!t.plain&&decide (es.size>1))=false) 
  (h:Q (match es[SetTable.below t.place slot]?,t.place[SetTable.below t.place slot]? with|some (_,x),some j=>some (x,j+1)|_,_=>none) s):wpAny (model prog w) A (setNext a slot i ep) Q E s:=by
 obtain⟨o,ho,_,hd⟩:=hS
 refine aaa (ac1 ho hd hf ?_)
 refine aaa ?_
 refine aaa (adb (aae ?_))
 show wpAny _ _ (if w.params.followText "set-order"=true then _ else _) _ _ _
 rw[hw,aaO aaZ]
 show wpAny _ _ (if(!t.plain&&decide (es.size>1))=true then _ else _) _ _ _
 rw[hp,aaO aaZ]
 refine aaa ?_
 show wpAny _ _ (if(!t.led&&!es.isEmpty)=true then _ else _) _ _ _
 rw[hl,aaO (by simp)]
 exact aae (aae h)
theorem yY(hS:ik s.heap a es ep t)(hf:t.fits es.size=true)(hw:w.params.followText "set-order"=true) 
  (h:Q (((pickOrder (w.params.setOrder a ep) es)[i]?).map λe=>(e.2,slot)) s):wpAny (model prog w) A (setNext a slot i ep) Q E s:=by
 obtain⟨o,ho,_,hd⟩:=hS
 refine aaa (ac1 ho hd hf ?_)
 refine aaa ?_
 refine aaa (adb (aae ?_))
 show wpAny _ _ (if w.params.followText "set-order"=true then _ else _) _ _ _
 rw[hw,aaq rfl]
 rw[aaO (by simp)]
 refine aaa ?_
 refine aaa (ac1 ho hd hf ?_)
 refine aaa ?_
 refine aaa (adb (aae ?_))
 show wpAny _ _ (if w.params.followText "set-order"=true then _ else _) _ _ _
 rw[hw,aaq rfl]
 exact aaa (adb (aae (aae h)))
end
end LS
namespace LS
open PySem PySem.Spec PyProof.Rows
theorem pB{α:Type}:∀{l:List α} {i:Nat} (h:i<l.length),(l[i]::l.eraseIdx i).Perm l
 |x::l,0,_=>by simp
 |x::l,i+1,h=>by
   have h':i<l.length:=by simpa using h
   have:=pB h';exact(List.Perm.swap _ _ _).trans (List.Perm.cons _ this)
theorem GH(next:Nat->Nat):∀(fuel k:Nat) (left:List α) (out:Array α),left.length=fuel->(pickOrder.go next fuel k left out).toList.Perm (out.toList++left)
 |0,k,left,out,h=>by
   have:left=[]:=acy.mp h;subst this;rw[pickOrder.go,abk]
 |fuel+1,k,left,out,h=>by
   rw[pickOrder.go];have hl:next k%left.length<left.length:=Nat.mod_lt _ (by lia);rw[aau hl];refine(GH next fuel (k+1) _ _ (by rw[List.length_eraseIdx_of_lt hl];lia)).trans ?_;rw[adW,ach];exact List.Perm.append_left _ (pB hl)
theorem Iu(next:Nat->Nat)(xs:Array α):(pickOrder next xs).toList.Perm xs.toList:=by
 have:=GH next xs.size 0 xs.toList #[] (by simp)
 simpa[pickOrder]using this
section
variable {prog:Program}{w:World}{A:Around}{E:dz}{s:Shared}{a:Addr}{i n ep:Nat}{es:Array (Int×Value)}{t:SetTable}
theorem Ex(hn:n≠0)(h:∀i d',i<n->Q i {s with drawn:=d'}):wpAny M A (choose src n) Q E s:=
 λ_ _ _=>⟨hn,h _ _ (Nat.mod_lt _ (Nat.pos_of_ne_zero hn))⟩
theorem vQ:∀(n:Nat) (xs:List α) (s:Shared) (Q:List α->Shared->Prop),xs.length=n->(∀ys d',ys.Perm xs->Q ys {s with drawn:=d'})->wpAny M A (drawOrder n xs) Q E s
 |0,xs,s,Q,hl,h=>by
   have e:=acy.mp hl;subst e;exact aae (h [] s.drawn (.refl _))
 |n+1,[],s,Q,hl,h=>by cases hl
 |n+1,x::xs,s,Q,hl,h=>by
   rw[drawOrder];rotate_left;.grind
   refine aaa (Ex (by simp) λi d' hi=>?_);rw[aau hi];refine aaa (vQ n _ _ _ (by rw[List.length_eraseIdx_of_lt hi];lia) λys d2 hp=>aae ?_);refine h _ d2 ?_;exact(List.Perm.cons _ hp).trans (pB hi)
theorem Iw(hf:t.fits es.size=true)(hw:w.params.followText "set-order"=true)(gK:a≠I)(hh:A.handled=none):
  Walks prog w A I [I,a] [I] (pickOrder (w.params.setOrder a ep) es).size (λi v=>((pickOrder (w.params.setOrder a ep) es).toList.map (·.2))[i]?=some v) (λi h=>ly h I a (.int (0:Nat) 0) i es.size ep/\ik h a es ep t) where
 sub:=λb hb=>by simp at hb;simp[hb]
 frame:=λ_ _ _ st hk=>⟨st.1.at λo e=>hk I (by simp) o e,st.2.at λo e=>hk a (by simp) o e⟩
 item:=λi s Q E hi st hQ=>by
  refine GF (x:=((pickOrder (w.params.setOrder a ep) es)[i]).2) (next:=0) st.1 st.2 hf rfl (λA' Q' E' q=>yY st.2 hf hw (by rw[abQ hi];exact q)) λh' Es qr=>?_;exact hQ _ h' s.toks (by simp[hi]) ⟨Es,st.2.at λo e=>qr.extBut a o gK e⟩ λb o hb e=>qr.extBut b o (λh=>hb (by simp[h])) e
 done:=λs Q E st hQ=>K4 hh st.1 st.2 hf rfl (λA' Q' E' q=>yY st.2 hf hw (by rw[adY (by simp)];exact q)) λh' Yl=>hQ h' s.toks λb o hb e=>Yl b o (λh=>hb (by simp[h])) e
 self:=λ_ _ _ _ st hQ=>z8 st.1 hQ
theorem Ey(hf:t.fits es.size=true)(hw:w.params.followText "set-order"=false)(hl:t.led=true)(hp:(!t.plain&&decide (es.size>1))=false)(hr:zY t.place.toList)(gK:a≠I)(hh:A.handled=none):
  Walks prog w A I [I,a] [I] es.size (λi v=>(es.toList.map (·.2))[i]?=some v)
   (λi h=>∃slot:Nat,ly h I a (.int slot 0) i es.size ep/\ik h a es ep t/\(∀k,k<i->t.place.getD k 0<slot)/\∀k,i<=k->k<t.place.size->slot<=t.place.getD k 0) where
 sub:=λb hb=>by simp at hb;simp[hb]
 frame:=λ_ _ _ ⟨slot,Ez,jF,Nt⟩ hk=>⟨slot,Ez.at λo e=>hk I (by simp) o e,jF.at λo e=>hk a (by simp) o e,Nt⟩
 item:=λi s Q E hi ⟨slot,Ez,jF,Nt,st4⟩ hQ=>by
  have hz:t.place.size=es.size:=by simp only[SetTable.fits,aax,ac4]at hf;exact hf.1
  have hb:=vM hr (by lia) Nt st4;have i8:t.place[i]?=some (t.place.getD i 0):=by rw[abQ (by lia)];simp[hz,hi]
  refine GF (x:=es[i].2) (next:=t.place.getD i 0+1) Ez jF hf rfl (λA' Q' E' q=>vP jF hf hw hl hp (by rw[hb,abQ hi,i8];exact q)) λh' Es qr=>?_;refine hQ _ h' s.toks (by simp[hi]) ⟨_,Es,jF.at λo e=>qr.extBut a o gK e,λk hk=>?_,λk h1 h2=>?_⟩ λb o hb e=>qr.extBut b o (λh=>hb (by simp[h])) e;.grind
  .have:=qG hr (show i<k by lia) h2 0 0;lia
 done:=λs Q E ⟨slot,Ez,jF,Nt,st4⟩ hQ=>by
  have hz:t.place.size=es.size:=by simp only[SetTable.fits,aax,ac4]at hf;exact hf.1
  have hb:=vM hr (by lia) Nt st4;exact K4 hh Ez jF hf rfl (λA' Q' E' q=>vP jF hf hw hl hp (by rw[hb,adY (aah _)];exact q)) λh' Yl=>hQ h' s.toks λb o hb e=>Yl b o (λh=>hb (by simp[h])) e
 self:=λ_ _ _ _ ⟨slot,Ez,_⟩ hQ=>z8 Ez hQ
theorem EA{ys:List Nat}(hf:t.fits es.size=true)(hy:ys.Perm (List.range es.size))(gK:a≠I)(hnt:tp≠I)(hh:A.handled=none):
  Walks prog w A I [I,a,tp] [I] es.size (λi v=>(ys.map λp=>(es.getD p (0,Value.none)).2)[i]?=some v) (λi h=>ly h I a (.ref tp) i es.size ep/\h.IsTuple tp (ys.map λp:Nat=>rawInt p).toArray/\ik h a es ep t) where
 sub:=λb hb=>by simp at hb;simp[hb]
 frame:=λ_ _ _ st hk=>⟨st.1.at λo e=>hk I (by simp) o e,st.2.1.at λo e=>hk tp (by simp) o e,st.2.2.at λo e=>hk a (by simp) o e⟩
 item:=λi s Q E hi st hQ=>by
  have V9:ys.length=es.size:=by rw[hy.length_eq];simp
  have hp:ys[i]<es.size:=acw.mp (hy.mem_iff.mp (adv (by lia)));refine K5 (x:=es[ys[i]].2) (pl:=ys[i]) (hsh:=es[ys[i]].1) st.1 st.2.1 st.2.2 hf rfl (by simp[V9,hi,rawInt]) (by rw[abQ hp]) λh' Es qr=>?_;refine hQ _ h' s.toks ?_ ⟨Es,st.2.1.at λo e=>qr.extBut tp o hnt e,st.2.2.at λo e=>qr.extBut a o gK e⟩ λb o hb e=>qr.extBut b o (λh=>hb (by simp[h])) e;rw[aa4,aau (by lia)];simp[Array.getD,hp]
 done:=λs Q E st hQ=>by
  have V9:ys.length=es.size:=by rw[hy.length_eq];simp
  exact OG hh st.1 st.2.1 st.2.2 hf rfl (by simp[V9]) λh' Yl=>hQ h' s.toks λb o hb e=>Yl b o (λh=>hb (by simp[h])) e
 self:=λ_ _ _ _ st hQ=>z8 st.1 hQ
theorem K6(hS:ik s.heap a es ep t)(hf:t.fits es.size=true)(hr:zY t.place.toList)(hl:t.led=qI w)(hz:es.size<=sizeLine)
  (h:∀(I:Addr) (fp:List Addr) (ord:bU) (St:Nat->Heap->Prop) (h1:Heap) (d1:Drawn),ord.Perm (es.toList.map (·.2))->(∀A':Around,A'.handled=none->Walks prog w A' I fp [I] ord.length (λi v=>ord[i]?=some v) St)->St 0 h1->
   (∀b o,s.heap.get? b=some o->h1.get? b=some o)->s.heap.objs.size<=I->(∀b∈fp,b=a\/s.heap.objs.size<=b)->Q (.ref I) {s with heap:=h1,drawn:=d1}):wpAny (model prog w) A (pyIter (.ref a)) Q E s:=by
 obtain⟨o,ho,hex,hd⟩:=id hS
 have hT:s.TypeIs (.ref a) "set":=⟨o,ho,hex.1⟩
 have i9:=aai ho
 refine wpAny_pyIter_slot hT PySem.F.slot_set_iter (ab0 PySem.F.slot_set_iter hT vO ?_ (PySem.F.args_set_iter_1 _))
 refine aaa (aae ?_)
 refine aaa ?_
 refine aaa (ac9 ho hd hf (aae ?_))
 refine aaa ?_
 refine aaa (ac1 ho hd hf ?_)
 refine aaa ?_
 refine aaa (adb (aae (aae ?_)))
 show wpAny _ _ (if(!w.params.followText "set-order"&&(!t.plain&&decide (es.size>1)))=true then _ else _) _ _ _
 have slots:∀{ord:bU} (St:Addr->Nat->Heap->Prop),ord.Perm (es.toList.map (·.2))->(∀(A':Around) (I:Addr),a≠I->A'.handled=none->Walks prog w A' I [I,a] [I] ord.length (λi v=>ord[i]?=some v) (St I))->
   (∀h' I,ly h' I a (.int (0:Nat) 0) 0 es.size ep->ik h' a es ep t->St I 0 h')->Q (.ref s.heap.objs.size) {s with heap:=s.heap.push {cls:=.type "set_iterator",data:=.fields #[.int (0:Nat) 0,.int (0:Nat) 0,.ref a,.int (es.size:Nat) 0,.int (ep:Nat) 0]}}:=by
  intro ord St hp hW Bv;have gK:=aat i9;exact h s.heap.objs.size [s.heap.objs.size,a] ord (St s.heap.objs.size) _ s.drawn hp (λA' hh=>hW A' _ gK hh) (Bv _ _ ⟨_,aag _ rfl,rfl,rfl⟩ (hS.at λo e=>aab _ e)) (λb o e=>aab _ e) (aah _)
   λb hb=>by grind
 by_cases ZY:(!w.params.followText "set-order"&&(!t.plain&&decide (es.size>1)))=true
 .rw [aaq ZY];refine aaa (vQ _ _ _ _ (by simp) λys d' hy=>?_);refine wpAny_bind (wpAny_newTuple ?_ (by rw[List.length_map,hy.length_eq];simpa using hz));have hT1:(s.heap.push {cls:=.type "tuple",data:=.seq (ys.map λp:Nat=>rawInt p).toArray}).IsTuple s.heap.objs.size (ys.map λp:Nat=>rawInt p).toArray:=⟨_,aag _ rfl,rfl,_,rfl⟩;have Wa:=hS.at (h':=s.heap.push {cls:=.type "tuple",data:=.seq (ys.map λp:Nat=>rawInt p).toArray}) λo e=>aab _ e;obtain⟨o1,uz,_,Bz⟩:=id Wa;refine aaa (wpAny_setEpoch_of uz Bz hf ?_);have Ny:(s.heap.push {cls:=.type "tuple",data:=.seq (ys.map λp:Nat=>rawInt p).toArray}).objs.size=s.heap.objs.size+1:=abK _ _;refine aaa (acr (aae ⟨_,rfl,"set_iterator",_,⟨_,aag _ rfl,rfl⟩,cf.lookup,?_⟩));have hy2:(ys.map λp=>(es.getD p (0,Value.none)).2).Perm (es.toList.map (·.2)):=by
   refine(hy.map _).trans ?_;have e:(List.range es.size).map (λp=>(es.getD p (0,Value.none)).2)=es.toList.map (·.2):=by
    refine List.ext_getElem (by simp) λi h1 h2=>?_;simp at h1;simp[h1]
   rw[e]
  have TN:(ys.map λp=>(es.getD p (0,Value.none)).2).length=es.size:=by rw[aaj,hy.length_eq];simp
  refine h (s.heap.push {cls:=.type "tuple",data:=.seq (ys.map λp:Nat=>rawInt p).toArray}).objs.size [_,a,s.heap.objs.size] _ (λi h=>ly h (s.heap.push {cls:=.type "tuple",data:=.seq (ys.map λp:Nat=>rawInt p).toArray}).objs.size a (.ref s.heap.objs.size) i es.size ep/\h.IsTuple s.heap.objs.size (ys.map λp:Nat=>rawInt p).toArray/\ik h a es ep t) _ d' hy2 (λA' hh=>by rw[TN];exact EA (t:=t) (ep:=ep) hf hy (by rw[Ny];exact aat (ac3 i9)) (by rw[Ny];exact aat (acp _)) hh)
   ⟨⟨_,aag _ rfl,rfl,by simp[rawInt]⟩,hT1.push _,Wa.at λo e=>aab _ e⟩ (λb o e=>aab _ (aab _ e)) (by rw[Ny];exact adN _) λb hb=>?_;simp at hb;rcases hb with z|z|z;.grind
  .grind
  .grind
 .rw [aaO ZY];refine aaa (aae ?_);refine aaa (wpAny_setEpoch_of ho hd hf ?_);refine aaa (acr (aae ⟨_,rfl,"set_iterator",_,⟨_,aag _ rfl,rfl⟩,cf.lookup,?_⟩));cases hw:w.params.followText "set-order" with
  |true=>
    have hpz:((pickOrder (w.params.setOrder a ep) es).toList.map (·.2)).length=(pickOrder (w.params.setOrder a ep) es).size:=by simp
    exact slots (ord:=(pickOrder (w.params.setOrder a ep) es).toList.map (·.2)) (λI i h=>ly h I a (.int (0:Nat) 0) i es.size ep/\ik h a es ep t) ((Iu _ _).map _) (λA' I gK hh=>by rw[hpz];exact Iw hf hw gK hh) λh' I x y=>⟨x,y⟩
  |false=>
    rw[hw]at ZY;have i8:(!t.plain&&decide (es.size>1))=false:=by simpa using ZY
    have hle:t.led=true:=by rw[hl];simp[hw]
    have hpz:(es.toList.map (·.2)).length=es.size:=by simp
    refine slots (ord:=es.toList.map (·.2)) (λI i h=>∃slot:Nat,ly h I a (.int slot 0) i es.size ep/\ik h a es ep t/\(∀k,k<i->t.place.getD k 0<slot)/\∀k,i<=k->k<t.place.size->slot<=t.place.getD k 0) (.refl _)
     (λA' I gK hh=>by rw[hpz];exact Ey hf hw hle i8 hr gK hh) λh' I x y=>⟨0,x,y,λk hk=>by lia,λk _ _=>ab8 _⟩
end
end LS
namespace LS
open PySem PySem.Spec PySem.Calls PyProof.Rows
section
variable {prog:Program}{w:World}{A:Around}{E:dz}{s:Shared}{a:Addr}{ns:List Int}
theorem K7(hT:s.TypeIs (.ref a) "set")(h:Q false s):wpAny (model prog w) A (Builtin.List.listLengthHint (.ref a)) Q E s:=by
 refine aaa (wpAny_specialOf hT PySem.F.slot_set_len.lookup ?_)
 generalize K8:("set.__len__":String)=id0
 subst K8
 refine aaa (wpAny_isInstance (T:="set") (b:=true) hT (by rw[adX];kernel_rfl) ?_)
 exact aaa (wpAny_typeOf hT (aae h))
theorem Ci(hh:A.handled=none)(hS:mr prog w s.heap a (qI w) ns)
  (h:∀(h':Heap) (tk:Nat) (d':Drawn) (vs:bU) (ms:List Int),(∀b o,s.heap.get? b=some o->h'.get? b=some o)->s.heap.objs.size<h'.objs.size->IntsAre vs ms->ms.Perm ns->R vs {s with heap:=h',toks:=tk,drawn:=d'}):
  wpAny (model prog w) A (collect (.ref a)) R E s:=by
 obtain⟨o,es,ep,t,ho,hex,hd,h1,h2,h3,h4,h5,h6,h7⟩:=hS
 have hz:=fits_of_scanBound h4
 have i9:=aai ho
 have hS0:ik s.heap a es ep t:=⟨o,ho,hex,hd⟩
 unfold collect
 refine aaa (wpAny_runValue (acB entry_proto_collect' ?_))
 rw[ado PySem.F.plain_proto_collect _]
 show wpAny _ A.in1 (newList [] >>= λl=>again (.builtin "list.__iadd__" ⟨[l,.ref a],[]⟩)) _ _ s
 refine aaa (acr ?_)
 refine aae ⟨aea PySem.F.plain_list_iadd _,acB entry_list_iadd' ?_⟩
 rw[ado PySem.F.plain_list_iadd _]
 generalize hP:s.heap.push {cls:=.type "list",data:=.seq ([]:bU).toArray}=P1
 have Q5:∀b o,s.heap.get? b=some o->P1.get? b=some o:=λb o e=>by rw[<-hP];exact aab _ e
 have hL:P1.get? s.heap.objs.size=some {cls:=.type "list",data:=.seq #[]}:=by rw[<-hP];exact aag _ rfl
 have OC:P1.objs.size=s.heap.objs.size+1:=by rw[<-hP];exact abK _ _
 show wpAny _ A.in1 (Builtin.List.listExtendWith (.ref s.heap.objs.size) (.ref a) (.ref s.heap.objs.size)) _ _ {s with heap:=P1}
 have key:wpAny (model prog w) A.in1 (Builtin.List.listExtendWith (.ref s.heap.objs.size) (.ref a) (.ref s.heap.objs.size))
   (λfin s'=>match fin with
    |.done f=>False
    |.again c'=>c'.quiet=true/\codeAny (model prog w) A c' (λq s'=>∃(h':Heap) (tk:Nat) (d':Drawn) (acc:Array Value) (c':Nat) (ms:List Int),q=.ok (.ret (.ref s.heap.objs.size))/\s'={s with heap:=h',toks:=tk,drawn:=d'}/\
      (∀b o,s.heap.get? b=some o->h'.get? b=some o)/\h'.get? s.heap.objs.size=some {cls:=.type "list",dict:=none,data:=.seq acc c',slots:=#[]}/\IntsAre acc.toList ms/\ms.Perm ns) s') (λ_ _=>False) {s with heap:=P1}:=by
  unfold Builtin.List.listExtendWith;have Wa:=hS0.at (h':=P1) λo e=>Q5 a o e;obtain⟨o1,uz,aby,Bz⟩:=id Wa;refine aaa (wpAny_typeOf (T:="set") ⟨o1,uz,aby.1⟩ ?_);have q1:Builtin.List.listSameRef (.ref s.heap.objs.size) (.ref a)=false:=by simp[Builtin.List.listSameRef,adg i9]
  have q2:(Value.type "set"==Value.type "list")=false:=by decide
  have q3:(Value.type "set"==Value.type "tuple")=false:=by decide
  simp only[q1,q2,q3,Bool.or_false,Bool.false_eq_true,if_false];refine aaa (K6 (s:={s with heap:=P1}) Wa h5 h7 h6 hz λI fp ord St Ym d1 hp hW K9 kp hI hfp=>?_);replace kp:∀b o,P1.get? b=some o->Ym.get? b=some o:=kp;replace hI:P1.objs.size<=I:=hI;replace hfp:∀b∈fp,b=a\/P1.objs.size<=b:=hfp;have TU:s.heap.objs.size∉fp:=λz=>by
   rcases hfp _ z with e|e;.exact abM _ (e ▸ i9)
   .rw [OC]at e;exact Nat.not_succ_le_self _ e
  have hSI:s.heap.objs.size≠I:=λz=>by rw[<-z,OC]at hI;exact Nat.not_succ_le_self _ hI
  obtain⟨o2,oP,hex2,_⟩:=Wa.at (h':=Ym) λo e=>kp a o e;obtain⟨i0,GI⟩:=si h2 hp;have TN:ord.length<=sizeLine:=by rw[hp.length_eq];simpa using hz
  have run:∀(g:Heap) (c0:Nat),St 0 g->(∀b o,b≠s.heap.objs.size->Ym.get? b=some o->g.get? b=some o)->g.get? s.heap.objs.size=some {cls:=.type "list",data:=.seq #[] c0}->
    codeAny (model prog w) A (.builtin "list.extend.loop" ⟨[.ref s.heap.objs.size,.ref I,.ref s.heap.objs.size],[]⟩) (λq s'=>∃(h':Heap) (tk:Nat) (d':Drawn) (acc:Array Value) (c':Nat) (ms:List Int),q=.ok (.ret (.ref s.heap.objs.size))/\s'={s with heap:=h',toks:=tk,drawn:=d'}/\
     (∀b o,s.heap.get? b=some o->h'.get? b=some o)/\h'.get? s.heap.objs.size=some {cls:=.type "list",dict:=none,data:=.seq acc c',slots:=#[]}/\IntsAre acc.toList ms/\ms.Perm ns) {s with heap:=g,drawn:=d1}:=by
   intro g c0 st k hg;refine codeAny_extend_loopS (hW A.in1 hh).toS TN _ TU _ ord.length 0 _ #[] c0 rfl (ab8 _) st hg (ItemsOf.nil _) λs' T4 c' mv V8 OH=>?_;obtain⟨hx,gx,dx,tx,ox⟩:=s';have eg:gx=s.gens:=mv.gens;have ed:dx=d1:=mv.drawn;have eo:ox=s.os:=mv.os;subst eg ed eo;have abA:T4.toList=ord:=by
    refine List.ext_getElem? λj=>?_;by_cases hj:j<T4.size;.have q:=OH.2 j _ (abQ hj);rw[q];simp[hj]
    .rw [ad6 (by simp;lia),ad6 (by rw[<-OH.1];lia)]
   refine⟨hx,tx,dx,T4,c',i0,rfl,rfl,λb o e=>?_,V8,by rw[abA];exact GI.1,GI.2⟩;have hb:=aai e;refine mv.heap b o ?_ (k b o (aat hb) (kp b o (Q5 b o e)));simp only[aam,ade,or_false,not_or];exact⟨aat hb,aat (aao hb (aaW (by rw[OC];exact adN _) hI))⟩
  have hg1:Ym.get? s.heap.objs.size=some {cls:=.type "list",data:=.seq #[]}:=kp _ _ hL;refine aaa (abN (K7 ⟨o2,oP,hex2.1⟩ ?_));refine wpAny_ite_split (λ_=>?_) (λ_=>aae ⟨aea PySem.F.plain_extend_loop _,run Ym 0 K9 (λb o _ e=>e) hg1⟩);refine aaa (ad7 (aaa ?_));show wpAny _ _ (updateSeq s.heap.objs.size (·.push .none) >>= λ_=>updateSeq s.heap.objs.size (·.pop)) _ _ _;refine aaa (wpAny_updateSeq hg1 rfl ?_);have T5:=abi (Obj.mapSeq (·.push Value.none)) hg1 rfl;refine wpAny_updateSeq (hz:=by seq_fits) T5 rfl ?_;have T6:=abi (Obj.mapSeq (·.pop)) T5 rfl;refine aae ⟨aea PySem.F.plain_extend_loop _,run _ _ ((hW A.in1 hh).frame 0 _ _ K9 λb hb o e=>?_) (λb o hb e=>?_) T6⟩;.have hbS:b≠s.heap.objs.size:=λz=>TU (z ▸ hb);exact(acg _ _ (acb hbS)).trans ((acg _ _ (acb hbS)).trans e)
  .exact (acg _ _ (acb hb)).trans ((acg _ _ (acb hb)).trans e)
 refine aa6 key (λfin s' x=>?_) λ_ _ z=>z.elim
 cases fin with
 |done f=>exact x.elim
 |again c₁=>
   refine⟨x.1,acD x.2 λq mF y=>?_⟩;obtain⟨h',tk,d',acc,c',ms,rfl,rfl,hk,V8,i1,p1⟩:=y;show wpAny _ A (load s.heap.objs.size >>= _) _ _ _;exact aaa (wpAny_load V8 (aae (h h' tk d' acc.toList ms hk (aai V8) i1 p1)))
theorem uJ(hh:A.handled=none)(hS:mr prog w s.heap a (qI w) ns)(h64:ns.length<64)
  (h:∀(D:Addr) (h':Heap) (tk:Nat) (d':Drawn) (out:Array Value) (n:Nat) (ms:List Int),s.heap.objs.size<=D->(∀b o,s.heap.get? b=some o->h'.get? b=some o)->h'.get? D=some (seqObj "list" out n)->IntsAre out.toList ms->ms.Perm ns->ms.Pairwise (·<=·)->Q (.ref D) {s with heap:=h',toks:=tk,drawn:=d'}):
  wpAny (model prog w) A (call (.builtin "sorted") [.ref a]) Q E s:=by
 refine call_function_entry kind_sorted plain_sorted entry_sorted (args_sorted1 _) ?_
 refine aaa (m:=checkCount "sorted" 1 1 _) (aae ?_)
 refine aaa (Ci (A:=A.in1) hh hS λh' tk d' vs ms hk hgr hi hp=>?_)
 have hl:vs.length=ns.length:=by rw[<-hp.length_eq,(eM.mp hi).2,aaj]
 have hzl:vs.length<=sizeLine:=by rw[sizeLine_eq];lia
 refine aaa (wpAny_newList ?_ hzl)
 have Xj:(h'.push (seqObj "list" vs.toArray 0)).get? h'.objs.size=some (seqObj "list" vs.toArray 0):=aag _ rfl
 refine aaa (abN (ab0 slot_list_sort ⟨_,Xj,rfl⟩ entry_list_sort (list_sort_tree Xj hi (by lia) λout ms' a1 a2 a3=>⟨_,rfl,?_⟩) (args_list_sort _)))
 obtain⟨en,hen⟩:=sortedHeap_at (out:=out) Xj
 refine aae ⟨_,rfl,h h'.objs.size _ tk d' out en ms' (acZ hgr) (λb o e=>?_) hen a1 (a2.trans hp) a3⟩
 have hb:=aai (hk b o e)
 rw[sortedHeap_old (aat hb) (by rw[size_push'];exact ac3 hb)]
 exact aab _ (hk b o e)
end
end LS
namespace L2
open PySem PySem.Spec PyProof.Rows LS
noncomputable def ins(x:Int):List Int->List Int
 |[]=>[x]
 |y::l=>if x<y then x::y::l else if x=y then y::l else y::ins x l
def ss:List Int->List Int
 |[]=>[]
 |x::l=>ins x (ss l)
set_option tactic.hygienic true in
theorem z9:∀{l:List Int},z∈ins x l↔z=x\/z∈l
 |[]=>by simp[ins]
 |y::l=>by
   rw[ins];split;.simp
   .split;.grind
    .simp only[aam,z9];constructor;.grind
     .grind
set_option tactic.hygienic true in
theorem vR:∀{l:List Int},l.Pairwise (·<·)->(ins x l).Pairwise (·<·)
 |[],_=>by simp[ins]
 |y::l,h=>by
   rw[acu]at h;rw[ins];split
   .rename_i OI;refine acu.mpr ⟨λz hz=>?_,acu.mpr h⟩;rcases aam.mp hz with e|e;.grind
    .grind
   .split;.simp_all
    .refine acu.mpr ⟨λz hz=>?_,vR h.2⟩;rcases z9.mp hz with e|e;.grind
     .grind
theorem EB:∀{l:List Int},z∈ss l↔z∈l
 |[]=>by simp[ss]
 |x::l=>by rw[ss,z9,EB,aam]
theorem oo:∀{l:List Int},(ss l).Pairwise (·<·)
 |[]=>.nil
 |_::_=>vR oo
theorem vS:∀{l m:List Int},l.Pairwise (·<·)->m.Pairwise (·<·)->(∀z,z∈l↔z∈m)->l=m
 |[],[],_,_,_=>rfl
 |[],y::m,_,_,h=>absurd ((h y).mpr aan) (by simp)
 |x::l,[],_,_,h=>absurd ((h x).mp aan) (by simp)
 |x::l,y::m,hl,hm,h=>by
   rw[acu]at hl hm;have e:x=y:=by
    rcases aam.mp ((h x).mp aan)with a|a;.exact a
    .rcases aam.mp ((h y).mpr aan)with b|b;.lia
     .grind
   subst e;rw[vS hl.2 hm.2 λz=>⟨λhz=>?_,λhz=>?_⟩];.grind
   .grind
theorem La(hm:m.Pairwise (·<·))(h:∀z,z∈m↔z∈l):ss l=m:=vS oo hm λz=>by rw[EB,h]
theorem OJ(h:l.Pairwise (·<·)):ss l=l:=La h λ_=>.rfl
section
variable {X:Cx}{pins:cz}{σ:St}{H:Hp}{s:Shared}
theorem Inv.drew(I:Inv X pins σ H s)(d':Drawn):Inv X pins σ H {s with drawn:=d'}:=
 I.step (d':=d') (g':=s.gens) (t':=s.toks) (ch:=[]) (λb hb=>by simp at hb) (λ_ _ _ _ _ e _=>e) (λb o _ _ _ e _=>⟨o.slots,e⟩) (λ_ _ _ _ n=>n) (λb o _ e=>⟨o,e⟩) (λ_ _ e=>e) (λ_ _ _ e=>e)
  (λb ps e=>⟨#[],by rw[e];simp⟩) (λ_ h=>h) I.bM I.bare
def OK(P:Program)(w:World)(a:Addr)(ns:List Int):HO:=.ext λh=>mr P w h a (qI w) ns
def abD(P:Program)(w:World)(K:ak):List V->Hp->VK->Prop:=λxs H Q=>∃(p:Addr) (ms:List Int),xs=[.ref p]/\(kY K H p (ms.map V.int)\/kg K H p (ms.map V.int))/\ms.length+1<scanBound/\
 ∀(l:Addr) (ns:List Int),H l=none->(∀x,x∈ns↔x∈ms)->ns.length<=ms.length->Q (.ref l) (upd H l (OK P w l ns))
theorem Iy(hc:X.calm=true):eV X (.type "set") (abD X.prog X.w X.K):=by
 intro pins s σ H xs us Q I r h
 obtain⟨p,ms,rfl,hq,hb,q⟩:=h
 obtain⟨u,rfl,rx⟩:=vals1 r
 cases rx
 have hh:=I.ok.hd hc
 have fin:∀(h':Heap) (tk:Nat) (ns:List Int),mr X.prog X.w h' s.heap.objs.size (qI X.w) ns->(∀x,x∈ns↔x∈ms)->ns.length<=ms.length->(∀b o,s.heap.get? b=some o->h'.get? b=some o)->EP X pins σ Q (.ref s.heap.objs.size) {s with heap:=h',toks:=tk}:=λh' tk ns S m l k=>
  ⟨.ref s.heap.objs.size,_,I.laid (o:=OK X.prog X.w s.heap.objs.size ns) k (aah _) ⟨S,(let⟨o,_,_,_,e,_⟩:=S;⟨o,e⟩),λh1 h2 S1 kk=>S1.keeps kk⟩,rfl,q _ ns (I.bM.fresh (aah _)) m l⟩
 rcases hq with hq|hq
 .obtain ⟨its,rv,pl,_⟩:=I.list hq;have hi:=intsAre_of rv;have hl:its.length=ms.length:=by rw[(eM.mp hi).2,aaj]
  exact Cf hh (src_list pl.isList) hi (by rw[aaD,hl];exact hb) fin
 .obtain ⟨its,rv,pl,_⟩:=I.tuple hq;have hi:=intsAre_of rv;have hl:its.length=ms.length:=by rw[(eM.mp hi).2,aaj]
  exact Cf hh (src_tuple (show s.heap.IsTuple p its.toArray from pl)) hi (by rw[aaD,hl];exact hb) fin
def Lb(P:Program)(w:World):List V->Hp->VK->Prop:=λxs H Q=>∃(p:Addr) (ns:List Int),xs=[.ref p]/\H p=some (OK P w p ns)/\ns.length<64/\∀(l:Addr) (out:List Int),H l=none->out.Pairwise (·<·)->(∀x,x∈out↔x∈ns)->Q (.ref l) (upd H l (.lst (out.map V.int)))
theorem Cj:∀{vs:bU} {ns:List Int},IntsAre vs ns->bz (ns.map V.int) vs
 |_,_,.nil=>.nil
 |_,_,.cons n t h=>.cons ⟨t,rfl⟩ (Cj h)
theorem OL(h:mr prog w h a led ns):ns.Nodup:=by
 obtain⟨_,_,_,_,_,_,_,_,_,z,_⟩:=h
 exact z
theorem Aa(hc:X.calm=true):eV X (.builtin "sorted") (Lb X.prog X.w):=by
 intro pins s σ H xs us Q I r h
 obtain⟨p,ns,rfl,hp,h64,q⟩:=h
 obtain⟨u,rfl,rx⟩:=vals1 r
 cases rx
 have hS:=(show cM X.prog X.w H s.heap p (OK X.prog X.w p ns)from I.bM p _ hp).1
 have nd:=OL hS
 refine uJ (I.ok.hd hc) hS h64 λD h' tk d' out n ms hD k e hi Lc Yn=>?_
 have hl:=Lc.length_eq
 have J:=(I.drew d').laid (t':=tk) (o:=.lst (ms.map V.int)) (h':=h') k hD ⟨by rw[List.length_map,sizeLine_eq];lia,out.toList,n,Cj hi,by simpa using e⟩
 refine⟨.ref D,_,J,rfl,q D ms (I.bM.fresh hD) ?_ λx=>Lc.mem_iff⟩
 have nd2:=Lc.nodup_iff.mpr nd
 refine(List.Pairwise.and Yn nd2).imp λ{a b} hab=>?_
 lia
end
theorem T7:bootBuiltins "set"=some (.type "set"):=by decide +kernel
theorem Iz:bootBuiltins "sorted"=some (.builtin "sorted"):=by decide +kernel
noncomputable def ja:List D->Option (List Int)
 |[]=>some []
 |.int i::l=>(ja l).map (i::·)
 |_::_=>none
theorem kK:∀(ns:List Int),ja (ns.map .int)=some ns
 |[]=>rfl
 |n::ns=>by rw[aaw,ja,kK ns];rfl
theorem jL:∀{l:List D} {ns:List Int},ja l=some ns->l=ns.map .int
 |[],_,h=>by cases h;rfl
 |d::l,ns,h=>by
   cases d with
   |int i=>
     rw[ja]at h;cases e:ja l with
     |none=>rw[e]at h;cases h
     |some m=>rw[e]at h;cases h;rw[jL e];rfl
   |_=>cases h
noncomputable def T8:D->fV
 |.list l=>some l
 |.tuple l=>some l
 |_=>none
def T9(g:be):cq:=λδ=>(g δ).bind λd=>(T8 d).bind λl=>(ja l).bind λns=>if ns.length<64 then some ((ss ns).map .int)else none
theorem cC.toInts{K:ak}:∀{ns:List Int} {xs:List V},cC K H xs (ns.map PyData.int)->xs=ns.map V.int
 |[],_,h=>by cases h;rfl
 |n::ns,_,h=>by
   cases h with
   |cons a t=>cases a;rw[cC.toInts t];rfl
set_option tactic.hygienic true in
theorem pC(h1:X.mg "sorted"=none)(h2:X.mg "set"=none)(he:PE X e (gz X.K O ge))(hc:X.calm=true:=by rfl)(g1:Gl X "sorted":=by rfl)(g2:Gl X "set":=by rfl)
  (s1:starEach [Expr.Call (.Name "set" p2) [e] [] q2] X.env=(false,eval (Expr.Call (.Name "set" p2) [e] [] q2) X.env)::starEach [] X.env:=by rfl)(s2:starEach [e] X.env=(false,eval e X.env)::starEach [] X.env:=by rfl)
  (b1:(backTo q1 (starEach [] X.env)).any (·.1)=false:=by rfl)(b2:(backTo q2 (starEach [] X.env)).any (·.1)=false:=by rfl):
  PE X (.Call (.Name "sorted" p1) [.Call (.Name "set" p2) [e] [] q2] [] q1) (tN X.K O (T9 ge)):=
 (mJ (Aa hc) g1 h1 Iz (aY (rX (Iy hc) g2 h2 T7 (aY he b9 s2) (by decide) (by decide) s2 b2) b9 s1) (by decide) (by decide) s1 b1).mono λσ H Q hh=>hh.e λU A0 δ ds R ed q=>by
  obtain⟨d,e1,ed⟩:=bind1 ed;obtain⟨l,e2,ed⟩:=bind1 ed;obtain⟨ns,e3,ed⟩:=bind1 ed;split at ed
  .rename_i h64;cases ed;refine⟨U,A0,δ,d,R,e1,λv H1 s1 hv=>?_⟩;have row:∃p,v=.ref p/\(kY X.K H1 p (ns.map V.int)\/kg X.K H1 p (ns.map V.int)):=by
    unfold T8 at e2;split at e2
    .cases e2;obtain⟨p,xs,rfl,r1,r2⟩:=hv.list;rw[jL e3]at r2;rw[<-r2.toInts];exact⟨p,rfl,.inl r1.sq⟩
    .cases e2;obtain⟨p,xs,rfl,r1,r2⟩:=hv.tuple;rw[jL e3]at r2;rw[<-r2.toInts];exact⟨p,rfl,.inr r1⟩
    .lia
   obtain⟨p,rfl,Ld⟩:=row;refine⟨p,ns,rfl,Ld,by unfold scanBound;lia,λl1 ms BA hm hle=>?_⟩;refine⟨l1,ms,rfl,az,by lia,λl2 out HY hr TV=>?_⟩;have eo:out=ss ns:=(La hr λz=>by rw[TV,hm]).symm;subst eo;refine q l2 _ _ (s1.trans ((bj BA _).trans (bj HY _))) (s1.free ((bj BA _).free HY)) az (cC.ints _)
  .grind
end L2
namespace L2
open PySem PySem.Spec PyProof.Rows
section
variable {prog:Program}{w:World}{A:Around}{R:Result->Shared->Prop}{s:Shared}
theorem Ab(I:Nat->Shared->Prop)
  (turn:∀n s,I n s->wpAny (model prog w) A (pyNext it) (λr bO=>match r with
   |none=>R (.ok .next) bO
   |some v=>wpAny (model prog w) A (letOwnedTupleGo target it v) (λ_ mF=>wpAny (model prog w) A (assign target env v) (λ_ r6=>
     wpAny (model prog w) A (forIn ifs true λc r=>if r=true then do let ok <-isTrue c env (eval c env);pure (ForInStep.yield ok)else pure (ForInStep.yield r)) (λok EC=>
      if ok=true then wpAny (model prog w) A (eval elt env) (λx Yo=>
       wpAny (model prog w) A (call (.builtin "list.append") [acc,x]) (λ_ Yp=>∃m,m<n/\I m Yp) (notedBy (model prog w) A env λe s'=>R (.error e) s') Yo) (notedBy (model prog w) A env λe s'=>R (.error e) s') EC
      else ∃m,m<n/\I m EC) (notedBy (model prog w) A env λe s'=>R (.error e) s') r6) (notedBy (model prog w) A env λe s'=>R (.error e) s') mF) (notedBy (model prog w) A env λe s'=>R (.error e) s') bO) (notedBy (model prog w) A env λe s'=>R (.error e) s') s)
  (n:Nat)(h:I n s):codeAny (model prog w) A (.compLoop (.ListComp elt [⟨target,iter,ifs,0⟩] scope pos) 0 it acc env) R s:=by
 refine codeAny_loop rfl I (λn s hI=>?_) n h
 refine wpAny_noted ?_
 refine aaa (adk (aaa (aa6 (turn n s hI) (λr bO vA=>?_) λ_ _ z=>z)))
 cases r with
 |none=>exact aae vA
 |some v=>
   refine aaa (aa6 vA (λ_ mF zJ=>aaa (aa6 zJ (λ_ r6 Th=>aaa (aa6 Th (λok EC Yq=>?_) λ_ _ z=>z)) λ_ _ z=>z)) λ_ _ z=>z);cases ok with
   |false=>exact aae ⟨rfl,Yq⟩
   |true=>exact aaa (aaa (aa6 Yq (λx Yo abE=>aaa (aa6 abE (λ_ Yp abF=>aae (aae ⟨rfl,abF⟩)) λ_ _ z=>z)) λ_ _ z=>z))
end
def PF(X:Cx)(ifs:List Expr)(t:TT):Prop:=
 ∀(pins:cz) (s:Shared) (σ:St) (H:Hp) (Q:Bool->Hp->Prop),Inv X pins σ H s->t σ H Q->
   wpAny (model X.prog X.w) X.A (forIn ifs true λc r=>if r=true then do let ok <-isTrue c X.env (eval c X.env);pure (ForInStep.yield ok)else pure (ForInStep.yield r)) (TP X pins σ Q) X.xe s
def abG:TT:=λ_ H Q=>Q true H
theorem Ua:PF X [] abG:=λ_ _ _ H _ I q=>aae ⟨H,I,q⟩
theorem Le(h:PT X c t):PF X [c] t:=λpins s σ H Q I q=>wpAny_tests_one (h pins s σ H Q I q)
section
variable {X:Cx}
structure oq(X:Cx)(scope:Scope)(xs:List Str)(ix:List Nat)(N':List Str):Prop where
 kind:scope.kind=.function
 Ub:∀y∈scope.names,y.2≠.cell
 names:∀y∈scope.names,y.2=.local->scope.names.lookup y.1=some .local
 free:∀y∈scope.names,y.2=.free->X.env.kindOf y.1=some .cell\/X.env.kindOf y.1=some .free
 only:∀n,(X.env.scope.kind=.function)->((relabel scope X.env).names.lookup n=some .cell\/(relabel scope X.env).names.lookup n=some .free)->(n,NameKind.free)∈scope.names
 nm:N'=xs++ix.map λj=>X.N.getD j ""
 ixs:∀j∈ix,j<X.N.length/\(X.N.getD j "",NameKind.free)∈scope.names/\((relabel scope X.env).names.lookup (X.N.getD j "")=some .cell\/(relabel scope X.env).names.lookup (X.N.getD j "")=some .free)
section
variable {scope:Scope}{xs:List Str}{ix:List Nat}{N':List Str}{cl:List (Str×Addr)}{C:Addr}{s2 s3:Shared}{H2:Hp}{fp:List Addr}{pins:cz}{σ:St}
theorem Lf(S:oq X scope xs ix N')(I:Inv X pins σ H2 s2)(hC:s2.heap.objs.size<=C)(h1:∀n c,cl.lookup n=some c->X.env.cells.lookup n=some c)(h2:∀n,(n,NameKind.free)∈scope.names->∃c,cl.lookup n=some c)
  (hf:∀b∈fp,uD X pins H2 b)(OM:∀b∈fp,b<s2.heap.objs.size):(cB X scope N' cl C s2 H2 fp pins).Ok where
 mod:=I.ok.mod
 kind:=by show(relabel scope X.env).kind=_;exact S.kind
 glob:=I.ok.glob
 blt:=I.ok.blt
 above:=hC
 inj:=λa b c e1 e2=>I.ok.inj a b c (h1 _ _ e1) (h1 _ _ e2)
 has:=λa h=>h2 a (S.only a I.ok.kind h)
 NS:=λa c h=>by cases h
 hd:=I.ok.hd
 frames:=I.ok.frames
 Qu:=.inl rfl
 VW:=λb hb=>⟨aat (aao (OM b hb) hC),λa c e=>(hf b hb).2.2.2.2.1 a c (h1 _ _ e)⟩
 bs:=I.bs
 JF:=aaW I.ok.JF I.sz
 zu:=λb o e hb=>by
  rcases(hf b hb).2.2.2.1 with z|z;.exact I.ok.zu b o e z
  .have:=(I.ok.bs b o e).1;exact absurd (aao (aai this) z) (abM _)
 BG:=λb hb z=>by
  rcases aam.mp (I.mB b z)with e|e;.exact (hf b hb).2.1 e
  .exact (hf b hb).2.2.1 e
 kB:=I.stack
 HL:=I.zv
theorem IA(S:oq X scope xs ix N')(I:Inv X pins σ H2 s2)(hC:s2.heap.objs.size<=C)(h1:∀n c,cl.lookup n=some c->X.env.cells.lookup n=some c)(h2:∀n,(n,NameKind.free)∈scope.names->∃c,cl.lookup n=some c)
  (hf:∀b∈fp,uD X pins H2 b)(OM:∀b∈fp,b<s2.heap.objs.size)(hs3:s3.os=s2.os)(hg:s3.gens=s2.gens)(k:∀b o,s2.heap.get? b=some o->s3.heap.get? b=some o)(hn:s3.heap.Ns C m):
  Inv (cB X scope N' cl C s2 H2 fp pins) [] (List.replicate xs.length none++xS ix σ) H2 s3 where
 ok:=Lf S I hC h1 h2 hf OM
 os:=hs3
 bare:=by rw[hg];exact I.bare
 base:=⟨λb o e _ _ _=>k b o e,λb o e _ _ _=>⟨o.slots,k b o e⟩,λb o e n _=>n,λb o e _=>⟨o,k b o e⟩,λ_ _ e=>e,λ_ _ _ e=>e,λb ps e=>⟨#[],by rw[aew];exact e⟩⟩
 loc:=by
  refine⟨m,hn,λi y v e1 e2 e3=>?_⟩;by_cases hi:i<xs.length
  .rw [List.getElem?_append_left (by simpa using hi),List.getElem?_replicate,if_pos hi]at e2;cases e2
  .have Wb:(xS ix σ)[i-xs.length]?=some (some v):=by rw[List.getElem?_append_right (by simp;lia)]at e2;simpa using e2
   obtain⟨j,ej,es⟩:=Ks Wb;have ZZ:N'[i]?=some y:=e1;rw[S.nm,adp (by lia),aa4,ej]at ZZ;have ey:X.N.getD j ""=y:=abC ZZ;obtain⟨hj,xH,hk⟩:=S.ixs j (aa7 ej);obtain⟨m0,hn0,Wc⟩:=I.loc;have eN:X.N[j]?=some y:=by rw[<-ey,aa2,aau hj];rfl
   have kd:=S.free _ xH rfl;have hv:Xf X.env.scope y:=by
    rw[<-ey];rcases kd with z|z;.exact .inr (.inl z)
    .exact .inr (.inr z)
   obtain⟨u,r,l⟩:=Wc j y v eN es hv;refine⟨u,r,.inr ?_⟩;rcases l with⟨q,_⟩|⟨_,c,ec,z⟩;.grind
   .obtain ⟨c',e'⟩:=h2 _ xH;rw[ey]at e';have:=h1 _ _ e';rw[ec]at this;cases this;obtain⟨o,ho,hd⟩:=z;exact⟨by rw[<-ey];exact hk,c,e',o,k c o ho,hd⟩
 cell:=λa c e=>by
  obtain⟨v,o,ho,hd⟩:=I.cell a c (h1 _ _ e);exact⟨v,o,k c o ho,hd⟩
 free:=I.bM.fresh hC
 iN:=λa c e=>I.iN a c (h1 _ _ e)
 pin:=λp hp=>by
  have Uc:p∈X.pn++pins:=by
   rcases aaf.mp hp with z|z;.exact z
   .grind
  obtain⟨e,n,ne,nf,d⟩:=I.pin p Uc;refine⟨k _ _ e,n,aat (aao (aai e) hC),λz=>?_,d⟩;rcases aam.mp (I.mB _ z)with q|q;.grind
  .lia
 bM:=I.bM.kept k
 len:=by
  show(List.replicate xs.length none++xS ix σ).length=N'.length;rw[S.nm];unfold xS;simp
end
def Ac(J:It)(k:Nat)(ix:List Nat)(g:TG)(tc:TT)(te:TE)(σ:St)(H:Hp)(Q:VK):Prop:=∃W:Nat->Nat->List V->St->Hp->Prop,(∃m,W 0 m [] (List.replicate k none++xS ix σ) H)/\∀i m ys τ H,W i m ys τ H->ys.length<=sizeLine/\
 ((J.stop i H/\∀p,H p=none->Q (.ref p) (upd H p (.lst ys)))\/(J.go i H/\ys.length<sizeLine/\∀v H',J.Xu i H v H'->g v τ H' λJI H2=>tc JI H2 λb H3=>
   if b=true then te JI H3 λy H4=>∃m',m'<m/\W (i+1) m' (ys++[y]) JI H4 else ∃m',m'<m/\W (i+1) m' ys JI H3))
def ED(wi:TI)(k:Nat)(ix:List Nat)(g:TG)(tc:TT)(te:TE):TE:=λσ H Q=>wi σ H λJ H1=>Ac J k ix g tc te σ H1 Q
section
variable {scope:Scope}{xs:List Str}{ix:List Nat}{N':List Str}{elt iter tg:Expr}{ifs:List Expr}{pos:Pos}{wi:TI}{te:TE}{tc:TT}{g:TG}
structure CIn(X':Cx)(D:Addr)(fp:List Addr)(tn:Nat->Heap->Prop)(W:Nat->Nat->List V->St->Hp->Prop)(n:Nat)(s':Shared)(i:Nat)(ys:List V)(its:bU)(k:Nat)(cQ:St)(H':Hp):Prop where
 I:Inv X' [(D,Nw its k)] cQ H' s'
 st:tn i s'.heap
 fr:∀b∈fp,H' b=none
 w:W i n ys cQ H'
 rv:bz ys its
def Yr(X':Cx)(D:Addr)(fp:List Addr)(tn:Nat->Heap->Prop)(W:Nat->Nat->List V->St->Hp->Prop)(n:Nat)(s':Shared):Prop:=∃i ys its k cQ H',CIn X' D fp tn W n s' i ys its k cQ H'
theorem Ud{D:Addr}{P:Prop}(h:Yr X' D fp tn W n s')(k:∀i ys its k cQ H',CIn X' D fp tn W n s' i ys its k cQ H'->P):P:=by
 obtain⟨_,_,_,_,_,_,t⟩:=h
 exact k _ _ _ _ _ _ t
theorem Ys{P:Value->Prop}(h:NV gd X pins σ tg R Qx s2)(k:∀it fp tn J H',Inv X pins σ H' s2->J0 gd X.prog X.w X.K tg J fp it tn->tn 0 s2.heap->(∀b∈fp,uD X pins H' b)->R J H'->P (.ref it)):P Qx:=by
 obtain⟨it,fp,tn,J,H',rfl,a,b,c,d,e⟩:=h
 exact k it fp tn J H' a b c d e
theorem yZ(S:oq X scope xs ix N')(hc:∀cl C s2 H2 fp pins,gd (cB X scope N' cl C s2 H2 fp pins))(hg:∀cl C s2 H2 fp pins,PG (cB X scope N' cl C s2 H2 fp pins) tg g)(hf:∀cl C s2 H2 fp pins,PF (cB X scope N' cl C s2 H2 fp pins) ifs tc)(Ad:∀cl C s2 H2 fp pins,PE (cB X scope N' cl C s2 H2 fp pins) elt te)
  (h:NV gd X pins σ tg (λJ H1=>Ac J xs.length ix g tc te σ H1 Q) Qx s2)(h1:∀n c,cl.lookup n=some c->X.env.cells.lookup n=some c)(h2:∀n,(n,NameKind.free)∈scope.names->∃c,cl.lookup n=some c)
  
  (fin:∀(D C:Addr) (H':Hp) (s1:Shared) (m:dO),s1.heap.Ns C m->H' C=none->X.h8.heap.objs.size<=C->C≠X.env.locals->(∀a c,X.env.cells.lookup a=some c->c≠C)->(∀p∈X.pn++pins,p.1≠C)->(∀h',Heap.SameBut C s1.heap h'->Inv X pins σ H' {s1 with heap:=h'})->Q (.ref D) H'->
   compPost (model X.prog X.w) X.A X.xe use QQ (.ref D) C (.ok .next) s1):
  wpAny (model X.prog X.w) X.A (newList []) (λacc r6=>wpAny (model X.prog X.w) X.A (newFunctionEnv scope X.env.globals cl [] X.env.qual none .none (some X.env)) (λLg EC=>
   codeAny (model X.prog X.w) X.A (.compStart (.ListComp elt [⟨tg,iter,ifs,0⟩] scope pos) 0 Qx acc {Lg with scope:=relabel scope X.env}) (compPost (model X.prog X.w) X.A X.xe use QQ acc Lg.locals) EC) X.xe r6) X.xe s2:=by
 refine Ys (P:=λQx=>wpAny (model X.prog X.w) X.A (newList []) (λacc r6=>wpAny (model X.prog X.w) X.A (newFunctionEnv scope X.env.globals cl [] X.env.qual none .none (some X.env)) (λLg EC=>
   codeAny (model X.prog X.w) X.A (.compStart (.ListComp elt [⟨tg,iter,ifs,0⟩] scope pos) 0 Qx acc {Lg with scope:=relabel scope X.env}) (compPost (model X.prog X.w) X.A X.xe use QQ acc Lg.locals) EC) X.xe r6) X.xe s2) h λit fp tn J H1 I2 T jF f2 hR=>?_
 obtain⟨W,⟨m0,w0⟩,turn⟩:=hR
 have OM:∀b∈fp,b<s2.heap.objs.size:=λb hb=>by
  obtain⟨o,e,_⟩:=T.obj _ _ jF b hb;exact aai e
 refine acr (wpAny_newFunctionEnv S.Ub (by intro y hy;simp at hy) (λvA Lh EE=>?_) S.kind)
 generalize Yt:s2.heap.push {cls:=.type "list",dict:=none,data:=.seq ([]:bU).toArray}=P2 at Lh EE ⊢
 have hC:P2.objs.size=s2.heap.objs.size+1:=by rw[<-Yt,abK]
 have Tp:s2.heap.objs.size≠P2.objs.size:=by rw[hC];exact aat (acp _)
 have EF:s2.heap.objs.size<=P2.objs.size:=by rw[hC];exact adN _
 have below:∀b,b<s2.heap.objs.size->b≠P2.objs.size:=λb hb=>by rw[hC];exact aat (ac3 hb)
 have old:=λb o e=>EE.extBut b o (below b (aai e)) (aab _ (Yt ▸ aab _ e))
 have OH:=EE.extBut _ _ Tp (aab _ (Yt ▸ aag _ rfl))
 generalize P2.objs.size=C at *
 generalize Li:s2.heap.objs.size=D at *
 have neP:∀p∈X.pn++pins,p.1≠D/\p.1≠C:=λp hp=>by
  have:=aai (I2.pin p hp).1;rw[Li]at this;exact⟨aat this,aat (aao this EF)⟩
 have DnF:=λhb=>abM _ (OM D hb)
 have CnF:C∉fp:=λhb=>absurd (aao (OM C hb) EF) (abM _)
 have Q6:∀a c,X.env.cells.lookup a=some c->c≠D/\c≠C:=λa c e=>by
  obtain⟨v,q⟩:=I2.cell a c e;have:=q.lt;rw[Li]at this;exact⟨aat this,aat (aao this EF)⟩
 have abI:X.env.locals<D:=by have:=I2.lt;rw[Li]at this;exact this
 have s0D:X.h8.heap.objs.size<=D:=by rw[<-Li];exact I2.sz
 have I3:=IA (s3:={s2 with heap:=vA,toks:=s2.toks+([]:List (Str×Value)).length}) S I2 (by rw[Li];exact EF) h1 h2 f2 (by rw[Li];exact OM) rfl rfl old Lh
 have DY:∀{H':Hp} {pp:cz},(∀p∈pp,p.1∉fp)->(∀b∈fp,H' b=none)->∀b∈fp,uD (cB X scope N' cl C s2 H1 fp pins) pp H' b:=λ{H' pp} Z0 hn b hb=>by
  obtain⟨f0,f1,f3,f4,f5,f6⟩:=f2 b hb;refine⟨hn b hb,λz=>CnF (by rw[<-show b=C from z];exact hb),λz=>?_,.inl hb,λa c e=>f5 a c (h1 _ _ e),λp hp=>?_⟩
  .rcases aam.mp (I2.mB b z)with q|q;.grind
   .grind
  .rcases aaf.mp hp with q|q;.exact f6 p q
   .grind
 have DnS:∀b,D<=b->b∉ud X.stack:=λb hb z=>by
  rcases aam.mp (I2.mB b z)with q|q;.grind
  .exact I2.Xg (by rw[Li];exact hb) q
 have loop:∀r6:Shared,r6={s2 with heap:=vA,toks:=s2.toks+([]:List (Str×Value)).length}->
   codeAny (model X.prog X.w) X.A (.compLoop (.ListComp elt [⟨tg,iter,ifs,0⟩] scope pos) 0 (.ref it) (.ref D) (compEnvC scope cl C X.env)) (compPost (model X.prog X.w) X.A X.xe use QQ (.ref D) C) r6:=by
  rintro r6 rfl;refine Ab (Yr (cB X scope N' cl C s2 H1 fp pins) D fp tn W) ?_ m0
   ⟨0,[],[],0,_,H1,?_,T.keep _ _ _ jF (λb hb o e=>old b o e),λb hb=>(f2 b hb).1,w0,.nil⟩
  .refine λn s' z=>Ud z λi ys its k cQ H' t=>?_;have I:=t.I;have st:=t.st;have fr:=t.fr;have rv:=t.rv;obtain⟨hz,w⟩:=turn i n ys cQ H' t.w;have Z0:∀p∈[(D,Nw its k)],p.1∉fp:=λp hp=>by grind
   rcases w with⟨stop,q⟩|⟨go,hz',step⟩;.refine aa6 (T.done (cB X scope N' cl C s2 H1 fp pins) rfl rfl rfl (hc _ _ _ _ _ _) i _ s' _ H' (λ_ _=>False) I (DY Z0 fr) st stop) (λr s1 hr=>?_) λ_ _ z=>z.elim;obtain⟨rfl,I1⟩:=hr;obtain⟨m,hn,_⟩:=I1.loc;have p1:=I1.pin (D,Nw its k) (aad _ aan);have fC:=I1.free;refine fin D C (upd H' D (.lst ys)) s1 m hn (by rw[av (acb Tp)];exact fC) (aaW s0D EF) (adg (aao abI EF)) (λa c e=>(Q6 a c e).2) (λp hp=>(neP p hp).2) (λh' hs=>?_) (q D p1.2.1);exact Ie (N':=N') I2 (by rw[Li];exact EF) (by rw[Li];exact aah _) f2 I1 rv hz hs Tp
   .refine aa6 (T.item (cB X scope N' cl C s2 H1 fp pins) rfl rfl rfl (hc _ _ _ _ _ _) i _ s' _ H' (λ_ _=>False) I (DY Z0 fr) st go) (λr s4 hr=>?_) λ_ _ z=>z.elim;obtain⟨u,rfl,h4⟩:=hr;refine aa6 h4 (λ_ s5 h5=>?_) λ_ _ z=>z.elim;obtain⟨v,H5,I5,r5,y5,Qy,fr5⟩:=h5;have I5':=I5.pinned (DY Z0 fr5) (T.obj _ _ Qy);refine aa6 (hg cl C s2 H1 fp pins _ s5 cQ H5 v u _ I5' r5 (step v H5 y5)) (λ_ s6 h6=>?_) λ_ _ z=>z.elim;obtain⟨JI,H6,I6,q6⟩:=h6;have gone:∀{τ:St} {H9:Hp} {s9:Shared},Inv (cB X scope N' cl C s2 H1 fp pins) ([(D,Nw its k)]++rP fp s5.heap) τ H9 s9->tn (i+1) s9.heap/\∀b∈fp,H9 b=none:=λ{τ H9 s9} I9=>
     ⟨T.keep _ _ _ Qy λb hb o e=>(I9.pin (b,o) (aad _ (aad _ (jE hb e)))).1,λb hb=>by
      obtain⟨o,e,d⟩:=T.obj _ _ Qy b hb;exact(I9.pin (b,o) (aad _ (aad _ (jE hb e)))).2.1⟩;refine aa6 (hf cl C s2 H1 fp pins _ s6 JI H6 _ I6 q6) (λok s6' h6'=>?_) λ_ _ z=>z.elim;obtain⟨H6',Z1,q6'⟩:=h6';cases ok with
    |false=>
      obtain⟨m',Wd,w7⟩:=q6';obtain⟨g1,g2⟩:=gone Z1;exact⟨m',Wd,i+1,ys,its,k,JI,H6',Z1.n9 λp hp=>Z1.pin p (aad _ (aar _ hp)),g1,g2,w7,rv⟩
    |true=>
    refine aa6 (Ad cl C s2 H1 fp pins _ s6' JI H6' _ Z1 q6') (λy s7 h7=>?_) λ_ _ z=>z.elim;obtain⟨yv,H7,I7,r7,m',Wd,w7⟩:=h7;have p7:=I7.pin (D,Nw its k) (aad _ (aar _ aan));have hl:=rv.length;refine aev ab9 ⟨_,p7.1,rfl⟩ F.entry_list_append (F.args_list_append_2 _ _) (PySem.list_append D its.toArray k y (by rw[aaD];lia)) ⟨p7.1,?_⟩;have q:=PySem.IsL.update p7.1 (·.push y);have Q7:∀b o,b≠D->s7.heap.get? b=some o->(s7.heap.update D (Obj.mapSeq (·.push y))).get? b=some o:=λb o hb e=>(acg s7.heap _ (acb hb)).trans e;have I8:=I7.n9 λp hp=>I7.pin p (aad _ (aad _ hp));have I9:Inv (cB X scope N' cl C s2 H1 fp pins) (rP fp s5.heap) JI H7 {s7 with heap:=s7.heap.update D (Obj.mapSeq (·.push y))}:=I8.turned (t':=s7.toks) (it:=D) Q7 p7.2.1 Tp (.inr (by show s2.heap.objs.size<=D;rw[Li];exact aah _)) (λa c e=>(Q6 a c (h1 _ _ e)).1) λp hp z=>by
     rcases aaf.mp hp with z'|z';.exact (neP p z').1 z
     .exact DnF (by rw[<-z];exact(yG z').1)
    refine⟨m',Wd,i+1,ys++[yv],its++[y],(if(its.toArray.push y).size==its.toArray.size then k else k+1),JI,H7,I9.n9 (pins':=[(D,Nw (its++[y]) ((if(its.toArray.push y).size==its.toArray.size then k else k+1)))]) λp hp=>?_,T.keep _ _ _ Qy λb hb o e=>?_,λb hb=>?_,w7,rv.append (.cons r7 .nil)⟩;.grind
    .have pb:=I7.pin (b,o) (aad _ (aad _ (jE hb e)));exact Q7 b o (λz=>DnF (by rw[<-z];exact hb)) pb.1
    .grind
  .exact I3.n9 λp hp=>by
    have e:p=(D,Nw [] 0):=by simpa using hp
    subst e;exact⟨OH,I2.bM.fresh (by rw[Li];exact aah _),Tp,DnS D (aah _),λv z=>by cases z⟩
 exact codeAny_compStart_list (loop _ rfl) (T.self _ 0 _ _ _ (T.keep _ _ _ jF λb hb o e=>old b o e) (loop _ rfl))
theorem IB(S:oq X scope xs ix N')(hc:∀cl C s2 H2 fp pins,gd (cB X scope N' cl C s2 H2 fp pins))(hi:PIG gd X tg iter wi)(hg:∀cl C s2 H2 fp pins,PG (cB X scope N' cl C s2 H2 fp pins) tg g)(hf:∀cl C s2 H2 fp pins,PF (cB X scope N' cl C s2 H2 fp pins) ifs tc)(Ad:∀cl C s2 H2 fp pins,PE (cB X scope N' cl C s2 H2 fp pins) elt te)
  (hs:∀x,foldedSetIterable iter X.env x=pure x):PE X (.ListComp elt [⟨tg,iter,ifs,0⟩] scope pos) (ED wi xs.length ix g tc te):=by
 intro pins s σ H Q I h
 obtain⟨cl,uI,h1,h2⟩:=vC (scope:=scope) (env:=X.env) (λy hy hk=>I.ok.has y.1 (S.free y hy hk))
 refine wpAny_comprehension_free (use:=none) rfl hs uI S.kind S.names (aa6 (hi pins s σ H _ I h) (λxv bO vA=>aa6 vA (λit mF zJ=>?_) λ_ _ e=>e) λ_ _ e=>e)
 exact yZ S hc hg hf Ad zJ h1 h2 λD C H' s1 m hn fC c1 c2 c3 c4 hI q=>⟨m,hn,λh' qr=>⟨.ref D,H',hI h' qr,rfl,q⟩⟩
theorem IC{i:Nat}{y:Str}{py ON:Pos}(S:oq X scope xs ix N'){gd:Cx->Prop}(hc:∀cl C s2 H2 fp pins,gd (cB X scope N' cl C s2 H2 fp pins))(hi:PIG gd X tg iter wi)(hg:∀cl C s2 H2 fp pins,PG (cB X scope N' cl C s2 H2 fp pins) tg g)(hf:∀cl C s2 H2 fp pins,PF (cB X scope N' cl C s2 H2 fp pins) ifs tc)(Ad:∀cl C s2 H2 fp pins,PE (cB X scope N' cl C s2 H2 fp pins) elt te)
  (hs:∀x,foldedSetIterable iter X.env x=pure x)(hN0:X.N.Nodup)(GI:X.N[i]?=some y)(hy:X.env.scope.names.lookup y=some .local)(hsw:swapsWith (.ListComp elt [⟨tg,iter,ifs,0⟩] scope pos) (some (.Name y py)) ON.line X.env=pure true):
  PS X (.Assign [.Name y py] (.ListComp elt [⟨tg,iter,ifs,0⟩] scope pos) ON) (uC (ED wi xs.length ix g tc te) (mI i)):=by
 intro pins s σ H D I h
 obtain⟨cl,uI,h1,h2⟩:=vC (scope:=scope) (env:=X.env) (λy hy hk=>I.ok.has y.1 (S.free y hy hk))
 rw[exec_Assign_Name_used _ _ _ _ hsw]
 refine aaa (adk (aaa ?_))
 refine aaa (aa6 (wpAny_comprehension_free (use:=some (assign (.Name y py) X.env)) (Q:=λ_ s'=>SP X pins D .next s') rfl hs uI S.kind S.names
  (aa6 (hi pins s σ H _ I h) (λxv bO vA=>aa6 vA (λit mF zJ=>?_) λ_ _ e=>e) λ_ _ e=>e)) (λ_ s' hq=>aae (aae hq)) λ_ _ e=>e)
 refine yZ S hc hg hf Ad zJ h1 h2 λA C H' s1 m hn fC c1 c2 c3 c4 hI q=>?_
 have I1:=hI s1.heap (.refl ..)
 refine wpAny_assign_Name (yF I1 hN0 GI (.inl hy) (show RelV (.ref A) (.ref A)from rfl) (λs3 I3 ch=>?_) (.inr hy))
 obtain⟨a,hs3,ha⟩:=ch
 have hCa:C≠a:=by grind
 refine⟨m,hn.sameBut hs3 hCa,λh' qr=>?_⟩
 exact⟨_,H',I3.turned (t':=s3.toks) (it:=C) (λb o hb e=>(qr.2 b hb).trans e) fC c2 (.inr c1) c3 c4,q⟩
end
noncomputable def qK(sc scope:Scope)(N:List Str)(xs:List Str)(ix:List Nat)(N':List Str):Bool:=
 (scope.kind==.function)&&scope.names.all (λy=> !(y.2==.cell))&&scope.names.all (λy=> !(y.2==.local)||(scope.names.lookup y.1==some .local))
 &&scope.names.all (λy=> !(y.2==.free)||(sc.names.lookup y.1==some .cell||sc.names.lookup y.1==some .free))
 &&(Ol sc scope).all (λy=> !(y.2==.cell||y.2==.free)||scope.names.any (λz=>z.1==y.1&&z.2==.free))
 &&(N'==xs++ix.map λj=>N.getD j "")&&ix.all (λj=>decide (j<N.length)&&scope.names.any (λz=>z.1==N.getD j ""&&z.2==.free)&&((Ol sc scope).lookup (N.getD j "")==some .cell||(Ol sc scope).lookup (N.getD j "")==some .free))
theorem vU(h:qK sc scope N xs ix N'=true)(e1:X.env.scope=sc)(e2:X.N=N):oq X scope xs ix N':=by
 subst e1 e2
 unfold qK at h
 simp only[aax,abv,Bool.or_eq_true,aeP,ae6,aaS,ac4,ac7]at h
 obtain⟨⟨⟨⟨⟨⟨a1,a2⟩,a3⟩,a5⟩,a6⟩,a7⟩,a8⟩:=h
 refine⟨a1,a2,λy hy hk=>(a3 y hy).elim (λz=>absurd hk z) id,λy hy hk=>(a5 y hy).elim (λz=>absurd hk z) id,λn _ hn=>?_,a7,λj hj=>?_⟩
 .have:∃k,(n,k)∈Ol X.env.scope scope/\(k=NameKind.cell\/k=NameKind.free):=by
   rcases hn with z|z;.exact ⟨_,lookup_mem z,.inl rfl⟩
   .exact ⟨_,lookup_mem z,.inr rfl⟩
  obtain⟨k,hk,V4⟩:=this;rcases a6 (n,k) hk with z|⟨z,hz,e1,e2⟩;.grind
  .grind
 .obtain ⟨⟨b1,⟨z,hz,e1,e2⟩⟩,b3⟩:=a8 j hj;refine⟨b1,?_,b3⟩;obtain⟨z1,z2⟩:=z;cases e2;have ZZ:=e1;rw[<-ZZ];exact hz
end
end L2
namespace L2
open PySem PySem.Spec PyProof.Rows LS
noncomputable def vV(f:D->Option (Option D)):List D->fV
 |[]=>some []
 |d::ds=>(f d).bind λo=>(vV f ds).bind λxs=>some (match o with|some x=>x::xs|none=>xs)
def gA(gi:cq)(k:Nat)(ix:List Nat)(gt:D->DS->Option DS)(gc:oR)(ge:be):cq:=λδ=>(gi δ).bind λds=>if ds.length<=100000 then
 vV (λd=>(gt d (List.replicate k none++iQ ix δ)).bind λgY=>(gc gY).bind λb=>if b=true then(ge gY).map some else some none) ds else none
def We(k:Nat)(gt:D->DS->Option DS):Prop:=∀d c gY,gt d (List.replicate k none++c)=some gY->∃own:DS,own.length=k/\gY=own++c
theorem mU:We 1 (aO 0):=λd c gY h=>by cases h;exact⟨[some d],rfl,rfl⟩
set_option tactic.hygienic true in
theorem Yu:We 2 (kI 2 (cE (aO 0) (cE (aO 1) jW))):=λd c gY h=>by
 unfold kI at h
 split at h
 .split at h;.rename_i ds hl;match ds,hl with
   |[a,b],_=>cases h;exact⟨[some a,some b],rfl,rfl⟩
  .cases h
 .cases h
section
variable {K:ak}{O:List Nat}{U A0:List Addr}{σ:St}{δ:DS}{H H1:Hp}
theorem Rel.weak(R:Rel K [] U A0 σ (own++c) H):Rel K [] U A0 σ (List.replicate own.length none++c) H where
 len:=by rw[R.len];simp
 fz:=λi e hi q=>by
  by_cases h:i<own.length
  .rw [List.getElem?_append_left (by simpa using h),List.getElem?_replicate,if_pos h]at q;cases q
  .refine R.fz i e hi ?_;rw[List.getElem?_append_right (by simpa using h)]at q;rw[adp (by lia)];simpa using q
 ow:=λi e hi=>by simp at hi
 inj:=λi j d e l hi=>by simp at hi
 al:=R.al
theorem Rel.Yv(R:Rel K O U A0 σ δ H)(k:Nat)(OO:∀j∈ix,j∉O):Rel K [] U A0 (List.replicate k none++L2.xS ix σ) (List.replicate k none++iQ ix δ) H where
 len:=by simp[L2.xS,iQ]
 fz:=λi e _ q=>by
  by_cases h:i<k
  .rw [List.getElem?_append_left (by simpa using h),List.getElem?_replicate,if_pos h]at q;cases q
  .rw [List.getElem?_append_right (by simpa using h)]at q ⊢;simp only[ad3]at q ⊢;unfold iQ at q;unfold L2.xS;rw[aa4]at q ⊢;cases ei:ix[i-k]? with
   |none=>rw[ei]at q;cases q
   |some j=>
     rw[ei]at q;simp only[adH,Option.some.injEq]at q;obtain⟨u,hu,hd⟩:=R.fz j e (OO j (aa7 ei)) (join_some q);exact⟨u,by simp[hu],hd⟩
 ow:=λi e hi=>by simp at hi
 inj:=λi j d e l hi=>by simp at hi
 al:=R.al
structure CB(K:ak)(U A0:List Addr)(H1:Hp)(ds xs:List D)(F:D->Option (Option D))(base:DS)(i:Nat)(ys:List V)(τ:St)(H2:Hp)(zs rest:List D):Prop where
 le:i<=ds.length
 s:aA H1 H2
 R:Rel K [] U A0 τ base H2
 yl:ys.length<=i
 hz:cC K (wo H2 (U++A0)) ys zs
 he:vV F (ds.drop i)=some rest
 hx:zs++rest=xs
def CBW(K:ak)(U A0:List Addr)(H1:Hp)(ds xs:List D)(F:D->Option (Option D))(base:DS)(i m:Nat)(ys:List V)(τ:St)(H2:Hp):Prop:=m=ds.length-i/\∃zs rest,CB K U A0 H1 ds xs F base i ys τ H2 zs rest
theorem ID(own:We k gt)(R:Rel K O U A0 σ δ H)(s:aA H H1)(OO:∀j∈ix,j∉O)(hw:WalksS K (U++A0) H1 J ds)
  (hl:ds.length<=100000)(e:vV (λd=>(gt d (List.replicate k none++iQ ix δ)).bind λgY=>(gc gY).bind λb=>if b=true then(ge gY).map some else some none) ds=some xs)
  (q:∀r ys H',aA H H'->H r=none->H' r=some (.lst ys)->cC K (wo H' (r::(U++A0))) ys xs->Q (.ref r) H'):Ac J k ix (tG K [] gt) (tT K [] gc) (tE K [] ge) σ H1 Q:=by
 have big:(100000:Nat)<sizeLine:=by decide
 obtain⟨F,hF⟩:∃F:D->Option (Option D),F=λd=>(gt d (List.replicate k none++iQ ix δ)).bind λgY=>(gc gY).bind λb=>if b=true then(ge gY).map some else some none:=⟨_,rfl⟩
 rw[<-hF]at e
 refine⟨CBW K U A0 H1 ds xs F (List.replicate k none++iQ ix δ),⟨ds.length,rfl,[],xs,ab8 _,aA.refl _,(R.same s).Yv k OO,aah _,.nil,e,rfl⟩,?_⟩
 rintro i m ys τ H2 ⟨rfl,zs,rest,w⟩
 have hle:=w.le
 have V9:=w.yl
 have he:=w.he
 refine⟨by lia,?_⟩
 obtain⟨Yb,B9⟩:=hw i H2 w.s
 by_cases i9:i<ds.length
 .obtain ⟨go,hyd⟩:=Yb _ (aau i9);rw[acW i9,vV]at he;generalize ds[i]=d at hyd he;obtain⟨o,e1,e2⟩:=bind1 he;obtain⟨rs,e3,e4⟩:=bind1 e2;rw[hF]at e1;obtain⟨gY,f1,f2⟩:=bind1 e1;obtain⟨b,f3,f4⟩:=bind1 f2;obtain⟨mU,ol,oe⟩:=own d _ gY f1;refine .inr ⟨go,by lia,λv H3 y=>?_⟩;obtain⟨s3,hv⟩:=hyd v H3 y;refine⟨U,A0,_,d,gY,w.R.same s3,hv,f1,λJI R3=>⟨U,A0,gY,b,R3,f3,λH4 s4=>?_⟩⟩;have wk:∀{H':Hp},aA H3 H'->Rel K [] U A0 JI (List.replicate k none++iQ ix δ) H':=λ{H'} s'=>by
   rw[<-ol];rw[oe]at R3;exact(R3.same s').weak
  have lt:ds.length-(i+1)<ds.length-i:=Nat.sub_lt_sub_left i9 (acp i);cases b with
  |true=>
    rw[aaq rfl]at f4;dsimp only;rw[aaq rfl];cases eg:ge gY with
    |none=>rw[eg]at f4;cases f4
    |some x=>
      rw[eg]at f4;cases f4;cases e4;exact⟨U,A0,gY,x,R3.same s4,eg,λu H5 s5 hu=>⟨_,lt,rfl,zs++[x],rs,i9,((w.s.trans s3).trans s4).trans s5,wk (s4.trans s5),by rw[aaB];exact ae7 V9,(w.hz.same (bE ((s3.trans s4).trans s5))).app (.cons hu .nil),e3,by rw[<-w.hx,ach];rfl⟩⟩
  |false=>
    rw[aaO aaZ]at f4;dsimp only;rw[aaO aaZ];cases f4;cases e4;exact⟨_,lt,rfl,zs,rs,i9,(w.s.trans s3).trans s4,wk s4,Nat.le_succ_of_le V9,w.hz.same (bE (s3.trans s4)),e3,w.hx⟩
 .have hi:i=ds.length:=Nat.le_antisymm hle (ae3 i9);subst hi;rw[ae1,vV]at he;cases he;have hx:=w.hx;rw[abk]at hx;subst hx;exact .inl ⟨B9 rfl,λp hp=>B3 (s.trans w.s) q p ys hp w.hz⟩
end
section
variable {X:Cx}{O:List Nat}{scope:Scope}{elt iter tg:Expr}{ifs:List Expr}{pos:Pos}{gi:cq}{ge:be}{gt:D->DS->Option DS}{gc:oR}{k:Nat}
theorem PF.mono(h:PF X ifs t)(m:∀σ H Q,t' σ H Q->t σ H Q):PF X ifs t':=λpins s σ H Q I q=>h pins s σ H Q I (m σ H Q q)
theorem d9:PF X [] (tT X.K O λ_=>some true):=Ua.mono λσ H Q hh=>hh.e λU A0 δ b R e q=>by cases e;exact q H (aA.refl H)
set_option tactic.hygienic true in
theorem Ck{K:ak}(own:We k gt)(OO:∀j∈ix,j∉O):tN K O (gA gi k ix gt gc ge) σ H Q->ED (V3 K O gi) k ix (tG K [] gt) (tT K [] gc) (tE K [] ge) σ H Q:=λ⟨U,A0,δ,xs,R,ed,q⟩=>by
 obtain⟨ds,e1,e2⟩:=bind1 ed
 split at e2
 .rename_i hl;exact⟨U,A0,δ,ds,R,e1,λJ H1 s hw=>ID own R s OO hw hl e2 q⟩
 .grind
theorem cJ(sc:Scope)(N:List Str)(ix:List Nat)(N' xs:List Str)(own:We k gt)(hi:PI X tg iter (V3 X.K O gi))(hg:∀cl C s2 H2 fp pins,PG (cB X scope N' cl C s2 H2 fp pins) tg (tG X.K [] gt))(hf:∀cl C s2 H2 fp pins,PF (cB X scope N' cl C s2 H2 fp pins) ifs (tT X.K [] gc))
  (Ad:∀cl C s2 H2 fp pins,PE (cB X scope N' cl C s2 H2 fp pins) elt (tE X.K [] ge))(OO:∀j∈ix,j∉O:=by decide)(hk:qK sc scope N xs ix N'=true:=by decide +kernel)(hl:xs.length=k:=by rfl)
  (e1:X.env.scope=sc:=by rfl)(e2:X.N=N:=by rfl)(hc:X.calm=true:=by rfl)(hs:∀x,foldedSetIterable iter X.env x=pure x:=by intro _;rfl):PE X (.ListComp elt [⟨tg,iter,ifs,0⟩] scope pos) (tN X.K O (gA gi k ix gt gc ge)):=by
 subst hl
 exact(IB (gd:=BL) (vU hk e1 e2) (λ_ _ _ _ _ _=>hc) hi hg hf Ad hs).mono λ_ _ _=>Ck own OO
theorem Lj(sc:Scope)(N:List Str)(ix:List Nat)(N' xs:List Str)(hN0:X.N.Nodup)(GI:X.N[i]?=some y)(hy:X.env.scope.names.lookup y=some .local)(own:We k gt)(hi:PI X tg iter (V3 X.K O gi))
  (hg:∀cl C s2 H2 fp pins,PG (cB X scope N' cl C s2 H2 fp pins) tg (tG X.K [] gt))(hf:∀cl C s2 H2 fp pins,PF (cB X scope N' cl C s2 H2 fp pins) ifs (tT X.K [] gc))(Ad:∀cl C s2 H2 fp pins,PE (cB X scope N' cl C s2 H2 fp pins) elt (tE X.K [] ge))
  (OO:∀j∈ix,j∉O:=by decide)(hk:qK sc scope N xs ix N'=true:=by decide +kernel)(hl:xs.length=k:=by rfl)
  (e1:X.env.scope=sc:=by rfl)(e2:X.N=N:=by rfl)(hc:X.calm=true:=by rfl)(hs:∀x,foldedSetIterable iter X.env x=pure x:=by intro _;rfl)(hsw:swapsWith (.ListComp elt [⟨tg,iter,ifs,0⟩] scope pos) (some (.Name y py)) ON.line X.env=pure true:=by rfl):
  PS X (.Assign [.Name y py] (.ListComp elt [⟨tg,iter,ifs,0⟩] scope pos) ON) (uC (tN X.K O (gA gi k ix gt gc ge)) (mI i)):=by
 subst hl
 exact(IC (gd:=BL) (vU hk e1 e2) (λ_ _ _ _ _ _=>hc) hi hg hf Ad hs hN0 GI hy hsw).mono λ_ _ _ h=>Ck own OO h
end
theorem vW:∀{bs:List Bool} {its:bU},bz (bs.map V.bl) its->its=bs.map Value.bool
 |[],_,.nil=>rfl
 |b::l,_,.cons r t=>by
   rw[aaw,<-vW t];cases(show _=Value.bool b from r);rfl
theorem all_range{bs:List Bool}:(List.range bs.length).all (λi=>bs.getD i true)=bs.all id:=by
 rw[adi,abv,abv]
 constructor
 .intro h b hb;obtain⟨i,hi,e⟩:=ac8 hb;have:=h i (acw.mpr hi);rw[aa2,aau hi]at this;rw[<-e];exact this
 .intro h i hi;have hi:=acw.mp hi;rw[aa2,aau hi];exact h _ (adv hi)
theorem sj(hc:X.calm=true):eV X (.builtin "all") (λxs H Q=>∃(p:Addr) (bs:List Bool),xs=[.ref p]/\kY X.K H p (bs.map V.bl)/\Q (.bl (bs.all id)) H):=by
 intro pins s σ H xs us Q I r h
 obtain⟨p,bs,rfl,hq,q⟩:=h
 obtain⟨u,rfl,rx⟩:=vals1 r
 cases rx
 obtain⟨its,rv,pl,_⟩:=I.list hq
 have e:=vW rv
 subst e
 have i9:p≠s.heap.objs.size:=by
  obtain⟨o,n,e1,_⟩:=pl;exact aat (aai e1)
 refine call_all_walk (adU pl.isList ?_)
 refine⟨s.heap.objs.size,[s.heap.objs.size,p],[s.heap.objs.size],_,_,_,λi=>bs.getD i true,rfl,Walks.list (A:=X.A.in1) (I.ok.hd hc) _ p i9 (bs.map Value.bool).toArray,⟨⟨_,aag _ rfl,rfl,rfl⟩,pl.isList.push _⟩,λi v s' Q' E' hP hQ=>?_,λh' tk k=>?_⟩
 .have Yw:(bs.map Value.bool)[i]?=some v:=by simpa using hP
  rw[aa4]at Yw;cases eb:bs[i]? with
  |none=>rw[eb]at Yw;cases Yw
  |some b=>
    rw[eb]at Yw;cases Yw;have hQ':Q' (bs.getD i true) s':=hQ;rw[aa2,eb]at hQ';exact ab2 hQ'
 .have e:(List.range (bs.map Value.bool).toArray.size).all (λi=>bs.getD i true)=bs.all id:=by rw[<-all_range];simp
  rw[e];refine⟨.bl _,H,I.kept (t':=tk) λb o e=>k b o (λz=>?_) (aab _ e),rfl,q⟩;rw[aaE]at z;exact absurd (aai e) (by rw[z];exact abM _)
theorem EG:bootBuiltins "all"=some (.builtin "all"):=by decide +kernel
noncomputable def jM:List D->Option (List Bool)
 |[]=>some []
 |.bool i::l=>(jM l).map (i::·)
 |_::_=>none
theorem lz:∀(ns:List Bool),jM (ns.map .bool)=some ns
 |[]=>rfl
 |n::ns=>by rw[aaw,jM,lz ns];rfl
theorem uj:∀{l:List D} {ns:List Bool},jM l=some ns->l=ns.map .bool
 |[],_,h=>by cases h;rfl
 |d::l,ns,h=>by
   cases d with
   |bool i=>
     rw[jM]at h;cases e:jM l with
     |none=>rw[e]at h;cases h
     |some m=>rw[e]at h;cases h;rw[uj e];rfl
   |_=>cases h
theorem cC.toBools{K:ak}:∀{ns:List Bool} {xs:List V},cC K H xs (ns.map PyData.bool)->xs=ns.map V.bl
 |[],_,h=>by cases h;rfl
 |n::ns,_,h=>by
   cases h with
   |cons a t=>cases a;rw[cC.toBools t];rfl
def Cm:List D->Option D
 |[.list l]=>(jM l).map λbs=>.bool (bs.all id)
 |_=>none
set_option tactic.hygienic true in
theorem Ae{K:ak}:vH K (λxs H Q=>∃(p:Addr) (bs:List Bool),xs=[.ref p]/\kY K H p (bs.map V.bl)/\Q (.bl (bs.all id)) H) Cm:=by
 intro A H vs ds d Q al h e q
 unfold Cm at e
 split at e
 .rename_i l;cases eb:jM l with
  |none=>rw[eb]at e;cases e
  |some bs=>
    rw[eb]at e;cases e;obtain⟨v,rfl,h1⟩:=Ij h;obtain⟨p,xs,rfl,h2,h3⟩:=h1.list;rw[uj eb]at h3;rw[h3.toBools]at h2;exact⟨p,bs,rfl,h2.sq,q _ H (aA.refl H) (.bl _)⟩
 .cases e
section
variable {X:Cx}
def EH(K:ak):R2:=λx y H Q=>∃a b ys,x=.ref a/\y=.ref b/\kg K H a []/\kg K H b ys/\Q (.ref b) H
theorem Lk:jz X (binaryOp .Add) (EH X.K):=by
 intro pins s σ H x y v u Q I rx ry h
 obtain⟨a,b,ys,rfl,rfl,ha,hb,q⟩:=h
 cases rx
 cases ry
 obtain⟨its,r1,p1,_⟩:=I.tuple ha
 obtain⟨xO,r2,p2,_⟩:=I.tuple hb
 have e:=r1.u7.mpr rfl
 subst e
 obtain⟨⟨c1,d1,dt1,sl1⟩,ho,hc,n,hd⟩:=id p1
 obtain⟨⟨c2,d2,dt2,S6⟩,oP,hc2,n2,hd2⟩:=id p2
 subst hc hd hc2 hd2
 exact concat_meets ⟨_,ho,rfl⟩ ⟨_,oP,rfl⟩ noFill_tuple_add seq_tuple_add adR adO (adD _ _) (tuple_addW0 a b #[] xO.toArray n n2 d1 d2 sl1 S6 (by simp)) ⟨ho,oP,⟨.ref b,H,I,rfl,q⟩⟩
end
def ao(a b:D):Option D:=match a,b with
 |.tuple [],.tuple l=>some (.tuple l)
 |a,b=>TB a b
theorem aE:jz X (binaryOp .Add) (λx y H Q=>Gy X.K x y H Q\/EH X.K x y H Q):=Ov.or Lk
theorem aw{K:ak}:iY K (λx y H Q=>Gy K x y H Q\/EH K x y H Q) ao:=by
 intro A H x y dx dy d Q al hx hy e q
 unfold ao at e
 split at e
 .cases e;have hf:=hy.fz;obtain⟨a,xs,rfl,h1,h2⟩:=hx.tuple;obtain⟨b,zs,rfl,h3,h4⟩:=hy.tuple;cases h2;exact .inr ⟨a,b,zs,rfl,rfl,h1,h3,q _ H (aA.refl H) hf⟩
 .exact .inl (Ow A H x y _ _ d Q al hx hy e q)
def Yx(K:ak)(a:Addr):It:=
 ⟨λi H=>∃xs x,kg K H a xs/\xs[i]?=some x,λi H x H'=>∃p v,H p=none/\x=.ref p/\H'=upd H p (.tup [.int i,v])/\∀xs,kg K H a xs->xs[i]?=some v,λi H=>∃xs,kg K H a xs/\xs.length=i⟩
theorem EI{K:ak}(a e it:Addr)(gK:e≠it):Turn P w K (.Tuple es kk pz) (Yx K a) [e,it] e (λi h=>(∃old,IsEnum h e it i old)/\h.IsTupleIter it a i) where
 mem:=by simp
 obj:=λi h st b hb=>by
  obtain⟨⟨old,he⟩,o,ho,c,d⟩:=st;rcases aam.mp hb with z|z;.grind
  .grind
 keep:=λi h h' st k=>by
  obtain⟨⟨old,he⟩,jF⟩:=st;exact⟨⟨old,k e (by simp) _ he⟩,jF.at λo eo=>k it (by simp) o eo⟩
 item:=by
  intro X hP hw hK hc i pins s σ H E I hf st hg;subst hP hw hK;obtain⟨xs,x,hq,hx⟩:=hg;obtain⟨its,rv,p,hz⟩:=I.tuple hq;obtain⟨u,hu,ru⟩:=rv.get hx;obtain⟨⟨old,he⟩,jF⟩:=st;have hp:=p;have hea:e≠a:=λz=>by
   obtain⟨o,ho,uI,_⟩:=hp;rw[<-z]at ho;have:=ho.symm.trans he;cases this;exact absurd (acU uI) (by decide)
  have Ue:a≠it:=λz=>by
   obtain⟨o,ho,uI,_⟩:=hp;obtain⟨o2,oP,vX,_⟩:=jF;rw[z]at ho;have:=ho.symm.trans oP;cases this;rw[uI]at vX;exact absurd (acU vX) (by decide)
  have OP:i<its.toArray.size:=by grind
  refine wpAny_pyNext_enum_itemD (gN (A:=X.A.in1) (I.ok.hd hc) it a Ue its.toArray) he ⟨jF,hp⟩ OP gK (by simp[gK,hea]) λy h1 tk hy JQ Ll Yc OC Cc=>?_;have hyu:y=u:=by grind
  subst hyu;refine⟨_,rfl,adn JQ λh2 KJ rJ=>?_⟩;have Yd:=aai he;have I1:Inv X pins σ H {s with heap:=h2,toks:=tk+1}:=I.jY (t':=tk+1) (ch:=[e,it]) (λb o hb eo=>by
   simp at hb;exact(rJ.2 b hb.1).trans (Cc b o hb.1 hb.2 eo)) hf;have TM:IsTup h2 s.heap.objs.size [Value.int i tk,y].toArray:=⟨_,(rJ.2 _ (adg Yd)).trans Yc,rfl,_,rfl⟩;have xH:=I.bM.fresh (aah _);have fo:=I.uE (H':=H) (aah _) xH;have I2:Inv X pins σ (upd H s.heap.objs.size (.tup [.int i,x])) {s with heap:=h2,toks:=tk+1}:=I1.zV xH (aaW I.sz (aah _)) fo.2.1 fo.2.2.2.2.1 fo.2.2.2.2.2 TM (.cons ⟨_,rfl⟩ (.cons ru .nil)) (by show 2<=sizeLine;decide);refine⟨.ref s.heap.objs.size,_,I2,rfl,⟨_,x,xH,rfl,rfl,λys hy=>by rw[I.og hy hq];exact hx⟩,⟨⟨y,KJ⟩,Ll.1.extBut rJ.extBut (acb gK)⟩,λb hb=>?_⟩;have i9:b<s.heap.objs.size:=by
   rcases aam.mp hb with z|z;.grind
   .have z:b=it:=by simpa using z
    subst z;obtain⟨o,ho,_⟩:=jF;exact aai ho
  rw[av (aat i9)];exact(hf b hb).1
 done:=by
  intro X hP hw hK hc i pins s σ H E I hf st hg;subst hP hw hK;obtain⟨xs,hq,hx⟩:=hg;obtain⟨its,rv,p,hz⟩:=I.tuple hq;obtain⟨⟨old,he⟩,jF⟩:=st;have hp:=p;have Ue:a≠it:=λz=>by
   obtain⟨o,ho,uI,_⟩:=hp;obtain⟨o2,oP,vX,_⟩:=jF;rw[z]at ho;have:=ho.symm.trans oP;cases this;rw[uI]at vX;exact absurd (acU vX) (by decide)
  have hl:=rv.length;have hsz:its.toArray.size=i:=by rw[aaD,<-hl];exact hx
  refine wpAny_pyNext_enum_endD (gN (A:=X.A.in1) (I.ok.hd hc) it a Ue its.toArray) he ⟨by rw[hsz];exact jF,hp⟩ λh1 eb=>⟨rfl,?_⟩;exact I.jY (t':=s.toks) (ch:=[e,it]) (λb o hb eo=>eb b o (λz=>hb (by simp[z])) eo) hf
 self:=λ_ _ _ _ _ st h=>by
  obtain⟨⟨old,he⟩,_⟩:=st;exact ac0 he h
section
variable {X:Cx}{O:List Nat}{a:Expr}{ge:be}{p pos:Pos}{es:List Expr}{kk}{pz:Pos}
def Ug(K:ak)(ta:TA):TI:=λσ H R=>ta σ H λvs H1=>∃a xs,vs=[.ref a]/\kg K H1 a xs/\R (Yx K a) H1
theorem Lm(hg:Gl X "enumerate")(hm:X.mg "enumerate"=none)(ha:PA X [a] ta)(hs:starEach [a] X.env=[(false,eval a X.env)]:=by rfl):PI X (.Tuple es kk pz) (.Call (.Name "enumerate" p) [a] [] pos) (Ug X.K ta):=by
 intro pins s σ H R I h
 refine Call_ (mE I hg hm lu (acq (dw (ha pos pins s σ H _ I h) λus s1 ⟨vs,H1,I1,r1,q1⟩=>?_) hs rfl))
 obtain⟨b,xs,e,hq,q⟩:=q1
 subst e
 obtain⟨u,rfl,ru⟩:=vals1 r1
 cases ru
 obtain⟨its,rv,pl,hz⟩:=I1.tuple hq
 refine Et (show s1.heap.IsTuple b its.toArray from pl) λh' he hit hsz hk=>?_
 refine ac0 he ?_
 refine⟨s1.heap.objs.size+1,[s1.heap.objs.size+1,s1.heap.objs.size],_,_,H1,rfl,I1.kept (t':=s1.toks) hk,EI b _ s1.heap.objs.size (ae2 _),⟨⟨_,he⟩,hit⟩,λb hb=>?_,q⟩
 have hle:s1.heap.objs.size<=b:=by grind
 exact I1.uE hle (I1.bM.fresh hle)
def Af(g:be):cq:=λδ=>(g δ).bind λ|.tuple l=>some (jZ l)|_=>none
theorem vY(hm:X.mg "enumerate"=none)(ha:PE X a (tE X.K O ge))(hg:Gl X "enumerate":=by rfl)(hs:starEach [a] X.env=[(false,eval a X.env)]:=by rfl)(zX:starEach ([]:List Expr) X.env=[]:=by rfl):PI X (.Tuple es kk pz) (.Call (.Name "enumerate" p) [a] [] pos) (tI X.K O (Af ge)):=
 (Lm hg hm (aY ha b9 (by rw[hs,zX])) hs).mono λσ H Q hh=>hh.e λU A0 δ ds R ed q=>by
  obtain⟨x,e1,e2⟩:=bind1 ed;cases x with
  |tuple l=>
    cases e2;refine⟨U,A0,δ,_,R,e1,λv H' s h=>?_⟩;cases h with
    |tup hq h=>
      refine⟨_,_,rfl,.inl (bN.mq hq),q _ H' s ?_⟩;intro A' i H2 s2 al;have h2:=h.same s2;have hL:kg X.K H2 _ _:=.inl (bN.mq (s2.mq hq));refine⟨λd hd=>?_,λhi=>⟨_,hL,by rw[hi,sf,h2.len]⟩⟩;obtain⟨y,hy,rfl⟩:=yW hd;obtain⟨v,hv,Yg⟩:=h2.get hy;refine⟨⟨_,v,hL,hv⟩,λz H3 hz=>?_⟩;obtain⟨p,v',hp,rfl,rfl,S0⟩:=hz;have:=S0 _ hL;rw[hv]at this;cases this;exact⟨bj hp _,HD.xU al hp (.cons (.int _) (.cons Yg .nil))⟩
  |_=>cases e2
end
end L2
namespace L2
open PySem PySem.Spec PyProof.Rows
noncomputable def Uh:D->Option Key
 |.int i=>some (.inl i)
 |.str x=>some (.inr x)
 |_=>none
def keysOf:List D->Option (List Key)
 |[]=>some []
 |d::ds=>(Uh d).bind λk=>(keysOf ds).bind λks=>some (k::ks)
def keyOf:D->Option (List Key)
 |.tuple ds=>keysOf ds
 |_=>none
theorem jN:∀k:List Key,keysOf (k.map oQ)=some k
 |[]=>rfl
 |.inl i::k=>by rw[aaw,keysOf,jN k];rfl
 |.inr i::k=>by rw[aaw,keysOf,jN k];rfl
theorem y8{K:ak}:∀{xs:List V} {ds:List D} {k:List Key},cC K H xs ds->keysOf ds=some k->xs=k.map kV
 |_,_,_,.nil,e=>by cases e;rfl
 |_,_,_,.cons h t,e=>by
   obtain⟨a,e1,e2⟩:=bind1 e;obtain⟨b,e3,e4⟩:=bind1 e2;cases e4;rw[y8 t e3,aaw];cases h with
   |int i=>cases e1;rfl
   |str x=>cases e1;rfl
   |_=>cases e1
def dn(kds:eW)(k:List Key):Option D:=(kds.find? λp=>decide (keyOf p.1=some k)).map (·.2)
def il(kds:eW)(k:List Key)(d:D):eW:=
 if(kds.any λp=>decide (keyOf p.1=some k))=true then kds.map (λp=>if keyOf p.1=some k then(p.1,d)else p)else kds++[(.tuple (k.map oQ),d)]
theorem fD(e:keyOf p.1=some k):dn (p::r) k=some p.2:=by simp[dn,e]
theorem fE(e:¬keyOf p.1=some k):dn (p::r) k=dn r k:=by simp[dn,e]
theorem ou(k:List Key):∀kds:eW,(kds.any λp=>decide (keyOf p.1=some k))=(dn kds k).isSome
 |[]=>rfl
 |p::r=>by
   rw[adl];by_cases e:keyOf p.1=some k;.simp only[fD e,aas e,Bool.true_or,Option.isSome_some]
   .rw [fE e,aa3 e,Bool.false_or];exact ou k r
theorem y9(k j:List Key)(y:D):∀kds:eW,dn (kds.map λp=>if keyOf p.1=some k then(p.1,y)else p) j=(dn kds j).map λx=>if j=k then y else x
 |[]=>rfl
 |p::r=>by
   have ih:=y9 k j y r;rw[aaw];by_cases h:keyOf p.1=some k
   .rw [aaq h];by_cases e:keyOf p.1=some j;.rw [fD (p:=(p.1,y)) e,fD e,adH,aaq (abC (e.symm.trans h))]
    .rw [fE (p:=(p.1,y)) e,fE e,ih]
   .rw [aaO h];by_cases e:keyOf p.1=some j;.rw [fD (p:=p) e,fD e,adH,aaO (λz=>h (by rw[e,z]))]
    .rw [fE (p:=p) e,fE e,ih]
theorem za(j:List Key):∀a b:eW,dn (a++b) j=(dn a j).or (dn b j)
 |[],b=>by rw[acY];rfl
 |p::r,b=>by
   rw[adf];by_cases e:keyOf p.1=some j;.rw [fD e,fD e];rfl
   .rw [fE e,fE e];exact za j r b
theorem IE(kds:eW)(k j:List Key)(d:D):dn (il kds k d) j=if j=k then some d else dn kds j:=by
 unfold il
 by_cases a:(kds.any λp=>decide (keyOf p.1=some k))=true
 .rw [aaq a,y9];rw[ou]at a;by_cases e:j=k
  .obtain ⟨x,hx⟩:=adC.mp a;rw[aaq e,e,hx,adH,aaq rfl]
  .simp_all
 .rw [aaO a,za];rw[ou]at a;have hk:keyOf (.tuple (k.map oQ))=some k:=jN k;by_cases e:j=k
  .subst e;have:dn kds j=none:=by simp_all
   rw[aaq rfl,this,fD hk];rfl
  .rw [aaO e,fE (by rw[hk];exact λz=>e (abC z).symm)];exact Option.or_none
theorem jA(kds:eW)(k:List Key)(d:D):(il kds k d).length<=kds.length+1:=by
 unfold il
 split
 .grind
 .grind
inductive DK(K:ak)(H:Hp):List (List Key×V)->List (D×D)->Prop
 |nil:DK K H [] []
 |cons {k:List Key} {v:V} {d:D} {r:List (List Key×V)} {s:eW}:HD K H v d->DK K H r s->DK K H ((k,v)::r) ((.tuple (k.map oQ),d)::s)
section
variable {K:ak}{H H':Hp}{A:List Addr}
theorem DK.of:∀{aX:List (List Key×V)} {kds:eW},kds.map (·.1)=aX.map (λp=>PyData.tuple (p.1.map oQ))->cC K H (aX.map (·.2)) (kds.map (·.2))->DK K H aX kds
 |[],[],_,_=>.nil
 |[],_::_,e,_=>by simp at e
 |_::_,[],e,_=>by simp at e
 |(k,v)::r,(x,d)::s,e,h=>by
   simp only[aaw,List.cons.injEq]at e;obtain⟨e1,e2⟩:=e;subst e1;cases h with
   |cons h1 h2=>exact .cons h1 (DK.of e2 h2)
theorem DK.keys:∀{aX:List (List Key×V)} {kds:eW},DK K H aX kds->kds.map (·.1)=aX.map (λp=>PyData.tuple (p.1.map oQ))
 |_,_,.nil=>rfl
 |_,_,.cons _ t=>by rw[aaw,aaw,DK.keys t]
theorem DK.vals:∀{aX:List (List Key×V)} {kds:eW},DK K H aX kds->cC K H (aX.map (·.2)) (kds.map (·.2))
 |_,_,.nil=>.nil
 |_,_,.cons h t=>.cons h (DK.vals t)
theorem DK.own(h:DK K H aX kds):Ej K H (.dT aX) (.dict kds):=.uH h.keys h.vals
theorem DK.same(s:aA H H')(h:DK K H aX kds):DK K H' aX kds:=DK.of h.keys (h.vals.same s)
theorem DK.len:∀{aX:List (List Key×V)} {kds:eW},DK K H aX kds->aX.length=kds.length
 |_,_,.nil=>rfl
 |_,_,.cons _ t=>by rw[aaR,aaR,DK.len t]
theorem DK.look(k:List Key):∀{aX:List (List Key×V)} {kds:eW},DK K H aX kds->(∀d,dn kds k=some d->∃v,mO aX k=some v/\HD K H v d)/\(dn kds k=none->mO aX k=none)
 |_,_,.nil=>⟨λd e=>(by cases e),λ_=>rfl⟩
 |_,_,.cons (k:=j) (v:=v) (d:=d) (r:=r) (s:=s) h t=>by
   have hj:keyOf (.tuple (j.map oQ))=some j:=jN j;by_cases e:j=k;.subst e;rw[fD (p:=(PyData.tuple (j.map oQ),d)) hj,mP (p:=(j,v)) rfl];exact⟨λd' q=>by cases q;exact⟨v,rfl,h⟩,λq=>by cases q⟩
   .rw [fE (p:=(PyData.tuple (j.map oQ),d)) (by rw[hj];exact λz=>e (abC z)),mQ (p:=(j,v)) e];exact DK.look k t
theorem DK.rep(k:List Key)(hv:HD K H v d):∀{aX:List (List Key×V)} {kds:eW},DK K H aX kds->DK K H (aX.map λkv=>if kv.1=k then(kv.1,v)else kv) (kds.map λp=>if keyOf p.1=some k then(p.1,d)else p)
 |_,_,.nil=>.nil
 |_,_,.cons (k:=j) h t=>by
   have hj:keyOf (.tuple (j.map oQ))=some j:=jN j;rw[aaw,aaw];by_cases e:j=k;.subst e;rw[aaq rfl,aaq hj];exact .cons hv (DK.rep j hv t)
   .rw [aaO e,aaO (by rw[hj];exact λz=>e (abC z))];exact .cons h (DK.rep k hv t)
theorem DK.app:∀{a:List (List Key×V)} {b:eW} {a':List (List Key×V)} {b':eW},DK K H a b->DK K H a' b'->DK K H (a++a') (b++b')
 |_,_,_,_,.nil,q=>q
 |_,_,_,_,.cons h t,q=>.cons h (DK.app t q)
theorem DK.put(h:DK K H aX kds)(k:List Key)(hv:HD K H v d):DK K H (putK aX k v) (il kds k d):=by
 have e:(aX.any λkv=>decide (kv.1=k))=kds.any λp=>decide (keyOf p.1=some k):=by
  rw[vw,ou];cases q:dn kds k with
  |none=>rw[(h.look k).2 q];rfl
  |some x=>obtain⟨w,hw,_⟩:=(h.look k).1 x q;rw[hw];rfl
 unfold putK il
 rw[e]
 split
 .exact h.rep k hv
 .exact h.app (.cons hv .nil)
theorem iX.dk(h:iX K A H x (.dict kds))(hf:Ig kds=false):∃a aX,x=.ref a/\H a=some (.dT aX)/\DK K (wo H A) aX kds:=
 let⟨a,aX,e,h1,h2,h3⟩:=h.dict hf;⟨a,aX,e,h1,DK.of h2 h3⟩
theorem iX.key(h:iX K A H y d)(e:keyOf d=some k):∃b,y=.ref b/\eE H b (k.map kV):=by
 cases d with
 |tuple ds=>
   obtain⟨b,ys,rfl,hb,hd⟩:=h.XZ;exact⟨b,rfl,by rw[<-y8 hd e];exact hb⟩
 |_=>cases e
end
def vZ(gd gk:be):be:=λδ=>(gd δ).bind λx=>(gk δ).bind λy=>match x with
 |.dict kds=>if Ig kds=true then none else(keyOf y).bind λk=>dn kds k
 |_=>none
def dA(gd gk ge:be):be:=λδ=>(gd δ).bind λx=>(gk δ).bind λy=>(ge δ).bind λz=>match x with
 |.dict kds=>if Ig kds=true then none else(keyOf y).bind λk=>some ((dn kds k).getD z)
 |_=>none
def oZ(i:Nat)(gk ge:be):bB:=λδ=>(ge δ).bind λd=>(ae i δ).bind λx=>(gk δ).bind λy=>match x with
 |.dict kds=>(keyOf y).bind λk=>if kds.length<100000 then some (.nx (δ.set i (some (.dict (il kds k d)))))else none
 |_=>none
noncomputable def GJ(i:Nat)(g:DS->Option (eW)):bB:=λδ=>(g δ).bind λd=>some (.nx (δ.set i (some (.dict d))))
def Ag(gk ge:be):DS->Option (eW):=λδ=>(gk δ).bind λy=>(ge δ).bind λd=>(keyOf y).bind λk=>some [(.tuple (k.map oQ),d)]
def tNd(K:ak)(O:List Nat)(g:DS->Option (eW)):TE:=λσ H Q=>∃U A0 δ kds,Rel K O U A0 σ δ H/\g δ=some kds/\
 ∀r aX H',aA H H'->H r=none->H' r=some (.dT aX)->DK K (wo H' (r::(U++A0))) aX kds->Q (.ref r) H'
section
variable {X:Cx}{O:List Nat}{fr:Fr}{st:Stmt}{gd gk ge:be}{gl:DS->Option (eW)}{o i e f:Expr}{pos apos cR:Pos}
set_option tactic.hygienic true in
theorem GK(hu:X.A.units+1<cLine)(ho:PE X o (gz X.K O gd))(hi:PE X i (gz X.K O gk))(hs:Kl i:=by intro _ _;rfl):PE X (.Subscript o i pos) (tE X.K O (vZ gd gk)):=(Gq hu ho hi hs).mono λσ H Q hh=>hh.e λU A0 δ d R ed q=>by
 obtain⟨x,e1,e2⟩:=bind1 ed
 obtain⟨y,e3,e4⟩:=bind1 e2
 refine⟨U,A0,δ,x,R,e1,λv H1 s1 h1=>⟨U,A0,δ,y,R.same s1,e3,λv2 H2 s2 h2=>?_⟩⟩
 cases x with
 |dict kds=>
   have e4:(if Ig kds=true then none else(keyOf y).bind λk=>dn kds k)=some d:=e4;split at e4;.grind
   rename_i hf;have hf:=aeQ.mpr hf;obtain⟨k,e5,e6⟩:=bind1 e4;obtain⟨a,aX,rfl,ha,dk⟩:=(h1.same s2).dk hf;obtain⟨b,rfl,hb⟩:=h2.key e5;obtain⟨w,hw,hd⟩:=(dk.look k).1 d e6;refine⟨a,w,rfl,?_,q w H2 (s1.trans s2) hd⟩;rw[<-hw];exact ph.t ha hb
 |_=>cases e4
set_option tactic.hygienic true in
theorem fX(hu:X.A.units+1<cLine)(ho:PE X o (gz X.K O gd))(hi:PE X e (gz X.K O gk))(hx:PE X f (tE X.K O ge))(m:M2 X o "get" apos e f cR:=by exact⟨rfl,rfl,rfl,rfl⟩):PE X (.Call (.Attribute o "get" apos) [e,f] [] cR) (tE X.K O (dA gd gk ge)):=(Kp hu ho hi hx m).mono λσ H Q hh=>hh.e λU A0 δ d R ed q=>by
 obtain⟨x,e1,e2⟩:=bind1 ed
 obtain⟨y,e3,e4⟩:=bind1 e2
 obtain⟨z,e5,e6⟩:=bind1 e4
 refine⟨U,A0,δ,x,R,e1,λv H1 s1 h1=>?_⟩
 cases x with
 |dict kds=>
   have e6:(if Ig kds=true then none else(keyOf y).bind λk=>some ((dn kds k).getD z))=some d:=e6;split at e6;.lia
   rename_i hf;have hf:=aeQ.mpr hf;obtain⟨k,e7,e8⟩:=bind1 e6;cases e8;obtain⟨a,aX,rfl,ha,dk⟩:=h1.dk hf;refine⟨a,rfl,.inr ⟨_,.inl ha⟩,U,A0,δ,y,R.same s1,e3,λv2 H2 s2 h2=>⟨U,A0,δ,z,(R.same s1).same s2,e5,λv3 H3 s3 h3=>?_⟩⟩;obtain⟨b,rfl,hb⟩:=(h2.same s3).key e7;have dk3:=dk.same (bE (A:=U++A0) (s2.trans s3));refine⟨mO aX k,ph.t ((s2.trans s3) _ _ ha) hb,q _ H3 (s1.trans (s2.trans s3)) ?_⟩;cases w:dn kds k with
   |none=>rw[(dk3.look k).2 w];exact h3
   |some d'=>obtain⟨w',hw',uZ⟩:=(dk3.look k).1 d' w;rw[hw'];exact uZ
 |_=>cases e6
set_option tactic.hygienic true in
theorem Ah{i:Nat}(h:PS X st (QN (iO i) (gz X.K O gk) (tE X.K O ge)))(hi:i∈O:=by decide):PS X st (tS X.K O fr (oZ i gk ge)):=h.mono λE σ H hh=>hh.e λH0 U A0 δ r R F ed P=>by
 obtain⟨d,e1,e2⟩:=bind1 ed
 obtain⟨x,e3,e4⟩:=bind1 e2
 obtain⟨y,e5,e6⟩:=bind1 e4
 obtain⟨l,o,hl,hU,h1,h2⟩:=R.ow i x hi (join_some e3)
 cases h2 with
 |lst _=>cases e6
 |uH kk hv=>
   obtain⟨k,e7,e8⟩:=bind1 e6;split at e8
   .rename_i hz;cases e8;refine⟨U,A0,δ,d,R,e1,λv H1 s1 hv1=>⟨.ref l,hl,U,A0,δ,y,R.same s1,e5,λv2 H2 s2 h3=>?_⟩⟩;obtain⟨b,rfl,hb⟩:=h3.key e7;have dk:=DK.of kk hv;have hlen:=dk.len;have dk2:=dk.same (bE (A:=U++A0) (s1.trans s2));refine⟨l,_,rfl,BW.t ((s1.trans s2) _ _ h1) hb (mR (by lia)),?_⟩;exact P U σ _ ((R.same (s1.trans s2)).X2 hi hl hU (dk2.put k (hv1.same (bE s2))).own ⟨_,join_some e3⟩) ((F.grow (s1.trans s2)).put hU _)
   .grind
theorem Ai{i:Nat}(h:PS X st (uC (tNd X.K O gl) (mI i)))(hi:i∈O:=by decide):PS X st (tS X.K O fr (GJ i gl)):=h.mono λE σ H hh=>hh.e λH0 U A0 δ r R F ed P=>by
 obtain⟨d,e1,e2⟩:=bind1 ed
 cases e2
 exact⟨U,A0,δ,d,R,e1,λr aX H' s hr h1 h2=>P (r::U) _ H' (R.X0 s hr h1 h2.own hi) (F.more s hr)⟩
theorem Rel.Yy{K:ak}(R:Rel K O U A0 σ δ H)(s:aA H H'){o:HO}(hr:H r=none)(h:H' r=some o)(ho:uG o):Rel K O U (r::A0) σ δ H':=by
 have k:aA (wo H (U++A0)) (wo H' (U++(r::A0))):=λb o q=>by
  obtain⟨h1,h2⟩:=lj q;rw[aN];.exact s b o h2
  .grind
 exact{
  len:=R.len
  fz:=λi d hi e=>let⟨v,a,b⟩:=R.fz i d hi e;⟨v,a,b.same k⟩
  ow:=λi d hi e=>let⟨l,o,a,c,f,g⟩:=R.ow i d hi e;⟨l,o,a,c,s _ _ f,g.same k⟩
  inj:=R.inj
  al:=⟨λa ha=>by
   simp only[aaf,aam]at ha;rcases ha with z|z|z;.exact (R.al.same s).1 a (by simp[z])
   .grind
   .exact (R.al.same s).1 a (by simp[z]),(R.al.same s).2⟩}
def Ui(tk tv:TE):TE:=λσ H Q=>∀p,H p=none->Eh [(tk,tv)] σ (upd H p (.dT [])) λps H2=>H2 p=some (.dT [])/\∃b ks y,ps=[(.ref b,y)]/\eE H2 b (ks.map kV)/\Q (.ref p) (upd H2 p (.dT [(ks,y)]))
theorem Ln{k v:Expr}{tk tv:TE}(hu:X.A.units+1<cLine)(hk:PE X k tk)(hv:PE X v tv):PE X (.Dict [some k] [v] pos) (Ui tk tv):=by
 intro pins s σ H Q I q
 have hn:=I.bM.fresh (aah s.heap.objs.size)
 have I1:=I.laid (a:=s.heap.objs.size) (o:=.dT []) (h':=s.heap.push {cls:=.type "dict",data:=.dict #[]}) (t':=s.toks) (λ_ _ q=>aab _ q) (aah _) (Kn s.heap I.big)
 have pp:ZU X pos [some k] [v] [(tk,tv)]:=Ko hk hv Og
 refine wpAny_Dict_any rfl rfl (by simp) (by simp) (dw (pp pins _ σ _ _ I1 (q _ hn)) λws s2 ⟨ps,H2,I2,rel,e,b,ks,y,e2,e4,q2⟩=>?_)
 subst e2
 cases rel with
 |@cons _ w _ _ h t=>
   cases t;obtain⟨u1,u2⟩:=w;obtain⟨r1,r2⟩:=h;cases(show u1=Value.ref b from r1);have hf:storeAll s.heap.objs.size [(Value.ref b,u2)]=(do dictSet s.heap.objs.size (Value.ref b) u2):=by
    unfold storeAll;rw[acA];simp
   rw[hf];obtain⟨z,hd,xs,rl,dd⟩:=QL I2.bM e;cases rl;refine wpAny_dictSet_heap (show X.A.units<cLine by lia) (rZ I2.bM e4) dd (λh' V0 hs=>⟨.ref s.heap.objs.size,_,?_,rfl,q2⟩) (ab8 _);obtain⟨q,es,ep,hq,h2,h3,h4,_,h5⟩:=V0;have abO:KT H2 [] []:=.nil;refine zH I2 (by rw[e];exact True.intro) hs ⟨q,hq⟩ ⟨small (by simp),hd,_,(abO.put ks e4 r2).keeps λc ys ec=>?_,q,es,ep,hq,h2,h3,h4,h5⟩;exact ec.dT e
theorem v5(hu:X.A.units+1<cLine)(hk:PE X k (gz X.K O gk))(hv:PE X v (tE X.K O ge)):PE X (.Dict [some k] [v] pos) (tNd X.K O (Ag gk ge)):=(Ln hu hk hv).mono λσ H Q ⟨U,A0,δ,d,R,ed,q⟩ p hp=>by
 obtain⟨y,e1,e2⟩:=bind1 ed
 obtain⟨d',e3,e4⟩:=bind1 e2
 obtain⟨ks,e5,e6⟩:=bind1 e4
 cases e6
 have s0:=bj hp (.dT [])
 have R0:Rel X.K O U (p::A0) σ δ (upd H p (.dT [])):=R.Yy s0 hp az trivial
 refine⟨U,p::A0,δ,y,R0,e1,λv H1 s1 h1=>⟨U,p::A0,δ,d',R0.same s1,e3,λw H2 s2 h2=>?_⟩⟩
 obtain⟨b,rfl,hb⟩:=(h1.same s2).key e5
 have Yt:=(s1.trans s2) _ _ az
 refine⟨Yt,b,ks,w,rfl,hb,q p _ _ (s0.trans (s1.trans s2)|>.upd hp _) hp az ?_⟩
 have ew:wo (upd H2 p (.dT [(ks,w)])) (p::(U++A0))=wo H2 (p::(U++A0)):=Kv (by simp)
 rw[ew]
 exact .cons (h2.same (iu λa ha=>by simp only[aaf,aam]at ha ⊢;rcases ha with z|z|z;exact .inr (.inl z);exact .inl z;exact .inr (.inr z))) .nil
end
end L2
namespace LS
open PySem PySem.Spec PyProof.Rows
section
variable {prog:Program}{w:World}{A:Around}{E:dz}{s:Shared}
theorem abP(ft:TypeCalled T nw "object.__init__")(c1:checkTypeCall T ⟨us,kw⟩=pure ())(c2:checkBuiltinCall nw ⟨.type T::us,kw⟩=pure ())
  (en:entryFor table nw=some Bn)(g:Meets (Bn ⟨.type T::us,kw⟩) S)(c3:∀o,argsOk "object.__init__" ⟨o::us,kw⟩)(gi:∀o,Meets (Builtin.«object.__init__» ⟨o::us,kw⟩) (λ_ R s=>s.TypeIs o T/\R (.ok (.ret .none)) s))
  (h:S A.in1 (wants (λo s1=>s1.TypeIs o T/\Q o s1) E) s):wpAny (model prog w) A (call (.type T) us kw) Q E s:=by
 obtain⟨hc,tl,hm⟩:=ft.mro
 have k1:=ft.made
 have k2:=ft.sub
 have k3:=ft.notType
 have k4:=ft.canCreate
 refine wpAny_call (codeAny_of_tree (show wpAny _ _ (callAny (.type T) _) _ _ _ from aae ⟨Code.quiet_builtin _ (by decide +kernel),acB F.entry_type_call ?_⟩))
 rw[Around.under_plain (weight_type_call_type T us kw) (units_type_call_type T us kw)]
 repeat any_goals first|assumption|wp_step
 refine acD (ac2 ft.plain en (aeN c2 (g prog w A.in1 _ s h))) λr s1 hr=>?_
 cases r with
 |error e=>exact hr
 |ok fl=>
   cases fl with
   |ret o=>
     obtain⟨hT,hq⟩:=hr;have k5:=ft.init.lookup;have k6:=ft.init.bind o;repeat any_goals first|assumption|wp_step
     refine acD (ac2 ft.init.plain F.entry_object_init (ft.init.check _ _ _ _ _ _ _ _ hT (c3 o) (gi o prog w A.in1 (wants (λr s2=>r=.none/\Q o s2) E) s1 ⟨hT,rfl,hq⟩))) λr2 s2 hr2=>?_;cases r2 with
     |error e=>exact hr2
     |ok f2=>
       cases f2 with
       |ret r=>
         obtain⟨rfl,q2⟩:=hr2;repeat any_goals first|assumption|wp_step
       |_=>exact hr2.elim
   |_=>exact hr.elim
end
theorem initK(hl:typeLookup (.type T) "__init__"=pure (some (.builtin "object.__init__")))(hm:Bind.madeBy (.type T)=pure (some nw))(gK:(some nw !=some "object.__new__")=true)(u:Value):
  Meets (Builtin.«object.__init__» ⟨o::u::us,kw⟩) (λ_ R s=>s.TypeIs o T/\R (.ok (.ret .none)) s):=by
 refine Meets.of_wp λprog w A R s hs=>?_
 obtain⟨hT,hq⟩:=hs
 repeat any_goals first|assumption|wp_step
 exact⟨_,rfl,hq⟩
theorem tcS(a b:Value):checkTypeCall "enumerate" ⟨[a],[("start",b)]⟩=pure ():=by kernel_rfl
theorem bcS(a b:Value):checkBuiltinCall "enumerate.__new__" ⟨[.type "enumerate",a],[("start",b)]⟩=pure ():=by kernel_rfl
theorem aoS(o a b:Value):argsOk "object.__init__" ⟨[o,a],[("start",b)]⟩:=by kernel_rfl
set_option maxHeartbeats 1000000 in
set_option tactic.hygienic true in
theorem abR(l:Addr)(items:Array Value)(n:Nat)(uH:Option Addr)(sl:Array (Option Value))(t:Tok):
  Meets (Builtin.«enumerate.__new__» ⟨[.type "enumerate",.ref l],[("start",.int 1 t)]⟩) (λ_ R s=>s.heap.get? l=some {cls:=.type "tuple",dict:=uH,data:=.seq items n,slots:=sl}/\
   R (.ok (.ret (.ref (s.heap.push {cls:=.type "tuple_iterator",data:=.fields #[.ref l,.int 0 0]}).objs.size)))
     {s with heap:=(s.heap.push {cls:=.type "tuple_iterator",data:=.fields #[.ref l,.int 0 0]}).push {cls:=.type "enumerate",data:=.fields #[.none,.bool false,.ref s.heap.objs.size,rawInt 1,.none,.none]}}):=
 .of_wp λprog w A R s h=>by
  obtain⟨hp,g,d,tk,os⟩:=s;obtain⟨hl,h⟩:=h;have vL:=sub_enumerate;have hL:Heap.IsTuple (Shared.heap ⟨hp,g,d,tk,os⟩) l items:=⟨_,hl,rfl,n,rfl⟩;wp_walk using AutoSeq1.wpAny_loadPart' hl;refine wpAny_stack_any λst=>aae ?_;split
  .rename_i c _ _ _ _ _;cases(c==Value.type "enumerate");.wp_walk using AutoSeq1.wpAny_loadPart' hl,wpAny_pyIter_tuple hL;exact⟨_,rfl,h⟩
   .wp_walk using AutoSeq1.wpAny_loadPart' hl,wpAny_pyIter_tuple hL;exact⟨_,rfl,h⟩
  .wp_walk using AutoSeq1.wpAny_loadPart' hl,wpAny_pyIter_tuple hL;exact⟨_,rfl,h⟩
section
variable {prog:Program}{w:World}{A:Around}{E:dz}{s:Shared}
theorem EJ(hL:s.heap.IsTuple l items)
  (h:∀h',IsEnum h' (s.heap.objs.size+1) s.heap.objs.size 1 .none->h'.IsTupleIter s.heap.objs.size l 0->h'.objs.size=s.heap.objs.size+2->(∀b o,s.heap.get? b=some o->h'.get? b=some o)->Q (.ref (s.heap.objs.size+1)) {s with heap:=h'}):
  wpAny (model prog w) A (call (.type "enumerate") [.ref l] [("start",.int 1 t)]) Q E s:=by
 obtain⟨⟨c,uH,dt,sl⟩,hl,hc,n,hd⟩:=hL
 subst hc hd
 refine abP ac5 (tcS _ _) (bcS _ _) PySem.F.entry_enumerate_new (abR l items n uH sl t) (λo=>aoS o _ _) (λo=>initK ac5.init.lookup ac5.made (by decide) _) ⟨hl,?_⟩
 have hz:(s.heap.push {cls:=.type "tuple_iterator",data:=.fields #[.ref l,.int 0 0]}).objs.size=s.heap.objs.size+1:=abK ..
 rw[hz]
 have he:IsEnum ((s.heap.push {cls:=.type "tuple_iterator",data:=.fields #[.ref l,.int 0 0]}).push {cls:=.type "enumerate",data:=.fields #[.none,.bool false,.ref s.heap.objs.size,rawInt 1,.none,.none]}) (s.heap.objs.size+1) s.heap.objs.size 1 .none:=by
  have q:=aag (s.heap.push {cls:=.type "tuple_iterator",data:=.fields #[.ref l,.int 0 0]}) (o:={cls:=.type "enumerate",data:=.fields #[.none,.bool false,.ref s.heap.objs.size,rawInt 1,.none,.none]}) rfl;rw[hz]at q;exact q
 exact⟨⟨_,he,rfl⟩,h _ he ⟨_,aab _ (aag _ rfl),rfl,rfl⟩ (by rw[abK,hz]) λb o x=>aab _ (aab _ x)⟩
theorem Co{St:Nat->Heap->Prop}(d:Draws prog w A it fp n P St):Draws prog w A it fp (n+1) (λi v=>∃j,i=j+1/\P j v) (λi h=>∃j,i=j+1/\St j h) where
 live:=λ_ h ⟨j,_,q⟩=>d.live j h q
 frame:=λ_ h h' ⟨j,e,q⟩ k=>⟨j,e,d.frame j h h' q k⟩
 item:=λi s Q E hi ⟨j,e,q⟩ hQ=>d.item j s Q E (by lia) q λx h' tk p st sb=>hQ x h' tk ⟨j,e,p⟩ ⟨j+1,by lia,st⟩ sb
 done:=λs Q E ⟨j,e,q⟩ hE=>d.done s Q E ((show j=n by lia) ▸ q) hE
theorem v7 
  (h:wpAny M A (spliced (backTo pos (starEach (e::es) env))) (λvs s1=>wpAny M A (evalAll ((backToKw pos (keywordEach kws env)).map (·.2))) (λks s2=>wpAny M A (call (.type T) vs (((backToKw pos (keywordEach kws env)).filterMap (·.1)).zip ks)) Q E s2) E s1) E s)
  (he:backTo pos (starEach (e::es) env)=(false,eval e env)::backTo pos (starEach es env))(hp:(backTo pos (starEach (e::es) env)).any (·.1)=false)(ha:(backToKw pos (keywordEach kws env)).all (·.1.isSome)=true)(hk:(backToKw pos (keywordEach kws env)).any (·.1.isNone)=false):
  wpAny M A (callWith pos (.type T) [] (backTo pos (starEach (e::es) env)) (backToKw pos (keywordEach kws env))) Q E s:=by
 have h1:wpAny M A (evalArgs (.type T) true (backTo pos (starEach (e::es) env)) (backToKw pos (keywordEach kws env))) (λa s1=>wpAny M A (call (.type T) a.pos a.kw) Q E s1) E s:=by
  rw[he]at h ⊢;exact evalArgs_kwB ha h
 refine aaa (abN (aa6 h1 (λa s1 q=>aaa (adk ?_)) λ_ _ x=>x))
 simp only[hp,hk,Bool.or_false]
 exact aaa (aae (aaa (aa6 q (λr s2 hr=>aaa (abN (wpAny_point (aae hr)))) λ_ _ x=>x)))
end
end LS
namespace L2
open PySem PySem.Spec PyProof.Rows LS
def Yz(K:ak)(a:Addr):It:=
 ⟨λi H=>∃xs x,kg K H a xs/\xs[i]?=some x,λi H x H'=>∃p v,H p=none/\x=.ref p/\H'=upd H p (.tup [.int ((i:Int)+1),v])/\∀xs,kg K H a xs->xs[i]?=some v,λi H=>∃xs,kg K H a xs/\xs.length=i⟩
theorem EK{K:ak}(a e it:Addr)(gK:e≠it):Turn P w K (.Tuple es kk pz) (Yz K a) [e,it] e (λi h=>(∃old,IsEnum h e it ((i:Int)+1) old)/\h.IsTupleIter it a i) where
 mem:=by simp
 obj:=λi h st b hb=>by
  obtain⟨⟨old,he⟩,o,ho,c,d⟩:=st;rcases aam.mp hb with z|z;.grind
  .grind
 keep:=λi h h' st k=>by
  obtain⟨⟨old,he⟩,jF⟩:=st;exact⟨⟨old,k e (by simp) _ he⟩,jF.at λo eo=>k it (by simp) o eo⟩
 item:=by
  intro X hP hw hK hc i pins s σ H E I hf st hg;subst hP hw hK;obtain⟨xs,x,hq,hx⟩:=hg;obtain⟨its,rv,p,hz⟩:=I.tuple hq;obtain⟨u,hu,ru⟩:=rv.get hx;obtain⟨⟨old,he⟩,jF⟩:=st;have hp:=p;have hea:e≠a:=λz=>by
   obtain⟨o,ho,uI,_⟩:=hp;rw[<-z]at ho;have:=ho.symm.trans he;cases this;exact absurd (acU uI) (by decide)
  have Ue:a≠it:=λz=>by
   obtain⟨o,ho,uI,_⟩:=hp;obtain⟨o2,oP,vX,_⟩:=jF;rw[z]at ho;have:=ho.symm.trans oP;cases this;rw[uI]at vX;exact absurd (acU vX) (by decide)
  have OP:i<its.toArray.size:=by grind
  refine wpAny_pyNext_enum_itemD (i:=i+1) (LS.Co (gN (A:=X.A.in1) (I.ok.hd hc) it a Ue its.toArray)) (by push_cast;exact he) ⟨i,rfl,jF,hp⟩ (Nat.succ_lt_succ OP) gK (by simp[gK,hea]) λy h1 tk hy JQ Ll Yc OC Cc=>?_;obtain⟨j',ej',Ll⟩:=Ll;cases ej';have hyu:y=u:=by grind
  subst hyu;refine⟨_,rfl,adn JQ λh2 KJ rJ=>?_⟩;have Yd:=aai he;have I1:Inv X pins σ H {s with heap:=h2,toks:=tk+1}:=I.jY (t':=tk+1) (ch:=[e,it]) (λb o hb eo=>by
   simp at hb;exact(rJ.2 b hb.1).trans (Cc b o hb.1 hb.2 eo)) hf;have TM:IsTup h2 s.heap.objs.size [Value.int ((i:Int)+1) tk,y].toArray:=⟨_,(rJ.2 _ (adg Yd)).trans Yc,rfl,_,rfl⟩;have xH:=I.bM.fresh (aah _);have fo:=I.uE (H':=H) (aah _) xH;have I2:Inv X pins σ (upd H s.heap.objs.size (.tup [.int ((i:Int)+1),x])) {s with heap:=h2,toks:=tk+1}:=I1.zV xH (aaW I.sz (aah _)) fo.2.1 fo.2.2.2.2.1 fo.2.2.2.2.2 TM (.cons ⟨_,rfl⟩ (.cons ru .nil)) (by show 2<=sizeLine;decide);refine⟨.ref s.heap.objs.size,_,I2,rfl,⟨_,x,xH,rfl,rfl,λys hy=>by rw[I.og hy hq];exact hx⟩,⟨⟨y,by push_cast;exact KJ⟩,Ll.1.extBut rJ.extBut (acb gK)⟩,λb hb=>?_⟩;have i9:b<s.heap.objs.size:=by
   rcases aam.mp hb with z|z;.grind
   .have z:b=it:=by simpa using z
    subst z;obtain⟨o,ho,_⟩:=jF;exact aai ho
  rw[av (aat i9)];exact(hf b hb).1
 done:=by
  intro X hP hw hK hc i pins s σ H E I hf st hg;subst hP hw hK;obtain⟨xs,hq,hx⟩:=hg;obtain⟨its,rv,p,hz⟩:=I.tuple hq;obtain⟨⟨old,he⟩,jF⟩:=st;have hp:=p;have Ue:a≠it:=λz=>by
   obtain⟨o,ho,uI,_⟩:=hp;obtain⟨o2,oP,vX,_⟩:=jF;rw[z]at ho;have:=ho.symm.trans oP;cases this;rw[uI]at vX;exact absurd (acU vX) (by decide)
  have hl:=rv.length;have hsz:its.toArray.size=i:=by rw[aaD,<-hl];exact hx
  refine wpAny_pyNext_enum_endD (LS.Co (gN (A:=X.A.in1) (I.ok.hd hc) it a Ue its.toArray)) he ⟨_,rfl,by rw[hsz];exact jF,hp⟩ λh1 eb=>⟨rfl,?_⟩;exact I.jY (t':=s.toks) (ch:=[e,it]) (λb o hb eo=>eb b o (λz=>hb (by simp[z])) eo) hf
 self:=λ_ _ _ _ _ st h=>by
  obtain⟨⟨old,he⟩,_⟩:=st;exact ac0 he h
section
variable {X:Cx}{O:List Nat}{a:Expr}{ge:be}{p pos:Pos}{es:List Expr}{kk}{pz:Pos}
def Uj(K:ak)(ta:TA):TI:=λσ H R=>ta σ H λvs H1=>∃a xs,vs=[.ref a]/\kg K H1 a xs/\R (Yz K a) H1
theorem Lo(hg:Gl X "enumerate")(hm:X.mg "enumerate"=none)(ha:PA X [a] ta)(hs:starEach [a] X.env=[(false,eval a X.env)]:=by rfl):PI X (.Tuple es kk pz) (.Call (.Name "enumerate" p) [a] [⟨some "start",.Constant (.int 1) jj cp,kp⟩] pos) (Uj X.K ta):=by
 intro pins s σ H R I h
 refine acS (mE I hg hm lu (LS.v7 (dw (ha pos pins s σ H _ I h) λus s1 ⟨vs,H1,I1,r1,q1⟩=>?_) (by rw[hs];rfl) (by rw[hs];rfl) rfl rfl))
 obtain⟨b,xs,e,hq,q⟩:=q1
 subst e
 obtain⟨u,rfl,ru⟩:=vals1 r1
 cases ru
 refine PyProof.Rows.evalAll_cons (aaa (dw (aU pins s1 σ H1 (λv H2=>v=V.int 1/\H2=H1) I1 ⟨rfl,rfl⟩) λkv s2 ⟨v,H2,I2,Wf,e1,e2⟩=>aaa (adk (aae (PyProof.Rows.evalAll_nil ?_)))))
 subst e1 e2
 obtain⟨t,rfl⟩:=Wf
 obtain⟨its,rv,pl,hz⟩:=I2.tuple hq
 refine LS.EJ (show s2.heap.IsTuple b its.toArray from pl) λh' he hit hsz hk=>?_
 refine ac0 he ?_
 refine⟨s2.heap.objs.size+1,[s2.heap.objs.size+1,s2.heap.objs.size],_,_,H2,rfl,I2.kept (t':=s2.toks) hk,EK b _ s2.heap.objs.size (ae2 _),⟨⟨_,he⟩,hit⟩,λb hb=>?_,q⟩
 have hle:s2.heap.objs.size<=b:=by grind
 exact I2.uE hle (I2.bM.fresh hle)
noncomputable def uk(l:List D):List D:=(l.zipIdx 1).map λp=>.tuple [.int (p.2:Nat),p.1]
theorem IF(l:List D):(uk l).length=l.length:=by unfold uk;simp
theorem IG{i:Nat}(h:(uk l)[i]?=some d):∃x,l[i]?=some x/\d=.tuple [.int ((i:Int)+1),x]:=by
 unfold uk at h
 rw[aa4,acx]at h
 cases e:l[i]? with
 |none=>rw[e]at h;cases h
 |some x=>grind
def Lp(g:be):cq:=λδ=>(g δ).bind λ|.tuple l=>some (uk l)|_=>none
theorem Lq(hm:X.mg "enumerate"=none)(ha:PE X a (tE X.K O ge))(hg:Gl X "enumerate":=by rfl)(hs:starEach [a] X.env=[(false,eval a X.env)]:=by rfl)(zX:starEach ([]:List Expr) X.env=[]:=by rfl):PI X (.Tuple es kk pz) (.Call (.Name "enumerate" p) [a] [⟨some "start",.Constant (.int 1) jj cp,kp⟩] pos) (tI X.K O (Lp ge)):=
 (Lo hg hm (aY ha b9 (by rw[hs,zX])) hs).mono λσ H Q hh=>hh.e λU A0 δ ds R ed q=>by
  obtain⟨x,e1,e2⟩:=bind1 ed;cases x with
  |tuple l=>
    cases e2;refine⟨U,A0,δ,_,R,e1,λv H' s h=>?_⟩;cases h with
    |tup hq h=>
      refine⟨_,_,rfl,.inl (bN.mq hq),q _ H' s ?_⟩;intro A' i H2 s2 al;have h2:=h.same s2;have hL:kg X.K H2 _ _:=.inl (bN.mq (s2.mq hq));refine⟨λd hd=>?_,λhi=>⟨_,hL,by rw[hi,IF,h2.len]⟩⟩;obtain⟨y,hy,rfl⟩:=IG hd;obtain⟨v,hv,Yg⟩:=h2.get hy;refine⟨⟨_,v,hL,hv⟩,λz H3 hz=>?_⟩;obtain⟨p,v',hp,rfl,rfl,S0⟩:=hz;have:=S0 _ hL;rw[hv]at this;cases this;exact⟨bj hp _,HD.xU al hp (.cons (.int _) (.cons Yg .nil))⟩
  |_=>cases e2
end
theorem Uk:bootBuiltins "zip"=some (.type "zip"):=by decide +kernel
section
variable {a b:Expr}{kk}
noncomputable def OQ(x y:List D):List D:=List.zipWith (λa b=>.tuple [a,b]) x y
end
end L2
namespace L2
open PySem PySem.Spec PyProof.Rows
section
end
def bS(K0:ak):ak:=K0.filter λq=>(dQ.lookup q.1).isNone
theorem jO(b:Addr):∀K0:ak,(bS K0).lookup b=if(dQ.lookup b).isNone=true then K0.lookup b else none
 |[]=>by simp[bS]
 |(c,o)::r=>by
   have ih:=jO b r;unfold bS at ih ⊢;by_cases e:b=c;.grind
   .grind
structure j1(K0:ak):Prop where
 one:∀p xs,(p,xs)∈dQ->dQ.lookup p=some xs
 tup:∀p xs,dQ.lookup p=some xs->∃(od:Option Addr) (its:Array Value) (n:Nat) (sl:Array (Option Value)),K0.lookup p=some ⟨.type "tuple",od,.seq its n,sl⟩/\xs.length<=sizeLine/\bz xs its.toList
theorem j1.look(C:j1 K0)(h:K0.lookup b=some o)(n:∀its n,o.data≠.seq its n):(bS K0).lookup b=some o:=by
 rw[jO]
 cases q:dQ.lookup b with
 |none=>exact h
 |some xs=>
   obtain⟨od,its,k,sl,e,_⟩:=C.tup b xs q;rw[h]at e;cases e;exact absurd rfl (n its k)
theorem j1.func(C:j1 K0){st:Stmt}(F:xR K0 x qual st f fd):xR (bS K0) x qual st f fd:=by
 obtain⟨⟨oc,od,kV,doc,pm,an,cn,ct,Nu,e1,e2,e3⟩,kp⟩:=F
 have Wb:=C.look e2 (λits n z=>by cases z)
 refine⟨⟨oc,od,kV,doc,pm,an,cn,ct,Nu,e1,Wb,?_⟩,?_⟩
 .unfold PySem.W.codeIn at e3 ⊢;cases cn with
  |ref c=>
    simp only at e3 ⊢;cases q:K0.lookup c with
    |none=>rw[q]at e3;exact absurd e3 (by simp)
    |some ob=>
      obtain⟨c1,c2,dt,c4⟩:=ob;rw[q]at e3;cases dt with
      |fields vs=>rw[C.look q (λits n z=>by cases z)];exact e3
      |_=>exact absurd e3 (by simp)
  |_=>exact e3
 .unfold PySem.W.keepIn;simp only[Wb]
def Hc(K0:ak):Hp:=λb=>match dQ.lookup b with
 |some xs=>(K0.lookup b).map λob=>HO.xF ob (.tup xs)
 |none=>none
theorem IH(C:j1 K0)
  (KX:K0.In bO.heap)(GL:bO.heap.Ns mainGlobals mg)(hb:bO.heap.Ns builtinsNs mb)(hbb:∀x:Str,x≠"__name__"->mb x=bootBuiltins x)(abS:bO.heap.NoLimit)(hg:bO.gens=#[])
  (ha:bO.heap.get? a=some {cls:=.type "list",data:=.seq vs.toArray})(hi:IntsAre vs ns)(hl:ns.length<=sizeLine)(hr:de k callerA)
  (F:∀base:Heap,(bS K0).In base->base.Ns mainGlobals mg->la P w (bS K0) mg base CX k fa fd [x] sp)(YA:∀(s:Shared) (u:Value),BindsTo s fd ⟨[u],[]⟩ [(x,u)])
  (QH:∀H:Hp,DP (bS K0) H a (ns.map V.int)->(∀p xs,(p,xs)∈dQ->eE H p xs)->sp [.ref a] H (λv _=>v=.bl true) λ_ _ _=>False)
  (hCX:∀H e s',CX [] H bO (λ_ _ _=>False) e s'->False):
  codeAny (model P w) callerA (.call (.ref fa) ⟨[.ref a],[]⟩) (λr s'=>r=.ok (.ret (.bool true))/\OldK bO.heap s'.heap/\s'.os=bO.os/\AllBare s'.gens) bO:=by
 have rv:=yP hi
 have abU:=hi.length
 have core:∀H:Hp,(∀b,H b=none\/∃o u,H b=some (.xF o u))->DP (bS K0) H a (ns.map V.int)->n8 P w H bO.heap->(∀p xs,(p,xs)∈dQ->eE H p xs)->(∀b o es ep,H b≠none->bO.heap.get? b=some o->o.data≠.dict es ep)->(∀b,H b≠none->(bS K0).lookup b=none)->
   codeAny (model P w) callerA (.call (.ref fa) ⟨[.ref a],[]⟩) (λr s'=>r=.ok (.ret (.bool true))/\OldK bO.heap s'.heap/\s'.os=bO.os/\AllBare s'.gens) bO:=by
  intro H hO hS bM hT hD hK;have GN:∀{b:Addr} {o:Obj},bO.heap.get? b=some o->H b=none->(zt bO.heap H).get? b=some o:=λe n=>JR e n;have XF:∀{b:Addr} {o:Obj} {es:Array DictEntry} {ep:Nat},bO.heap.get? b=some o->o.data=.dict es ep->H b=none:=λ{b o es ep} e d=>by grind
  have Z2:∀{b:Addr} {m:dO},bO.heap.Ns b m->(zt bO.heap H).Ns b m:=λ{b m} ⟨o,es,ep,e,d,r⟩=>⟨o,es,ep,GN e (XF e d),d,r⟩;have hKb:(bS K0).In (zt bO.heap H):=λb o e=>by
   have e0:K0.lookup b=some o:=by
    rw[jO]at e;split at e;.exact e
    .cases e
   refine GN (KX b o e0) ?_;cases q:H b with
   |none=>rfl
   |some u=>rw[hK b (by rw[q];simp)]at e;cases e
  have hM:Mod (bS K0) mg (zt bO.heap H):=⟨hKb,Z2 GL,⟨mb,Z2 hb,hbb⟩,let⟨mc,h1,h2⟩:=abS;⟨mc,Z2 h1,h2⟩⟩;have e0:Ec P w (bS K0) mg (zt bO.heap H) callerA [] bO H:=⟨rfl,hM,λb o e=>NQ e,Nat.le_of_eq (HK _ _),trivial,λb hb=>absurd (show b∈([]:List Addr)from hb) (by simp),bM,.of_eq hg⟩;refine acD ((F _ hKb (Z2 GL)).run callerA [] bO H ⟨[.ref a],[]⟩ [.ref a] [.ref a] _ _ hr e0 (YA bO (.ref a)) (.cons rfl .nil) (QH H hS hT)) λr s' h=>?_;cases r with
  |error e=>exact(hCX H e s' h).elim
  |ok fl=>
    cases fl with
    |next=>exact False.elim h
    |brk=>exact False.elim h
    |cont=>exact False.elim h
    |ret u=>
      obtain⟨v,H',os,bare,un,abV,r',q⟩:=h;have q':=q;subst q';obtain rfl:u=Value.bool true:=r';refine⟨rfl,OldK.of_keep λb o e=>?_,os,bare⟩;cases q:H b with
      |none=>exact un.keep b o e q (by intro z;exact absurd (show b∈([]:List Addr)from z) (by simp)) (by simp)
      |some u=>
        rcases hO b with z|⟨ob,xs,z⟩;.grind
        .have z2:=un.qv b ob _ z;obtain⟨e1,_⟩:=bM b _ z;obtain⟨e2,_⟩:=abV b _ z2;rw[e]at e1;cases e1;exact e2
 have hc1:∀b,Hc K0 b=none\/∃ob xs od its n sl,Hc K0 b=some (.xF ob (.tup xs))/\dQ.lookup b=some xs/\K0.lookup b=some ob/\ob=⟨.type "tuple",od,.seq its n,sl⟩/\xs.length<=sizeLine/\bz xs its.toList:=by
  intro b;unfold Hc;cases q:dQ.lookup b with
  |none=>exact .inl rfl
  |some xs=>
    obtain⟨od,its,n,sl,e,h1,h2⟩:=C.tup b xs q;refine .inr ⟨_,xs,od,its,n,sl,?_,rfl,e,rfl,h1,h2⟩;rw[e];rfl
 have hcO:∀(H:Hp) b ob u,Hc K0 b=some (.xF ob u)->cM P w H bO.heap b (.xF ob u):=λH b ob u e=>by
  rcases hc1 b with z|⟨ob',xs,od,its,n,sl,z,_,z2,rfl,z3,z4⟩;.grind
  .rw [z]at e;cases e;have OR:=KX b _ z2;exact⟨OR,z3,its.toList,z4,_,OR,rfl,n,by simp⟩
 have hcT:∀p xs,(p,xs)∈dQ->∃ob,Hc K0 p=some (.xF ob (.tup xs)):=λp xs m=>by
  obtain⟨od,its,n,sl,e,_⟩:=C.tup p xs (C.one p xs m);refine⟨⟨.type "tuple",od,.seq its n,sl⟩,?_⟩;unfold Hc;rw[C.one p xs m];rw[e];rfl
 have hcD:∀b o es ep,Hc K0 b≠none->bO.heap.get? b=some o->o.data≠.dict es ep:=λb o es ep z e d=>by
  rcases hc1 b with q|⟨ob',xs,od,its,n,sl,q,_,z2,rfl,_⟩;.grind
  .have OR:=KX b _ z2;rw[OR]at e;cases e;cases d
 have hcK:∀b,Hc K0 b≠none->(bS K0).lookup b=none:=λb z=>by
  rcases hc1 b with q|⟨ob',xs,od,its,n,sl,q,q2,_⟩;.grind
  .rw [jO,q2];rfl
 have hcF:∀b,Hc K0 b=none\/∃o u,Hc K0 b=some (.xF o u):=λb=>by grind
 cases hk:K0.lookup a with
 |some o=>
   have e:=KX a o hk;rw[ha]at e;cases e;have Wg:dQ.lookup a=none:=by grind
   refine core (Hc K0) hcF (.inr ⟨vs,_,by rw[jO,Wg];exact hk,by rw[abU];exact hl,rv⟩) (λb u z=>?_) (λp xs m=>.inr (hcT p xs m)) hcD hcK;rcases hcF b with q|⟨ob,u',q⟩;.grind
   .grind
 |none=>
   have Wg:dQ.lookup a=none:=by grind
   have YB:Hc K0 a=none:=by unfold Hc;rw[Wg]
   refine core (λb=>if b=a then some (.xF {cls:=.type "list",data:=.seq vs.toArray} (.lst (ns.map V.int)))else Hc K0 b) (λb=>?_) (.inl (.inr ⟨{cls:=.type "list",data:=.seq vs.toArray},aaq rfl⟩)) (λb u z=>?_) (λp xs m=>?_) (λb o es ep z e d=>?_) λb z=>?_;.grind
   .by_cases hb:b=a
    .have z':=(aaq hb).symm.trans z;cases z';subst hb;exact⟨ha,by rw[aaj];exact hl,vs,_,rv,ha⟩
    .grind
   .obtain ⟨ob,q⟩:=hcT p xs m;refine .inr ⟨ob,?_⟩;have hb:p≠a:=λe=>by rw[e,YB]at q;cases q
    exact(aaO hb).trans q
   .grind
   .by_cases hb:b=a
    .subst hb;rw[jO,Wg];exact hk
    .grind
theorem Lr{l:PySem.W.OpenLaw}{K:Params->ak}{CX:World->QC}{sp:World->Sp} 
  (hn:l.most=some n)(ZR:n<=sizeLine)(XS:d.params.defaults=[])(hr:de k callerA)(hY:∀(w:World) (h:Heap),YP w h->(K w.params).In h)
  (F:∀(w:World) (mg:dO) (fa:Addr) (h:Heap),(K w.params).In h->h.Ns mainGlobals mg->mg d.name=some (.ref fa)->j1 (K w.params)/\
   ∃fd:FuncData,(∀(s:Shared) (u:Value),BindsTo s fd ⟨[u],[]⟩ [(x,u)])/\∀base:Heap,(bS (K w.params)).In base->base.Ns mainGlobals mg->la l.prog w (bS (K w.params)) mg base (CX w) k fa fd [x] (sp w))
  (QH:∀(w:World) (H:Hp) (a:Addr) (ns:List Int),ns.length<=n->DP (bS (K w.params)) H a (ns.map V.int)->(∀p xs,(p,xs)∈dQ->eE H p xs)->sp w [.ref a] H (λv _=>v=.bl true) λ_ _ _=>False)
  (hCX:∀(w:World) (H:Hp) (s:Shared) (e:Value) (s':Shared),CX w [] H s (λ_ _ _=>False) e s'->False):
  PySem.W.WalkO q loose XP YP l.row.toRowW d [] (λf vs=>PySem.call f vs):=by
 refine Att.BV hn XS λw h8 bO mg mb fa o pm cd doc a vs ns G Y ho hd xM XT Td hints hlen hg=>?_
 have KX:=hY w _ Y
 obtain⟨C,fd,hb,hF⟩:=F w mg fa _ KX G.T.g XT
 exact IH C KX G.T.g G.T.b G.T.builtins G.T.nolimit hg Td hints (aaW hlen ZR) hr hF hb (λH hS hT=>QH w H a ns hlen hS hT) λH e s'=>hCX w H bO e s'
noncomputable def II(neg:Bool):D->D->Option D:=λx y=>match y with
 |.list l=>if(SeqAt.shaped x&&l.all SeqAt.shaped)=true then some (.bool ((l.any λz=>PyData.eqv z x)!=neg))else none
 |.tuple l=>if(SeqAt.shaped x&&l.all SeqAt.shaped)=true then some (.bool ((l.any λz=>PyData.eqv z x)!=neg))else none
 |_=>none
def YC(K:ak)(neg:Bool):R2:=λx y H Q=>∃dy ds dx,HD K H y dy/\(dy=.list ds\/dy=.tuple ds)/\HD K H x dx/\SeqAt.shaped dx=true/\ds.all SeqAt.shaped=true/\Q (.bl ((ds.any λz=>PyData.eqv z dx)!=neg)) H
theorem qL(h:ds.all SeqAt.shaped=true):PyData.canLayAll0 ds=true:=by
 induction ds with
 |nil=>rfl
 |cons d ds ih=>
   rw[adE,aax]at h;have h1:=h.1;unfold SeqAt.shaped at h1;rw[aax]at h1;rw[PyData.canLayAll0,h1.1,ih h.2];rfl
section
variable {X:Cx}
theorem GO(hr:de k X.A)(sx:SeqAt.shaped dx=true):X.A.units+1+min (PyData.depthAll ds) dx.depth<cLine:=by
 unfold SeqAt.shaped at sx
 rw[aax,aaS]at sx
 have:=hr.un
 lia
theorem IJ(hr:de k X.A):jz X (compareOp .NotIn) (YC X.K true):=by
 intro pins s σ H x y v u Q I rx ry h
 obtain⟨dy,ds,dx,hy,hd,hx,sx,Z3,q⟩:=h
 obtain⟨as,r1⟩:=hx.reads I rx (gy sx)
 rw[Bool.bne_true]at q
 rcases hd with rfl|rfl
 .obtain ⟨bs,r2⟩:=hy.reads I ry (by rw[PyData.canLay0];exact qL Z3);exact SeqAt.notIn_list_reads r2 r1 (qL Z3) (gy sx) (GO hr sx) ⟨.bl _,H,I,rfl,q⟩
 .obtain ⟨bs,r2⟩:=hy.reads I ry (by rw[PyData.canLay0];exact qL Z3);exact SeqAt.notIn_tuple_reads r2 r1 (qL Z3) (gy sx) (GO hr sx) ⟨.bl _,H,I,rfl,q⟩
end
set_option tactic.hygienic true in
theorem OS{K:ak}:iY K (YC K neg) (II neg):=by
 intro A H x y dx dy d Q al hx hy e q
 unfold II at e
 cases dy with
 |list l=>
   simp only at e;split at e;.rename_i c;rw[aax]at c;cases e;exact⟨_,l,dx,hy.QT,.inl rfl,hx.QT,c.1,c.2,q _ H (aA.refl H) (.bl _)⟩
   .cases e
 |tuple l=>
   simp only at e;split at e
   .rename_i c;rw[aax]at c;cases e;exact⟨_,l,dx,hy.QT,.inr rfl,hx.QT,c.1,c.2,q _ H (aA.refl H) (.bl _)⟩
   .cases e
 |_=>cases e
set_option tactic.hygienic true in
theorem OT(gi:cq)(ix:List Nat)(ge:be):cN gi ix ge=gA gi 1 ix (aO 0) (λ_=>some true) ge:=by
 funext δ
 unfold cN gA
 cases gi δ with
 |none=>rfl
 |some ds=>
   rw[aac,aac];split;.induction ds with
    |nil=>rfl
    |cons d ds ih=>
      rename_i h;rw[KO,vV,ih (by rw[aaR]at h;lia)];show _=Option.bind (Option.map some (ge (some d::iQ ix δ))) _;cases ge (some d::iQ ix δ)<;>rfl
   .rfl
section
variable {X:Cx}{O:List Nat}{gi:cq}{ix:List Nat}{ge:be}
theorem PE.EL(h:PE X e (tN X.K O (gA gi 1 ix (aO 0) (λ_=>some true) ge))):PE X e (tN X.K O (cN gi ix ge)):=by rw[OT];exact h
end
end L2
namespace L2
open PySem PySem.Spec PyProof.Rows PySem.Calls
set_option maxRecDepth 100000
section
end
section
end
end L2
namespace L2
open PySem PySem.Spec PyProof.Rows
def Itx(x:Str):It:=⟨λi _=>i<x.cps.size,λi H v H'=>H'=H/\∃c,x.cps[i]?=some c/\v=.str ⟨#[c]⟩,λi _=>x.cps.size<=i⟩
theorem IK{K:ak}(x:Str)(t:Tok)(it:Addr):Turn P w K tg (Itx x) [it] it (λi h=>h.IsStrIter it "str_ascii_iterator" x t i) where
 mem:=by simp
 obj:=λi h st b hb=>by
  have e:b=it:=by simpa using hb
  subst e;obtain⟨o,e,c,d⟩:=st;exact⟨o,e,λv z=>by rw[d]at z;cases z⟩
 keep:=λi h h' st k=>by
  obtain⟨o,e,r⟩:=st;exact⟨o,k it (by simp) o e,r⟩
 item:=by
  intro X hP hw hK hc i pins s σ H E I hf st hg;obtain⟨c,hx⟩:∃c,x.cps[i]?=some c:=⟨x.cps[i]'hg,abQ hg⟩;obtain⟨f0,f1,f2,f3,f4,f5⟩:=hf it (by simp);refine wpAny_pyNext_ascii_item st hx λh' Bw sb=>?_;have I1:=I.turned (t':=s.toks+1) (λb o hb e=>(sb.2 b hb).trans e) f0 f1 f3 f4 f5;obtain⟨o,e,c',d⟩:=id Bw;exact⟨_,rfl,Gg (s:={s with heap:=h',toks:=s.toks+1}) e c' d (by decide) ⟨.str ⟨#[c]⟩,H,I1,⟨_,rfl⟩,⟨rfl,c,hx,rfl⟩,Bw,λb hb=>(hf b hb).1⟩⟩
 done:=by
  intro X hP hw hK hc i pins s σ H E I hf st hg;obtain⟨f0,f1,f2,f3,f4,f5⟩:=hf it (by simp);exact wpAny_pyNext_ascii_end (I.ok.hd hc) st (adY hg) λh' eb=>⟨rfl,I.turned (t':=s.toks) (λb o hb e=>eb b o hb e) f0 f1 f3 f4 f5⟩
 self:=λ_ _ _ _ _ st h=>wpAny_pyIter_striter_ascii st h
def abX(tl:TE):TI:=λσ H R=>tl σ H λv H1=>∃x,v=.str x/\x.cps.all (·<128)=true/\R (Itx x) H1
noncomputable def mV(x:Str):List D:=x.cps.toList.map λc=>.str ⟨#[c]⟩
def lA(g:be):cq:=λδ=>(g δ).bind λ|.str x=>if x.cps.all (·<128)=true then some (mV x)else none|_=>none
section
variable {X:Cx}{O:List Nat}{tg e o y:Expr}{ge go:be}{apos cR:Pos}
theorem OU(hl:PE X l tl):PI X tg l (abX tl):=by
 intro pins s σ H R I h
 refine dw (hl pins s σ H _ I h) λv s1 ⟨x,H1,I1,r1,z,e,ha,q⟩=>?_
 subst e
 obtain⟨t,rfl⟩:=r1
 refine wpAny_pyIter_ascii ha ?_
 refine⟨s1.heap.objs.size,[s1.heap.objs.size],_,_,H1,rfl,I1.kept (t':=s1.toks) λb o e=>aab _ e,IK z t _,⟨_,aag _ rfl,rfl,rfl⟩,λb hb=>?_,q⟩
 have e:b=s1.heap.objs.size:=by simpa using hb
 subst e
 exact I1.uE (aah _) (I1.bM.fresh (aah _))
theorem HD.text{K:ak}(h:HD K H v (.str x)):v=.str x:=by cases h;rfl
theorem Cp(h:PE X e (tE X.K O ge)):PI X tg e (tI X.K O (lA ge)):=(OU h).mono λσ H Q hh=>hh.e λU A0 δ ds R ed q=>by
 obtain⟨x,e1,e2⟩:=bind1 ed
 cases x with
 |str x=>
   replace e2:(if x.cps.all (·<128)=true then some (mV x)else none)=some ds:=e2;by_cases ha:x.cps.all (·<128)=true
   .rw [aaq ha]at e2;cases e2;refine⟨U,A0,δ,_,R,e1,λv H' s h=>⟨x,h.text,ha,q _ H' s ?_⟩⟩;intro A' i H2 s2 _;refine⟨λd hd=>?_,λhi=>?_⟩;.rw [mV,aa4,Array.getElem?_toList]at hd;cases hc:x.cps[i]? with
     |none=>rw[hc]at hd;cases hd
     |some c=>
       rw[hc]at hd;cases hd;refine⟨(adq.mp hc).1,λv H3 hy=>?_⟩;obtain⟨rfl,c',VY,rfl⟩:=hy;rw[hc]at VY;cases VY;exact⟨aA.refl _,.str _⟩
    .show x.cps.size<=i;rw[hi,mV,aaj,aaP];exact aah _
   .grind
 |_=>cases e2
noncomputable def kL:List D->Option D
 |[.int i]=>if i.natAbs<1000000 then some (.str (toString i:String))else none
 |_=>none
set_option tactic.hygienic true in
theorem jh{K:ak}:vH K (λxs H Q=>∃i:Int,xs=[.int i]/\i.natAbs.log2<1920/\Q (.str (toString i:String)) H) kL:=by
 intro A H vs ds d Q al h e q
 unfold kL at e
 split at e
 .rename_i i;split at e
  .rename_i hz;cases e;obtain⟨v,rfl,h1⟩:=Ij h;refine⟨i,by rw[h1.int],?_,q _ H (aA.refl H) (.str _)⟩;have:i.natAbs.log2<20:=by
    by_cases h0:i.natAbs=0;.simp_all
    .exact (Nat.log2_lt h0).mpr (Nat.lt_trans hz (by decide))
   lia
  .cases e
 .cases e
noncomputable def Lu:List D->Option D
 |[.str x]=>if x.length<=640 then(PySem.intText? x).map .int else none
 |_=>none
theorem IL:eV X (.type "int") (λxs H Q=>∃x n,xs=[.str x]/\x.length<=640/\PySem.intText? x=some n/\Q (.int n) H):=by
 intro pins s σ H xs us Q I r h
 obtain⟨x,n,rfl,hl,hn,q⟩:=h
 obtain⟨u,rfl,t,rfl⟩:=vals1 r
 exact PySem.W.KIN.call_text hn hl ⟨.int _,H,I.tok _,⟨_,rfl⟩,q⟩
theorem iX.text{K:ak}(h:iX K A H v (.str x)):v=.str x:=by
 rcases h with h|⟨l,o,rfl,e,q⟩
 .exact h.text
 .cases q
set_option tactic.hygienic true in
theorem Lv{K:ak}:vH K (λxs H Q=>∃x n,xs=[.str x]/\x.length<=640/\PySem.intText? x=some n/\Q (.int n) H) Lu:=by
 intro A H vs ds d Q al h e q
 unfold Lu at e
 split at e
 .rename_i x;split at e
  .rename_i hz;obtain⟨n,hn,rfl⟩:=aca.mp e;obtain⟨v,rfl,h1⟩:=Ij h;exact⟨x,n,by rw[h1.text],hz,hn,q _ H (aA.refl H) (.int _)⟩
  .cases e
 .cases e
noncomputable def ya(b:Bool):D->D->Option D:=λx y=>match x,y with
 |.str i,.str j=>some (.bool ((!(Builtin.Str.occurrences j i 0 j.length 1).isEmpty)==b))
 |_,_=>none
set_option tactic.hygienic true in
theorem GP{K:ak}:iY K (λx y H Q=>∃i j,x=.str i/\y=.str j/\Q (.bl (!(Builtin.Str.occurrences j i 0 j.length 1).isEmpty)) H) (ya true):=by
 intro A H x y dx dy d Q al hx hy e q
 unfold ya at e
 split at e
 .rename_i i j;cases e;refine⟨i,j,hx.text,hy.text,?_⟩;have:=q (.bl (!(Builtin.Str.occurrences j i 0 j.length 1).isEmpty)) H (aA.refl H) (by rw[beq_true];exact .bl _);exact this
 .cases e
noncomputable def sk:List D->Option (List Str)
 |[]=>some []
 |.str x::l=>(sk l).map (x::·)
 |_::_=>none
theorem v8:∀(xs:List Str),sk (xs.map .str)=some xs
 |[]=>rfl
 |n::ns=>by rw[aaw,sk,v8 ns];rfl
theorem um:∀{l:List D} {ns:List Str},sk l=some ns->l=ns.map .str
 |[],_,h=>by cases h;rfl
 |d::l,ns,h=>by
   cases d with
   |str x=>
     obtain⟨r,hr,rfl⟩:=aca.mp h;rw[aaw,um hr]
   |_=>cases h
theorem cC.toTexts{K:ak}:∀{ns:List Str} {xs:List V},cC K H xs (ns.map .str)->xs=ns.map .str
 |[],_,h=>by rw[afb]at h;cases h;rfl
 |n::ns,_,h=>by
   cases h with
   |cons a t=>rw[a.text,cC.toTexts t];rfl
theorem v9:∀{ns:List Str} {us:bU},bz (ns.map V.str) us->∃l:List (Str×Tok),us=strValues l/\l.map (·.1)=ns
 |[],_,r=>by rw[afb]at r;cases r;exact⟨[],rfl,rfl⟩
 |n::ns,_,r=>by
   cases r with
   |cons h t=>
     obtain⟨k,rfl⟩:=h;obtain⟨l,rfl,e⟩:=v9 t;exact⟨(n,k)::l,rfl,by rw[aaw,e]⟩
def rJoin(K:ak):V->List V->Hp->VK->Prop:=λx vs H Q=>∃sep p ns,x=.str sep/\vs=[.ref p]/\kY K H p (ns.map V.str)/\JoinOk sep ns=true/\Q (.str (Txt.join sep ns)) H
theorem OV:QJ X "str.join" (rJoin X.K):=by
 intro pins s σ H x vs v us Q I rx rv h
 obtain⟨sep,p,ns,rfl,rfl,hq,hj,q⟩:=h
 obtain⟨t,rfl⟩:=rx
 obtain⟨u,rfl,ru⟩:=vals1 rv
 cases ru
 obtain⟨its,r',pl,hz⟩:=I.list hq
 obtain⟨l,rfl,hl⟩:=v9 r'
 exact SC.join pl.isList hl hj λt' k=>⟨.str _,H,I.tok _,⟨_,rfl⟩,q⟩
def qM(go ge:be):be:=λδ=>(go δ).bind λs=>(ge δ).bind λx=>match s,x with
 |.str sep,.list l=>(sk l).bind λns=>if JoinOk sep ns=true then some (.str (Txt.join sep ns))else none
 |_,_=>none
set_option tactic.hygienic true in
theorem vf(ho:PE X o (gz X.K O go))(he:PE X e (tE X.K O ge))(jG:attributeBase o "join" X.env (eval o X.env)=eval o X.env:=by rfl)
  (zG:((backTo cR (starEach [e] X.env)).all (λx=> !x.1)&&(backToKw cR (keywordEach [] X.env)).all (λx=>x.1.isSome)&&decide ([e].length+([]:List Keyword).length+(if([]:List Keyword).isEmpty then 0 else 1)<30))=true:=by rfl)
  (jH:(apos.endLine==cR.line)=true:=by rfl)(hs:starEach [e] X.env=[(false,eval e X.env)]:=by rfl)(zX:starEach ([]:List Expr) X.env=[]:=by rfl):
  PE X (.Call (.Attribute o "join" apos) [e] [] cR) (tE X.K O (qM go ge)):=
 (mM adh PySem.F.slot_str_join PySem.F.type_str_join OV ho (aY he b9 (by rw[hs,zX])) jG zG jH (by rw[hs,zX]) (by rw[zX];rfl)).mono λσ H Q hh=>hh.e λU A0 δ d R ed q=>by
  obtain⟨s,e1,ed⟩:=bind1 ed;obtain⟨x,e2,ed⟩:=bind1 ed;cases s with
  |str sep=>
    cases x with
    |list l=>
      obtain⟨ns,e3,ed⟩:=bind1 ed;split at ed
      .rename_i hj;cases ed;refine⟨U,A0,δ,_,R,e1,λv H1 s1 h1=>?_⟩;rw[h1.text];refine⟨rfl,U,A0,δ,_,R.same s1,e2,λw H2 s2 h2=>?_⟩;cases h2 with
       |lst hq h=>
         rw[um e3]at h;rw[h.toTexts]at hq;exact⟨sep,_,ns,rfl,rfl,(hq.same bN).sq,hj,q _ H2 (s1.trans s2) (.str _)⟩
      .grind
    |_=>cases ed
  |_=>cases ed
theorem IM{x y:Str}(hy:(y.length==0)=false)(hsz:x.length<=sizeLine)
  (abY:(Builtin.Str.partsBetween x (Builtin.Str.occurrences x y 0 x.length (x.length+1)) y.length).length<=sizeLine)
  (hq:∀(l:List (Str×Tok)) k,l.map (·.1)=Txt.split x y->Q (.ref s.heap.objs.size) {s with heap:=s.heap.push {cls:=.type "list",data:=.seq (strValues l).toArray},toks:=k}):
  wpAny (model M w) A (call (.builtin "str.split") [.str x t,.str y u]) Q E s:=by
 cases h1:(decide (x.length<y.length)||decide (Builtin.Str.strKind x<Builtin.Str.strKind y))
 .cases hf:(Builtin.Str.occurrences x y 0 x.length (x.length+1)).isEmpty
  .refine aev acG (aet _ _ _) adP (adG _ _) (meets_str_split_sep x y t u h1 hy hf hsz abY) ?_;rw[strsFrom_eq];exact hq (numbered s.toks _) _ ((numbered_texts _ _).trans ((aaO (aej h1)).trans (aaO (aej hf))).symm)
  .exact aev acG (aet _ _ _) adP (adG _ _) (meets_str_split_not_found x y t u h1 hy hf) (hq [(x,t)] s.toks ((aaO (aej h1)).trans (aaq hf)).symm)
 .exact aev acG (aet _ _ _) adP (adG _ _) (meets_str_split_cannot_occur x y t u h1) (hq [(x,t)] s.toks (aaq h1).symm)
theorem pE:∀(l:List (Str×Tok)),bz ((l.map (·.1)).map V.str) (strValues l)
 |[]=>.nil
 |p::l=>.cons ⟨p.2,rfl⟩ (pE l)
def Ul:V->List V->Hp->VK->Prop:=λx vs H Q=>∃a b,x=.str a/\vs=[.str b]/\(b.length==0)=false/\a.length<=sizeLine/\
 (Builtin.Str.partsBetween a (Builtin.Str.occurrences a b 0 a.length (a.length+1)) b.length).length<=sizeLine/\(Txt.split a b).length<=sizeLine/\∀p,H p=none->Q (.ref p) (upd H p (.lst ((Txt.split a b).map V.str)))
theorem Lx:QJ X "str.split" Ul:=by
 intro pins s σ H x vs v us Q I rx rv h
 obtain⟨a,b,rfl,rfl,hy,hz,Z4,hz3,q⟩:=h
 obtain⟨t,rfl⟩:=rx
 obtain⟨u,rfl,t',rfl⟩:=vals1 rv
 refine IM hy hz Z4 λl k hl=>?_
 have J:=I.laid (t':=k) (o:=.lst ((Txt.split a b).map V.str)) (h':=s.heap.push {cls:=.type "list",data:=.seq (strValues l).toArray}) (a:=s.heap.objs.size) (λ_ _ z=>aab _ z) (aah _)
  ⟨by rw[aaj];exact hz3,strValues l,0,by rw[<-hl];exact pE l,aag _ rfl⟩
 exact⟨.ref _,_,J,rfl,q _ (I.bM.fresh (aah _))⟩
noncomputable def lB(a b:Str):Bool:=(b.length==0)==false&&decide (a.length<=100000)&&decide ((Builtin.Str.partsBetween a (Builtin.Str.occurrences a b 0 a.length (a.length+1)) b.length).length<=100000)&&decide ((Txt.split a b).length<=100000)
def i4(go ge:be):cq:=λδ=>(go δ).bind λs=>(ge δ).bind λx=>match s,x with
 |.str a,.str b=>if lB a b=true then some ((Txt.split a b).map .str)else none
 |_,_=>none
theorem cC.texts{K:ak}:∀(ns:List Str),cC K H (ns.map V.str) (ns.map .str)
 |[]=>.nil
 |n::ns=>.cons (.str n) (cC.texts ns)
theorem wa(ho:PE X o (gz X.K O go))(he:PE X e (gz X.K O ge))(jG:attributeBase o "split" X.env (eval o X.env)=eval o X.env:=by rfl)
  (zG:((backTo cR (starEach [e] X.env)).all (λx=> !x.1)&&(backToKw cR (keywordEach [] X.env)).all (λx=>x.1.isSome)&&decide ([e].length+([]:List Keyword).length+(if([]:List Keyword).isEmpty then 0 else 1)<30))=true:=by rfl)
  (jH:(apos.endLine==cR.line)=true:=by rfl)(hs:starEach [e] X.env=[(false,eval e X.env)]:=by rfl)(zX:starEach ([]:List Expr) X.env=[]:=by rfl):
  PE X (.Call (.Attribute o "split" apos) [e] [] cR) (tN X.K O (i4 go ge)):=
 (mM adh acG PySem.F.type_str_split Lx ho (aY he b9 (by rw[hs,zX])) jG zG jH (by rw[hs,zX]) (by rw[zX];rfl)).mono λσ H Q hh=>hh.e λU A0 δ d R ed q=>by
  obtain⟨s,e1,ed⟩:=bind1 ed;obtain⟨x,e2,ed⟩:=bind1 ed;cases s with
  |str a=>
    cases x with
    |str b=>
      replace ed:(if lB a b=true then some ((Txt.split a b).map PyData.str)else none)=some d:=ed;by_cases bM:lB a b=true
      .rw [aaq bM]at ed;cases ed;unfold lB at bM;simp at bM;obtain⟨⟨⟨k1,k2⟩,k3⟩,k4⟩:=bM;refine⟨U,A0,δ,_,R,e1,λv H1 s1 h1=>?_⟩;rw[h1.text];refine⟨rfl,U,A0,δ,_,R.same s1,e2,λw H2 s2 h2=>?_⟩;rw[h2.text];refine⟨a,b,rfl,rfl,by simpa using k1,Nat.le_of_lt (mR k2),Nat.le_of_lt (mR k3),Nat.le_of_lt (mR k4),λp hp=>?_⟩;exact q p _ _ ((s1.trans s2).trans (bj hp _)) ((s1.trans s2).free hp) az (cC.texts _)
      .grind
    |_=>cases ed
  |_=>cases ed
end
section
variable {X:Cx}{O:List Nat}{e:Expr}{ga:be}{lo hi:Option Expr}{gl gh:DS->Option (Option Int)}{pos p2:Pos}
theorem part_of(h:IsPart v i):∃l:Option (Int×Tok),v=partValue l/\l.map (·.1)=i:=by
 cases h with
 |none=>exact⟨none,rfl,rfl⟩
 |int i t=>exact⟨some (i,t),rfl,rfl⟩
def abZ:V->Option Int->Option Int->Hp->VK->Prop:=λx lo hi H Q=>∃a,x=.str a/\a.length<=sizeLine/\Q (.str (Txt.slice a lo hi)) H
theorem Um:SlR X abZ:=by
 intro pins s σ H x v vl vu lo hi sl Q I rx hs pl pu h
 obtain⟨a,rfl,hz,q⟩:=h
 obtain⟨t,rfl⟩:=rx
 obtain⟨l,rfl,rfl⟩:=part_of pl
 obtain⟨u,rfl,rfl⟩:=part_of pu
 obtain⟨ob,h1,h2,h3⟩:=hs
 exact⟨"str",_,PySem.F.slot_str_getitem.lookup,aet _ _ _,wpAny_getItem_str_slice (l:=l) (u:=u) (st:=none) ⟨ob,h1,h2,h3⟩ rfl (post_val_or_str ⟨aaW (Txt.slice_le a _ _) hz,λt' k=>⟨.str _,H,I.tok k,⟨t',rfl⟩,q⟩⟩)⟩
noncomputable def EM(a:be)(lo hi:DS->Option (Option Int)):be:=λδ=>(a δ).bind λx=>(lo δ).bind λl=>(hi δ).bind λh=>match x with
 |.str z=>if z.length<=100000 then some (.str (Txt.slice z l h))else none
 |_=>none
set_option tactic.hygienic true in
theorem Ly(ha:PE X e (gz X.K O ga))(hl:PO X lo (QX X.K O gl))(hh:PO X hi (QX X.K O gh)):PE X (.Subscript e (.Slice lo hi none p2) pos) (tE X.K O (EM ga gl gh)):=(BS Um ha hl hh).mono λσ H Q hh=>hh.e λU A0 δ d R ed q=>by
 obtain⟨x,e1,e2⟩:=bind1 ed
 obtain⟨l,e3,e4⟩:=bind1 e2
 obtain⟨h,e5,e6⟩:=bind1 e4
 cases x with
 |str z=>
   simp only at e6;split at e6
   .rename_i hz;cases e6;refine⟨U,A0,δ,_,R,e1,λv H1 s1 h1=>⟨U,A0,δ,l,R.same s1,e3,λH2 s2=>⟨U,A0,δ,h,R.same (s1.trans s2),e5,λH3 s3=>?_⟩⟩⟩;exact⟨z,h1.str,acZ (mR hz),q _ H3 ((s1.trans s2).trans s3) (.str _)⟩
   .grind
 |_=>cases e6
end
end L2
namespace L2
open PySem PySem.Spec PySem.W PyProof.Rows
section
variable {X:Cx}{O:List Nat}{o e:Expr}{go ge:be}{cR apos:Pos}
def OW:V->List V->Hp->VK->Prop:=λx vs H Q=>∃a b,x=.str a/\vs=[.str b]/\Q (.bl (Txt.startswith a b)) H
theorem IP:QJ X "str.startswith" OW:=by
 intro pins s σ H x vs v us Q I rx rv h
 obtain⟨a,b,rfl,rfl,q⟩:=h
 obtain⟨t,rfl⟩:=rx
 obtain⟨u,rfl,t',rfl⟩:=vals1 rv
 exact SC.startswith ⟨.bl _,H,I,rfl,q⟩
noncomputable def Aj(go ge:be):be:=λδ=>(go δ).bind λs=>(ge δ).bind λx=>match s,x with
 |.str a,.str b=>some (.bool (Txt.startswith a b))
 |_,_=>none
theorem IQ(ho:PE X o (gz X.K O go))(he:PE X e (gz X.K O ge))(jG:attributeBase o "startswith" X.env (eval o X.env)=eval o X.env:=by rfl)
  (zG:((backTo cR (starEach [e] X.env)).all (λx=> !x.1)&&(backToKw cR (keywordEach [] X.env)).all (λx=>x.1.isSome)&&decide ([e].length+([]:List Keyword).length+(if([]:List Keyword).isEmpty then 0 else 1)<30))=true:=by rfl)
  (jH:(apos.endLine==cR.line)=true:=by rfl)(hs:starEach [e] X.env=[(false,eval e X.env)]:=by rfl)(zX:starEach ([]:List Expr) X.env=[]:=by rfl):
  PE X (.Call (.Attribute o "startswith" apos) [e] [] cR) (tE X.K O (Aj go ge)):=
 (mM adh PySem.F.slot_str_startswith PySem.F.type_str_startswith IP ho (aY he b9 (by rw[hs,zX])) jG zG jH (by rw[hs,zX]) (by rw[zX];rfl)).mono<|by
  rintro σ H Q ⟨U,A0,δ,d,R,ed,q⟩;obtain⟨s,e1,ed⟩:=bind1 ed;obtain⟨x,e2,ed⟩:=bind1 ed;cases s with
  |str a=>
    cases x with
    |str b=>
      cases ed;refine⟨U,A0,δ,_,R,e1,λv H1 s1 h1=>⟨by rw[h1.str];rfl,U,A0,δ,_,R.same s1,e2,λv2 H2 s2 h2=>?_⟩⟩;rw[h1.str,h2.str];exact⟨a,b,rfl,rfl,q _ H2 (s1.trans s2) (.bl _)⟩
    |_=>cases ed
  |_=>cases ed
end
end L2
namespace L2
open PySem PySem.Spec PyProof.Rows
section
end
end L2
namespace L2
open PySem PySem.Spec PySem.W PyProof.Rows
section
variable {M:Model}{A:Around}{E:dz}{s:Shared}{base:Heap}{env:Env}{outer:List Env}{L e:Addr}{cls a0:Value}
theorem wb(h1:wpAny M A t Q1 E s):wpAny M A t (λa s=>Q1 a s/\True) (λv s=>E v s/\True) s:=by grind
theorem IS(xH:A.frames=some (env::outer))(hf:env.frame=some L)(OM:Heap.FlyingW base (env::outer) e cls a0 s.heap)(_:uh s.heap e)
  (hQ:∀h',Heap.HeldW base (env::outer) e cls a0 L h'->uh h' e->s.heap.UpToSlots h'->Q () {s with heap:=h'}):wpAny M A (noteFrame (.ref e) env) Q E s:=
 wpAny_looks_onW xH hf OM λh2 k1 k2=>hQ h2 k1 trivial k2
theorem Uo(hh:Heap.HeldW base l e cls a0 L s.heap)(_:uh s.heap e)(hQ:∀h',Heap.FlyingW base l e cls a0 h'->uh h' e->s.heap.UpToSlots h'->Q () {s with heap:=h'}):wpAny M A (setFlight (.ref e) none) Q E s:=
 wpAny_landsW hh λh2 k1 k2=>hQ h2 k1 trivial k2
theorem Ak(hh:Heap.FlyingW base l e cls a0 s.heap)(_:uh s.heap e)(hQ:∀h',Heap.FlyingW base l e cls a0 h'->uh h' e->s.heap.UpToSlots h'->Q () {s with heap:=h'}):wpAny M A (setFlight (.ref e) none) Q E s:=
 lands_againW hh λh2 k1 k2=>hQ h2 k1 trivial k2
end
theorem cM.there(x:cM P w H h a o):∃ob,h.get? a=some ob:=by
 induction o with
 |lst xs=>obtain⟨_,_,_,_,e⟩:=x;exact⟨_,e⟩
 |tup xs=>obtain⟨_,_,_,o,e,_⟩:=x;exact⟨_,e⟩
 |dK aX=>obtain⟨_,_,_,_,o,es,ep,e,_⟩:=x;exact⟨_,e⟩
 |dT aX=>obtain⟨_,_,_,_,o,es,ep,e,_⟩:=x;exact⟨_,e⟩
 |set S n=>obtain⟨_,_,_,_,e,_⟩:=x;exact⟨_,e⟩
 |ins C dx fs=>obtain⟨_,_,_,e,_⟩:=x;exact⟨_,e⟩
 |own y=>exact x
 |xd fs=>obtain⟨_,⟨o,es,ep,e,_⟩,_⟩:=x;exact⟨_,e⟩
 |met f y=>exact⟨_,x⟩
 |xK lo hi=>obtain⟨_,_,_,e⟩:=x;exact⟨_,e⟩
 |xF ob u ih=>exact⟨_,x.1⟩
 |Qt ps=>exact⟨_,x⟩
 |ext φ=>exact x.2.1
def Wh(g:Heap)(l:List Env)(H:Hp)(B:Heap):Prop:=∀b,b∉ud l->(H b≠none\/∃o0,g.get? b=some o0)->∃o,B.get? b=some o
theorem Wh.at(c:Wh g l H B)(st:B.StaysIn h)(q:h.get? b=some o)(n:b∉ud l)(i:H b≠none\/∃o0,g.get? b=some o0):B.get? b=some o:=by
 obtain⟨o',e⟩:=c b n i
 have:=st b o' e
 rw[q]at this
 cases this
 exact e
theorem EN(u:Un (ud l) [] H H1 g h)(c:Wh g l H1 B)(st:B.StaysIn h)(Bw:B.StaysIn h')(up:h.UpToSlots h')(fr:h.FunFrames base l):Un (ud l) [] H H1 g h' where
 keep:=λb o q n hb hx=>Bw b o (c.at st (u.keep b o q n hb hx) hb (.inr ⟨_,q⟩))
 slot:=λb o q n hb hx=>by
  obtain⟨sl,e⟩:=u.slot b o q n hb hx;obtain⟨_,o1,uz,hnf⟩:=fr.mem hb;rw[e]at uz;cases uz;obtain⟨VX,e'⟩:=up b _ e hnf;exact⟨VX,e'⟩
 free:=u.free
 there:=λb o q hx=>by
  by_cases hb:b∈ud l
  .obtain ⟨_,o1,uz,hnf⟩:=fr.mem hb;obtain⟨VX,e'⟩:=up b _ uz hnf;exact⟨_,e'⟩
  .obtain ⟨o',e⟩:=u.there b o q hx;exact⟨o',Bw b o' (c.at st e hb (.inr ⟨_,q⟩))⟩
 qu:=u.qu
 qv:=u.qv
 rL:=u.rL
theorem Al(x:n8 P w H h)(c:Wh g l H B)(st:B.StaysIn h)(Bw:B.StaysIn h')(nf:∀b∈ud l,H b=none):n8 P w H h':=λa o e=>by
 refine(x a o e).uA (λb u hb q=>?_) (λ_ q=>q) λ_ _ q=>q
 have ht:H b≠none:=by grind
 exact Bw b u (c.at st q (λz=>ht (nf b z)) (.inl ht))
noncomputable def EO(P:Program)(w:World):QC:=λouter H s E e s'=>∃(a t C:Addr) (B:Heap) (H1:Hp),e=.ref a/\s'.os=s.os/\AllBare s'.gens/\Un (ud outer) [] H H1 s.heap s'.heap/\n8 P w H1 s'.heap/\
 s.heap.get? a=none/\H1 a=none/\Wh s.heap outer H1 B/\Heap.FlyingW B outer a (.ref C) (.ref t) s'.heap/\uh s'.heap a/\E (.ref C) none H1
section
variable {P:Program}{w:World}{K:ak}{mg:dO}{base:Heap}{N:List Str}{qual:Str}{scope:Scope}{f:Addr}{cd:Value}{A:Around}{outer:List Env}{s:Shared}{H:Hp}{E:XK}
theorem Inv.tracked(I:Inv X pins σ H1 s1)(n:H1 b≠none):∃o,s1.heap.get? b=some o:=by
 cases q:H1 b with
 |none=>exact absurd q n
 |some o=>exact(I.bM b o q).there
theorem OX(I:Inv (jd (EO P w) P w K mg base N qual scope f cd A outer s H E) pins σ H1 s1)
  (hx:Heap.MadeExcOf s1.heap h' a (.ref C) vs)(hE:E (.ref C) none H1):(jd (EO P w) P w K mg base N qual scope f cd A outer s H E).xe (.ref a) {s1 with heap:=h'}:=by
 have st:(hideAll s1.heap (ud (envOfC qual scope s.heap.objs.size f cd::outer))).StaysIn s1.heap:=λb o q=>of_hideAll _ q
 have ER:∀b,b∉ud outer->(H1 b≠none\/∃o0,s.heap.get? b=some o0)->∃o,(hideAll s1.heap (ud (envOfC qual scope s.heap.objs.size f cd::outer))).get? b=some o:=λb nb i=>by
  have hb:b∉ud (envOfC qual scope s.heap.objs.size f cd::outer):=λz=>by
   rcases aam.mp (I.mB b z)with e|z
   .rcases i with i|⟨o0,i⟩;.exact i (by rw[e];exact I.free)
    .exact absurd (aao (aai i) (by rw[e];exact I.ok.above)) (abM _)
   .exact nb z
  have ex:∃o,s1.heap.get? b=some o:=by
   rcases i with i|⟨o0,i⟩;.exact I.tracked i
   .exact I.base.there b o0 i (λz=>nomatch z)
  obtain⟨o,e⟩:=ex;exact⟨o,hideAll_get _ e hb⟩
 have fh:=funFrames_hide I.stack λenv he b hb=>aer.mpr ⟨env,he,hb⟩
 refine aa6 (wb (wpAny_leaves_madeW (E:=λ_ _=>False) (Q:=λ_ s2=>∃h2 t,s2={s1 with heap:=h2}/\Heap.FlyingW (hideAll s1.heap (ud (envOfC qual scope s.heap.objs.size f cd::outer))) outer a (.ref C) (.ref t) h2/\Heap.UpToSlots h' h2)
  (h:=s1.heap) I.ok.frames rfl st fh hx λh2 t IT _ _ up=>⟨h2,t,rfl,IT,up⟩)) (λ_ s2 ⟨⟨h2,t,e2,IT,up⟩,nc⟩=>?_) λ_ _ z=>z.1.elim
 subst e2
 have up2:=(Heap.UpToSlots.of_keeps hx.keeps).trans up
 refine⟨a,t,C,_,H1,rfl,I.os,I.bare,EN I.base ER st IT.1 up2 I.kB,Al I.bM ER st IT.1 (λb hb=>?_),?_,?_,ER,IT,nc,hE⟩
 .obtain ⟨_,o,ho,_⟩:=I.ok.kB.mem hb;exact I.base.free b o ho (I.ok.HL b hb) λz=>nomatch z
 .cases q:s.heap.get? a with
  |none=>rfl
  |some o=>
    obtain⟨o',e⟩:=I.base.there a o q (λz=>nomatch z);rw[hx.new]at e;cases e
 .cases q:H1 a with
  |none=>rfl
  |some o=>
    obtain⟨o',e⟩:=I.tracked (b:=a) (by rw[q];exact λz=>nomatch z);rw[hx.new]at e;cases e
theorem Lz:lb (EO P w) (jd (EO P w) P w K mg base N qual scope f cd A outer s H E) E:=by
 rintro pins σ H0 s0 e s' I ⟨a,t,C,B,H1,rfl,os,bare,un,bM,na,ta,Z5,IT,nc0,hE⟩
 have I':=I.JU (ch:=[]) os un bM bare (λb z=>nomatch z)
 have ER:Wh s.heap outer H1 B:=λb nb i=>by
  refine Z5 b (λz=>?_) ?_
  .rcases aam.mp (I.mB b z)with e|z
   .rcases i with i|⟨o0,i⟩;.exact i (by rw[e];exact I'.free)
    .exact absurd (aao (aai i) (by rw[e];exact I.ok.above)) (abM _)
   .exact nb z
  .rcases i with i|⟨o0,i⟩;.grind
   .exact .inr (I.base.there b o0 i λz=>nomatch z)
 refine aa6 (wb (wpAny_leaves_onW (E:=λ_ _=>False) (Q:=λ_ s2=>∃h2,s2={s' with heap:=h2}/\Heap.FlyingW B outer a (.ref C) (.ref t) h2/\s'.heap.UpToSlots h2) I.ok.frames rfl IT λh2 Cq up=>⟨h2,rfl,Cq,up⟩)) (λ_ s2 ⟨⟨h2,e2,Cq,up⟩,nc⟩=>?_) λ_ _ z=>z.1.elim
 subst e2
 refine⟨a,t,C,B,H1,rfl,I'.os,I'.bare,EN I'.base ER IT.1 Cq.1 up I'.kB,Al I'.bM ER IT.1 Cq.1 (λb hb=>?_),?_,ta,ER,Cq,nc,hE⟩
 .obtain ⟨_,o,ho,_⟩:=I'.ok.kB.mem hb;exact I'.base.free b o ho (I'.ok.HL b hb) λz=>nomatch z
 .cases q:s.heap.get? a with
  |none=>rfl
  |some o=>
    obtain⟨o',e⟩:=I.base.there a o q (λz=>nomatch z);rw[na]at e;cases e
structure YD(K:ak)(mg:dO)(x:Str)(C:Addr)(bm tl:bU)(newId:String):Prop where
 bound:mg x=some (.ref C)
 obj:∃(n:Addr) (nm q:Str) (bs:bU) (hdct:Bool) (sn:List Str) (sub:bU) (ab:Bool) (col:Option Bool) (dd:Option Addr) (k0 k1 k2 k3 k5:Option Value) (mN:dO),
  mN "__init__"=none/\∀h:Heap,K.In h->h.get? C=some (excClassObj nm q C n bs tl hdct sn sub ab col dd k0 k1 k2 k3 k5 newId)/\h.Ns n mN/\OwnTail h bm tl
theorem LA{rest:List Expr}(hC:YD K mg x C bm tl newId)(Fn:ExcBaseFacts Bn newId inN bmN)(hBn:bm.contains (.type Bn)=true)
  (FB:ExcBaseFacts B nid initId bm)(ha:PA (jd (EO P w) P w K mg base N qual scope f cd A outer s H E) (uK::rest) t)(hg:Gl (jd (EO P w) P w K mg base N qual scope f cd A outer s H E) x:=by rfl)
  (he:starEach (uK::rest) (envOfC qual scope s.heap.objs.size f cd)=(false,eval uK (envOfC qual scope s.heap.objs.size f cd))::starEach rest (envOfC qual scope s.heap.objs.size f cd):=by rfl)
  (Eg:(backTo cR (starEach rest (envOfC qual scope s.heap.objs.size f cd))).any (·.1)=false:=by rfl)(hd:(x==("__debug__":Str))=false:=by decide):
  PS (jd (EO P w) P w K mg base N qual scope f cd A outer s H E) (.Raise (some (.Call (.Name x np) (uK::rest) [] cR)) none pos) (λ_ σ H0=>t σ H0 λvs H1=>vs.length<=sizeLine/\E (.ref C) none H1):=by
 intro pins s1 σ H1 D I h
 obtain⟨n,nm,q,bs,hdct,sn,sub,ab,col,dd,k0,k1,k2,k3,k5,mN,Wi,all⟩:=hC.obj
 obtain⟨_,_,T⟩:=all _ I.my
 refine wpAny_Raise_call_subU (C:=C) (nm:=nm) (q:=q) (N:=n) (bs:=bs) (bm:=tl) (hdct:=hdct) (sn:=sn) (sub:=sub) (ab:=ab) (col:=col) (dd:=dd) (k0:=k0) (k1:=k1) (k2:=k2) (k3:=k3) (k5:=k5)
  Fn hBn FB (mN:=mN) (T.hasType FB.hasBase) (I.ok.hd rfl) ?_ Wi (k8 I hg hC.bound ⟨rfl,?_⟩ hd)
 .show (backTo cR (starEach (uK::rest) (envOfC qual scope s.heap.objs.size f cd))).any (·.1)=false;rw[he];show(false||(backTo cR (starEach rest (envOfC qual scope s.heap.objs.size f cd))).any (·.1))=false;rw[Eg];rfl
 .show wpAny _ _ (evalArgs (.ref C) true (backTo cR (starEach (uK::rest) (envOfC qual scope s.heap.objs.size f cd))) []) _ _ s1;have hp:=ha cR pins s1 σ H1 _ I h;have Uc:wpAny (model P w) (A.deeper (envOfC qual scope s.heap.objs.size f cd)) (spliced (backTo cR (starEach (uK::rest) (envOfC qual scope s.heap.objs.size f cd)))) _ _ s1:=hp;rw[he]at Uc ⊢;refine aeb (aa6 Uc (λus s2 ⟨vs,H2,I2,r2,hz,hE⟩=>⟨rfl,by show us.length<=_;rw[<-r2.length];exact hz,(all _ I2.my).1,(all _ I2.my).2.1,(all _ I2.my).2.2,λh' e hm=>OX I2 hm hE⟩) λ_ _ y=>y)
end
abbrev Cx.Nz(X:Cx)(a:Addr):Cx:={X with A:=X.A.mark (some (.ref a)),calm:=false,xe:=λ_ _=>False}
theorem Cx.Ok.Nz{X:Cx}(ok:X.Ok)(a:Addr):(X.Nz a).Ok:=
 ⟨ok.mod,ok.kind,ok.glob,ok.blt,ok.above,ok.inj,ok.has,ok.NS,(λz=>nomatch z),ok.frames,ok.Qu,ok.VW,ok.bs,ok.JF,ok.zu,ok.BG,ok.kB,ok.HL⟩
theorem Inv.Nz(I:Inv X pins σ H s)(a:Addr):Inv (X.Nz a) pins σ H s:=⟨I.ok.Nz a,I.os,I.bare,I.base,I.loc,I.cell,I.free,I.iN,I.pin,I.bM,I.len⟩
theorem Inv.ab3(I:Inv (X.Nz a) pins σ H s)(ok:X.Ok):Inv X pins σ H s:=⟨ok,I.os,I.bare,I.base,I.loc,I.cell,I.free,I.iN,I.pin,I.bM,I.len⟩
theorem Inv.Up(I:Inv X pins σ H1 s1)(I0:Inv X pins cQ H0 s0)(na:s0.heap.get? a=none)(ta:H1 a=none)(new:cM X.prog X.w (upd H1 a o) s1.heap a o):
  Inv X pins σ (upd H1 a o) s1:=by
 have ne:∀b ob,s0.heap.get? b=some ob->b≠a:=λb ob q e=>by rw[e,na]at q;cases q
 have nt:∀b u,H1 b=some u->b≠a:=λb u q e=>by rw[e,ta]at q;cases q
 have nL:X.env.locals≠a:=by
  obtain⟨m,⟨ol,_,_,e,_⟩,_⟩:=I0.loc;exact ne _ _ e
 refine⟨I.ok,I.os,I.bare,⟨I.base.keep,I.base.slot,λb ob q n hx=>?_,I.base.there,λb xs q=>?_,λb ob u q=>?_,λb ps q=>?_⟩,I.loc,I.cell,?_,λx c e=>?_,λp hp=>?_,λb u q=>?_,I.len⟩
 .obtain ⟨o',e⟩:=I0.base.there b ob q hx;rw[av (ne b o' e)];exact I.base.free b ob q n hx
 .have:=I.base.qu b xs q;rw[av (nt _ _ this)];exact this
 .have:=I.base.qv b ob u q;rw[av (nt _ _ this)];exact this
 .obtain ⟨more,this⟩:=I.base.rL b ps q;exact⟨more,by rw[av (nt _ _ this)];exact this⟩
 .rw [av nL];exact I.free
 .obtain ⟨v,oc,e1,_⟩:=I0.cell x c e;rw[av (ne _ _ e1)];exact I.iN x c e
 .obtain ⟨e,n,r1,r2,r3⟩:=I.pin p hp;exact⟨e,by rw[av (ne _ _ (I0.pin p hp).1)];exact n,r1,r2,r3⟩
 .by_cases hb:b=a;.subst hb;rw[az]at q;cases q;exact new
  .rw [av hb]at q;refine(I.bM b u q).uA (λ_ _ _ z=>z) (λc z=>by rw[av (nt _ _ z)];exact z) λc xs z=>z.ne (by rcases z with z|⟨_,z⟩<;>exact nt _ _ z)
theorem Inv.forget(I:Inv X pins σ H s)(hn:h'.Ns X.env.locals m)(hs:Heap.SameBut X.env.locals s.heap h'):
  Inv X pins (List.replicate X.N.length none) H {s with heap:=h',toks:=tk}:=by
 have Nr:=I.Nr
 have lt:∀b o,X.h8.heap.get? b=some o->b≠X.env.locals:=λb o e=>aat (aao (aai e) I.ok.above)
 refine⟨I.ok,I.os,I.bare,⟨λb o e n hb hx=>(hs.2 b (lt b o e)).trans (I.base.keep b o e n hb hx),λb o e n hb hx=>?_,I.base.free,λb o e hx=>?_,I.base.qu,I.base.qv,I.base.rL⟩,⟨m,hn,λj y v e1 e2 _=>?_⟩,λy c e=>?_,I.free,I.iN,λp hp=>?_,λb u q=>?_,by simp⟩
 .obtain ⟨sl,e1⟩:=I.base.slot b o e n hb hx;exact⟨sl,(hs.2 b (lt b o e)).trans e1⟩
 .obtain ⟨o',e1⟩:=I.base.there b o e hx;exact⟨o',(hs.2 b (lt b o e)).trans e1⟩
 .grind
 .obtain ⟨w',z⟩:=I.cell y c e;exact⟨w',z.sameBut hs (Nr y c e)⟩
 .obtain ⟨e,n,ne,nf,d⟩:=I.pin p hp;exact⟨(hs.2 p.1 ne).trans e,n,ne,nf,d⟩
 .refine (I.bM b u q).uA (λc w' hc z=>(hs.2 c ?_).trans z) (λ_ z=>z) λ_ _ z=>z;rintro rfl;rcases hc with e|hc;.rw [<-e,I.free]at q;cases q
  .rw [I.free]at hc;cases hc
section
end
end L2
namespace L2
open PySem PySem.Spec PySem.W PyProof.Rows PySem.Builtin PySem.Builtin.ObjectAttr PySem.Builtin.Getset_descriptor
section
variable {prog:Program}{w:World}{A:Around}{E:dz}{h:Heap}{g:Array GenState}{d:Drawn}{t:Nat}{os:OsState}{a C:Addr}{o:Obj}{K:Frag}
theorem OY(X:K.In h)(hx:h.get? a=some o)(hc:o.cls=.ref C)(hs:subIn K (.ref C) (.type "object")=some true)(hq:R (.ok (.ret (.ref C))) ⟨h,g,d,t,os⟩):
  codeAny (model prog w) A (.call (.builtin "getset_descriptor.__get__") ⟨[.builtin "object.__class__",.ref a,.ref C],[]⟩) R ⟨h,g,d,t,os⟩:=by
 have L1:Looks (model prog w) h (isSubtype (.ref C) (.type "object")) true:=looks_subIn X hs
 refine ac2 KF.slot_gs.plain KF.entry_gs (KF.slot_gs.check _ _ _ _ _ _ _ _ KF.type_class (KF.args_gs _ _ _) ?_)
 have L0:Looks (model prog w) h (typeOf (.ref a)) (.ref C):=by rw[<-hc];exact(Looks.ld hx).andThen Looks.now
 refine aaa (aae ?_)
 unfold descrGetter descrCheckInstance descrNameAndClass isInstance
 simp only[KF.owner_class]
 repeat lk
 refine⟨Code.quiet_builtin _ (by decide +kernel),acB KF.entry_class ?_⟩
 repeat lk
 exact hq
theorem IU(X:K.In h)(hx:h.get? a=some o)(hc:o.cls=.ref C)(hs:subIn K (.ref C) (.type "object")=some true)(hf:findIn K (.ref C) "__class__"=some (some (.builtin "object.__class__")))(hq:Q (.done (.ret (.ref C))) ⟨h,g,d,t,os⟩):
  wpAny (model prog w) A (Builtin.«object.__getattribute__» ⟨[.ref a,.str "__class__" tk],[]⟩) Q E ⟨h,g,d,t,os⟩:=by
 have hT5:(⟨h,g,d,t,os⟩:Shared).TypeIs (.builtin "object.__class__") "getset_descriptor":=F.typeOf_object_class
 have f5:=F.typeOf_object_class
 have f6:=F.slot_gs_get.lookup
 have f7:=F.slot_gs_set.lookup
 have L1:Looks (model prog w) h (typeLookup (.ref C) "__class__") (some (.builtin "object.__class__")):=looks_findIn X hf
 repeat(any_goals (first|assumption|(with_reducible refine wpAny_loadPart_at hx ?_;rw[hc])|with_reducible refine L1.at ?_|wp_step))
 refine OY X hx hc hs ?_
 repeat(any_goals (first|assumption|wp_step))
theorem IV(X:K.In h)(hx:h.get? a=some o)(hc:o.cls=.ref C)(hs:subIn K (.ref C) (.type "BaseException")=some true)(hq:Q () ⟨h,g,d,t,os⟩):
  wpAny M A (checkBuiltinCall "BaseException.__getattribute__" ⟨[.ref a,YE],[]⟩) Q E ⟨h,g,d,t,os⟩:=by
 have hk:builtinKind "BaseException.__getattribute__"=some .slot:=by decide +kernel
 have Uq:splitId "BaseException.__getattribute__"=some ("BaseException","__getattribute__"):=by decide +kernel
 have L1:Looks M h (isSubtype (.ref C) (.type "BaseException")) true:=looks_subIn X hs
 have ha:=F.args_bexc_ga (.ref a) YE
 simp only[checkBuiltinCall,hk,Uq]
 refine aaa ?_
 unfold isInstance
 repeat(first|(with_reducible refine wpAny_loadPart_at hx ?_;rw[hc])|with_reducible refine L1.at ?_|wp_step)
 exact hq
theorem Ur(X:K.In h)(hx:h.get? a=some o)(hc:o.cls=.ref C)(hs:subIn K (.ref C) (.type "object")=some true)(rJ:subIn K (.ref C) (.type "BaseException")=some true)
  (hf:findIn K (.ref C) "__class__"=some (some (.builtin "object.__class__")))(hga:findIn K (.ref C) "__getattribute__"=some (some (.builtin "BaseException.__getattribute__")))(YB:findIn K (.ref C) "__getattr__"=some none)(hq:Q (.ref C) ⟨h,g,d,t,os⟩):
  wpAny (model prog w) A (getAttrBy (.ref a) (.str "__class__" tk) false) Q E ⟨h,g,d,t,os⟩:=by
 have f3:=PySem.F.attrBase_ValueError.ga.bind (.ref a)
 have hx2:(Value.builtin "BaseException.__getattribute__"==Value.builtin "object.__getattribute__")=false:=by decide +kernel
 have Z6:(onTheHeap (Value.ref C)&&Value.builtin "BaseException.__getattribute__"==Value.builtin "object.__getattribute__")=false:=by rw[hx2];rfl
 have L1:Looks (model prog w) h (typeLookup (.ref C) "__getattribute__") (some (.builtin "BaseException.__getattribute__")):=looks_findIn X hga
 have L2:Looks (model prog w) h (typeLookup (.ref C) "__getattr__") none:=looks_findIn X YB
 repeat(any_goals (first|assumption|(with_reducible refine wpAny_loadPart_at hx ?_;rw[hc])|with_reducible refine L1.at ?_|with_reducible refine L2.at ?_|wp_step))
 refine ac2 PySem.F.attrBase_ValueError.ga.plain F.entry_bexc_ga (IV X hx hc rJ (IU X hx hc hs hf ?_))
 repeat(any_goals (first|assumption|wp_step))
theorem LB(X:K.In h)(hx:h.get? a=some o)(hc:o.cls=.ref C)(hs:subIn K (.ref C) (.type "object")=some true)(rJ:subIn K (.ref C) (.type "BaseException")=some true)
  (hf:findIn K (.ref C) "__class__"=some (some (.builtin "object.__class__")))(hga:findIn K (.ref C) "__getattribute__"=some (some (.builtin "BaseException.__getattribute__")))(YB:findIn K (.ref C) "__getattr__"=some none)(hq:Q (some (.ref C)) ⟨h,g,d,t+1,os⟩):
  wpAny (model prog w) A (getAttr? (.ref a) "__class__") Q E ⟨h,g,d,t,os⟩:=by
 unfold getAttr? getAttrBy?
 repeat(any_goals (first|assumption|with_reducible apply Ur X hx hc hs rJ hf hga YB|wp_step))
end
end L2
namespace L2
open PySem PySem.Spec PySem.W PyProof.Rows
structure LC(K:Frag)(C:Addr):Prop where
 obj:∃c d cd sl,K.lookup C=some ⟨c,d,.cls cd,sl⟩
 sO:subIn K (.ref C) (.type "object")=some true
 sB:subIn K (.ref C) (.type "BaseException")=some true
 fc:findIn K (.ref C) "__class__"=some (some (.builtin "object.__class__"))
 fg:findIn K (.ref C) "__getattribute__"=some (some (.builtin "BaseException.__getattribute__"))
 fn:findIn K (.ref C) "__getattr__"=some none
theorem Cr{K:Frag}(c:LC K C):KitX K (.ref a) (.ref C) (λh=>∃o,h.get? a=some o/\o.cls=.ref C) where
 ty:=λ_ _ _ ⟨o,hx,hc⟩=>by rw[<-hc];exact(Looks.ld hx).andThen Looks.now
 it:=λ_ _ X _=>by
  obtain⟨c',d',cd',VX,ho⟩:=c.obj;intro A' Q' E' s' k q;exact aaa (wpAny_loadPart (k _ _ (X _ _ ho)) (aae q))
 ne:=λh tp dd its n sl X htp=>by
  obtain⟨c',d',cd',VX,ho⟩:=c.obj;refine aeQ.mpr λq=>?_;have e:=Value.ref.inj (ac4.mp q);subst e;have z:=(X _ _ ho).symm.trans htp;cases z
 ca:=λ{_ _ _ _ _ s} X ⟨o,hx,hc⟩ k=>by
  exact LB X hx hc c.sO c.sB c.fc c.fg c.fn k
def ab5(K:Frag):List V->Hp->VK->Prop:=λvs H Q=>∃a C cv b,vs=[.ref a,cv]/\H a=some (Tq a C)/\LC K C/\Q (.bl b) H/\
 ((∃c,(∀u,RelV cv u->u=c)/\kitOne K (.ref C) c=some b)\/∃tp Z7,cv=.ref tp/\H tp=some (.tup Z7)/\∀its,bz Z7 its->kitAny K (.ref C) its=some b)
theorem zb:eV X (.builtin "isinstance") (ab5 X.K):=by
 rintro pins s σ H vs us Q I r ⟨a,C,cv,b,rfl,ha,hc,q,h⟩
 have⟨u1,u2,e,r1,r2⟩:∃u1 u2,us=[u1,u2]/\RelV (.ref a) u1/\RelV cv u2:=by
  cases r with
  |cons r1 r'=>cases r' with
    |cons r2 r''=>cases r'' with
      |nil=>exact⟨_,_,rfl,r1,r2⟩
 subst e
 cases(show u1=Value.ref a from r1)
 have hx:=(I.bM a _ ha).1.1
 rcases h with⟨c,hcv,e⟩|⟨tp,Z7,rfl,ht,e⟩
 .cases hcv u2 r2;exact kia_one (Cr hc) I.my hx e (λz=>nomatch z) λtk=>⟨.bl b,H,I.tok tk,rfl,q⟩
 .cases (show u2=Value.ref tp from r2);obtain⟨_,its,rv,o,ho,oP,n,Ge⟩:=(show cM X.prog X.w H s.heap tp (.tup Z7)from I.bM tp _ ht);obtain⟨oc,od,odt,Nu⟩:=o;cases oP;cases Ge;exact kia_tup (Cr hc) I.my hx ho (e its rv) (λz=>nomatch z) λtk=>⟨.bl b,H,I.tok tk,rfl,q⟩
section
end
section
end
set_option tactic.hygienic true in
theorem Us{K:Frag}(hm:mg x=some (.ref C))(q:excIn K C bm newId=true):∃tl,YD K mg x C bm tl newId:=by
 unfold excIn at q
 split at q
 .rename_i dd cd sl ho;split at q
  .rename_i C' tl k0 k1 k2 k3 n k5 hr hs;simp at q;obtain⟨⟨⟨⟨⟨e1,e2⟩,hdel⟩,ht⟩,bM⟩,Wi⟩:=q;subst e1 e2;obtain⟨nm,bs,mro,ns,qn,hd,sn,sub,ab,col,del⟩:=cd;subst hr hdel;have hsl:sl=#[k0,k1,k2,k3,some (.builtin n),k5]:=by grind
   subst hsl;have Wg:∃c d es ep S6,K.lookup ns=some ⟨c,d,.dict es ep,S6⟩/\(es.all λe=>match e.key with|.str _ _=>true|_=>false)=true:=by
    unfold nsOkIn at bM;split at bM;.rename_i oP;exact⟨_,_,_,_,_,oP,bM⟩
    .grind
   obtain⟨c2,d2,ZV,ep2,S6,HY,Oc⟩:=Wg;refine⟨tl,hm,ns,nm,qn,bs,hd,sn,sub,ab,col,dd,k0,k1,k2,k3,k5,nsFind ZV,?_,λh X=>⟨X _ _ ho,?_,tail_of_in X ht⟩⟩
   .unfold nsIn at Wi;rw[HY]at Wi;dsimp only at Wi;split at Wi;.grind
    .rename_i he;unfold nsFind findBy;rw[<-Array.find?_toList,he];rfl
   .have GL:h.Ns ns (h.nsMap ns):=.of_isNs (isNs_of_in X bM);obtain⟨o,es,ep,h1,h2,h3,h4⟩:=GL;rw[X _ _ HY]at h1;cases h1;cases h2;exact⟨_,_,_,X _ _ HY,rfl,h3,λ_=>rfl⟩
  .cases q
 .cases q
noncomputable def yb:D->Option Str
 |.dict [(.none,.str c)]=>some c
 |_=>none
theorem zc(h:yb d=some c):d=Ii c:=by
 unfold yb at h
 split at h
 .cases h;rfl
 .cases h
theorem GQ{aX:List (List Key×V)}{d':D}(k:((d,d')::r).map (·.1)=aX.map (λp=>PyData.tuple (p.1.map oQ)))(h:∀l,d≠.tuple l):False:=by
 cases aX with
 |nil=>cases k
 |cons p q=>exact h _ (acI k).1
theorem Q8{K:Frag}(h:HD K H v (Ii c)):False:=by
 cases h with
 |uH _ k _=>exact GQ k λ_ z=>nomatch z
def OZ(d:D)(r:Res):Res:=match yb d with
 |some _=>.rt d
 |none=>r
theorem IW(h:yb d=none):OZ d r=r:=by unfold OZ;rw[h]
def Am(mg:dO)(E:XK):Str->Hp->Prop:=λc H=>∀C,mg c=some (.ref C)->E (.ref C) none H
def LD(c:Str):bB:=λ_=>some (.rt (Ii c))
section
variable {P:Program}{w:World}{K:Frag}{mg:dO}{base:Heap}{N:List Str}{qual:Str}{scope:Scope}{f:Addr}{cd:Value}{A:Around}{outer:List Env}{s:Shared}{H:Hp}{E:XK}{O:List Nat}
theorem LF(hC:YD K mg c C bm tl newId)(Fn:ExcBaseFacts Bn newId inN bmN)(hBn:bm.contains (.type Bn)=true)(FB:ExcBaseFacts B nid initId bm)
  (ha:PE (jd (EO P w) P w K mg base N qual scope f cd A outer s H E) uK (tC v))(hg:Gl (jd (EO P w) P w K mg base N qual scope f cd A outer s H E) c:=by rfl)
  (he:starEach [uK] (envOfC qual scope s.heap.objs.size f cd)=[(false,eval uK (envOfC qual scope s.heap.objs.size f cd))]:=by rfl)(he0:starEach ([]:List Expr) (envOfC qual scope s.heap.objs.size f cd)=[]:=by rfl)(hd:(c==("__debug__":Str))=false:=by decide):
  PS (jd (EO P w) P w K mg base N qual scope f cd A outer s H E) (.Raise (some (.Call (.Name c np) [uK] [] cR)) none pos) (tS K O (b,Am mg E) (LD c)):=
 (LA hC Fn hBn FB (aY ha b9 (by show starEach [uK] (envOfC qual scope s.heap.objs.size f cd)=(false,eval uK (envOfC qual scope s.heap.objs.size f cd))::starEach [] (envOfC qual scope s.heap.objs.size f cd);rw[he,he0])) hg (by rw[he,he0]) (by rw[he0];rfl) hd).mono λD σ H1 hh=>hh.e λH0 U A0 δ r R F ed Q=>by
  cases ed;exact⟨by show 1<=sizeLine;decide,Q.2 c H1 rfl F.same C hC.bound⟩
end
section
end
abbrev Cx.tr(X:Cx)(kM:cz)(E:XK):Cx:={X with pn:=X.pn++kM,xe:=λv s1=>∃σ H0 s0,Inv X kM σ H0 s0/\EO X.prog X.w X.stack H0 s0 E v s1}
section
variable {X:Cx}{pins kM:cz}{σ:St}{H:Hp}{s:Shared}{E:XK}
theorem Cx.Ok.tr(ok:X.Ok):(X.tr kM E).Ok:=
 ⟨ok.mod,ok.kind,ok.glob,ok.blt,ok.above,ok.inj,ok.has,ok.NS,ok.hd,ok.frames,ok.Qu,ok.VW,ok.bs,ok.JF,ok.zu,ok.BG,ok.kB,ok.HL⟩
theorem Cx.Ok.ES(ok:(X.tr kM E).Ok):X.Ok:=
 ⟨ok.mod,ok.kind,ok.glob,ok.blt,ok.above,ok.inj,ok.has,ok.NS,ok.hd,ok.frames,ok.Qu,ok.VW,ok.bs,ok.JF,ok.zu,ok.BG,ok.kB,ok.HL⟩
theorem Inv.tr(I:Inv X kM σ H s):Inv (X.tr kM E) [] σ H s:=⟨I.ok.tr,I.os,I.bare,I.base,I.loc,I.cell,I.free,I.iN,λp hp=>I.pin p (by rw[abk]at hp;exact hp),I.bM,I.len⟩
theorem Inv.ES(I:Inv (X.tr kM E) pins σ H s):Inv X kM σ H s:=⟨I.ok.ES,I.os,I.bare,I.base,I.loc,I.cell,I.free,I.iN,λp hp=>I.pin p (aar _ hp),I.bM,I.len⟩
theorem O0:lb (EO X.prog X.w) (X.tr kM E) E:=λ_ σ H s _ _ I h=>⟨σ,H,s,I.ES,h⟩
end
abbrev YF(a:Addr)(c:Str):D:=.dict [(.list [],.tuple [.int (a:Nat),.str c])]
theorem Rel.Ut{K:Frag}{σ:St}(hl:σ.length=n)(hi:i<n)(hO:i∉O)(al:Ls A0 H1)(ta:H1 a=none)(GL:nsIn K mainGlobals c=some (some (.ref C))):
  Rel K O [] A0 (σ.set i (some (.ref a))) ((List.replicate n none).set i (some (YF a c))) (upd H1 a (Tq a C)):=by
 have get:∀(j:Nat) d,((List.replicate n (none:Option D)).set i (some (YF a c)))[j]?=some (some d)->j=i/\d=YF a c:=λj d q=>by grind
 exact{
  len:=by rw[abW,abW,ad3];exact hl
  fz:=λj d _ q=>by
   obtain⟨rfl,rfl⟩:=get j d q;exact⟨.ref a,abh (by rw[hl];exact hi),.exc GL (by show wo (upd H1 a (Tq a C)) A0 a=_;rw[aN (λz=>al.free ta z)];exact az)⟩
  ow:=λj d hj q=>absurd hj (by rw[(get j d q).1];exact hO)
  inj:=λj k d e l hj _ _ q _ _ _=>absurd hj (by rw[(get j d q).1];exact hO)
  al:=al.same (bj ta _)}
section
end
noncomputable def Q9(c T:Str):Bool:=decide (c=T)||decide (T="ValueError")||decide (T="LotError")
noncomputable def Z8:D->Option (Int×Str)
 |.dict (p::_)=>(match p.1 with
   |.list _=>(match p.2 with
     |.tuple (.int a::.str c::_)=>some (a,c)
     |_=>none)
   |_=>none)
 |_=>none
def LG(cs:List Str)(T:Str)(g:be):be:=λδ=>(g δ).bind λd=>(Z8 d).bind λy=>if y.2∈cs then some (.bool (Q9 y.2 T))else none
def Z9(K:Frag)(cs:List Str)(T:Str)(Tv:Value):Prop:=∀c∈cs,∀C,nsIn K mainGlobals c=some (some (.ref C))->LC K C/\kitOne K (.ref C) Tv=some (Q9 c T)
theorem GR{aX:List (List Key×V)}(k:kds.map (·.1)=aX.map (λp=>PyData.tuple (p.1.map oQ)))(e:Z8 (.dict kds)=some y):False:=by
 cases kds with
 |nil=>cases e
 |cons p r=>
   obtain⟨d,d'⟩:=p;refine GQ k λl z=>?_;subst z;cases e
theorem iX.YG{K:Frag}(h:iX K A H v d)(e:Z8 d=some y):∃a C:Addr,y.1=(a:Nat)/\v=.ref a/\nsIn K mainGlobals y.2=some (some (.ref C))/\H a=some (Tq a C):=by
 rcases h with h|⟨l,o,rfl,e',q⟩
 .cases h with
  |uH _ k _=>exact(GR k e).elim
  |exc k h=>cases e;exact⟨_,_,rfl,rfl,k,(lj h).2⟩
  |_=>cases e
 .cases q with
  |uH k _=>exact(GR k e).elim
  |lst _=>cases e
section
variable {X:Cx}{O:List Nat}{e:Expr}{ga:be}{pos p p2:Pos}{T:Str}{Tv:Value}{cv:V}
set_option tactic.hygienic true in
theorem O6(cs:List Str)(hB:X.mg "isinstance"=none)(ha:PE X e (gz X.K O ga))(ht:PE X (.Name T p2) (tC cv))(hcv:∀u,RelV cv u->u=Tv)(hT:Z9 X.K cs T Tv)(hg:Gl X "isinstance":=by rfl)
  (he:starEach [e,.Name T p2] X.env=(false,eval e X.env)::starEach [.Name T p2] X.env:=by rfl)(KJ:starEach [.Name T p2] X.env=(false,eval (.Name T p2) X.env)::starEach [] X.env:=by rfl)(i8:(backTo pos (starEach [.Name T p2] X.env)).any (·.1)=false:=by rfl):
  PE X (.Call (.Name "isinstance" p) [e,.Name T p2] [] pos) (tE X.K O (LG cs T ga)):=
 (mJ zb hg hB kh (aY ha (aY ht b9 KJ) he) (by decide) (by decide) he i8).mono λσ H Q hh=>hh.e λU A0 δ d R ed q=>by
  obtain⟨x,e1,e2⟩:=bind1 ed;obtain⟨y,e3,e4⟩:=bind1 e2;split at e4
  .rename_i hz;cases e4;refine⟨U,A0,δ,_,R,e1,λv H' s h=>?_⟩;obtain⟨a,C,_,rfl,GL,hH⟩:=h.YG e3;obtain⟨xc,kt⟩:=hT _ hz C GL;exact⟨a,C,cv,_,rfl,hH,xc,q _ H' s (.bl _),.inl ⟨Tv,hcv,kt⟩⟩
  .grind
end
section
end
section
end
def pF(cs:List Str)(f:Str->D):Str->Option D:=λc=>if c∈cs then some (f c)else none
theorem uo(h:pF cs f c=some d):c∈cs/\d=f c:=by
 unfold pF at h
 split at h
 .grind
 .cases h
theorem ET(h:pF cs f c=some d):c∈cs:=(uo h).1
def O7(K:Frag)(mg:dO)(cs TS:List Str):Prop:=∀T∈TS,∃C,mg T=some (.ref C)/\Z9 K cs T (.ref C)
def YH(K:Frag)(mg:dO)(L:Addr)(cs:List Str):Prop:=∀c∈cs,∃C,nsIn K mainGlobals c=some (some (.ref C))/\mg c=some (.ref C)/\exmOne K (.ref C) (.ref L)=some true
theorem O8(cs TS:List Str)(CT:O7 X.K X.mg cs TS)(hTS:T∈TS)(hB:X.mg "isinstance"=none)(ha:PE X e (gz X.K O ga))(hgT:Gl X T:=by rfl)(hdT:(T==("__debug__":Str))=false:=by decide)(hg:Gl X "isinstance":=by rfl)
  (he:starEach [e,.Name T p2] X.env=(false,eval e X.env)::starEach [.Name T p2] X.env:=by rfl)(KJ:starEach [.Name T p2] X.env=(false,eval (.Name T p2) X.env)::starEach [] X.env:=by rfl)(i8:(backTo pos (starEach [.Name T p2] X.env)).any (·.1)=false:=by rfl):
  PE X (.Call (.Name "isinstance" p) [e,.Name T p2] [] pos) (tE X.K O (LG cs T ga)):=by
 obtain⟨C,m,k⟩:=CT T hTS
 exact O6 cs hB ha (oY (v:=.ref C) ⟨_,m,rfl⟩ hgT hdT) (λu r=>r) k hg he KJ i8
noncomputable def Ra:Option Obj->Bool
 |some ⟨_,_,.cls _,_⟩=>true
 |_=>false
def LH(K:Frag)(C:Addr):Bool:=Ra (K.lookup C)&&subIn K (.ref C) (.type "object")==some true&&subIn K (.ref C) (.type "BaseException")==some true&&findIn K (.ref C) "__class__"==some (some (.builtin "object.__class__"))&&
 findIn K (.ref C) "__getattribute__"==some (some (.builtin "BaseException.__getattribute__"))&&findIn K (.ref C) "__getattr__"==some none
theorem O9{K:Frag}(q:LH K C=true):LC K C:=by
 unfold LH at q
 simp only[aax,ac4]at q
 obtain⟨⟨⟨⟨⟨a,b⟩,c⟩,d⟩,e⟩,f⟩:=q
 refine⟨?_,b,c,d,e,f⟩
 unfold Ra at a
 split at a
 .grind
 .cases a
noncomputable def refOf:Option (Option Value)->Option Addr
 |some (some (.ref C))=>some C
 |_=>none
theorem wc(h:refOf v=some C):v=some (some (.ref C)):=by
 unfold refOf at h
 split at h
 .grind
 .cases h
def EU(K:Frag)(L:Addr)(cs TS:List Str):Bool:=(TS.all λT=>(refOf (nsIn K mainGlobals T)).isSome)&&cs.all λc=>match refOf (nsIn K mainGlobals c)with
 |some C=>LH K C&&exmOne K (.ref C) (.ref L)==some true&&kitOne K (.ref C) (.type "ValueError")==some true&&TS.all λT=>match refOf (nsIn K mainGlobals T)with
   |some CT=>kitOne K (.ref C) (.ref CT)==some (Q9 c T)
   |none=>false
 |none=>false
section
variable {K:Frag}{L:Addr}{cs TS:List Str}{c:Str}{h:Heap}{mg:dO}
set_option tactic.hygienic true in
theorem we(q:EU K L cs TS=true)(hc:c∈cs):∃C,nsIn K mainGlobals c=some (some (.ref C))/\LC K C/\exmOne K (.ref C) (.ref L)=some true/\kitOne K (.ref C) (.type "ValueError")=some true/\
  ∀T∈TS,∀CT,nsIn K mainGlobals T=some (some (.ref CT))->kitOne K (.ref C) (.ref CT)=some (Q9 c T):=by
 unfold EU at q
 rw[aax]at q
 have q1:=abv.mp q.2 c hc
 split at q1
 .rename_i C hC;simp only[aax,ac4]at q1;obtain⟨⟨⟨a,b⟩,d⟩,e⟩:=q1;refine⟨C,wc hC,O9 a,b,d,λT hT CT hCT=>?_⟩;have e1:=abv.mp e T hT;rw[hCT]at e1;exact ac4.mp e1
 .grind
theorem Pa(X:K.In h)(G:h.Ns mainGlobals mg)(q:EU K L cs TS=true):O7 K mg cs TS:=λT hT=>by
 have q0:=q
 unfold EU at q0
 rw[aax]at q0
 have q1:=abv.mp q0.1 T hT
 obtain⟨CT,hCT⟩:=adC.mp q1
 have hn:=wc hCT
 refine⟨CT,mg_of X G hn,λc hc C hC=>?_⟩
 obtain⟨C',h1,h2,_,_,h5⟩:=we q hc
 rw[hC]at h1
 cases h1
 exact⟨h2,h5 T hT CT hn⟩
theorem Pb(q:EU K L cs TS=true):Z9 K cs "ValueError" (.type "ValueError"):=λc hc C hC=>by
 obtain⟨C',h1,h2,_,h4,_⟩:=we q hc
 rw[hC]at h1
 cases h1
 refine⟨h2,h4.trans ?_⟩
 unfold Q9
 simp
theorem Pc(X:K.In h)(G:h.Ns mainGlobals mg)(q:EU K L cs TS=true):YH K mg L cs:=λc hc=>by
 obtain⟨C,h1,_,h3,_⟩:=we q hc
 exact⟨C,h1,mg_of X G h1,h3⟩
theorem GS(X:K.In h):(bS K).In h:=λb o e=>by
 rw[jO]at e
 split at e
 .exact X b o e
 .cases e
end
theorem IX:swapsWith (.List es p) t l env=pure false:=rfl
noncomputable def GU:List Expr->Option (List Str)
 |[]=>some []
 |.Constant (.str n) _ _::es=>(GU es).map (n::·)
 |_=>none
def Rb(ns:List Str):cq:=λ_=>some (ns.map .str)
set_option tactic.hygienic true in
theorem Cs:∀{es:List Expr} {ns:List Str},GU es=some ns->PA X es (vD X.K O (Rb ns))
 |[],ns,h=>by
   cases h;exact ai
 |e::es,ns,h=>by
   unfold GU at h;split at h;.grind
   .rename_i n k p uB he;cases he;cases q:GU es with
    |none=>rw[q]at h;cases h
    |some ms=>
      rw[q]at h;cases h;exact af (aJ aK) (Cs q) rfl
   .cases h
abbrev VE:bU:=[.type "ValueError",.type "Exception",.type "BaseException",.type "object"]
section
end
section
end
def LI(cs:List Str)(T1 T2 T3:Str)(g:be):be:=λδ=>(g δ).bind λd=>(Z8 d).bind λy=>if y.2∈cs then some (.bool (Q9 y.2 T1||(Q9 y.2 T2||(Q9 y.2 T3||false))))else none
theorem mW{K:Frag}(h:kitOne K t v=some b)(h2:kitAny K t r=some c):kitAny K t (v::r)=some (b||c):=by
 rw[kitAny,h]
 cases b
 .grind
 .rfl
set_option tactic.hygienic true in
theorem LJ{st:Nat}(cs TS:List Str)(CT:O7 X.K X.mg cs TS)(m1:T1∈TS)(m2:T2∈TS)(m3:T3∈TS)(hB:X.mg "isinstance"=none)(ha:PE X e (gz X.K O ga))
  (g1:Gl X T1:=by rfl)(g2:Gl X T2:=by rfl)(g3:Gl X T3:=by rfl)(d1:(T1==("__debug__":Str))=false:=by decide)(d2:(T2==("__debug__":Str))=false:=by decide)(d3:(T3==("__debug__":Str))=false:=by decide)(hg:Gl X "isinstance":=by rfl)
  (he:starEach [e,.Tuple [.Name T1 p1,.Name T2 p2,.Name T3 p3] st pt] X.env=(false,eval e X.env)::starEach [.Tuple [.Name T1 p1,.Name T2 p2,.Name T3 p3] st pt] X.env:=by rfl)(i8:(backTo pos (starEach [.Tuple [.Name T1 p1,.Name T2 p2,.Name T3 p3] st pt] X.env)).any (·.1)=false:=by rfl):
  PE X (.Call (.Name "isinstance" p) [e,.Tuple [.Name T1 p1,.Name T2 p2,.Name T3 p3] st pt] [] pos) (tE X.K O (LI cs T1 T2 T3 ga)):=by
 obtain⟨C1,q1,k1⟩:=CT T1 m1
 obtain⟨C2,q2,k2⟩:=CT T2 m2
 obtain⟨C3,q3,k3⟩:=CT T3 m3
 refine(mJ zb hg hB kh (aY ha (aY (Eb (aY (oY (v:=.ref C1) ⟨_,q1,rfl⟩ g1 d1) (aY (oY (v:=.ref C2) ⟨_,q2,rfl⟩ g2 d2) (aY (oY (v:=.ref C3) ⟨_,q3,rfl⟩ g3 d3) b9 rfl) rfl) rfl)) b9 rfl) he) (by decide) (by decide) he i8).mono ?_
 rintro σ H Q ⟨U,A0,δ,d,R,ed,q⟩
 obtain⟨x,e1,e2⟩:=bind1 ed
 obtain⟨y,e3,e4⟩:=bind1 e2
 split at e4
 .rename_i hz;cases e4;refine⟨U,A0,δ,_,R,e1,λv H' s h=>⟨aaW (m:=3) (aah 3) (by decide),λtp hp=>?_⟩⟩;obtain⟨a,C,_,rfl,GL,hH⟩:=h.YG e3;obtain⟨xc,kt1⟩:=k1 _ hz C GL;have kt2:=(k2 _ hz C GL).2;have kt3:=(k3 _ hz C GL).2;refine⟨a,C,.ref tp,_,rfl,bj hp _ _ _ hH,xc,q _ _ (s.trans (bj hp _)) (.bl _),.inr ⟨tp,_,rfl,az,λits rv=>?_⟩⟩;cases rv with
  |cons r1 rv=>cases rv with
    |cons r2 rv=>cases rv with
      |cons r3 rv=>
        cases rv;cases r1;cases r2;cases r3;exact mW kt1 (mW kt2 (mW kt3 rfl))
 .grind
end L2
namespace L2
open PySem PySem.Spec PyProof.Rows
structure yc(S:Type) where
 P:PySem.W.Frag->Hp->Hp->List Addr->S->Prop
 own:∀{K H Hw B s},P K H Hw B s->∀x∈B,∃o,H x=some o/\uG o
 mono:∀{K H H' Hw BC B s},P K H Hw B s->(∀x∈B,H' x=H x)->aA Hw BC->P K H' BC B s
def cg(cl:List Addr)(H H':Hp):Prop:=∀b o,b∉cl->H b=some o->H' b=some o
theorem cg.of(s:aA H H'):cg cl H H':=λb o _ h=>s b o h
theorem cg.trans(s:cg cl H H')(t:cg cl H' H2):cg cl H H2:=λb o n h=>t b o n (s b o n h)
theorem kN(h:∀x,x∈A↔x∈B):wo H A=wo H B:=by
 funext x
 by_cases q:x∈A
 .rw [dG q,dG ((h x).mp q)]
 .rw [aN q,aN λz=>q ((h x).mpr z)]
section
variable {S:Type}{K:ak}{O:List Nat}{Γ:yc S}{B U U1 A0:List Addr}{σ Bu:St}{δ gY:DS}{H H' H0 H1:Hp}{s:S}
structure c6(K:ak)(O:List Nat)(Γ:yc S)(B U A0:List Addr)(σ:St)(δ:DS)(H:Hp)(s:S):Prop where
 r:Rel K O U (B++A0) σ δ H
 p:Γ.P K H (wo H (U++(B++A0))) B s
 dj:∀x∈U,x∉B
 da:∀x∈A0,x∉B
structure qN(H0:Hp)(A0 U B:List Addr)(H:Hp):Prop where
 same:aA H0 H
 new:∀a∈U,H0 a=none
 mw:∀a∈B,H0 a=none
 old:Ls A0 H0
theorem yc.at(p:Γ.P K H (wo H U) B s)(e:aA H H'):∀x∈B,H' x=H x:=λx hx=>by
 obtain⟨o,h,_⟩:=Γ.own p x hx
 rw[h,e x o h]
theorem c6.same(R:c6 K O Γ B U A0 σ δ H s)(e:aA H H'):c6 K O Γ B U A0 σ δ H' s:=⟨R.r.same e,Γ.mono R.p (yc.at R.p e) (bE e),R.dj,R.da⟩
theorem qN.grow(F:qN H0 A0 U B H)(e:cg B H H'):qN H0 A0 U B H':=⟨λb o h=>e b o (λz=>by rw[F.mw b z]at h;cases h) (F.same b o h),F.new,F.mw,F.old⟩
theorem qN.qO(F:qN H0 A0 U B H)(e:cg B H H')(n:∀x∈B',x∈B\/H x=none):qN H0 A0 U B' H':=⟨(F.grow e).same,F.new,λx hx=>(n x hx).elim (F.mw x) λz=>F.same.free z,F.old⟩
theorem Ct(h:Ls (U++B) H)(n:∀x∈B,x∉U):Ls B (wo H U):=by
 refine⟨λx hx=>?_,λp xs m=>?_⟩
 .obtain ⟨o,e,w⟩:=h.1 x (aad _ hx);exact⟨o,by rw[aN (n x hx)];exact e,w⟩
 .have t:=h.2 p xs m;refine t.wo λz=>?_;obtain⟨o,e,w⟩:=h.1 p (aar _ z);exact t.apart e w rfl
theorem c6.fx(R:c6 K O Γ B U A0 σ δ H s)(F:qN H0 A0 U B H):Fx (wo H U) (B++A0) U H:=⟨bN,λ_ h=>dG h,Ct R.r.al λx hx hu=>by
 rcases aaf.mp hx with z|z
 .exact R.dj x hu z
 .obtain ⟨o,e,_⟩:=F.old.1 x z;rw[F.new x hu]at e;cases e⟩
theorem c6.keep(R:c6 K O Γ B U A0 σ δ H s)(F1:Fx (wo H U) (B++A0) U1 H1):(∀x∈B,H1 x=H x)/\aA (wo H (U++(B++A0))) (wo H1 (U1++(B++A0)))/\∀x∈U1,x∉B:=by
 have c:∀x∈B,∃o,H x=some o/\wo H U x=some o:=λx hx=>by
  obtain⟨o,e,_⟩:=Γ.own R.p x hx;exact⟨o,e,by rw[aN λz=>R.dj x z hx];exact e⟩
 refine⟨λx hx=>?_,λb o hb=>?_,λx hx hc=>?_⟩
 .obtain ⟨o,e,e'⟩:=c x hx;rw[F1.same x o e',e]
 .have nb:b∉U++(B++A0):=λz=>by rw[dG z]at hb;cases hb
  rw[aN nb]at hb;have h1:wo H U b=some o:=by rw[aN λz=>nb (aar _ z)];exact hb
  rw[aN λz=>?_];.exact F1.same b o h1
  .rcases aaf.mp z with y|y;.rw [F1.new b y]at h1;cases h1
   .grind
 .obtain ⟨o,_,e'⟩:=c x hc;rw[F1.new x hx]at e';cases e'
theorem c6.up(R:c6 K O Γ B U A0 σ δ H s)(F:qN H0 A0 U B H)(R1:Rel K O U1 (B++A0) Bu gY H1)(F1:Fx (wo H U) (B++A0) U1 H1):c6 K O Γ B U1 A0 Bu gY H1 s/\qN H0 A0 U1 B H1:=by
 obtain⟨k1,k2,k3⟩:=R.keep F1
 refine⟨⟨R1,Γ.mono R.p k1 k2,k3,R.da⟩,⟨λb o h=>?_,λx hx=>?_,F.mw,F.old⟩⟩
 .refine F1.same b o ?_;rw[aN λz=>by rw[F.new b z]at h;cases h];exact F.same b o h
 .by_cases z:x∈U;.exact F.new x z
  .have:=F1.new x hx;rw[aN z]at this;exact F.same.free this
end
section
variable {S:Type}
def YI(K:ak)(O:List Nat)(Γ:yc S)(xk:Str->Hp->Prop)(H0:Hp)(A0:List Addr)(E:Ends)(s:S):Res->Prop
 |.nx δ=>∀B U σ H,c6 K O Γ B U A0 σ δ H s->qN H0 A0 U B H->E.nx σ H
 |.bk δ=>∀B U σ H,c6 K O Γ B U A0 σ δ H s->qN H0 A0 U B H->E.bk σ H
 |.ct δ=>∀B U σ H,c6 K O Γ B U A0 σ δ H s->qN H0 A0 U B H->E.ct σ H
 |.rt d=>(∀B v H,aA H0 H->(∀x∈B,H0 x=none)->Γ.P K H (wo H (B++A0)) B s->HD K (wo H (B++A0)) v d->E.rt v H)/\∀B c H,d=Ii c->aA H0 H->(∀x∈B,H0 x=none)->Γ.P K H (wo H (B++A0)) B s->xk c H
abbrev GD(S:Type):=DS->S->Option (Res×S)
def oS(K:ak)(O:List Nat)(Γ:yc S)(xk:Str->Hp->Prop)(g:GD S):TS:=λE σ H=>∃H0 B U A0 δ s r s',c6 K O Γ B U A0 σ δ H s/\qN H0 A0 U B H/\g δ s=some (r,s')/\YI K O Γ xk H0 A0 E s' r
noncomputable def ip(g:bB):GD S:=λδ s=>(g δ).bind λr=>some (r,s)
variable {X:Cx}{O:List Nat}{Γ:yc S}{xk:Str->Hp->Prop}{st:Stmt}{rest a b:List Stmt}{c e:Expr}{pos:Pos}
theorem dq(h:PS X st (tS X.K O (false,xk) g)):PS X st (oS X.K O Γ xk (ip g)):=h.mono λE σ H ⟨H0,B,U,A0,δ,s,r,s',R,F,ed,P⟩=>by
 obtain⟨r',e1,e2⟩:=bind1 ed
 cases e2
 refine⟨wo H U,U,B++A0,δ,r,R.r,R.fx F,e1,?_⟩
 cases r with
 |nx δ'=>exact λU1 Bu H1 R1 F1=>P B U1 Bu H1 (R.up F R1 F1).1 (R.up F R1 F1).2
 |bk δ'=>exact λU1 Bu H1 R1 F1=>P B U1 Bu H1 (R.up F R1 F1).1 (R.up F R1 F1).2
 |ct δ'=>exact λU1 Bu H1 R1 F1=>P B U1 Bu H1 (R.up F R1 F1).1 (R.up F R1 F1).2
 |rt d=>
   have G:∀H1,aA (wo H U) H1->aA H0 H1/\Γ.P X.K H1 (wo H1 (B++A0)) B s:=λH1 e=>by
    have F1:Fx (wo H U) (B++A0) [] H1:=⟨e,λ_ z=>(nomatch z),(R.fx F).old⟩;obtain⟨k1,k2,_⟩:=R.keep F1;refine⟨λb o h=>e b o ?_,Γ.mono R.p k1 k2⟩;rw[aN λz=>by rw[F.new b z]at h;cases h];exact F.same b o h
   refine⟨λv H1 h=>?_,λc H1 hd e=>P.2 B c H1 hd (G H1 e).1 F.mw (G H1 e).2⟩;exact P.1 B v H1 (G H1 h.1).1 F.mw (G H1 h.1).2 h.2
noncomputable def cw(f g:GD S):GD S:=λδ s=>(f δ s).bind λr=>match r.1 with|.nx δ'=>g δ' r.2|_=>some r
theorem bf(h1:PS X st (oS X.K O Γ xk f))(h2:jy X rest (oS X.K O Γ xk g)):jy X (st::rest) (oS X.K O Γ xk (cw f g)):=(mH h1 h2).mono λE σ H ⟨H0,B,U,A0,δ,s,r,s',R,F,ed,P⟩=>by
 obtain⟨⟨r1,s1⟩,e1,e2⟩:=bind1 ed
 cases r1 with
 |nx δ'=>exact⟨H0,B,U,A0,δ,s,.nx δ',s1,R,F,e1,λB' U' cQ H' R' F'=>⟨H0,B',U',A0,δ',s1,r,s',R',F',e2,P⟩⟩
 |rt d=>cases e2;exact⟨H0,B,U,A0,δ,s,_,_,R,F,e1,P⟩
 |bk d=>cases e2;exact⟨H0,B,U,A0,δ,s,_,_,R,F,e1,P⟩
 |ct d=>cases e2;exact⟨H0,B,U,A0,δ,s,_,_,R,F,e1,P⟩
theorem bq(h1:PS X st (oS X.K O Γ xk f)):jy X [st] (oS X.K O Γ xk f):=zw h1
def d6:GD S:=λδ s=>some (.nx δ,s)
theorem dH:jy X [] (oS X.K O Γ xk d6):=Gf.mono λE σ H ⟨H0,B,U,A0,δ,s,r,s',R,F,ed,P⟩=>by cases ed;exact P B U σ H R F
def LK(K:ak)(O:List Nat)(Γ:yc S)(g:DS->S->Option (Bool×S)):TT:=λσ H Q=>∃B U A0 δ s b s',c6 K O Γ B U A0 σ δ H s/\g δ s=some (b,s')/\∀B' H',cg B H H'->(∀x∈B',x∈B\/H x=none)->c6 K O Γ B' U A0 σ δ H' s'->Q b H'
def xI(K:ak)(O:List Nat)(Γ:yc S)(g:DS->S->Option (D×S)):TE:=λσ H Q=>∃B U A0 δ s d s',c6 K O Γ B U A0 σ δ H s/\g δ s=some (d,s')/\∀B' v H',cg B H H'->(∀x∈B',x∈B\/H x=none)->c6 K O Γ B' U A0 σ δ H' s'->HD K (wo H' (U++(B'++A0))) v d->Q v H'
noncomputable def yd{α:Type}(g:DS->Option α):DS->S->Option (α×S):=λδ s=>(g δ).bind λr=>some (r,s)
theorem mX(h:PT X c (tT X.K O g)):PT X c (LK X.K O Γ (yd g)):=h.mono λσ H Q ⟨B,U,A0,δ,s,b,s',R,ed,q⟩=>by
 obtain⟨r',e1,e2⟩:=bind1 ed
 cases e2
 exact⟨U,B++A0,δ,b,R.r,e1,λH' e=>q B H' (.of e) (λ_ z=>.inl z) (R.same e)⟩
theorem LL(h:PE X e (tE X.K O g)):PE X e (xI X.K O Γ (yd g)):=h.mono λσ H Q ⟨B,U,A0,δ,s,b,s',R,ed,q⟩=>by
 obtain⟨r',e1,e2⟩:=bind1 ed
 cases e2
 exact⟨U,B++A0,δ,b,R.r,e1,λv H' e hv=>q B v H' (.of e) (λ_ z=>.inl z) (R.same e) hv⟩
noncomputable def mz(c:DS->S->Option (Bool×S))(a b:GD S):GD S:=λδ s=>(c δ s).bind λx=>if x.1=true then a δ x.2 else b δ x.2
theorem eG(hc:PT X c (LK X.K O Γ gc))(ha:jy X a (oS X.K O Γ xk ga))(hb:jy X b (oS X.K O Γ xk gb)):PS X (.If c a b pos) (oS X.K O Γ xk (mz gc ga gb)):=(Qw hc ha hb).mono λE σ H ⟨H0,B,U,A0,δ,s,r,s',R,F,ed,P⟩=>by
 obtain⟨⟨x,s1⟩,e1,e2⟩:=bind1 ed
 refine⟨B,U,A0,δ,s,x,s1,R,e1,λB' H' e n R'=>?_⟩
 cases x with
 |true=>exact⟨H0,B',U,A0,δ,s1,r,s',R',F.qO e n,e2,P⟩
 |false=>exact⟨H0,B',U,A0,δ,s1,r,s',R',F.qO e n,e2,P⟩
noncomputable def pG(g:DS->S->Option (D×S)):GD S:=λδ s=>(g δ s).bind λx=>some (.rt x.1,x.2)
theorem c6.pr{K:ak}(R:c6 K O Γ B U A0 σ δ H s):Γ.P K H (wo H (B++A0)) B s:=Γ.mono R.p (λ_ _=>rfl) (iu λa ha=>aad _ ha)
theorem oy(h:PE X e (xI X.K O Γ g)):PS X (.Return (some e) pos) (oS X.K O Γ xk (pG g)):=(rN h).mono λE σ H ⟨H0,B,U,A0,δ,s,r,s',R,F,ed,P⟩=>by
 obtain⟨⟨d,s1⟩,e1,e2⟩:=bind1 ed
 cases e2
 exact⟨B,U,A0,δ,s,d,s1,R,e1,λB' v H' e n R' hv=>P.1 B' v H' (F.grow e).same (F.qO e n).mw R'.pr (hv.same (iu λa ha=>aad _ ha))⟩
noncomputable def IY(i:Nat)(g:DS->S->Option (D×S)):GD S:=λδ s=>(g δ s).bind λx=>some (.nx (δ.set i (some x.1)),x.2)
theorem c6.set{K:ak}(R:c6 K O Γ B U A0 σ δ H s)(hi:i∉O)(hv:HD K (wo H (U++(B++A0))) v d):c6 K O Γ B U A0 (σ.set i (some v)) (δ.set i (some d)) H s:=⟨R.r.set hi hv,R.p,R.dj,R.da⟩
theorem Cu(h:PS X st (uC (xI X.K O Γ g) (mI i)))(hi:i∉O:=by decide):PS X st (oS X.K O Γ xk (IY i g)):=h.mono λE σ H ⟨H0,B,U,A0,δ,s,r,s',R,F,ed,P⟩=>by
 obtain⟨⟨d,s1⟩,e1,e2⟩:=bind1 ed
 cases e2
 exact⟨B,U,A0,δ,s,d,s1,R,e1,λB' v H' e n R' hv=>P B' U _ H' (R'.set hi hv) (F.qO e n)⟩
end
section
variable {S:Type}{K:ak}{O:List Nat}{Γ:yc S}{B B' U U1 A0:List Addr}{σ:St}{δ:DS}{H H' H0 H1:Hp}{s s':S}
theorem cg.wo(e:cg B H H')(h:∀x∈B,x∈A):aA (wo H A) (wo H' A):=λb o hb=>by
 have nb:b∉A:=λz=>by rw[dG z]at hb;cases hb
 rw[aN nb]at hb ⊢
 exact e b o (λz=>nb (h b z)) hb
theorem c6.K8:∀x∈B,x∈U++(B++A0):=by grind
theorem c6.grow(R:c6 K O Γ B U A0 σ δ H s)(e:cg B H H')(p:Γ.P K H' (wo H' (U++(B++A0))) B s'):c6 K O Γ B U A0 σ δ H' s':=by
 have k:=e.wo (A:=U++(B++A0)) c6.K8
 refine⟨⟨R.r.len,λi d hi ed=>?_,λi d hi ed=>?_,R.r.inj,λx hx=>?_,λq xs m=>?_⟩,p,R.dj,R.da⟩
 .obtain ⟨v,a,b⟩:=R.r.fz i d hi ed;exact⟨v,a,b.same k⟩
 .obtain ⟨l,o,a,b,c,w⟩:=R.r.ow i d hi ed;exact⟨l,o,a,b,e l o (R.dj l b) c,w.same k⟩
 .by_cases z:x∈B;.exact Γ.own p x z
  .obtain ⟨o,h,w⟩:=R.r.al.1 x hx;exact⟨o,e x o z h,w⟩
 .have t:=R.r.al.2 q xs m;have n:q∉B:=λz=>by
   obtain⟨o,h,w⟩:=Γ.own R.p q z;exact t.apart h w rfl
  rcases t with t|⟨ob,t⟩;.exact .inl (e q _ n t)
  .exact .inr ⟨ob,e q _ n t⟩
theorem c6.here(R:c6 K O Γ B U A0 σ δ H s)(F:qN H0 A0 U B H):qN (wo H (U++B)) A0 U B H:=⟨bN,λ_ h=>dG (aar _ h),λ_ h=>dG (aad _ h),Ct (by rw[ach];exact R.r.al) λx hx hz=>by
 rcases aaf.mp hz with z|z
 .obtain ⟨o,e,_⟩:=F.old.1 x hx;rw[F.new x z]at e;cases e
 .exact R.da x hx z⟩
theorem qN.over(F:qN H0 A0 U B H)(e:aA (wo H (U++B)) H'):aA H0 H':=λb o h=>e b o (by
 rw[aN λz=>?_]
 .exact F.same b o h
 .rcases aaf.mp z with y|y;.rw [F.new b y]at h;cases h
  .rw [F.mw b y]at h;cases h)
theorem qN.none(F:qN H0 A0 U B H)(this:wo H (U++B) x=none):H0 x=none:=by
 by_cases z:x∈U
 .exact F.new x z
 .by_cases y:x∈B;.exact F.mw x y
  .rw [aN λq=>(aaf.mp q).elim z y]at this;exact F.same.free this
theorem qN.trans(F:qN H0 A0 U B H)(G:qN (wo H (U++B)) A0 U1 B' H'):qN H0 A0 U1 B' H':=by
 exact⟨F.over G.same,λx hx=>F.none (G.new x hx),λx hx=>F.none (G.mw x hx),F.old⟩
theorem qN.keeps(G:qN (wo H1 (U++B)) A0 U1 B' H):aA (wo H1 (U++(B++A0))) (wo H (U1++(B'++A0))):=λb o hb=>by
 have nb:b∉U++(B++A0):=λz=>by rw[dG z]at hb;cases hb
 rw[aN nb]at hb
 have h1:wo H1 (U++B) b=some o:=by
  rw[aN λz=>nb ?_];.grind
  .grind
 rw[aN λz=>?_]
 .exact G.same b o h1
 .rcases aaf.mp z with y|y;.rw [G.new b y]at h1;cases h1
  .rcases aaf.mp y with y|y;.rw [G.mw b y]at h1;cases h1
   .grind
end
section
variable {S:Type}
noncomputable def j2(t:D->DS->Option DS)(b:GD S):List D->DS->S->Option (Res×S)
 |[],δ,s=>some (.nx δ,s)
 |d::ds,δ,s=>(t d δ).bind λgY=>(b gY s).bind λr=>match r.1 with|.nx δ'=>j2 t b ds δ' r.2|.ct δ'=>j2 t b ds δ' r.2|.bk δ'=>some (.nx δ',r.2)|.rt d=>some (.rt d,r.2)
def IZ(gi:cq)(t:D->DS->Option DS)(b:GD S):GD S:=λδ s=>(gi δ).bind λds=>j2 t b ds δ s
variable {X:Cx}{O:List Nat}{Γ:yc S}{xk:Str->Hp->Prop}{rest body:List Stmt}{c e tg iter a b:Expr}{pos:Pos}
theorem wg(hp:PassesOwn (model X.prog X.w) X.A X.env X.xe)(hc:X.calm=true)(hi:PI X tg iter (tI X.K O gi))(hg:PG X tg (tG X.K O gt))(hb:jy X body (oS X.K O Γ xk gb))
  (hs:∀x,foldedSetIterable iter X.env x=pure x:=by intro _;rfl):PS X (.For tg iter body [] pos) (oS X.K O Γ xk (IZ gi gt gb)):=(J2 hp hc hi hg hb hs).mono λE σ H ⟨H0,B,U,A0,δ,s0,r,s',R,F,ed,P⟩=>by
 obtain⟨ds,e1,e2⟩:=bind1 ed
 refine⟨U,B++A0,δ,ds,R.r,e1,λJ H1 s hw=>?_⟩
 have F1:=F.grow (.of s)
 have R1:=R.same s
 refine⟨λi m σ H=>m=ds.length-i/\i<=ds.length/\∃B2 U2 δ sg,c6 X.K O Γ B2 U2 A0 σ δ H sg/\qN H0 A0 U2 B2 H/\qN (wo H1 (U++B)) A0 U2 B2 H/\j2 gt gb (ds.drop i) δ sg=some (r,s'),⟨ds.length,by simp,Nat.zero_le _,B,U,δ,s0,R1,F1,R1.here F1,by simpa using e2⟩,?_⟩
 rintro i m σ H ⟨rfl,hle,B2,U2,δ,sg,R2,F2,G2,ef⟩
 obtain⟨Yb,B9⟩:=hw (U2++(B2++A0)) i H G2.keeps R2.r.al
 by_cases i9:i<ds.length
 .obtain ⟨d,hd⟩:∃d,ds[i]?=some d:=⟨_,aau i9⟩;have KN:ds.drop i=d::ds.drop (i+1):=by
   rw[acW i9];rw[aau i9]at hd;cases hd;rfl
  obtain⟨go,hy⟩:=Yb d hd;rw[KN,j2]at ef;obtain⟨gY,e3,e4⟩:=bind1 ef;obtain⟨⟨q,s1⟩,e5,e6⟩:=bind1 e4;refine .inr ⟨go,λcQ H'=>∃m',m'<ds.length-i/\(m'=ds.length-(i+1)/\i+1<=ds.length/\∃B2 U2 δ sg,c6 X.K O Γ B2 U2 A0 cQ δ H' sg/\qN H0 A0 U2 B2 H'/\qN (wo H1 (U++B)) A0 U2 B2 H'/\j2 gt gb (ds.drop (i+1)) δ sg=some (r,s')),λ_ _ h=>h,λx H2 y=>?_⟩;obtain⟨s2,hx⟩:=hy x H2 y;have R3:=R2.same s2;have F3:=F2.grow (.of s2);have G3:=G2.grow (.of s2);refine⟨U2,B2++A0,δ,d,gY,R3.r,hx,e3,λcQ R'=>?_⟩;refine⟨wo H2 (U2++B2),B2,U2,A0,gY,sg,q,s1,⟨R',R3.p,R3.dj,R3.da⟩,R3.here F3,e5,?_⟩;cases q with
  |nx δ'=>exact λB' U' cQ H' R' F'=>⟨_,by lia,rfl,i9,B',U',δ',s1,R',F3.trans F',G3.trans F',e6⟩
  |ct δ'=>exact λB' U' cQ H' R' F'=>⟨_,by lia,rfl,i9,B',U',δ',s1,R',F3.trans F',G3.trans F',e6⟩
  |bk δ'=>cases e6;exact λB' U' cQ H' R' F'=>P B' U' cQ H' R' (F3.trans F')
  |rt d=>cases e6;exact⟨λB' v H' h n p hv=>P.1 B' v H' (F3.over h) (λx hx=>F3.none (n x hx)) p hv,λB' c H' e h n p=>P.2 B' c H' e (F3.over h) (λx hx=>F3.none (n x hx)) p⟩
 .have hi:i=ds.length:=by lia
  subst hi;rw[ae1,j2]at ef;cases ef;exact .inl ⟨B9 rfl,P B2 U2 σ H R2 F2⟩
noncomputable def d2(f:D->D->Option D)(ga:DS->S->Option (D×S))(gb:be):DS->S->Option (D×S):=λδ s=>(ga δ s).bind λx=>(gb δ).bind λy=>(f x.1 y).bind λz=>some (z,x.2)
noncomputable def dB(g:DS->S->Option (D×S)):DS->S->Option (Bool×S):=λδ s=>(g δ s).bind λx=>match x.1 with|.bool b=>some (b,x.2)|_=>none
theorem LM{K:ak}(imp:iY K r f):xI K O Γ (d2 f ga gb) σ H Q->SR r (xI K O Γ ga) (gz K O gb) σ H Q:=λ⟨B,U,A0,δ,s,d,s',R,ed,q⟩=>by
 obtain⟨⟨x,s1⟩,e1,e2⟩:=bind1 ed
 obtain⟨y,e3,e4⟩:=bind1 e2
 obtain⟨z,e5,e6⟩:=bind1 e4
 cases e6
 exact⟨B,U,A0,δ,s,x,s1,R,e1,λB1 v1 H1 k1 n1 R1 h1=>⟨U,B1++A0,δ,y,R1.r,e3,λv2 H2 k2 h2=>imp _ H2 v1 v2 x y _ Q (R1.same k2).r.al (.of (h1.same (bE k2))) h2 e5 λv H' k h=>q B1 v H' (k1.trans (.of (k2.trans k))) n1 (R1.same (k2.trans k)) h⟩⟩
theorem Pd(ho:jz X (compareOp op) r)(imp:iY X.K r f)(ha:PE X a (xI X.K O Γ ga))(hb:PE X b (gz X.K O gb))(hm:behindInMarks op b=false):PE X (.Compare a [op] [b] pos) (xI X.K O Γ (d2 f ga gb)):=(Gh ho ha hb hm).mono λ_ _ _=>LM imp
theorem mY(ho:jz X (compareOp op) r)(imp:iY X.K r f)(ha:PE X a (xI X.K O Γ ga))(hb:PE X b (gz X.K O gb))(hm:behindInMarks op b=false):PT X (.Compare a [op] [b] pos) (LK X.K O Γ (dB (d2 f ga gb))):=(Gi ho ha hb hm).mono λσ H Q ⟨B,U,A0,δ,s,b,s',R,ed,q⟩=>by
 obtain⟨⟨d,s1⟩,e1,e2⟩:=bind1 ed
 cases d with
 |bool c=>
   cases e2;exact LM imp ⟨B,U,A0,δ,s,_,_,R,e1,λB' v H' k n R' h=>by cases h;exact⟨_,rfl,q B' H' k n R'⟩⟩
 |_=>cases e2
noncomputable def mZ(g:DS->S->Option (Bool×S)):DS->S->Option (Bool×S):=λδ s=>(g δ s).bind λx=>some (!x.1,x.2)
theorem qP(ha:PT X a (LK X.K O Γ g)):PT X (.UnaryOp .Not a pos) (LK X.K O Γ (mZ g)):=(JV ha).mono λσ H Q ⟨B,U,A0,δ,s,b,s',R,ed,q⟩=>by
 obtain⟨⟨x,s1⟩,e1,e2⟩:=bind1 ed
 cases e2
 exact⟨B,U,A0,δ,s,x,s1,R,e1,λB' H' k n R'=>q B' H' k n R'⟩
theorem oz(ha:PE X a (xI X.K O Γ g))(he:∀whole,isTrue a X.env whole=(do let v <-whole;standAt a.pos;holding [v] (truthy v)):=by exact λ_=>rfl):PT X a (LK X.K O Γ (dB g)):=(BO ha he).mono λσ H Q ⟨B,U,A0,δ,s,b,s',R,ed,q⟩=>by
 obtain⟨⟨d,s1⟩,e1,e2⟩:=bind1 ed
 cases d with
 |bool c=>
   cases e2;refine⟨B,U,A0,δ,s,_,_,R,e1,λB' v H' k n R' h=>?_⟩;cases h;exact⟨_,rfl,q B' H' k n R'⟩
 |_=>cases e2
noncomputable def dOr(f g:DS->S->Option (Bool×S)):DS->S->Option (Bool×S):=λδ s=>(f δ s).bind λx=>if x.1=true then some x else g δ x.2
theorem Pe{rest:List Expr}(ha:PT X a (LK X.K O Γ f))(hb:PW X (.BoolOp .Or (b::rest) pos) (LK X.K O Γ g)):PW X (.BoolOp .Or (a::b::rest) pos) (LK X.K O Γ (dOr f g)):=(pw_or ha hb).mono λσ H Q ⟨B,U,A0,δ,s,z,s',R,ed,q⟩=>by
 obtain⟨⟨x,s1⟩,e1,e2⟩:=bind1 ed
 refine⟨B,U,A0,δ,s,x,s1,R,e1,λB' H' k n R'=>?_⟩
 cases x with
 |true=>grind
 |false=>
   refine⟨B',U,A0,δ,s1,z,s',R',e2,λB2 H2 k2 n2 R2=>q B2 H2 (λb o nb hb=>?_) (λx hx=>?_) R2⟩
   .refine k2 b o (λy=>(n b y).elim nb λz=>?_) (k b o nb hb);rw[hb]at z;cases z
   .rcases n2 x hx with y|y;.grind
    .by_cases z:x∈B;.grind
     .cases e:H x with
      |none=>exact .inr rfl
      |some o=>rw[k x o z e]at y;cases y
end
end L2
namespace L2
open PySem PySem.Spec PySem.W PyProof.Rows
structure Dk where
 pl:List (Str×D)
 lo:List (Str×D)
def a9(a:Addr):D:=.dict [(.list [],.int (a:Nat))]
def TK(K:Frag)(H:Hp)(aX:List (Key×V))(l:List (Str×D)):Prop:=aX.map (·.1)=l.map (λx=>(.inr x.1:Key))/\cC K H (aX.map (·.2)) (l.map (·.2))
theorem TK.same{K:Frag}(h:TK K H aX l)(s:aA H H'):TK K H' aX l:=⟨h.1,h.2.same s⟩
noncomputable def fY(l:List (Str×D))(x:Str):Option D:=(l.find? λp=>decide (p.1=x)).map (·.2)
def dJ(l:List (Str×D))(x:Str)(d:D):List (Str×D):=if(l.any λp=>decide (p.1=x))=true then l.map (λp=>if p.1=x then(p.1,d)else p)else l++[(x,d)]
theorem TK.get{K:Frag}(x:Str):∀{aX:List (Key×V)} {l:List (Str×D)},TK K H aX l->(fY l x=none/\mO aX (.inr x)=none)\/∃d v,fY l x=some d/\mO aX (.inr x)=some v/\HD K H v d
 |[],[],_=>.inl ⟨rfl,rfl⟩
 |[],_::_,h=>by cases h.1
 |_::_,[],h=>by cases h.1
 |(k,v)::aX,(y,d)::l,h=>by
   obtain⟨h1,h2⟩:=h;have hk:=(acI h1).1;have g1:=(acI h1).2;subst hk;cases h2 with
   |cons hd ht=>
     by_cases q:y=x;.subst q;exact .inr ⟨d,v,by simp[fY],mP rfl,hd⟩
     .have e:¬((.inr y:Key)=.inr x):=λz=>q (Sum.inr.inj z);rw[mQ e];have:fY ((y,d)::l) x=fY l x:=by simp[fY,q]
      rw[this];exact TK.get x ⟨g1,ht⟩
theorem cC.snoc{K:Frag}:∀{vs:List V} {ds:List D},cC K H vs ds->HD K H v d->cC K H (vs++[v]) (ds++[d])
 |[],[],.nil,h=>.cons h .nil
 |_::_,_::_,.cons a b,h=>.cons a (b.snoc h)
theorem TK.put{K:Frag}(h:TK K H aX l)(hv:HD K H v d):TK K H (putK aX (.inr x) v) (dJ l x d):=by
 have ea:∀(aX:List (Key×V)) (l:List (Str×D)),aX.map (·.1)=l.map (λx=>(.inr x.1:Key))->(aX.any λkv=>decide (kv.1=.inr x))=l.any λp=>decide (p.1=x):=λaX l e=>by
  rw[show(aX.any λkv=>decide (kv.1=.inr x))=(aX.map (·.1)).any λk=>decide (k=.inr x)by rw[ael];rfl,e,ael];congr 1;funext p;show decide ((Sum.inr p.1:Key)=.inr x)=_;exact decide_eq_decide.mpr ⟨λz=>Sum.inr.inj z,λz=>by rw[z]⟩
 unfold putK dJ
 rw[ea aX l h.1]
 split
 .have mp:∀(aX:List (Key×V)) (l:List (Str×D)),TK K H aX l->TK K H (aX.map λkv=>if kv.1=.inr x then(kv.1,v)else kv) (l.map λp=>if p.1=x then(p.1,d)else p):=by
   intro aX;induction aX with
   |nil=>intro l h;cases l with|nil=>exact⟨rfl,.nil⟩|cons _ _=>cases h.1
   |cons kv aX ih=>
     intro l h;cases l with
     |nil=>cases h.1
     |cons p l=>
       obtain⟨k,u⟩:=kv;obtain⟨y,e⟩:=p;obtain⟨h1,h2⟩:=h;have hk:=(acI h1).1;have g1:=(acI h1).2;subst hk;cases h2 with
       |cons hd ht=>
         obtain⟨i1,i2⟩:=ih l ⟨g1,ht⟩;by_cases q:y=x
         .have e1:(Sum.inr y:Key)=.inr x:=by rw[q]
          simp only[aaw,aaq e1,aaq q];exact⟨by rw[aaw,aaw,i1],.cons hv i2⟩
         .have e1:¬(Sum.inr y:Key)=.inr x:=λz=>q (Sum.inr.inj z);simp only[aaw,aaO e1,aaO q];exact⟨by rw[aaw,aaw,i1],.cons hd i2⟩
  exact mp aX l h
 .exact ⟨by rw[abb,abb,h.1];rfl,by rw[abb,abb];exact h.2.snoc hv⟩
theorem TK.len{K:Frag}(h:TK K H aX l):aX.length=l.length:=by
 have:=ab7 List.length h.1
 rwa [aaj,aaj]at this
def ye(C:Addr)(K:Frag)(H Hw:Hp)(a dx p q:Addr)(s:Dk):Prop:=H a=some (.ins C dx [("plans",.ref p),("lots",.ref q)])/\H dx=some (.own a)/\(∃kp,H p=some (.dK kp)/\TK K Hw kp s.pl)/\(∃kq,H q=some (.dK kq)/\TK K Hw kq s.lo)/\p≠q
theorem ye.own{K:Frag}(h:ye C K H Hw a dx p q s):∀x∈[a,dx,p,q],∃o,H x=some o/\uG o:=λx hx=>by
 obtain⟨h1,h2,⟨_,h3,_⟩,⟨_,h4,_⟩,_⟩:=h
 simp at hx
 rcases hx with rfl|rfl|rfl|rfl
 .exact ⟨_,h1,trivial⟩
 .exact ⟨_,h2,trivial⟩
 .exact ⟨_,h3,trivial⟩
 .exact ⟨_,h4,trivial⟩
theorem ye.mono{K:Frag}(h:ye C K H Hw a dx p q s)(k:∀x∈[a,dx,p,q],H' x=H x)(e:aA Hw BC):ye C K H' BC a dx p q s:=by
 obtain⟨h1,h2,⟨kp,h3,t3⟩,⟨kq,h4,t4⟩,hn⟩:=h
 exact⟨(k a (by simp)).trans h1,(k dx (by simp)).trans h2,⟨kp,(k p (by simp)).trans h3,t3.same e⟩,⟨kq,(k q (by simp)).trans h4,t4.same e⟩,hn⟩
def EV(C a dx p q:Addr):yc Dk where
 P K H Hw B s:=B=[a,dx,p,q]/\ye C K H Hw a dx p q s
 own h x hx:=h.2.own x (by rw[<-h.1];exact hx)
 mono h k e:=⟨h.1,h.2.mono (by rw[<-h.1];exact k) e⟩
structure o6{S:Type}(Γ:yc S)(C a dx p q:Addr)(get:S->Dk)(set:S->Dk->S):Prop where
 sp:∀{K H Hw B s},Γ.P K H Hw B s->∃B2,(∀x,x∈B↔x∈[a,dx,p,q]++B2)/\(∀x∈B2,x∉[a,dx,p,q])/\ye C K H Hw a dx p q (get s)/\∀{H' BC:Hp} {k':Dk},ye C K H' BC a dx p q k'->(∀x∈B2,H' x=H x)->aA Hw BC->Γ.P K H' BC B (set s k')
theorem o7:o6 (EV C a dx p q) C a dx p q id (λ_ k=>k):=⟨λ{K H Hw B s} h=>⟨[],by rw[h.1,abk];exact λ_=>Iff.rfl,λ_ z=>(nomatch z),h.2,λk _ _=>⟨h.1,k⟩⟩⟩
theorem Ls.congr(h:Ls A H)(e:∀x,x∈B->x∈A):Ls B H:=⟨λx hx=>h.1 x (e x hx),h.2⟩
def lC(K:Frag)(C:Addr)(n:Nat)(G:Addr->List D->Dk->Option (D×Dk)):Sp:=λvs H Q _=>vs.length=n/\∃a dx p q A ds s d s',Ls ([a,dx,p,q]++A) H/\(∀x∈A,x∉[a,dx,p,q])/\ye C K H (wo H ([a,dx,p,q]++A)) a dx p q s/\cC K (wo H ([a,dx,p,q]++A)) vs ds/\ds[0]?=some (a9 a)/\G a ds s=some (d,s')/\
 ∀v H',cg [a,dx,p,q] H H'->ye C K H' (wo H' ([a,dx,p,q]++A)) a dx p q s'->HD K (wo H' ([a,dx,p,q]++A)) v d->Q v H'
noncomputable def outD{S:Type}:Res×S->Option (D×S)
 |(.nx _,s)=>some (.none,s)
 |(.rt d,s)=>some (d,s)
 |_=>none
def kO{S:Type}(n:Nat)(g:Addr->GD S)(a:Addr)(ds:List D)(s:S):Option (D×S):=(g a (ds.map some++List.replicate (n-ds.length) none) s).bind outD
section
variable {P:Program}{w:World}{K:Frag}{mg:dO}{base:Heap}{x qual:Str}{st:Stmt}{N ps:List Str}{k:Nat}{C:Addr}
theorem LN(hO:∀i∈O,ps.length<=i)(hN:N.length=n)(h:lC K C ps.length (kO n g) vs H Q E)(hx:xk=λ_ _=>True):
  ∃a dx p q,oS K O (EV C a dx p q) xk (g a) {nx:=λ_ H'=>Q .ib H',rt:=Q} (start N vs) H:=by
 subst hN hx
 obtain⟨hn,a,dx,p,q,A,ds,s,d,s',al,dj,hp,hd,_,e,qq⟩:=h
 obtain⟨⟨r,s1⟩,e1,e2⟩:=bind1 e
 refine⟨a,dx,p,q,wo H [a,dx,p,q],[a,dx,p,q],[],A,_,s,r,s1,⟨Rel.start al hd (λi hi=>by have:=hO i hi;rw[<-hd.len,hn];exact this),⟨rfl,hp⟩,λ_ z=>(nomatch z),dj⟩,⟨bN,λ_ z=>(nomatch z),λ_ z=>dG z,Ct al dj⟩,e1,?_⟩
 have sx:∀{H':Hp},aA (wo H [a,dx,p,q]) H'->cg [a,dx,p,q] H H':=λz b o nb hb=>z b o (by rw[aN nb];exact hb)
 cases r with
 |nx δ=>
   cases e2;intro B U σ H' R F';obtain⟨rfl,pk⟩:=R.pr;exact qq .ib H' (sx F'.same) pk .ib
 |rt d=>
   cases e2;refine⟨λB v H' h n pk hv=>?_,λ_ _ _ _ _ _ _=>trivial⟩;obtain⟨rfl,pk⟩:=pk;exact qq v H' (sx h) pk hv
 |bk _=>cases e2
 |ct _=>cases e2
theorem GV(O:List Nat)(g:Addr->GD Dk)(F:Df K mg x st ps)(S:aB N ps (ah st))
  (body:∀(a dx p q f:Addr) (cn:Value) (A:Around) (outer:List Env) (s:Shared) (H:Hp) (E:XK),de k (A.deeper (envOfC x (ah st) s.heap.objs.size f cn))->jy (jd xQ P w K mg base N x (ah st) f cn A outer s H E).JG (bP st) (oS K O (EV C a dx p q) (λ_ _=>True) (g a)))
  (hO:∀i∈O,ps.length<=i:=by decide)(hN:N.length=n:=by rfl)(hP:ps.length=m:=by rfl):Dn P w K mg base (k+1) x ps (lC K C m (kO n g)):=by
 subst hP
 refine F.ok S (λvs H Q E h=>h.1) (λf cn A outer s H vs Q E hr h=>?_)
 obtain⟨a,dx,p,q,t⟩:=LN hO hN h rfl
 exact⟨_,body a dx p q f cn A outer s H E hr,t⟩
def Rc(P:Program)(w:World)(K:Frag)(mg:dO)(base:Heap)(k:Nat)(C:Addr)(m:Str)(ps:List Str)(sp:Sp):Prop:=
 ∃f fd,la P w K mg base xQ k f fd ps sp/\mn K C m f/\Binds K fd ps []
theorem qQ(O:List Nat)(g:Addr->GD Dk)(F:xR K x qual st f fd)(M:mn K C x f)(B:Binds K fd ps [])(S:aB N ps (ah st))
  (body:∀(a dx p q f:Addr) (cn:Value) (A:Around) (outer:List Env) (s:Shared) (H:Hp) (E:XK),de k (A.deeper (envOfC qual (ah st) s.heap.objs.size f cn))->jy (jd xQ P w K mg base N qual (ah st) f cn A outer s H E).JG (bP st) (oS K O (EV C a dx p q) (λ_ _=>True) (g a)))
  (hO:∀i∈O,ps.length<=i:=by decide)(hN:N.length=n:=by rfl)(hP:ps.length=m:=by rfl):Rc P w K mg base (k+1) C x ps (lC K C m (kO n g)):=by
 subst hP
 refine⟨f,fd,F.ok S (λvs H Q E h=>h.1) (λcn A outer s H vs Q E hr h=>?_),M,B⟩
 obtain⟨a,dx,p,q,t⟩:=LN hO hN h rfl
 exact⟨_,body a dx p q f cn A outer s H E hr,t⟩
end
theorem iz{K:Frag}(h:HD K H v (a9 a)):v=.ref a:=by
 generalize e:a9 a=d at h
 unfold a9 at e
 cases h with
 |ptr b=>
   simp at e;rw[show a=b by exact Int.ofNat.inj e]
 |@uH _ aX kds h1 h2 h3=>
   cases e;cases aX with
   |nil=>cases h2
   |cons p r=>cases(acI h2).1
 |exc h1 h2=>cases e
 |_=>cases e
open Classical in
def Rf {S α:Type} (j:Nat) (a:Addr) (g:DS->S->Option α):DS->S->Option α:=λδ s=>if δ[j]?=some (some (a9 a))then g δ s else none
theorem qR(h:Rf j a g δ s=some r):δ[j]?=some (some (a9 a))/\g δ s=some r:=by
 unfold Rf at h
 split at h
 .grind
 .cases h
theorem An(h:δ[j]?=some (some (a9 a)))(e:g δ s=r):Rf j a g δ s=r:=by
 unfold Rf
 rw[aaq h];exact e
noncomputable def wj{S:Type}(get:S->Dk)(set:S->Dk->S)(f:Dk->Option (D×Dk))(s:S):Option (D×S):=(f (get s)).bind λr=>some (r.1,set s r.2)
def cP{S:Type}(get:S->Dk)(set:S->Dk->S)(j:Nat)(a:Addr)(G:Addr->List D->Dk->Option (D×Dk))(n:Nat)(gr:cq):DS->S->Option (D×S):=Rf j a λδ s=>(gr δ).bind λds=>if ds.length+1=n then wj get set (G a (a9 a::ds)) s else none
section
variable {S:Type}{Γ:yc S}{get:S->Dk}{set:S->Dk->S}{X:Cx}{O:List Nat}{C a dx p q:Addr}{k kk n j:Nat}{m x:Str}{ps:List Str}{G:Addr->List D->Dk->Option (D×Dk)}{gr:cq}{apos pos pH pos':Pos}{o e i value:Expr}{es:List Expr}{xk:Str->Hp->Prop}
theorem LO(hd:o6 Γ C a dx p q get set)(R:c6 X.K O Γ B U A0 σ δ H s)(sm:aA H H')(hn:ds.length=n)(h0:ds[0]?=some (a9 a))(hs:cC X.K (wo H' (U++(B++A0))) vs ds)(e:wj get set (G a ds) s=some (d,s'))
  (qq:∀B' v H',cg B H H'->(∀x∈B',x∈B\/H x=none)->c6 X.K O Γ B' U A0 σ δ H' s'->HD X.K (wo H' (U++(B'++A0))) v d->Q v H'):lC X.K C n G vs H' Q E0:=by
 have R':=R.same sm
 obtain⟨⟨d1,k1⟩,e1,e2⟩:=bind1 e
 cases e2
 obtain⟨B2,hB,hdj,hp,Uu⟩:=hd.sp R'.p
 have mem:∀x,x∈U++(B++A0)↔x∈[a,dx,p,q]++(U++(B2++A0)):=λx=>by grind
 have ew:∀h:Hp,wo h (U++(B++A0))=wo h ([a,dx,p,q]++(U++(B2++A0))):=λh=>kN mem
 have sub:=λx hx=>(hB x).mpr (aar _ hx)
 refine⟨by rw[hs.len];exact hn,a,dx,p,q,U++(B2++A0),ds,get s,d1,k1,R'.r.al.congr (λx hx=>(mem x).mpr hx),λx hx=>?_,ew H' ▸ hp,ew H' ▸ hs,h0,e1,λv H2 k2 p2 h2=>?_⟩
 .rcases aaf.mp hx with z|z;.exact λy=>R.dj x z (sub x y)
  .rcases aaf.mp z with z|z;.grind
   .exact λy=>R.da x z (sub x y)
 .rw [<-ew]at p2 h2;have sx:cg B H' H2:=λb o nb hb=>k2 b o (λz=>nb (sub b z)) hb;refine qq B v H2 ((cg.of sm).trans sx) (λ_ z=>.inl z) (R'.grow sx (Uu p2 (λx hx=>?_) (sx.wo c6.K8))) h2;obtain⟨o,ho,_⟩:=Γ.own R'.p x ((hB x).mpr (aad _ hx));rw[ho,k2 x o (hdj x hx) ho]
set_option tactic.hygienic true in
theorem fe(hd:o6 Γ C a dx p q get set)(F:Rc X.prog X.w X.K X.mg X.base k C m ps (lC X.K C n G))(c:rV X.K C)(hr:de kk X.A)(hk:k<=kk)(hv:PE X o (iO j))(ha:PA X (e::es) (vD X.K O gr))(hj:j∉O:=by decide)(hl:∀u w:V,([("plans",u),("lots",w)]:List (Str×V)).lookup m=none:=by intro _ _;rfl)
  (Bv:starEach (e::es) X.env=(false,eval e X.env)::starEach es X.env:=by rfl)(i8:(backTo pos (starEach es X.env)).any (·.1)=false:=by rfl)
  (ht:eval (.Call (.Attribute o m apos) (e::es) [] pos) X.env=(do
   let ov <-eval o X.env
   standAt apos.atName
   let(f,first) <-holding [ov] (getMethod ov m pl)
   callWith pos f first (backTo pos (starEach (e::es) X.env)) (backToKw pos (keywordEach [] X.env))):=by rfl):
  PE X (.Call (.Attribute o m apos) (e::es) [] pos) (xI X.K O Γ (cP get set j a G n gr)):=by
 obtain⟨f,fd,F,M,B⟩:=F
 refine(Gj (pl:=pl) hv c M F (hr.mono hk) B .nil Kk ha Bv i8 ht).mono λσ H Q ⟨B,U,A0,δ,s,d,s',R,ed,qq⟩=>?_
 obtain⟨h0,ed⟩:=qR ed
 obtain⟨ds,e1,e2⟩:=bind1 ed
 split at e2
 rotate_left
 .grind
 rename_i hn
 obtain⟨v,hv,hp⟩:=R.r.fz j (a9 a) hj h0
 obtain rfl:=iz hp
 obtain⟨_,_,_,Uv,_⟩:=hd.sp R.p
 refine⟨.ref a,hv,a,dx,_,rfl,Uv.1,hl _ _,U,B++A0,δ,ds,R.r,e1,λvs H' sm hs=>?_⟩
 show lC X.K C n G (.ref a::(vs++[])) H' Q E0
 rw[abk]
 exact LO (ds:=a9 a::ds) hd R sm hn rfl (.cons (.ptr a) hs) e2 qq
open Classical in
def zd (get:S->Dk) (set:S->Dk->S) (a:Addr) (G:Addr->List D->Dk->Option (D×Dk)) (n:Nat) (gr:cq):DS->S->Option (D×S):=λδ s=>(gr δ).bind λds=>if ds.length=n/\ds[0]?=some (a9 a)then wj get set (G a ds) s else none
set_option tactic.hygienic true in
theorem Cv(hd:o6 Γ C a dx p q get set)(F:Dn X.prog X.w X.K X.mg X.base k x ps (lC X.K C n G))(hr:de kk X.A)(hk:k<=kk)(ha:PA X (e::es) (vD X.K O gr))(hg:Gl X x:=by rfl)
  (pf:(x==("__debug__":Str))=false:=by decide)(he:starEach (e::es) X.env=(false,eval e X.env)::starEach es X.env:=by rfl)(i8:(backTo pos (starEach es X.env)).any (·.1)=false:=by rfl):
  PE X (.Call (.Name x pH) (e::es) [] pos) (xI X.K O Γ (zd get set a G n gr)):=(yU F hr hk ha hg pf he i8).mono λσ H Q ⟨B,U,A0,δ,s,d,s',R,ed,qq⟩=>by
 obtain⟨ds,e1,e2⟩:=bind1 ed
 split at e2
 rotate_left
 .grind
 rename_i hn
 refine⟨U,B++A0,δ,ds,R.r,e1,λvs H' sm hs=>?_⟩
 show lC X.K C n G (vs++[]) H' Q E0
 rw[abk]
 exact LO hd R sm hn.1 hn.2 hs e2 qq
noncomputable def Pf(b:Bool):Str:=if b=true then "plans" else "lots"
def Dk.fld(s:Dk)(b:Bool):List (Str×D):=if b=true then s.pl else s.lo
def Dk.put(s:Dk)(b:Bool)(l:List (Str×D)):Dk:=if b=true then⟨l,s.lo⟩else⟨s.pl,l⟩
theorem Ao{K:Frag}(b:Bool)(h:ye C K H Hw a dx p q s):∃r kv,H a=some (.ins C dx [("plans",.ref p),("lots",.ref q)])/\([("plans",.ref p),("lots",.ref q)]:List (Str×V)).lookup (Pf b)=some (.ref r)/\r∈[a,dx,p,q]/\H r=some (.dK kv)/\TK K Hw kv (s.fld b)/\
  ∀{H' BC:Hp} {Uw:List (Key×V)} {l':List (Str×D)},H'=upd H r (.dK Uw)->aA Hw BC->TK K BC Uw l'->ye C K H' BC a dx p q (s.put b l'):=by
 obtain⟨h1,h2,⟨kp,h3,t3⟩,⟨kq,h4,t4⟩,hn⟩:=h
 have n1:a≠p:=λz=>by rw[<-z,h1]at h3;cases h3
 have n2:a≠q:=λz=>by rw[<-z,h1]at h4;cases h4
 have n3:dx≠p:=λz=>by rw[<-z,h2]at h3;cases h3
 have n4:dx≠q:=λz=>by rw[<-z,h2]at h4;cases h4
 cases b with
 |true=>
   refine⟨p,kp,h1,rfl,by simp,h3,t3,?_⟩;rintro H' BC Uw l' rfl s t;exact⟨by rw[av n1];exact h1,by rw[av n3];exact h2,⟨Uw,az,t⟩,⟨kq,by rw[av (acb hn)];exact h4,t4.same s⟩,hn⟩
 |false=>
   refine⟨q,kq,h1,rfl,by simp,h4,t4,?_⟩;rintro H' BC Uw l' rfl s t;exact⟨by rw[av n2];exact h1,by rw[av n4];exact h2,⟨kp,by rw[av hn];exact h3,t3.same s⟩,⟨Uw,az,t⟩,hn⟩
theorem EW{K:Frag}(h:HD K H v (.str y)):v=.str y:=by cases h;rfl
def wm(b:Bool)(j:Nat)(a:Addr)(gk:be)(gv:DS->Dk->Option (D×Dk)):GD Dk:=Rf j a λδ s=>(gv δ s).bind λd=>(gk δ).bind λy=>match y with
 |.str x=>if(d.2.fld b).length<100000 then some (.nx δ,d.2.put b (dJ (d.2.fld b) x d.1))else none
 |_=>none
set_option tactic.hygienic true in
theorem Ap(b:Bool)(hf:f=Pf b)(c:rV X.K C)(na:et X.K C f)(hu:X.A.units+1<cLine)(hv:PE X o (iO j))(hi:PE X i (tE X.K O gk))(Ir:PE X value (xI X.K O (EV C a dx p q) gv))(hj:j∉O:=by decide)
  (hb:attributeBase o f X.env (eval o X.env)=eval o X.env:=by rfl)(hs:swapsWith value (some (.Subscript (.Attribute o f apos) i pos')) pos.line X.env=pure false:=by rfl):
  PS X (.Assign [.Subscript (.Attribute o f apos) i pos'] value pos) (oS X.K O (EV C a dx p q) xk (wm b j a gk gv)):=(vb hu (D8 hv hb) hi Ir hs).mono λE σ H ⟨H0,B,U,A0,δ,s,r,s',R,F,ed,P⟩=>by
 subst hf
 obtain⟨h0,ed⟩:=qR ed
 obtain⟨⟨d,s1⟩,e1,e2⟩:=bind1 ed
 obtain⟨y,e3,e4⟩:=bind1 e2
 cases y with
 |str z=>
   have e4:(if(s1.fld b).length<100000 then some (Res.nx δ,s1.put b (dJ (s1.fld b) z d))else none)=some (r,s'):=e4;split at e4;rotate_left;.grind
   rename_i hl;cases e4;refine⟨B,U,A0,δ,s,d,s1,R,e1,λB1 v H1 k1 n1 R1 hv1=>?_⟩;obtain⟨rfl,pk1⟩:=R1.p;obtain⟨u,Ux,hd⟩:=R1.r.fz j (a9 a) hj h0;obtain rfl:=iz hd;obtain⟨r,kv,ea,el,hr,hk,tk,put⟩:=Ao b pk1;refine⟨.ref a,Ux,a,C,dx,_,.ref r,rfl,ea,c,na,el,U,[a,dx,p,q]++A0,δ,_,R1.r,e3,λyv H2 k2 hy=>?_⟩;obtain rfl:=EW hy;have R2:=R1.same k2;have V4:=k2 r _ hk;have sx:cg [a,dx,p,q] H2 (upd H2 r (.dK (putK kv (.inr z) v))):=λb o nb hb=>by rw[av λw=>nb (by rw[w];exact hr)];exact hb
   have sw:=sx.wo (A:=U++([a,dx,p,q]++A0)) c6.K8;have YJ:=R2.p.2;obtain⟨r',Uw,ea',el',hr',TQ,tk',acd⟩:=Ao b YJ;have er:r'=r:=by rw[el]at el';cases el';rfl
   subst er;have F1:=(F.qO k1 n1).grow ((cg.of k2).trans sx);exact⟨r',_,rfl,BW.k (k:=.inr z) V4 (by rw[tk.len];exact small hl),P _ U σ _ (R2.grow sx ⟨rfl,acd rfl sw (((tk.same (bE k2)).same sw).put ((hv1.same (bE k2)).same sw))⟩) F1⟩
 |_=>cases e4
def ze(b:Bool)(j:Nat)(a:Addr)(gk:be):DS->Dk->Option (D×Dk):=Rf j a λδ s=>(gk δ).bind λy=>match y with
 |.str x=>(fY (s.fld b) x).bind λd=>some (d,s)
 |_=>none
theorem GW(b:Bool)(hf:f=Pf b)(c:rV X.K C)(na:et X.K C f)(hu:X.A.units+1<cLine)(hv:PE X o (iO j))(hi:PE X i (tE X.K O gk))(hj:j∉O:=by decide)
  (hb:attributeBase o f X.env (eval o X.env)=eval o X.env:=by rfl)(hs:Kl i:=by intro _ _;rfl):PE X (.Subscript (.Attribute o f apos) i pos) (xI X.K O (EV C a dx p q) (ze b j a gk)):=(Gq hu (D8 hv hb) hi hs).mono λσ H Q ⟨B,U,A0,δ,s,d,s',R,ed,qq⟩=>by
 subst hf
 obtain⟨rfl,pk⟩:=id R.p
 obtain⟨h0,ed⟩:=qR ed
 obtain⟨y,e3,e4⟩:=bind1 ed
 cases y with
 |str z=>
   obtain⟨d',e5,e6⟩:=bind1 e4;cases e6;obtain⟨u,Ux,hd⟩:=R.r.fz j (a9 a) hj h0;obtain rfl:=iz hd;obtain⟨r,kv,ea,el,hr,hk,tk,_⟩:=Ao b pk;refine⟨.ref a,Ux,a,C,dx,_,.ref r,rfl,ea,c,na,el,U,[a,dx,p,q]++A0,δ,_,R.r,e3,λyv H2 k2 hy=>?_⟩;obtain rfl:=EW hy;rcases(tk.same (bE k2)).get z with⟨g1,_⟩|⟨d2,v,g1,g2,hv⟩;.grind
   .rw [g1]at e5;cases e5;exact⟨r,v,rfl,by rw[<-g2];exact ph.k (k:=.inr z) (k2 r _ hk),qq _ v H2 (.of k2) (λ_ z=>.inl z) (R.same k2) hv⟩
 |_=>cases e4
def zf(b:Bool)(j:Nat)(a:Addr)(gk:be):DS->Dk->Option (Bool×Dk):=Rf j a λδ s=>(gk δ).bind λy=>match y with
 |.str x=>some (!(fY (s.fld b) x).isSome,s)
 |_=>none
theorem GX(b:Bool)(hf:f=Pf b)(c:rV X.K C)(na:et X.K C f)(hu:X.A.units+1<cLine)(hv:PE X o (iO j))(hi:PE X i (tE X.K O gk))(hj:j∉O:=by decide)
  (hb:attributeBase o f X.env (eval o X.env)=eval o X.env:=by rfl)(hm:behindInMarks .NotIn (.Attribute o f apos)=false:=by rfl):PT X (.Compare i [.NotIn] [.Attribute o f apos] pos) (LK X.K O (EV C a dx p q) (zf b j a gk)):=(SG (Ic hu hi (D8 hv hb)) hm).mono λσ H Q ⟨B,U,A0,δ,s,d,s',R,ed,qq⟩=>by
 subst hf
 obtain⟨rfl,pk⟩:=id R.p
 obtain⟨h0,ed⟩:=qR ed
 obtain⟨y,e3,e4⟩:=bind1 ed
 cases y with
 |str z=>
   cases e4;refine⟨U,[a,dx,p,q]++A0,δ,_,R.r,e3,λyv H2 k2 hy=>?_⟩;obtain rfl:=EW hy;have R2:=R.same k2;obtain⟨u,Ux,hd⟩:=R2.r.fz j (a9 a) hj h0;obtain rfl:=iz hd;obtain⟨r,kv,ea,el,hr,hk,tk,_⟩:=Ao b R2.p.2;refine⟨.ref a,Ux,a,C,dx,_,.ref r,rfl,ea,c,na,el,?_⟩;refine⟨r,_,rfl,ph.k (k:=.inr z) hk,_,rfl,?_⟩;rcases tk.get z with⟨g1,g2⟩|⟨d2,v,g1,g2,hv⟩;.rw [g2];rw[g1]at qq;exact qq _ H2 (.of k2) (λ_ z=>.inl z) R2
   .rw [g2];rw[g1]at qq;exact qq _ H2 (.of k2) (λ_ z=>.inl z) R2
 |_=>cases e4
end
section
variable {S:Type}{Γ:yc S}{X:Cx}{O:List Nat}{a b:Expr}{pos pH:Pos}{x:Str}{ps:List Str}{k kk:Nat}
theorem Uy(ha:PE X a (xI X.K O Γ ga))(hb:PE X b (gz X.K O gb))(hs:u9 b:=by exact λ_ _=>rfl):PE X (.Subscript a b pos) (xI X.K O Γ (d2 bw ga gb)):=(Kf Ed ha hb hs).mono λ_ _ _=>LM KA
noncomputable def Aq(G:List D->Option D)(ga:DS->S->Option (D×S)):DS->S->Option (D×S):=λδ s=>(ga δ s).bind λr=>(G [r.1]).bind λd=>some (d,r.2)
theorem Ja(F:Dn X.prog X.w X.K X.mg X.base k x ps (kF X.K 1 G))(hr:de kk X.A)(hk:k<=kk)(ha:PE X a (xI X.K O Γ ga))(hg:Gl X x:=by rfl)
  (pf:(x==("__debug__":Str))=false:=by decide)(he:starEach [a] X.env=(false,eval a X.env)::starEach [] X.env:=by rfl)(i8:(backTo pos (starEach ([]:List Expr) X.env)).any (·.1)=false:=by rfl):
  PE X (.Call (.Name x pH) [a] [] pos) (xI X.K O Γ (Aq G ga)):=(yU F hr hk (aY ha b9 he) hg pf he i8).mono λσ H Q ⟨B,U,A0,δ,s,d,s',R,ed,qq⟩=>by
 obtain⟨⟨y,s1⟩,e1,e2⟩:=bind1 ed
 obtain⟨d',e3,e4⟩:=bind1 e2
 cases e4
 refine⟨B,U,A0,δ,s,y,s1,R,e1,λB1 v H1 k1 n1 R1 h1=>?_⟩
 exact⟨rfl,U++(B1++A0),[y],_,R1.r.al,.cons h1 .nil,e3,λu H2 s2 h2=>qq B1 u H2 (k1.trans (.of s2)) n1 (R1.same s2) h2⟩
noncomputable def Cw(ga:DS->S->Option (D×S))(gb:be):DS->S->Option (D×S):=λδ s=>(ga δ s).bind λr=>(gb δ).bind λy=>some (.tuple [r.1,y],r.2)
theorem LP(ha:PE X a (xI X.K O Γ ga))(hb:PE X b (tE X.K O gb))(h1:starEach [a,b] X.env=(false,eval a X.env)::starEach [b] X.env:=by rfl)(h2:starEach [b] X.env=(false,eval b X.env)::starEach [] X.env:=by rfl):
  PE X (.Tuple [a,b] x1 pos) (xI X.K O Γ (Cw ga gb)):=(Eb (aY ha (aY hb b9 h2) h1)).mono λσ H Q ⟨B,U,A0,δ,s,d,s',R,ed,qq⟩=>by
 obtain⟨⟨y,s1⟩,e1,e2⟩:=bind1 ed
 obtain⟨z,e3,e4⟩:=bind1 e2
 cases e4
 refine⟨B,U,A0,δ,s,y,s1,R,e1,λB1 v H1 k1 n1 R1 h1=>⟨U,B1++A0,δ,z,R1.r,e3,λu H2 s2 h2=>⟨by show 2<=sizeLine;decide,λp hp=>?_⟩⟩⟩
 have s3:aA H1 (upd H2 p (.tup [v,u])):=s2.trans (bj hp _)
 exact qq B1 _ _ (k1.trans (.of s3)) n1 (R1.same s3) (HD.xU (R1.same s2).r.al hp (.cons (h1.same (bE s2)) (.cons h2 .nil)))
end
def Ar(K:Frag)(C:Addr):Sp:=λvs H Q _=>∃x dx,vs=[.ref x]/\H x=some (.ins C dx [])/\H dx=some (.own x)/\∀p q,H p=none->H q=none->p≠q->Q .ib (upd (upd (upd H p (.dK [])) q (.dK [])) x (.ins C dx [("plans",.ref p),("lots",.ref q)]))
def EX:TE:=λ_ H Q=>∀p,H p=none->Q (.ref p) (upd H p (.dK []))
theorem Cy:PE X (.Dict [] [] pos) EX:=λpins s σ H Q I h=>
 wpAny_Dict_empty ⟨.ref s.heap.objs.size,_,I.laid (a:=s.heap.objs.size) (o:=.dK []) (t':=s.toks) (λ_ _ q=>aab _ q) (aah _) (Km s.heap I.big),rfl,h _ (I.bM.fresh (aah _))⟩
theorem LQ{K:Frag}(c:rV K C)(n1:et K C "plans")(n2:et K C "lots")(h:Ar K C vs H Q E):
  (λ(D:Ends) σ H=>S4 K (iO 0) EX "plans" {nx:=λBu H1=>S4 K (iO 0) EX "lots" D Bu H1,rt:=D.rt,bk:=D.bk,ct:=D.ct} σ H) {nx:=λ_ H'=>Q .ib H',rt:=Q} (start ["self"] vs) H:=by
 obtain⟨x,dx,rfl,h1,h2,q⟩:=h
 intro p hp
 refine⟨.ref x,rfl,x,C,dx,[],rfl,?_,c,n1,by decide,λr hr=>⟨.ref x,rfl,x,C,dx,kC "plans" (.ref p) [],rfl,?_,c,n2,by show 1<1000;decide,?_⟩⟩
 .rw [av λz=>by rw[z,hp]at h1;cases h1];exact h1
 .rw [av λz=>by rw[z]at hr;rw[az]at hr;cases hr];exact az
 .have e1:p≠x:=λz=>by rw[z,h1]at hp;cases hp
  have e2:r≠x:=λz=>by rw[z]at hr;rw[az]at hr;cases hr
  have e3:p≠r:=λz=>by rw[<-z,av e1,az]at hr;cases hr
  have hr0:H r=none:=by
   rw[av e2,av (acb e3)]at hr;exact hr
  have:=q p r hp hr0 e3;have eh:upd (upd (upd (upd H p (.dK [])) x (.ins C dx (kC "plans" (.ref p) []))) r (.dK [])) x (.ins C dx (kC "lots" (.ref r) (kC "plans" (.ref p) [])))=upd (upd (upd H p (.dK [])) r (.dK [])) x (.ins C dx [("plans",.ref p),("lots",.ref r)]):=by
   funext b;by_cases b1:b=x;.subst b1;rw[az,az];rfl
   .rw [av b1,av b1];by_cases b2:b=r;.subst b2;rw[az,az]
    .rw [av b2,av b2,av b1]
  rw[eh];exact this
open Classical in
def EY {α:Type} (g:Addr->Option α):Option α:=if h:∃d,∀a,g a=some d then some h.choose else none
set_option tactic.hygienic true in
theorem wq(h:EY g=some d)(a:Addr):g a=some d:=by
 unfold EY at h
 split at h
 .grind
 .cases h
theorem As(h:∀a,g a=some d):EY g=some d:=by
 have x:∃d,∀a,g a=some d:=⟨d,h⟩
 unfold EY
 rw[dif_pos x]
 exact(x.choose_spec 0).symm.trans (h 0)
def ace{S:Type}:Res×S->Option Res
 |(.rt d,_)=>some (.rt d)
 |_=>none
def Au(j:Nat)(g:Addr->GD Dk):bB:=λδ=>EY λa=>(g a (δ.set j (some (a9 a))) ⟨[],[]⟩).bind ace
section
variable {X:Cx}{O:List Nat}{C f:Addr}{fd:FuncData}{k kk j:Nat}{x y:Str}{pH pos LR pos':Pos}{rest:List Stmt}{xk:Str->Hp->Prop}
theorem Rel.hide{K:Frag}(R:Rel K O U A0 σ δ H)(s:aA H H')(n:∀x∈B,H x=none)(w:∀x∈B,∃o,H' x=some o/\uG o):Rel K O U (B++A0) σ δ H':=by
 have k:aA (wo H (U++A0)) (wo H' (U++(B++A0))):=λb o hb=>by
  have nb:b∉U++A0:=λz=>by rw[dG z]at hb;cases hb
  rw[aN nb]at hb;rw[aN λz=>?_];.exact s b o hb
  .grind
 refine⟨R.len,λi d hi ed=>?_,λi d hi ed=>?_,R.inj,λx hx=>?_,λp xs m=>s.mq (R.al.2 p xs m)⟩
 .obtain ⟨v,a,b⟩:=R.fz i d hi ed;exact⟨v,a,b.same k⟩
 .obtain ⟨l,o,a,b,c,v⟩:=R.ow i d hi ed;exact⟨l,o,a,b,s l o c,v.same k⟩
 .rcases aaf.mp hx with y|y
  .obtain ⟨o,e,v⟩:=R.al.1 x (aar _ y);exact⟨o,s x o e,v⟩
  .rcases aaf.mp y with y|y;.grind
   .obtain ⟨o,e,v⟩:=R.al.1 x (aad _ y);exact⟨o,s x o e,v⟩
theorem LU(M:Mk X.K C f)(F:la X.prog X.w X.K X.mg X.base xQ k f fd ["self"] (Ar X.K C))(hr:de kk X.A)(hk:k+1<=kk)(hm:X.mg x=some (.ref C))(hb:Binds X.K fd ["self"] [])(hN:X.N.Nodup)(hi:X.N[j]?=some y)(hx:Loc X.env.scope y)
  (LV:∀a dx p q,jy X rest (oS X.K O (EV C a dx p q) xk (g a)))(hj:j∉O:=by decide)(hg:Gl X x:=by rfl)(pf:(x==("__debug__":Str))=false:=by decide)
  (hs:swapsWith (.Call (.Name x pH) [] [] pos) (some (.Name y LR)) pos'.line X.env=pure false:=by rfl)(hf:X.fn y=true\/X.env.scope.names.lookup y=some .local:=by first|exact .inl rfl|exact .inr rfl):
  jy X (.Assign [.Name y LR] (.Call (.Name x pH) [] [] pos) pos'::rest) (tS X.K O (false,xk) (Au j g)):=by
 have h2:jy X rest (λE σ H=>∃a dx p q,oS X.K O (EV C a dx p q) xk (g a) E σ H):=λpins s σ H E I ⟨a,dx,p,q,t⟩=>LV a dx p q pins s σ H E I t
 refine(mH (fR hN hi hx (Kd M F (hr.mono hk) hg hm hb .nil Kk pf) hs hf) h2).mono λE σ H hh=>hh.e λH0 U A0 δ r R F0 ed P=>?_
 intro a dx ha hdx gK
 refine⟨a,dx,rfl,az,by rw[av gK];exact az,λp q hp hq hpq=>⟨rfl,a,dx,p,q,?_⟩⟩
 obtain⟨⟨r1,s1⟩,e1,e2⟩:=bind1 (wq ed a)
 have np:p≠a:=λz=>by rw[z,az]at hp;cases hp
 have nd:p≠dx:=λz=>by rw[z,av gK,az]at hp;cases hp
 have hp0:H p=none:=by rw[av np,av nd]at hp;exact hp
 have nq:q≠a:=λz=>by rw[z,az]at hq;cases hq
 have ndq:q≠dx:=λz=>by rw[z,av gK,az]at hq;cases hq
 have hq0:H q=none:=by rw[av nq,av ndq]at hq;exact hq
 obtain⟨H',eH⟩:∃H',H'=upd (upd (upd (upd (upd H dx (.own a)) a (.ins C dx [])) p (.dK [])) q (.dK [])) a (.ins C dx [("plans",.ref p),("lots",.ref q)]):=⟨_,rfl⟩
 rw[<-eH]
 have k1:H' a=some (.ins C dx [("plans",.ref p),("lots",.ref q)]):=by rw[eH];exact az
 have k2:H' dx=some (.own a):=by rw[eH,av gK,av (acb ndq),av (acb nd),av gK];exact az
 have k3:H' p=some (.dK []):=by rw[eH,av np,av hpq];exact az
 have k4:H' q=some (.dK []):=by rw[eH,av nq];exact az
 have sm:aA H H':=λb o h=>by
  have f1:b≠a:=λz=>by rw[z,ha]at h;cases h
  have f2:b≠dx:=λz=>by rw[z,hdx]at h;cases h
  have f3:b≠p:=λz=>by rw[z,hp0]at h;cases h
  have f4:b≠q:=λz=>by rw[z,hq0]at h;cases h
  rw[eH,av f1,av f4,av f3,av f1,av f2];exact h
 have dk:∀Hw,ye C X.K H' Hw a dx p q ⟨[],[]⟩:=λHw=>⟨k1,k2,⟨[],k3,rfl,.nil⟩,⟨[],k4,rfl,.nil⟩,hpq⟩
 have nB:∀z∈[a,dx,p,q],H z=none:=λz hz=>by grind
 have nn:∀A:List Addr,(∀z∈A,∃o,H z=some o/\uG o)->∀z∈A,z∉[a,dx,p,q]:=λA h z hz hB=>by grind
 have R1:=(R.hide (B:=[a,dx,p,q]) sm nB (dk (wo H' [])).own)
 refine⟨H0,[a,dx,p,q],U,A0,_,⟨[],[]⟩,r1,s1,⟨R1.set hj (.ptr a),⟨rfl,dk _⟩,nn U λz hz=>R.al.1 z (aar _ hz),nn A0 λz hz=>R.al.1 z (aad _ hz)⟩,⟨F0.same.trans sm,F0.new,λz hz=>F0.same.free (nB z hz),F0.old⟩,e1,?_⟩
 cases r1 with
 |rt d=>
   cases e2;refine⟨λB v H2 s2 _ _ hv=>P.1 v H2 ?_,λB c H2 hd s2 _ _=>P.2 c H2 hd s2⟩;exact⟨s2,hv.same (iu λz hz=>aad _ hz)⟩
 |_=>cases e2
end
abbrev Fm:=List (Str×Nat×Addr×List Str)
def LW(P:Params)(t:Fm)(n:Nat):Obj:=⟨.type "dict",none,.dict (t.map λe=>(⟨PyData.keyHash P e.1,.str e.1 e.2.1,.ref e.2.2.1⟩:DictEntry)).toArray n,#[]⟩
structure Pg(w:World)(K:Frag)(mg:dO)(x:Str)(t:Fm):Prop where
 at_:∃a n,mg x=some (.ref a)/\(a==sysModules)=false/\K.lookup a=some (LW w.params t n)
 qu:∀e∈t,(e.2.2.1,e.2.2.2.map V.str)∈dQ
 nd:(t.map (·.1)).Nodup
theorem GY{h:Heap}(e:h.get? a=some (LW w.params t n))(nd:(t.map (·.1)).Nodup):h.DictOf (cY P w) a (t.map λe=>((.inr e.1:Key),Value.ref e.2.2.1)):=by
 refine⟨_,_,n,e,⟨rfl,rfl,rfl⟩,rfl,λy hy=>?_,?_,?_⟩
 .have hy:y∈t.map λe=>(⟨PyData.keyHash w.params e.1,.str e.1 e.2.1,.ref e.2.2.1⟩:DictEntry):=by simpa using hy
  obtain⟨z,_,rfl⟩:=aa9.mp hy;exact⟨.inr z.1,rK z.1 z.2.1,rfl⟩
 .simp only[List.toList_toArray];clear e nd;induction t with
  |nil=>exact .nil
  |cons z t ih=>exact .cons (rK z.1 z.2.1) rfl ih
 .grind
theorem LX{t:Fm}:valueAt (t.map λe=>((.inr e.1:Key),Value.ref e.2.2.1)) (.inr x)=(t.find? λe=>decide (e.1=x)).map λe=>Value.ref e.2.2.1:=by
 unfold valueAt
 rw[List.find?_map]
 have:((λkv:Key×Value=>decide (kv.1=.inr x)) ∘ λe:Str×Nat×Addr×List Str=>((.inr e.1:Key),Value.ref e.2.2.1))=λe=>decide (e.1=x):=by grind
 rw[this]
 cases t.find? λe=>decide (e.1=x)<;>rfl
noncomputable def Ph(t:Fm)(g:be):be:=λδ=>(g δ).bind λd=>match d with
 |.str x=>some (.bool (t.find? λe=>decide (e.1=x)).isSome)
 |_=>none
noncomputable def GZ(t:Fm)(g:be):be:=λδ=>(g δ).bind λd=>match d with
 |.str x=>(t.find? λe=>decide (e.1=x)).map λe=>.tuple (e.2.2.2.map .str)
 |_=>none
theorem LY{K:Frag}(l:List Str):cC K H (l.map V.str) (l.map .str):=by
 induction l with
 |nil=>exact .nil
 |cons a l ih=>exact .cons (.str a) ih
section
variable {X:Cx}{O:List Nat}{x:Str}{t:Fm}{i:Expr}{g:be}{pos np:Pos}
theorem Uz(F:Pg X.w X.K X.mg x t)(hi:PE X i (tE X.K O g))(hg:Gl X x:=by rfl)(hd:(x==("__debug__":Str))=false:=by decide)(hm:behindInMarks .In (.Name x np)=false:=by rfl):PE X (.Compare i [.In] [.Name x np] pos) (tE X.K O (Ph t g)):=by
 obtain⟨⟨a,n,hx,hs,lk⟩,tp,nd⟩:=F
 refine(SF (t:=λσ H Q=>tE X.K O g σ H λy H1=>∃z,y=.str z/\Q (.bl (t.find? λe=>decide (e.1=z)).isSome) H1) (λpins s σ H Q I h=>?_) hm).mono λσ H Q hh=>hh.e λU A0 δ d R ed q=>?_
 .refine dw (hi pins s σ H _ I h) λiv s1 ⟨y,H1,I1,ry,z,ey,q1⟩=>?_;subst ey;refine dw (Q:=λu s2=>u=.ref a/\s2=s1) (k8 I1 hg hx ⟨rfl,rfl⟩ hd) λu s2 ⟨e1,e2⟩=>?_;subst e1 e2;have dd:=GY (P:=X.prog) (w:=X.w) (I1.my _ _ lk) nd;refine wpAny_in_of (knd:=cY X.prog X.w) (k:=.inr z) (vz (k:=.inr z) ry) hs dd.mapOf ?_;rw[LX,aeM];exact⟨.bl _,H1,I1.tok _,rfl,q1⟩
 .obtain ⟨y,e1,e2⟩:=bind1 ed;cases y with
  |str z=>
    cases e2;exact⟨U,A0,δ,_,R,e1,λv H' s hv=>by cases hv;exact⟨z,rfl,q _ H' s (.bl _)⟩⟩
  |_=>cases e2
theorem Pj(F:Pg X.w X.K X.mg x t)(hi:PE X i (tE X.K O g))(hg:Gl X x:=by rfl)(hd:(x==("__debug__":Str))=false:=by decide)(hs:Kl i:=by intro _ _;rfl):PE X (.Subscript (.Name x np) i pos) (tE X.K O (GZ t g)):=by
 obtain⟨⟨a,n,hx,_,lk⟩,tp,nd⟩:=F
 refine(show PE X (.Subscript (.Name x np) i pos) (λσ H Q=>tE X.K O g σ H λy H1=>∃z e,y=.str z/\(t.find? λe=>decide (e.1=z))=some e/\Q (.ref e.2.2.1) H1)from λpins s σ H Q I h=>?_).mono λσ H Q hh=>hh.e λU A0 δ d R ed q=>?_
 .refine Gp PySem.F.slot_dict_getitem.lookup hs (dw (Q:=λu s1=>u=.ref a/\s1=s) (k8 I hg hx ⟨rfl,rfl⟩ hd) λu s1 ⟨e1,e2⟩=>?_);subst e1 e2;refine dw (hi pins s1 σ H _ I h) λiv s2 ⟨y,H2,I2,ry,z,e,ey,ef,q2⟩=>?_;subst ey;have dd:=GY (P:=X.prog) (w:=X.w) (I2.my _ _ lk) nd;refine⟨dd.mapOf.typeIs,wpAny_getItem_of (knd:=cY X.prog X.w) (k:=.inr z) (vz (k:=.inr z) ry) dd.mapOf (by rw[LX,ef];rfl) ⟨.ref e.2.2.1,H2,I2.tok _,rfl,q2⟩⟩
 .obtain ⟨y,e1,e2⟩:=bind1 ed;cases y with
  |str z=>
    obtain⟨e,ef,rfl⟩:=aca.mp e2;refine⟨U,A0,δ,_,R,e1,λv H' s hv=>?_⟩;cases hv;refine⟨z,e,rfl,ef,q _ H' s ?_⟩;have R':=R.same s;have tt:=R'.al.2 _ _ (tp e (List.mem_of_find?_eq_some ef));refine .tup (tt.wo λhz=>?_) (LY _);obtain⟨o,ho,w⟩:=R'.al.1 _ hz;exact tt.apart ho w rfl
  |_=>cases e2
end
end L2
namespace L2
open PySem PySem.Spec PyProof.Rows
section
variable {X:Cx}{O:List Nat}{o e f:Expr}{go ge gf:be}{apos cR:Pos}
noncomputable def kP(a b:Str)(k:Int):List Str:=Builtin.Str.partsBetween a (Builtin.Str.occurrences a b 0 a.length (limitOf a k)) b.length
def iR(a b:Str)(k:Int):Bool:=(b.length==0)==false&&!(decide (a.length<b.length)||decide (Builtin.Str.strKind a<Builtin.Str.strKind b))&&!(Builtin.Str.occurrences a b 0 a.length (limitOf a k)).isEmpty&&decide (0<=k)&&decide (k<1000)&&decide (a.length<=100000)&&decide ((kP a b k).length<=100000)
def Pm:V->List V->Hp->VK->Prop:=λx vs H Q=>∃a b k,x=.str a/\vs=[.str b,.int k]/\iR a b k=true/\∀p,H p=none->Q (.ref p) (upd H p (.lst ((kP a b k).map V.str)))
theorem Jb:QJ X "str.split" Pm:=by
 intro pins s σ H x vs v us Q I rx rv h
 obtain⟨a,b,k,rfl,rfl,bM,q⟩:=h
 unfold iR at bM
 simp only[aax,aaS,aeP]at bM
 obtain⟨⟨⟨⟨⟨⟨k1,k2⟩,k3⟩,k4⟩,k5⟩,k6⟩,k7⟩:=bM
 obtain⟨t,rfl⟩:=rx
 obtain⟨u,w,rfl,⟨t',rfl⟩,⟨t2,rfl⟩⟩:=bz.two rv
 have z7:=acZ (mR k7)
 refine call_meets PySem.F.slot_str_split (typeIs_str _ _ _) PySem.F.entry_str_split (PySem.F.args_str_split_3 _ _ _) (meets_str_split_sep_max a b k t t' t2 (by simp;lia) k2 (by simpa using k1) k3 (Nat.le_of_lt (mR k6)) z7) ?_
 rw[strsFrom_eq]
 have hl:=numbered_texts s.toks (kP a b k)
 have J:=I.laid (t':=s.toks+(kP a b k).length) (o:=.lst ((kP a b k).map V.str)) (h':=s.heap.push {cls:=.type "list",data:=.seq (strValues (numbered s.toks (kP a b k))).toArray}) (a:=s.heap.objs.size) (λ_ _ z=>aab _ z) (aah _)
  ⟨by rw[aaj];exact z7,strValues (numbered s.toks (kP a b k)),0,by have:=pE (numbered s.toks (kP a b k));rw[hl]at this;exact this,aag _ rfl⟩
 exact⟨.ref _,_,J,rfl,q _ (I.bM.fresh (aah _))⟩
def lD(go ge gf:be):cq:=λδ=>(go δ).bind λs=>(ge δ).bind λx=>(gf δ).bind λy=>match s,x,y with
 |.str a,.str b,.int k=>if iR a b k=true then some ((kP a b k).map .str)else none
 |_,_,_=>none
theorem Jc(ho:PE X o (gz X.K O go))(he:PE X e (gz X.K O ge))(hf:PE X f (gz X.K O gf))(jG:attributeBase o "split" X.env (eval o X.env)=eval o X.env:=by rfl)
  (zG:((backTo cR (starEach [e,f] X.env)).all (λx=> !x.1)&&(backToKw cR (keywordEach [] X.env)).all (λx=>x.1.isSome)&&decide ([e,f].length+([]:List Keyword).length+(if([]:List Keyword).isEmpty then 0 else 1)<30))=true:=by rfl)
  (jH:(apos.endLine==cR.line)=true:=by rfl)(rJ:starEach [e,f] X.env=[(false,eval e X.env),(false,eval f X.env)]:=by rfl)(hs:starEach [f] X.env=[(false,eval f X.env)]:=by rfl)(zX:starEach ([]:List Expr) X.env=[]:=by rfl):
  PE X (.Call (.Attribute o "split" apos) [e,f] [] cR) (tN X.K O (lD go ge gf)):=
 (mM adh acG PySem.F.type_str_split Jb ho (aY he (aY hf b9 (by rw[hs,zX])) (by rw[rJ,hs])) jG zG jH (by rw[rJ,hs]) (by rw[hs];rfl)).mono λσ H Q hh=>hh.e λU A0 δ d R ed q=>by
  obtain⟨s,e1,ed⟩:=bind1 ed;obtain⟨x,e2,ed⟩:=bind1 ed;obtain⟨y,e3,ed⟩:=bind1 ed;cases s with
  |str a=>
    cases x with
    |str b=>
      cases y with
      |int k=>
        replace ed:(if iR a b k=true then some ((kP a b k).map PyData.str)else none)=some d:=ed;by_cases bM:iR a b k=true
        .rw [aaq bM]at ed;cases ed;refine⟨U,A0,δ,_,R,e1,λv H1 s1 h1=>?_⟩;rw[h1.text];refine⟨rfl,U,A0,δ,_,R.same s1,e2,λw H2 s2 h2=>?_⟩;rw[h2.text];refine⟨U,A0,δ,_,R.same (s1.trans s2),e3,λw3 H3 s3 h3=>?_⟩;rw[h3.int];refine⟨a,b,k,rfl,rfl,bM,λp hp=>?_⟩;have s4:=(s1.trans s2).trans s3;exact q p _ _ (s4.trans (bj hp _)) (s4.free hp) az (cC.texts _)
        .grind
      |_=>cases ed
    |_=>cases ed
  |_=>cases ed
end
end L2
namespace L2
open PySem PySem.Spec PySem.W PyProof.Rows
def kQ(K:Frag)(mg:dO)(C:Addr)(n:Nat)(G:Addr->List D->Dk->Option (D×Dk)):Sp:=λvs H Q E=>vs.length=n/\∃a dx p q A ds s d s',Ls ([a,dx,p,q]++A) H/\(∀x∈A,x∉[a,dx,p,q])/\ye C K H (wo H ([a,dx,p,q]++A)) a dx p q s/\cC K (wo H ([a,dx,p,q]++A)) vs ds/\ds[0]?=some (a9 a)/\G a ds s=some (d,s')/\
 (∀v H',cg [a,dx,p,q] H H'->ye C K H' (wo H' ([a,dx,p,q]++A)) a dx p q s'->HD K (wo H' ([a,dx,p,q]++A)) v d->Q v H')/\∀c H',d=Ii c->cg [a,dx,p,q] H H'->ye C K H' (wo H' ([a,dx,p,q]++A)) a dx p q s'->Am mg E c H'
def Jd(P:Program)(w:World)(K:Frag)(mg:dO)(base:Heap)(k:Nat)(C:Addr)(m:Str)(ps:List Str)(sp:Sp):Prop:=
 ∃f fd,la P w K mg base (EO P w) k f fd ps sp/\mn K C m f/\Binds K fd ps []
section
variable {P:Program}{w:World}{K:Frag}{mg:dO}{base:Heap}{x qual:Str}{st:Stmt}{N ps:List Str}{k:Nat}{C:Addr}
theorem Pn(hO:∀i∈O,ps.length<=i)(hN:N.length=n)(h:kQ K mg C ps.length (kO n g) vs H Q E):
  ∃a dx p q,oS K O (EV C a dx p q) (Am mg E) (g a) {nx:=λ_ H'=>Q .ib H',rt:=Q} (start N vs) H:=by
 subst hN
 obtain⟨hn,a,dx,p,q,A,ds,s,d,s',al,dj,hp,hd,_,e,qq,qx⟩:=h
 obtain⟨⟨r,s1⟩,e1,e2⟩:=bind1 e
 refine⟨a,dx,p,q,wo H [a,dx,p,q],[a,dx,p,q],[],A,_,s,r,s1,⟨Rel.start al hd (λi hi=>by have:=hO i hi;rw[<-hd.len,hn];exact this),⟨rfl,hp⟩,λ_ z=>(nomatch z),dj⟩,⟨bN,λ_ z=>(nomatch z),λ_ z=>dG z,Ct al dj⟩,e1,?_⟩
 have sx:∀{H':Hp},aA (wo H [a,dx,p,q]) H'->cg [a,dx,p,q] H H':=λz b o nb hb=>z b o (by rw[aN nb];exact hb)
 cases r with
 |nx δ=>
   cases e2;intro B U σ H' R F';obtain⟨rfl,pk⟩:=R.pr;exact qq .ib H' (sx F'.same) pk .ib
 |rt d=>
   cases e2;refine⟨λB v H' h n pk hv=>?_,λB c H' e h n pk=>?_⟩;.obtain ⟨rfl,pk⟩:=pk;exact qq v H' (sx h) pk hv
   .obtain ⟨rfl,pk⟩:=pk;exact qx c H' e (sx h) pk
 |bk _=>cases e2
 |ct _=>cases e2
theorem zg(O:List Nat)(g:Addr->GD Dk)(F:xR K x qual st f fd)(M:mn K C x f)(B:Binds K fd ps [])(S:aB N ps (ah st))
  (body:∀(a dx p q f:Addr) (cn:Value) (A:Around) (outer:List Env) (s:Shared) (H:Hp) (E:XK),de k (A.deeper (envOfC qual (ah st) s.heap.objs.size f cn))->jy (jd (EO P w) P w K mg base N qual (ah st) f cn A outer s H E) (bP st) (oS K O (EV C a dx p q) (Am mg E) (g a)))
  (hO:∀i∈O,ps.length<=i:=by decide)(hN:N.length=n:=by rfl)(hP:ps.length=m:=by rfl):Jd P w K mg base (k+1) C x ps (kQ K mg C m (kO n g)):=by
 subst hP
 obtain⟨oc,od,kV,doc,pm,an,cn,ct,Nu,rfl,lk,xM⟩:=F.ex
 refine⟨f,_,QG lk xM S (λvs H Q E h=>h.1) (λA outer s H vs Q E hr h=>?_),M,B⟩
 obtain⟨a,dx,p,q,t⟩:=Pn hO hN h
 exact⟨_,body a dx p q f cn A outer s H E hr,t⟩
end
section
variable {S:Type}{Γ:yc S}{get:S->Dk}{set:S->Dk->S}{X:Cx}{O:List Nat}{C a dx p q:Addr}{k kk n j:Nat}{m x:Str}{ps:List Str}{G:Addr->List D->Dk->Option (D×Dk)}{gr:cq}{apos pos:Pos}{o e:Expr}{es:List Expr}{E:XK}{st:Stmt}
theorem Po(hd:o6 Γ C a dx p q get set)(R:c6 X.K O Γ B U A0 σ δ H s)(sm:aA H H')(hn:ds.length=n)(h0:ds[0]?=some (a9 a))(hs:cC X.K (wo H' (U++(B++A0))) vs ds)(e:wj get set (G a ds) s=some (d,s'))
  (qq:∀B' v H',cg B H H'->(∀x∈B',x∈B\/H x=none)->c6 X.K O Γ B' U A0 σ δ H' s'->HD X.K (wo H' (U++(B'++A0))) v d->Q v H')
  (qx:∀B' c H',d=Ii c->cg B H H'->(∀x∈B',x∈B\/H x=none)->c6 X.K O Γ B' U A0 σ δ H' s'->Am X.mg E c H'):kQ X.K X.mg C n G vs H' Q E:=by
 have R':=R.same sm
 obtain⟨⟨d1,k1⟩,e1,e2⟩:=bind1 e
 obtain⟨B2,hB,hdj,hp,Uu⟩:=hd.sp R'.p
 have mem:∀x,x∈U++(B++A0)↔x∈[a,dx,p,q]++(U++(B2++A0)):=λx=>by grind
 have ew:∀h:Hp,wo h (U++(B++A0))=wo h ([a,dx,p,q]++(U++(B2++A0))):=λh=>kN mem
 have sub:=λx hx=>(hB x).mpr (aar _ hx)
 have fin:∀H2,cg [a,dx,p,q] H' H2->ye C X.K H2 (wo H2 (U++(B++A0))) a dx p q k1->cg B H H2/\c6 X.K O Γ B U A0 σ δ H2 (set s k1):=λH2 k2 p2=>by
  have sx:cg B H' H2:=λb o nb hb=>k2 b o (λz=>nb (sub b z)) hb;refine⟨(cg.of sm).trans sx,R'.grow sx (Uu p2 (λx hx=>?_) (sx.wo c6.K8))⟩;obtain⟨o,ho,_⟩:=Γ.own R'.p x ((hB x).mpr (aad _ hx));rw[ho,k2 x o (hdj x hx) ho]
 refine⟨by rw[hs.len];exact hn,a,dx,p,q,U++(B2++A0),ds,get s,d1,k1,R'.r.al.congr (λx hx=>(mem x).mpr hx),λx hx=>?_,ew H' ▸ hp,ew H' ▸ hs,h0,e1,λv H2 k2 p2 h2=>?_,λc H2 hc k2 p2=>?_⟩
 .rcases aaf.mp hx with z|z;.exact λy=>R.dj x z (sub x y)
  .rcases aaf.mp z with z|z;.grind
   .exact λy=>R.da x z (sub x y)
 .grind
 .grind
theorem wt(F:Jd X.prog X.w X.K X.mg X.base k C m ps (kQ X.K X.mg C n G))(c:rV X.K C)(hr:de kk X.A)(hk:k<=kk)(hx:lb (EO X.prog X.w) X E)(hv:PE X o (iO j))(ha:PA X (e::es) (vD X.K O gr))
  (Bv:starEach (e::es) X.env=(false,eval e X.env)::starEach es X.env:=by rfl)(i8:(backTo pos (starEach es X.env)).any (·.1)=false:=by rfl)
  (ht:eval (.Call (.Attribute o m apos) (e::es) [] pos) X.env=(do
   let ov <-eval o X.env
   standAt apos.atName
   let(f,first) <-holding [ov] (getMethod ov m pl)
   callWith pos f first (backTo pos (starEach (e::es) X.env)) (backToKw pos (keywordEach [] X.env))):=by rfl):
  PE X (.Call (.Attribute o m apos) (e::es) [] pos) (BP C m (kQ X.K X.mg C n G) [] E (iO j) (vD X.K O gr)):=by
 obtain⟨f,fd,F,M,B⟩:=F
 exact Gj (pl:=pl) hv c M F (hr.mono hk) B .nil hx ha Bv i8 ht
set_option tactic.hygienic true in
theorem LZ(hd:o6 Γ C a dx p q get set)(R:c6 X.K O Γ B U A0 σ δ H s)(hj:j∉O)(hl:∀u w:V,([("plans",u),("lots",w)]:List (Str×V)).lookup m=none)(ed:cP get set j a G n gr δ s=some (d,s'))
  (qq:∀B' v H',cg B H H'->(∀x∈B',x∈B\/H x=none)->c6 X.K O Γ B' U A0 σ δ H' s'->HD X.K (wo H' (U++(B'++A0))) v d->Q v H')
  (qx:∀B' c H',d=Ii c->cg B H H'->(∀x∈B',x∈B\/H x=none)->c6 X.K O Γ B' U A0 σ δ H' s'->Am X.mg E c H'):BP C m (kQ X.K X.mg C n G) [] E (iO j) (vD X.K O gr) σ H Q:=by
 obtain⟨h0,ed⟩:=qR ed
 obtain⟨ds,e1,e2⟩:=bind1 ed
 split at e2
 rotate_left
 .grind
 rename_i hn
 obtain⟨v,hv,hp⟩:=R.r.fz j (a9 a) hj h0
 obtain rfl:=iz hp
 obtain⟨_,_,_,Uv,_⟩:=hd.sp R.p
 refine⟨.ref a,hv,a,dx,_,rfl,Uv.1,hl _ _,U,B++A0,δ,ds,R.r,e1,λvs H' sm hs=>?_⟩
 show kQ X.K X.mg C n G (.ref a::(vs++[])) H' Q E
 rw[abk]
 exact Po (ds:=a9 a::ds) hd R sm hn rfl (.cons (.ptr a) hs) e2 qq qx
theorem Cz(hd:o6 Γ C a dx p q get set)(h:PS X st (Xo (BP C m (kQ X.K X.mg C n G) [] E (iO j) (vD X.K O gr))))(hj:j∉O:=by decide)(hl:∀u w:V,([("plans",u),("lots",w)]:List (Str×V)).lookup m=none:=by intro _ _;rfl):
  PS X st (oS X.K O Γ (Am X.mg E) (pG (cP get set j a G n gr))):=h.mono λD σ H ⟨H0,B,U,A0,δ,s,r,s',R,F,ed,P⟩=>by
 obtain⟨⟨d,s1⟩,e1,e2⟩:=bind1 ed
 cases e2
 exact LZ hd R hj hl e1 (λB' v H' k n R' hv=>P.1 B' v H' (F.grow k).same (F.qO k n).mw R'.pr (hv.same (iu λa ha=>aad _ ha))) (λB' c H' hc k n R'=>P.2 B' c H' hc (F.grow k).same (F.qO k n).mw R'.pr)
def wu(g:DS->S->Option (D×S)):GD S:=λδ s=>(g δ s).bind λx=>some (OZ x.1 (.nx δ),x.2)
theorem Je(hd:o6 Γ C a dx p q get set)(h:PS X st (BK (BP C m (kQ X.K X.mg C n G) [] E (iO j) (vD X.K O gr))))(hj:j∉O:=by decide)(hl:∀u w:V,([("plans",u),("lots",w)]:List (Str×V)).lookup m=none:=by intro _ _;rfl):
  PS X st (oS X.K O Γ (Am X.mg E) (wu (cP get set j a G n gr))):=h.mono λD σ H ⟨H0,B,U,A0,δ,s,r,s',R,F,ed,P⟩=>by
 obtain⟨⟨d,s1⟩,e1,e2⟩:=bind1 ed
 have e3:OZ d (.nx δ)=r/\s1=s':=by cases e2;exact⟨rfl,rfl⟩
 obtain⟨e3,rfl⟩:=e3
 refine LZ hd R hj hl e1 (λB' v H' k n R' hv=>?_) (λB' c H' hc k n R'=>?_)
 .cases hx:yb d with
  |some c=>rw[zc hx]at hv;exact(Q8 hv).elim
  |none=>
    rw[IW hx]at e3;subst e3;exact P B' U _ H' R' (F.qO k n)
 .subst hc;have:r=.rt (Ii c):=e3.symm;subst this;exact P.2 B' c H' rfl (F.grow k).same (F.qO k n).mw R'.pr
end
def Pp{S:Type}(gb:GD S)(hand:Str->Option D):GD S:=λδ s=>(gb δ s).bind λr=>match r.1 with
 |.rt d=>(match yb d with
   |some c=>(hand c).bind λd'=>some (.rt d',r.2)
   |none=>some (.rt d,r.2))
 |x=>some (x,r.2)
section
variable {S:Type}{Γ:yc S}{X:Cx}{O:List Nat}{T n:Str}{Tv:Value}{tp L3 pos:Pos}{body Rg:List Stmt}{YK:Stmt}{gb:GD S}{gs:Addr->bB}{hand:Str->Option D}{xk:Str->Hp->Prop}{i:Nat}
theorem Pq(hb:∀kM E,jy (X.tr kM E) body (oS X.K O Γ (Am X.mg E) gb))(hs:∀a,jy (X.Nz a) (YK::Rg) (tS X.K O (false,λ_ _=>True) (gs a)))
  (uI:∀c d,hand c=some d->∃C,nsIn X.K mainGlobals c=some (some (.ref C))/\X.mg c=some (.ref C)/\exmOne X.K (.ref C) Tv=some true)
  (hhx:∀a c d,hand c=some d->gs a ((List.replicate X.N.length none).set i (some (YF a c)))=some (.rt d))(hT:X.mg T=some Tv)(hN:X.N.Nodup)(hi:X.N[i]?=some n:=by rfl)(hiO:i∉O:=by decide)
  (hl:X.env.scope.names.lookup n=some .local:=by rfl)(hgT:Gl X T:=by rfl)(Bv:X.stack=X.env::X.outer:=by rfl)(xH:X.env.frame=some X.env.locals:=by rfl)(hdT:(T==("__debug__":Str))=false:=by decide):
  PS X (.Try body [.ExceptHandler (some (.Name T tp)) (some n) (YK::Rg) L3] [] [] pos) (oS X.K O Γ xk (Pp gb hand)):=by
 rintro pins s σ H D I ⟨H00,B0,U,A0,δ,sg,r,s',R,F,ed,P⟩
 obtain⟨⟨r0,s1⟩,e1,e2⟩:=bind1 ed
 refine wpAny_Try_except ?_
 refine aa6 (hb pins (λcv _ H2=>∃c C B,r0=.rt (Ii c)/\cv=.ref C/\X.mg c=some (.ref C)/\aA H00 H2/\(∀x∈B,H00 x=none)/\Γ.P X.K H2 (wo H2 (B++A0)) B s1) [] s σ H D I.tr ⟨H00,B0,U,A0,δ,sg,r0,s1,R,F,e1,?_⟩) (λfl s2 hq=>?_) ?_
 .cases r0 with
  |nx δ'=>cases e2;exact P
  |bk δ'=>cases e2;exact P
  |ct δ'=>cases e2;exact P
  |rt d=>
    cases hx:yb d with
    |none=>
      simp only[hx]at e2;cases e2;exact⟨P.1,λB c H' hd s _ _=>by subst hd;cases hx⟩
    |some c=>
      have hd:=zc hx;subst hd;exact⟨λB v H' _ _ _ h=>(Q8 h).elim,λB c' H' hd s n pk C hC=>⟨c',C,B,by rw[hd],rfl,hC,s,n,pk⟩⟩
 .cases fl with
  |next=>obtain⟨cQ,H',I',q⟩:=hq;exact adI ⟨cQ,H',I'.ES,q⟩
  |brk=>obtain⟨cQ,H',I',q⟩:=hq;exact⟨cQ,H',I'.ES,q⟩
  |cont=>obtain⟨cQ,H',I',q⟩:=hq;exact⟨cQ,H',I'.ES,q⟩
  |ret u=>obtain⟨v,cQ,H',I',rv,q⟩:=hq;exact⟨v,cQ,H',I'.ES,rv,q⟩
 rintro v s2 ⟨σ0,H0,s0,I0,a,t,C,B,H1,rfl,os,bare,un,bM,na,ta,Z5,IT,nc0,c,C',BB,er,hC,hm,L4,YL,Uv⟩
 cases hC
 subst er
 have e3:=e2
 obtain⟨d,hd,hr⟩:=bind1 e3
 cases hr
 obtain⟨C2,GL,TV,hex⟩:=uI c d hd
 rw[hm]at TV
 cases TV
 have fr:=IT.2.2.1
 have st:=IT.1
 have aci:Heap.FlyingW B (X.env::X.outer) a (.ref C) (.ref t) s2.heap:=by rw[<-Bv];exact IT
 have nf:∀b∈ud X.stack,H1 b=none:=λb hb=>by
  obtain⟨_,o,ho,_⟩:=I0.stack.mem hb;exact un.free b o ho (I0.zv b hb) λz=>nomatch z
 have again:∀{h2:Heap},Heap.FlyingW B (X.env::X.outer) a (.ref C) (.ref t) h2->s2.heap.UpToSlots h2->Inv X pins σ0 H1 {s2 with heap:=h2}:=λ{h2} Cq up2=>
  I0.JU (ch:=[]) os (EN un Z5 st Cq.1 up2 fr) (Al bM Z5 st Cq.1 nf) bare (λb z=>nomatch z)
 refine IS (I0.ok.frames.trans (ab7 some Bv)) xH aci nc0 λh4 held nc4 up4=>?_
 refine Uo held nc4 λh5 UA nc5 up5=>?_
 have I5:=again UA (up4.trans up5)
 have LT:Looks (model X.prog X.w) h5 (typeOf (.ref a)) (.ref C):=by
  obtain⟨ob,hob,hc⟩:=UA.there;rw[<-hc];exact(Looks.ld hob).andThen Looks.now
 refine wpAny_handleBy_cons (codeAny_handlers_test (k8 (I5.Nz a) hgT hT ?_ hdT)) (by intro q;cases q)
 refine(exm_one (M:=model X.prog X.w) I5.my LT hex).here ?_
 refine codeAny_handlers_suite_as (Ak UA nc5 λh6 YM nc6 up6=>?_)
 have I6:=again YM ((up4.trans up5).trans up6)
 have YN:=YM.there
 have I6t:=I6.Up (o:=Tq a C) I0 na ta ⟨⟨YN,nc6⟩,let⟨o,q,_⟩:=YN;⟨o,q⟩,λh1 h2 ⟨⟨o,q,c⟩,_⟩ kk=>⟨⟨o,kk o q,c⟩,trivial⟩⟩
 refine mD (X:=X.Nz a) (v:=.ref a) (I6t.Nz a) hN hi (.inl hl) rfl (λs7 I7=>?_) (.inr hl)
 have V7:=(aal.mp hi).1
 have sN:aA H1 (upd H1 a (Tq a C)):=bj ta _
 have alH:Ls (BB++A0) H1:=by
  refine⟨λx hx=>?_,(F.old.same L4).2⟩;rcases aaf.mp hx with z|z;.exact Γ.own Uv x z
  .exact (F.old.same L4).1 x z
 refine aa6 (hs a pins s7 _ _ {nx:=λ_ _=>False,rt:=D.rt} I7 ⟨H1,[],BB++A0,_,.rt d,Rel.Ut I0.len V7 hiO alH ta GL,⟨sN,λ_ z=>(by simp at z),alH⟩,hhx a c d hd,⟨λv H' h=>?_,λ_ _ _ _=>trivial⟩⟩) (λfl s8 hq=>?_) λ_ _ z=>z.elim
 .unfold zK at h;exact P.1 BB v H' (L4.trans h.1) YL (Γ.mono Uv (yc.at Uv h.1) (bE h.1)) h.2
 cases fl with
 |ret u=>
   obtain⟨v,cQ,H',J,rv,q⟩:=hq;obtain⟨m,hn,_⟩:=id J.loc;exact wpAny_nameGoes hl hn (by rw[I0.ok.kind];rfl) λh9 m' hn' qr=>⟨v,_,H',(J.ab3 I0.ok).forget hn' qr,rv,q⟩
 |next=>obtain⟨_,_,_,q⟩:=hq;exact q.elim
 |brk=>obtain⟨_,_,_,q⟩:=hq;exact q.elim
 |cont=>obtain⟨_,_,_,q⟩:=hq;exact q.elim
end
def L5(R:Addr->List D->Dk->Option (D×Dk)):Addr->List D->Dk->Option (D×Dk):=λa ds s=>(R a ds s).bind λr=>if(yb r.1).isSome=true then none else some r
theorem Pr(h:R a ds s=some (d,s'))(hd:(yb d).isSome=false):L5 R a ds s=some (d,s'):=by
 unfold L5
 rw[h,aac,aaO (by rw[hd];exact aaZ)]
set_option tactic.hygienic true in
theorem Jd.no{K:Frag}(h:Jd P w K mg base k C m ps (kQ K mg C n R)):Rc P w K mg base k C m ps (lC K C n (L5 R)):=by
 obtain⟨f,fd,F,M,B⟩:=h
 have cv:∀vs H Q E,lC K C n (L5 R) vs H Q E->kQ K mg C n R vs H Q (λ_ _ _=>False):=λvs H Q E ⟨hn,a,dx,p,q,A,ds,s,d,s',al,dj,hp,hd,h0,e,qq⟩=>by
  obtain⟨r,e1,e2⟩:=bind1 e;split at e2;.grind
  .rename_i hf;cases e2;exact⟨hn,a,dx,p,q,A,ds,s,_,_,al,dj,hp,hd,h0,e1,qq,λc H' z _ _=>absurd (show(yb d).isSome=true by rw[z];rfl) hf⟩
 refine⟨f,fd,⟨λvs H Q E h=>F.len vs H Q _ (cv vs H Q E h),λA outer s H args us vs Q E hr e0 hb r h=>acD (F.run A outer s H args us vs Q _ hr e0 hb r (cv vs H Q E h)) λr s' hq=>?_⟩,M,B⟩
 cases r with
 |error e=>obtain⟨_,_,_,_,_,_,_,_,_,_,_,_,_,_,_,z⟩:=hq;exact z.elim
 |ok fl=>cases fl<;>exact hq
structure Dl where
 dk:Dk
 so:List D
def Jf(K:Frag)(H Hw:Hp)(l:Addr)(ds:List D):Prop:=∃xs,H l=some (.lst xs)/\cC K Hw xs ds
theorem Jf.mono{K:Frag}(h:Jf K H Hw l ds)(k:H' l=H l)(e:aA Hw BC):Jf K H' BC l ds:=let⟨xs,a,b⟩:=h;⟨xs,k.trans a,b.same e⟩
theorem wy{K:Frag}(h:ye C K H Hw a dx p q s)(e:H l=some (.lst xs)):l∉[a,dx,p,q]:=λz=>by
 obtain⟨h1,h2,⟨_,h3,_⟩,⟨_,h4,_⟩,_⟩:=h
 simp at z
 rcases z with rfl|rfl|rfl|rfl
 .grind
 .grind
 .grind
 .grind
def Pt(C a dx p q l:Addr):yc Dl where
 P K H Hw B s:=B=[a,dx,p,q]++[l]/\ye C K H Hw a dx p q s.dk/\Jf K H Hw l s.so
 own h x hx:=by
  obtain⟨rfl,h1,xs,h2,_⟩:=h;rcases aaf.mp hx with z|z;.exact h1.own x z
  .rw [aaE.mp z];exact⟨_,h2,trivial⟩
 mono h k e:=by
  obtain⟨rfl,h1,h2⟩:=h;exact⟨rfl,h1.mono (λx hx=>k x (aar _ hx)) e,h2.mono (k l (aad _ (aaE.mpr rfl))) e⟩
theorem Ri:o6 (Pt C a dx p q l) C a dx p q Dl.dk (λs k=>⟨k,s.so⟩):=⟨λ{K H Hw B s} h=>by
 obtain⟨rfl,h1,h2⟩:=h
 obtain⟨xs,hl,_⟩:=id h2
 refine⟨[l],λ_=>Iff.rfl,λx hx=>by rw[aaE.mp hx];exact wy h1 hl,h1,λk n e=>⟨rfl,k,h2.mono (n l (aaE.mpr rfl)) e⟩⟩⟩
def UB(K:Frag)(C:Addr)(n i:Nat)(G:Addr->Addr->List D->Dl->Option (D×Dl)):Sp:=λvs H Q _=>vs.length=n/\∃a dx p q l A ds s d s',Ls (([a,dx,p,q]++[l])++A) H/\(∀x∈A,x∉[a,dx,p,q]++[l])/\(Pt C a dx p q l).P K H (wo H (([a,dx,p,q]++[l])++A)) ([a,dx,p,q]++[l]) s/\cC K (wo H (([a,dx,p,q]++[l])++A)) vs ds/\ds[0]?=some (a9 a)/\ds[i]?=some (a9 l)/\G a l ds s=some (d,s')/\
 ∀v H',cg ([a,dx,p,q]++[l]) H H'->(Pt C a dx p q l).P K H' (wo H' (([a,dx,p,q]++[l])++A)) ([a,dx,p,q]++[l]) s'->HD K (wo H' (([a,dx,p,q]++[l])++A)) v d->Q v H'
def Rj(n:Nat)(g:Addr->Addr->GD Dl)(a l:Addr)(ds:List D)(s:Dl):Option (D×Dl):=(g a l (ds.map some++List.replicate (n-ds.length) none) s).bind outD
section
variable {P:Program}{w:World}{K:Frag}{mg:dO}{base:Heap}{x:Str}{st:Stmt}{N ps:List Str}{k i:Nat}{C:Addr}
theorem L6(O:List Nat)(g:Addr->Addr->GD Dl)(F:Df K mg x st ps)(S:aB N ps (ah st))
  (body:∀(a dx p q l f:Addr) (cn:Value) (A:Around) (outer:List Env) (s:Shared) (H:Hp) (E:XK),de k (A.deeper (envOfC x (ah st) s.heap.objs.size f cn))->jy (jd xQ P w K mg base N x (ah st) f cn A outer s H E).JG (bP st) (oS K O (Pt C a dx p q l) (λ_ _=>True) (g a l)))
  (hO:∀i∈O,ps.length<=i:=by decide)(hN:N.length=n:=by rfl)(hP:ps.length=m:=by rfl):Dn P w K mg base (k+1) x ps (UB K C m i (Rj n g)):=by
 subst hP hN
 refine F.ok S (λvs H Q E h=>h.1) (λf cn A outer s H vs Q E hr h=>?_)
 obtain⟨hn,a,dx,p,q,l,A',ds,sg,d,s',al,dj,hp,hd,_,_,e,qq⟩:=h
 obtain⟨⟨r,s1⟩,e1,e2⟩:=bind1 e
 refine⟨_,body a dx p q l f cn A outer s H E hr,wo H ([a,dx,p,q]++[l]),[a,dx,p,q]++[l],[],A',_,sg,r,s1,⟨Rel.start al hd (λi hi=>by have:=hO i hi;rw[<-hd.len,hn];exact this),hp,λ_ z=>(nomatch z),dj⟩,⟨bN,λ_ z=>(nomatch z),λ_ z=>dG z,Ct al dj⟩,e1,?_⟩
 have sx:∀{H':Hp},aA (wo H ([a,dx,p,q]++[l])) H'->cg ([a,dx,p,q]++[l]) H H':=λz b o nb hb=>z b o (by rw[aN nb];exact hb)
 cases r with
 |nx δ=>
   cases e2;intro B U σ H' R F';have pk:=R.pr;obtain⟨rfl,_⟩:=id pk;exact qq .ib H' (sx F'.same) pk .ib
 |rt d=>
   cases e2;refine⟨λB v H' h n pk hv=>?_,λ_ _ _ _ _ _ _=>trivial⟩;obtain⟨rfl,_⟩:=id pk;exact qq v H' (sx h) pk hv
 |bk _=>cases e2
 |ct _=>cases e2
end
open Classical in
def UC {α:Type} (j:Nat) (l:Addr) (g:DS->Dl->Option α):DS->Dl->Option α:=λδ s=>if δ[j]?=some (some (a9 l))then g δ s else none
theorem vg(h:UC j l g δ s=some r):δ[j]?=some (some (a9 l))/\g δ s=some r:=by
 unfold UC at h
 split at h
 .grind
 .cases h
theorem EZ(h:δ[j]?=some (some (a9 l)))(e:g δ s=r):UC j l g δ s=r:=by
 unfold UC
 rw[aaq h];exact e
section
variable {X:Cx}{O:List Nat}{C a dx p q l:Addr}{j:Nat}{e c:Expr}
theorem c6.see{K:Frag}(R:c6 K O (Pt C a dx p q l) ([a,dx,p,q]++[l]) U A0 σ δ H s)(hj:j∉O)(h0:δ[j]?=some (some (a9 l))):Rel K (j::O) (l::U) ([a,dx,p,q]++A0) σ (δ.set j (some (.list s.so))) H:=by
 obtain⟨_,h1,xs,hl,hx⟩:=R.p
 obtain⟨v,hv,hd⟩:=R.r.fz j (a9 l) hj h0
 obtain rfl:=iz hd
 have mem:∀x,x∈U++(([a,dx,p,q]++[l])++A0)↔x∈(l::U)++([a,dx,p,q]++A0):=λx=>by grind
 have ew:wo H (U++(([a,dx,p,q]++[l])++A0))=wo H ((l::U)++([a,dx,p,q]++A0)):=kN mem
 have nl:=λz=>R.dj l z (by simp)
 have jl:=(aal.mp h0).1
 refine⟨by rw[abW];exact R.r.len,λi d hi ed=>?_,λi d hi ed=>?_,λi i' d d' r hi hi' gK e1 e2 h1 h2=>?_,R.r.al.congr λx hx=>(mem x).mpr hx⟩
 .have gK:j≠i:=λz=>hi (by rw[z];exact aan);rw[aaT gK]at ed;obtain⟨v,a,b⟩:=R.r.fz i d (λz=>hi (aap _ z)) ed;exact⟨v,a,ew ▸ b⟩
 .by_cases rO:j=i
  .subst rO;rw[abh jl]at ed;cases ed;exact⟨l,_,hv,by simp,hl,.lst (ew ▸ hx)⟩
  .rw [aaT rO]at ed;have hi':=(aam.mp hi).resolve_left λz=>rO z.symm;obtain⟨r,o,a,b,c,w⟩:=R.r.ow i d hi' ed;exact⟨r,o,a,aap _ b,c,ew ▸ w⟩
 .have own:∀i d r,i∈O->j≠i->(δ.set j (some (.list s.so)))[i]?=some (some d)->σ[i]?=some (some (.ref r))->r∈U:=λi d r hi gK e1 h1=>by
   rw[aaT gK]at e1;obtain⟨r',o,a,b,_⟩:=R.r.ow i d hi e1;rw[h1]at a;cases a;exact b
  by_cases h3:j=i;.grind
  .by_cases h4:j=i';.grind
   .rw [aaT h3]at e1;rw[aaT h4]at e2;exact R.r.inj i i' d d' r ((aam.mp hi).resolve_left λz=>h3 z.symm) ((aam.mp hi').resolve_left λz=>h4 z.symm) gK e1 e2 h1 h2
theorem Pu:wo H (U++(([a,dx,p,q]++[l])++A0))=wo H ((l::U)++([a,dx,p,q]++A0)):=kN λx=>by
 simp only[aaf,aam,ade,or_false]
 exact⟨λz=>z.elim (λy=>.inl (.inr y)) λz=>z.elim (λz=>z.elim (λy=>.inr (.inl y)) λy=>.inl (.inl y)) λy=>.inr (.inr y),λz=>z.elim (λz=>z.elim (λy=>.inr (.inl (.inr y))) .inl) λz=>z.elim (λy=>.inr (.inl (.inl y))) λy=>.inr (.inr y)⟩
def Jg(j:Nat)(l:Addr){α:Type}(g:DS->Option α):DS->Dl->Option (α×Dl):=UC j l λδ s=>(g (δ.set j (some (.list s.so)))).bind λd=>some (d,s)
theorem Pw(h:PE X e (tE X.K (j::O) g))(hj:j∉O:=by decide):PE X e (xI X.K O (Pt C a dx p q l) (Jg j l g)):=h.mono λσ H Q ⟨B,U,A0,δ,s,d,s',R,ed,qq⟩=>by
 obtain⟨h0,ed⟩:=vg ed
 obtain⟨d',e1,e2⟩:=bind1 ed
 cases e2
 obtain⟨rfl,_⟩:=id R.p
 exact⟨l::U,[a,dx,p,q]++A0,_,d,R.see hj h0,e1,λv H' k hv=>qq _ v H' (.of k) (λ_ z=>.inl z) (R.same k) (by rw[Pu];exact hv)⟩
theorem Px(h:PT X c (tT X.K (j::O) g))(hj:j∉O:=by decide):PT X c (LK X.K O (Pt C a dx p q l) (Jg j l g)):=h.mono λσ H Q ⟨B,U,A0,δ,s,d,s',R,ed,qq⟩=>by
 obtain⟨h0,ed⟩:=vg ed
 obtain⟨d',e1,e2⟩:=bind1 ed
 cases e2
 obtain⟨rfl,_⟩:=id R.p
 exact⟨l::U,[a,dx,p,q]++A0,_,d,R.see hj h0,e1,λH' k=>qq _ H' (.of k) (λ_ z=>.inl z) (R.same k)⟩
end
end L2
namespace L2
open PySem PySem.Spec PyProof.Rows
section
variable {prog:Program}{w:World}{A:Around}{E:dz}
theorem CA(gK:l≠it):∀(n i:Nat) (s:Shared) (Q:List Value->Shared->Prop),s.heap.IsListIter it l i->s.heap.IsList l items->i+n<=items.size->
  (∀h',h'.IsListIter it l (i+n)->Heap.SameBut it s.heap h'->Q ((items.toList.drop i).take n) {s with heap:=h'})->wpAny (model prog w) A (draw (.ref it) n) Q E s
 |0,i,s,Q,hit,_,_,hQ=>wpAny_pure (by simpa using hQ s.heap hit (Heap.SameBut.refl ..))
 |n+1,i,s,Q,hit,hl,hle,hQ=>by
   have i9:i<items.size:=by lia
   have hx:items[i]?=some items[i]:=by simp[i9]
   refine aaa (wpAny_pyNext_list_item hit hl hx λh1 YO s1=>?_);have BA:h1.IsList l items:=let⟨o,e,r⟩:=hl;⟨o,(s1.2 l gK).trans e,r⟩;refine aaa (abN (CA gK n (i+1) _ _ YO BA (by lia) λh2 it2 s2=>aae ?_));have q:=hQ h2 (by rw[show i+(n+1)=i+1+n by lia];exact it2) (s1.trans s2);rw[show items.toList.drop i=items[i]::items.toList.drop (i+1)by simp[acW,i9],List.take_succ_cons]at q;exact q
theorem E1(hh:A.handled=none)(hl:s.heap.IsList l items)
  (hQ:∀h',Heap.ExtBut s.heap.objs.size s.heap h'->Q items.toList {s with heap:=h'}):wpAny (model prog w) A (unpackItems (.ref l) items.size none) Q E s:=by
 have i9:l≠s.heap.objs.size:=by obtain⟨o,ho,_⟩:=hl;exact aat (aai ho)
 have hp:∀ob,(s.heap.push ob).IsList l items:=λob=>let⟨o,e,r⟩:=hl;⟨o,aab _ e,r⟩
 refine aaa ?_
 refine aaa (wpAny_specialOf hl.typeIs slot_list_iter.lookup (aae ?_))
 refine aaa (abN (adU hl ?_))
 refine aaa (abN (CA i9 items.size 0 _ _ ⟨_,aag _ rfl,rfl,rfl⟩ (hp _) (by lia) λh1 YO s1=>?_))
 rw[show List.take items.size (List.drop 0 items.toList)=items.toList by rw[List.drop_zero];exact adZ (by simp),aaO (by simp)]
 have BA:h1.IsList l items:=let⟨o,e,r⟩:=hp _;⟨o,(s1.2 l i9).trans e,r⟩
 refine aaa (abN (wpAny_pyNext_list_end hh YO BA (by simp) λh2 e2=>?_))
 exact aae (hQ h2 λb o hb e=>e2 b o hb (s1.extBut b o hb (aab _ e)))
end
def UD(K:ak)(n:Nat)(t:SK):TG:=λv σ H Q=>∃a xs,v=.ref a/\kY K H a xs/\xs.length=n/\t xs σ H Q
section
variable {X:Cx}{es:List Expr}{pos:Pos}
theorem Py(hc:X.calm=true)(h:HM X es t)(hn:(assignEach es X.env).length=n:=by rfl)(Bv:(assignEach es X.env).findIdx? (·.1)=none:=by rfl):PG X (.Tuple es k pos) (UD X.K n t):=by
 intro pins s σ H v u Q I r ⟨a,xs,e1,hq,hl,hw⟩
 subst e1
 cases r
 obtain⟨its,rv,p,hz⟩:=I.list hq
 refine aaa (adk ?_)
 unfold unpack
 rw[Bv,show(assignEach es X.env).length=its.toArray.size by simp[hn,<-hl,rv.length]]
 refine aaa (abN (E1 (I.ok.hd hc) p.isList λh' hx=>?_))
 have I1:=I.kept (t':=s.toks) λb o e=>hx b o (aat (aai e)) e
 exact h pins _ σ H xs _ Q I1 (by simpa using rv) hw
end
end L2
namespace L2
open PySem PySem.Spec PySem.W PyProof.Rows
def zh(j:Nat)(l:Addr)(gx ge:be):GD Dl:=UC j l λδ s=>(ge δ).bind λd=>(gx δ).bind λk=>match k with
 |.int n=>(Nv s.so.length n).bind λi=>some (.nx δ,⟨s.dk,s.so.set i d⟩)
 |_=>none
section
variable {X:Cx}{O:List Nat}{C a dx p q l:Addr}{j:Nat}{e:Expr}{st:Stmt}{xk:Str->Hp->Prop}{es:List Expr}{pos pH:Pos}
theorem G0(h:PS X st (uC (tE X.K O ge) (SN (iO j) (gz X.K O gx) Kg)))(hj:j∉O:=by decide):PS X st (oS X.K O (Pt C a dx p q l) xk (zh j l gx ge)):=h.mono λE σ H ⟨H0,B,U,A0,δ,s,r,s',R,F,ed,P⟩=>by
 obtain⟨h0,ed⟩:=vg ed
 obtain⟨d,e1,e2⟩:=bind1 ed
 obtain⟨k,e5,e6⟩:=bind1 e2
 cases k with
 |int n=>
   obtain⟨i,e7,e8⟩:=bind1 e6;cases e8;obtain⟨rfl,pk,xs,hl,hx⟩:=id R.p;obtain⟨v0,YQ,Rk⟩:=R.r.fz j (a9 l) hj h0;obtain rfl:=iz Rk;refine⟨U,([a,dx,p,q]++[l])++A0,δ,d,R.r,e1,λv H1 s1 hv=>⟨.ref l,YQ,U,([a,dx,p,q]++[l])++A0,δ,_,(R.same s1).r,e5,λv2 H2 s2 X8=>?_⟩⟩;have sm:=s1.trans s2;have R2:=R.same sm;have HY:=sm _ _ hl;refine⟨l,xs,n,i,rfl,X8.int,HY,by rw[hx.len];exact e7,?_⟩;have nl:=wy pk hl;have sx:cg ([a,dx,p,q]++[l]) H2 (upd H2 l (.lst (xs.set i v))):=λb o nb hb=>by rw[av λw=>nb (by rw[w];simp)];exact hb
   have sw:=sx.wo (A:=U++(([a,dx,p,q]++[l])++A0)) c6.K8;refine P _ U σ _ (R2.grow sx ⟨rfl,R2.p.2.1.mono (λx hx=>av λw=>nl (by rw[<-w];exact hx)) sw,_,az,?_⟩) ((F.grow (.of sm)).grow sx);exact(cC.XY (hv.same (bE s2)) i (hx.same (bE sm))).same sw
 |_=>cases e6
def L7(j:Nat)(l:Addr)(n:Nat)(u:List D->DS->Option DS):GD Dl:=UC j l λδ s=>if s.so.length=n then(u s.so δ).bind λδ'=>some (.nx δ',s)else none
set_option tactic.hygienic true in
theorem Pz(hc:X.calm=true)(hv:PE X e (iO j))(h:HM X es (TH X.K O u))(hj:j∉O:=by decide)(hn:(assignEach es X.env).length=n:=by rfl)(Bv:(assignEach es X.env).findIdx? (·.1)=none:=by rfl)
  (hs:swapsWithSole [.Tuple es k pH] e pos.line X.env=pure false:=by rfl)(hw:swappedStores [.Tuple es k pH] e X.env=pure none:=by rfl)(h1:(assignEach [.Tuple es k pH] X.env).map (·.2)=[assign (.Tuple es k pH) X.env]:=by rfl):
  PS X (.Assign [.Tuple es k pH] e pos) (oS X.K O (Pt C a dx p q l) xk (L7 j l n u)):=(zx hv (Py hc h hn Bv) hs hw h1).mono λE σ H ⟨H0,B,U,A0,δ,s,r,s',R,F,ed,P⟩=>by
 obtain⟨h0,ed⟩:=vg ed
 split at ed
 rotate_left
 .grind
 rename_i hz
 obtain⟨δ',e1,e2⟩:=bind1 ed
 cases e2
 obtain⟨rfl,pk,xs,hl,hx⟩:=id R.p
 obtain⟨v0,YQ,Rk⟩:=R.r.fz j (a9 l) hj h0
 obtain rfl:=iz Rk
 exact⟨.ref l,YQ,l,xs,rfl,.inl (.inl hl),by rw[hx.len];exact hz,U,([a,dx,p,q]++[l])++A0,δ,_,δ',R.r,hx,e1,λcQ R'=>P _ U cQ H ⟨R',R.p,R.dj,R.da⟩ F⟩
end
structure Lw where
 dk:Dk
 mi:List (List D)
def UE(K:Frag)(H Hw:Hp)(m l0 l1:Addr)(mi:List (List D)):Prop:=H m=some (.lst [.ref l0,.ref l1])/\l0≠l1/\l0≠m/\l1≠m/\∃d0 d1,mi=[d0,d1]/\Jf K H Hw l0 d0/\Jf K H Hw l1 d1
theorem UE.mono{K:Frag}(h:UE K H Hw m l0 l1 mi)(k:∀x∈[m,l0,l1],H' x=H x)(e:aA Hw BC):UE K H' BC m l0 l1 mi:=by
 obtain⟨h1,n1,n2,n3,d0,d1,rfl,h2,h3⟩:=h
 exact⟨(k m (by simp)).trans h1,n1,n2,n3,d0,d1,rfl,h2.mono (k l0 (by simp)) e,h3.mono (k l1 (by simp)) e⟩
theorem UE.own{K:Frag}(h:UE K H Hw m l0 l1 mi):∀x∈[m,l0,l1],∃xs,H x=some (.lst xs):=λx hx=>by
 obtain⟨h1,n1,n2,n3,d0,d1,rfl,⟨_,h2,_⟩,_,h3,_⟩:=h
 simp at hx
 rcases hx with rfl|rfl|rfl
 .grind
 .grind
 .grind
def UG(C a dx p q m:Addr):yc Lw where
 P K H Hw B s:=∃l0 l1,B=[a,dx,p,q]++[m,l0,l1]/\ye C K H Hw a dx p q s.dk/\UE K H Hw m l0 l1 s.mi
 own h x hx:=by
  obtain⟨l0,l1,rfl,h1,h2⟩:=h;rcases aaf.mp hx with z|z;.exact h1.own x z
  .obtain ⟨xs,e⟩:=h2.own x z;exact⟨_,e,trivial⟩
 mono h k e:=by
  obtain⟨l0,l1,rfl,h1,h2⟩:=h;exact⟨l0,l1,rfl,h1.mono (λx hx=>k x (aar _ hx)) e,h2.mono (λx hx=>k x (aad _ hx)) e⟩
theorem G1:o6 (UG C a dx p q m) C a dx p q Lw.dk (λs k=>⟨k,s.mi⟩):=⟨λ{K H Hw B s} h=>by
 obtain⟨l0,l1,rfl,h1,h2⟩:=h
 refine⟨[m,l0,l1],λ_=>Iff.rfl,λx hx=>?_,h1,λk n e=>⟨l0,l1,rfl,k,h2.mono n e⟩⟩
 obtain⟨xs,e⟩:=h2.own x hx
 exact wy h1 e⟩
noncomputable def acm:Res×Lw->Option (Res×Dk)
 |(.rt d,s)=>some (.rt d,s.dk)
 |_=>none
def Av(j:Nat)(gr YR:cq)(g:Addr->GD Lw):GD Dk:=λδ s=>(gr δ).bind λd0=>(YR δ).bind λd1=>if d0.length<=100000/\d1.length<=100000 then EY λm=>(g m (δ.set j (some (a9 m))) ⟨s,[d0,d1]⟩).bind acm else none
section
variable {X:Cx}{O:List Nat}{C a dx p q m:Addr}{j k:Nat}{x y:Str}{e1 e2 e3:Expr}{es uB:List Expr}{rest:List Stmt}{xk:Str->Hp->Prop}{LR pos' lp Wj lp2:Pos}
set_option tactic.hygienic true in
theorem L8(ha:PA X es (vD X.K O gr))(hb:PA X uB (vD X.K O YR))(hN:X.N.Nodup)(hi:X.N[j]?=some y)(hx:Loc X.env.scope y)(LV:∀m,jy X rest (oS X.K O (UG C a dx p q m) xk (g m)))(hj:j∉O:=by decide)
  (h1:starEach [.List es lp,.List uB Wj] X.env=(false,eval (.List es lp) X.env)::starEach [.List uB Wj] X.env:=by rfl)(h2:starEach [.List uB Wj] X.env=(false,eval (.List uB Wj) X.env)::starEach [] X.env:=by rfl)
  (hs:swapsWith (.List [.List es lp,.List uB Wj] lp2) (some (.Name y LR)) pos'.line X.env=pure false:=by rfl)(hf:X.fn y=true\/X.env.scope.names.lookup y=some .local:=by first|exact .inl rfl|exact .inr rfl):
  jy X (.Assign [.Name y LR] (.List [.List es lp,.List uB Wj] lp2) pos'::rest) (oS X.K O (EV C a dx p q) xk (Av j gr YR g)):=by
 have h3:jy X rest (λE σ H=>∃m,oS X.K O (UG C a dx p q m) xk (g m) E σ H):=λpins s σ H E I ⟨m,t⟩=>LV m pins s σ H E I t
 refine(mH (fR hN hi hx (vv (aY (vv ha) (aY (vv hb) b9 h2) h1)) hs hf) h3).mono λE σ H ⟨H0,B,U,A0,δ,s,r,s',R,F,ed,P⟩=>?_
 obtain⟨d0,e1,e2⟩:=bind1 ed
 obtain⟨d1,e3,e4⟩:=bind1 e2
 split at e4
 rotate_left
 .grind
 obtain⟨rfl,pk⟩:=id R.p
 refine⟨U,[a,dx,p,q]++A0,δ,d0,R.r,e1,λWk H1 s1 hx0=>⟨by have:=hx0.len;exact small (by lia),λl0 Wc=>?_⟩⟩
 have s2:aA H1 (upd H1 l0 (.lst Wk)):=bj Wc _
 have Rl:=(R.same s1).r.hide (B:=[l0]) s2 (λz hz=>by rw[aaE.mp hz];exact Wc) (λz hz=>by rw[aaE.mp hz];exact⟨_,az,trivial⟩)
 refine⟨U,[l0]++([a,dx,p,q]++A0),δ,d1,Rl,e3,λYS H3 s3 Z6=>⟨by have:=Z6.len;exact small (by lia),λl1 BA=>⟨by show 2<=sizeLine;decide,λm hm=>⟨m,?_⟩⟩⟩⟩
 have k0:(upd H3 l1 (.lst YS)) l0=some (.lst Wk):=(bj BA _) _ _ (s3 _ _ az)
 have PB:l0≠l1:=λz=>by
  have:=s3 _ _ (az (H:=H1) (a:=l0) (o:=.lst Wk));rw[z,BA]at this;cases this
 have nm0:l0≠m:=λz=>by rw[<-z,k0]at hm;cases hm
 have nm1:l1≠m:=λz=>by rw[<-z,az]at hm;cases hm
 obtain⟨H',eH⟩:∃H',H'=upd (upd H3 l1 (.lst YS)) m (.lst [.ref l0,.ref l1]):=⟨_,rfl⟩
 have s4:aA H3 H':=by rw[eH];exact(bj BA _).trans (bj hm _)
 have sm:=((s1.trans s2).trans s3).trans s4
 have q0:H' l0=some (.lst Wk):=by rw[eH,av nm0];exact k0
 have q1:H' l1=some (.lst YS):=by rw[eH,av nm1];exact az
 have qm:H' m=some (.lst [.ref l0,.ref l1]):=by rw[eH];exact az
 have f0:=s1.free Wc
 have f1:=((s1.trans s2).trans s3).free BA
 have fm:=(((s1.trans s2).trans s3).trans (bj BA _)).free hm
 have nB:∀z∈[m,l0,l1],H z=none:=λz hz=>by grind
 rw[<-eH]
 obtain⟨⟨r1,t1⟩,g1,g2⟩:=bind1 (wq e4 m)
 have PD:∀x,x∈U++([m,l0,l1]++([a,dx,p,q]++A0))↔x∈U++(([a,dx,p,q]++[m,l0,l1])++A0):=λx=>by grind
 have ow:∀x∈[m,l0,l1],∃o,H' x=some o/\uG o:=λx hx=>by
  simp at hx;rcases hx with rfl|rfl|rfl;.exact ⟨_,qm,trivial⟩
  .exact ⟨_,q0,trivial⟩
  .exact ⟨_,q1,trivial⟩
 have Rh:=R.r.hide (B:=[m,l0,l1]) sm nB ow
 have ew:∀h:Hp,wo h (U++([m,l0,l1]++([a,dx,p,q]++A0)))=wo h (U++(([a,dx,p,q]++[m,l0,l1])++A0)):=λh=>kN PD
 have R3:Rel X.K O U (([a,dx,p,q]++[m,l0,l1])++A0) σ δ H':=⟨Rh.len,λi d hi ed=>by rw[<-ew];exact Rh.fz i d hi ed,λi d hi ed=>by rw[<-ew];exact Rh.ow i d hi ed,Rh.inj,Rh.al.congr λx hx=>(PD x).mpr hx⟩
 have kw:aA (wo H (U++([a,dx,p,q]++A0))) (wo H' (U++(([a,dx,p,q]++[m,l0,l1])++A0))):=λb o hb=>by
  have nb:b∉U++([a,dx,p,q]++A0):=λz=>by rw[dG z]at hb;cases hb
  rw[aN nb]at hb;rw[aN λz=>?_];.exact sm b o hb
  .grind
 have v0:cC X.K (wo H' (U++(([a,dx,p,q]++[m,l0,l1])++A0))) Wk d0:=by
  refine hx0.same λb o hb=>?_;have nb:b∉U++([a,dx,p,q]++A0):=λz=>by rw[dG z]at hb;cases hb
  rw[aN nb]at hb;rw[aN λz=>?_];.exact ((s2.trans s3).trans s4) b o hb
  .rcases aaf.mp ((PD b).mpr z)with y|y;.grind
   .rcases aaf.mp y with y|y
    .simp at y;rcases y with rfl|rfl|rfl;.rw [((s2.trans s3).trans (bj BA _)).free hm]at hb;cases hb
     .grind
     .rw [(s2.trans s3).free BA]at hb;cases hb
    .grind
 have v1:cC X.K (wo H' (U++(([a,dx,p,q]++[m,l0,l1])++A0))) YS d1:=by
  refine Z6.same λb o hb=>?_;have nb:b∉U++([l0]++([a,dx,p,q]++A0)):=λz=>by rw[dG z]at hb;cases hb
  rw[aN nb]at hb;rw[aN λz=>?_];.exact s4 b o hb
  .rcases aaf.mp ((PD b).mpr z)with y|y;.grind
   .rcases aaf.mp y with y|y
    .simp at y;rcases y with rfl|rfl|rfl;.rw [(bj BA _).free hm]at hb;cases hb
     .grind
     .grind
    .grind
 have nn:∀A:List Addr,(∀z∈A,z∉[a,dx,p,q])->(∀z∈A,∃o,H z=some o/\uG o)->∀z∈A,z∉[a,dx,p,q]++[m,l0,l1]:=λA h1 h z hz hB=>by grind
 refine⟨H0,[a,dx,p,q]++[m,l0,l1],U,A0,_,⟨s,[d0,d1]⟩,r1,t1,⟨R3.set hj (.ptr m),⟨l0,l1,rfl,pk.mono (yc.at (Γ:=EV C a dx p q) (K:=X.K) (U:=U++([a,dx,p,q]++A0)) ⟨rfl,pk⟩ sm) kw,qm,PB,nm0,nm1,d0,d1,rfl,⟨Wk,q0,v0⟩,⟨YS,q1,v1⟩⟩,nn U R.dj λz hz=>R.r.al.1 z (aar _ hz),nn A0 R.da λz hz=>R.r.al.1 z (aad _ (aad _ hz))⟩,
  ⟨F.same.trans sm,F.new,λz hz=>(aaf.mp hz).elim (F.mw z) λy=>F.same.free (nB z y),F.old⟩,g1,?_⟩
 have back:∀{B:List Addr} {H2:Hp},(UG C a dx p q m).P X.K H2 (wo H2 (B++A0)) B t1->(EV C a dx p q).P X.K H2 (wo H2 ([a,dx,p,q]++A0)) [a,dx,p,q] t1.dk/\aA (wo H2 (B++A0)) (wo H2 ([a,dx,p,q]++A0))/\∀x∈[a,dx,p,q],x∈B:=λ{B H2} h=>by
  obtain⟨l0',l1',rfl,h1,_⟩:=h;have k:aA (wo H2 (([a,dx,p,q]++[m,l0',l1'])++A0)) (wo H2 ([a,dx,p,q]++A0)):=iu λz hz=>(aaf.mp hz).elim (λy=>aar _ (aar _ y)) λy=>aad _ y;exact⟨⟨rfl,h1.mono (λ_ _=>rfl) k⟩,k,λz hz=>aar _ hz⟩
 cases r1 with
 |rt d=>
   cases g2;refine⟨λB v H2 k2 n2 YJ hv=>?_,λB c H2 hc k2 n2 YJ=>?_⟩;.obtain ⟨b1,b2,b3⟩:=back YJ;exact P.1 _ v H2 k2 (λz hz=>n2 z (b3 z hz)) b1 (hv.same b2)
   .obtain ⟨b1,b2,b3⟩:=back YJ;exact P.2 _ c H2 hc k2 (λz hz=>n2 z (b3 z hz)) b1
 |_=>cases g2
end
open Classical in
def UH {α:Type} (j:Nat) (m:Addr) (g:DS->Lw->Option α):DS->Lw->Option α:=λδ s=>if δ[j]?=some (some (a9 m))then g δ s else none
theorem Aw(h:UH j m g δ s=some r):δ[j]?=some (some (a9 m))/\g δ s=some r:=by
 unfold UH at h
 split at h
 .grind
 .cases h
theorem E2(h:δ[j]?=some (some (a9 m)))(e:g δ s=r):UH j m g δ s=r:=by
 unfold UH
 rw[aaq h];exact e
noncomputable def E3:D->Option Bool
 |.int 0=>some false
 |.int 1=>some true
 |_=>none
def m5(mi:List (List D))(b:Bool)(ds:List D):List (List D):=mi.set (if b=true then 1 else 0) ds
def CC(mi:List (List D))(b:Bool):List D:=mi.getD (if b=true then 1 else 0) []
theorem zi(h:E3 d=some b):d=.int (if b=true then 1 else 0):=by
 unfold E3 at h
 split at h
 .grind
 .grind
 .cases h
def Ax(j:Nat)(m:Addr)(gi:be)(gr:cq):GD Lw:=UH j m λδ s=>(gr δ).bind λds=>(gi δ).bind λk=>(E3 k).bind λb=>if ds.length<=100000 then some (.nx δ,⟨s.dk,m5 s.mi b ds⟩)else none
section
variable {X:Cx}{O:List Nat}{C a dx p q m:Addr}{j kk:Nat}{e1 e2 e3:Expr}{st:Stmt}{xk:Str->Hp->Prop}
set_option tactic.hygienic true in
theorem L9(h:PS X st (uC (XA (vD X.K O gr)) (SN (iO j) (gz X.K O gi) Kg)))(hj:j∉O:=by decide):PS X st (oS X.K O (UG C a dx p q m) xk (Ax j m gi gr)):=h.mono λE σ H ⟨H0,B,U,A0,δ,s,r,s',R,F,ed,P⟩=>by
 obtain⟨h0,ed⟩:=Aw ed
 obtain⟨ds,e1,e2⟩:=bind1 ed
 obtain⟨kd,e3,e4⟩:=bind1 e2
 obtain⟨b,e5,e6⟩:=bind1 e4
 split at e6
 rotate_left
 .grind
 cases e6
 obtain rfl:=zi e5
 obtain⟨l0,l1,rfl,pk,mk⟩:=id R.p
 obtain⟨hm,PB,UI,UJ,d0,d1,Wl,t0,t1⟩:=id mk
 obtain⟨v0,YQ,Rk⟩:=R.r.fz j (a9 m) hj h0
 obtain rfl:=iz Rk
 refine⟨U,([a,dx,p,q]++[m,l0,l1])++A0,δ,ds,R.r,e1,λxs H1 s1 hx=>⟨by have:=hx.len;exact small (by lia),λl hl=>?_⟩⟩
 have s2:aA H1 (upd H1 l (.lst xs)):=bj hl _
 have Rl:=(R.same s1).r.hide (B:=[l]) s2 (λz hz=>by rw[aaE.mp hz];exact hl) (λz hz=>by rw[aaE.mp hz];exact⟨_,az,trivial⟩)
 refine⟨.ref m,YQ,U,[l]++(([a,dx,p,q]++[m,l0,l1])++A0),δ,_,Rl,e3,λv2 H3 s3 h2=>?_⟩
 have s12:=s1.trans s2
 have sm:=s12.trans s3
 have hl3:=s3 _ _ az
 have hm3:=sm _ _ hm
 have fl:=s1.free hl
 have YT:l≠m:=λz=>by rw[z,hm]at fl;cases fl
 have nl0:l≠l0:=λz=>by obtain⟨y,hy,_⟩:=t0;rw[z,hy]at fl;cases fl
 have UK:l≠l1:=λz=>by obtain⟨y,hy,_⟩:=t1;rw[z,hy]at fl;cases fl
 refine⟨m,[.ref l0,.ref l1],(if b=true then 1 else 0),(if b=true then 1 else 0),rfl,h2.int,hm3,by cases b<;>rfl,?_⟩
 have nd:∀z∈[a,dx,p,q],z≠m:=λz hz w=>wy pk hm (by rw[<-w];exact hz)
 obtain⟨L0,L1,eL⟩:∃L0 L1,(L0,L1)=if b=true then(l0,l)else(l,l1):=⟨_,_,rfl⟩
 have acn:([.ref l0,.ref l1]:List V).set (if b=true then 1 else 0) (.ref l)=[.ref L0,.ref L1]:=by cases b<;>(cases eL;rfl)
 rw[acn]
 obtain⟨H4,eH⟩:∃H4,H4=upd H3 m (.lst [.ref L0,.ref L1]):=⟨_,rfl⟩
 rw[<-eH]
 have aco:∀z∈[m,L0,L1],z∈[m,l0,l1]\/z=l:=λz hz=>by grind
 have sx:cg [m] H3 H4:=λb o nb hb=>by rw[eH,av λw=>nb (by rw[w];simp)];exact hb
 have vis:∀{A:List Addr},m∈A->(∀z∈U++(([a,dx,p,q]++[m,L0,L1])++A0),z∈A)->aA (wo H3 A) (wo H4 (U++(([a,dx,p,q]++[m,L0,L1])++A0))):=λ{A} hmA hA b o hb=>by
  have nb:b∉A:=λz=>by rw[dG z]at hb;cases hb
  rw[aN nb]at hb;rw[aN λz=>nb (hA b z)];exact sx b o (λz=>nb (by rw[aaE.mp z];exact hmA)) hb
 have hA1:∀z∈U++(([a,dx,p,q]++[m,L0,L1])++A0),z∈U++([l]++(([a,dx,p,q]++[m,l0,l1])++A0)):=λz hz=>by grind
 have hmA:m∈U++([l]++(([a,dx,p,q]++[m,l0,l1])++A0)):=by simp
 have k1:=vis hmA hA1
 have K8:∀{Hx:Hp},aA H Hx->aA (wo H (U++(([a,dx,p,q]++[m,l0,l1])++A0))) (wo Hx (U++([l]++(([a,dx,p,q]++[m,l0,l1])++A0)))):=λ{Hx} s b o hb=>by
  have nb:b∉U++(([a,dx,p,q]++[m,l0,l1])++A0):=λz=>by rw[dG z]at hb;cases hb
  rw[aN nb]at hb;rw[aN λz=>?_];.exact s b o hb
  .grind
 have kk:=(K8 sm).trans k1
 have Rs:=Rl.same s3
 have R4:Rel X.K O U (([a,dx,p,q]++[m,L0,L1])++A0) σ δ H4:=by
  refine⟨Rs.len,λi d hi ed=>?_,λi d hi ed=>?_,Rs.inj,λz hz=>?_,λpp ys mm=>?_⟩;.obtain ⟨v,x1,x2⟩:=Rs.fz i d hi ed;exact⟨v,x1,x2.same k1⟩
  .obtain ⟨l',o,x1,x2,x3,x4⟩:=Rs.ow i d hi ed;exact⟨l',o,x1,x2,sx l' o (λw=>R.dj l' x2 (by rw[aaE.mp w];simp)) x3,x4.same k1⟩
  .by_cases w:z=m;.exact ⟨.lst [.ref L0,.ref L1],by rw[w,eH];exact az,trivial⟩
   .obtain ⟨o,x1,x2⟩:=Rs.al.1 z (hA1 z hz);exact⟨o,sx z o (λy=>w (aaE.mp y)) x1,x2⟩
  .have tt:=Rs.al.2 pp ys mm;have nn:=λw=>tt.apart hm3 (show uG (.lst [.ref l0,.ref l1])from trivial) (aaE.mp w);rcases tt with tt|⟨ob,tt⟩;.exact .inl (sx _ _ nn tt)
   .exact .inr ⟨ob,sx _ _ nn tt⟩
 have hxs:cC X.K (wo H4 (U++(([a,dx,p,q]++[m,L0,L1])++A0))) xs ds:=by
  refine(hx.same λb o hb=>?_:cC X.K (wo H3 (U++([l]++(([a,dx,p,q]++[m,l0,l1])++A0)))) xs ds).same k1;have nb:b∉U++(([a,dx,p,q]++[m,l0,l1])++A0):=λz=>by rw[dG z]at hb;cases hb
  rw[aN nb]at hb;rw[aN λz=>?_];.exact (s2.trans s3) b o hb
  .grind
 have lt:∀{l':Addr} {dd:List D},l'≠m->Jf X.K H (wo H (U++(([a,dx,p,q]++[m,l0,l1])++A0))) l' dd->Jf X.K H4 (wo H4 (U++(([a,dx,p,q]++[m,L0,L1])++A0))) l' dd:=λ{l' dd} hn ⟨ys,y1,y2⟩=>⟨ys,sx _ _ (λw=>hn (aaE.mp w)) (sm _ _ y1),y2.same kk⟩
 have ltl:Jf X.K H4 (wo H4 (U++(([a,dx,p,q]++[m,L0,L1])++A0))) l ds:=⟨xs,sx _ _ (λw=>YT (aaE.mp w)) hl3,hxs⟩
 have nB:∀z∈[m,L0,L1],z∈[m,l0,l1]\/H z=none:=λz hz=>(aco z hz).imp id λw=>by rw[w];exact fl
 have nn:∀A:List Addr,(∀z∈A,z∉[a,dx,p,q]++[m,l0,l1])->(∀z∈A,∃o,H z=some o/\uG o)->∀z∈A,z∉[a,dx,p,q]++[m,L0,L1]:=λA h1 h z hz hB=>by grind
 refine P ([a,dx,p,q]++[m,L0,L1]) U σ H4 ⟨R4,⟨L0,L1,rfl,pk.mono (λz hz=>?_) kk,?_⟩,nn U R.dj λz hz=>R.r.al.1 z (aar _ hz),nn A0 R.da λz hz=>R.r.al.1 z (aad _ (aad _ hz))⟩ ⟨?_,F.new,λz hz=>?_,F.old⟩
 .obtain ⟨o,y1,_⟩:=pk.own z hz;rw[y1,sx z o (λw=>nd z hz (aaE.mp w)) (sm _ _ y1)]
 .rw [Wl];have qm:H4 m=some (.lst [.ref L0,.ref L1]):=by rw[eH];exact az
  cases b with
  |true=>cases eL;exact⟨qm,acb nl0,UI,YT,d0,ds,rfl,lt UI t0,ltl⟩
  |false=>cases eL;exact⟨qm,UK,YT,UJ,ds,d1,rfl,ltl,lt UJ t1⟩
 .exact λb o hb=>sx b o (λw=>by rw[aaE.mp w,F.mw m (by simp)]at hb;cases hb) (sm _ _ (F.same _ _ hb))
 .rcases aaf.mp hz with y|y;.exact F.mw z (aar _ y)
  .rcases nB z y with w|w;.exact F.mw z (aad _ w)
   .exact F.same.free w
end
open Classical in
def Ay (j0 j:Nat) (a m:Addr) (G:Addr->Addr->List D->Dl->Option (D×Dl)) (g1 gi g3:be):DS->Lw->Option (D×Lw):=UH j m λδ s=>if δ[j0]?=some (some (a9 a))then(g1 δ).bind λd1=>(gi δ).bind λk=>(E3 k).bind λb=>(g3 δ).bind λd3=>
 EY λl=>(G a l [a9 a,d1,a9 l,d3] ⟨s.dk,CC s.mi b⟩).bind λr=>some (r.1,(⟨r.2.dk,m5 s.mi b r.2.so⟩:Lw))else none
section
variable {X:Cx}{O:List Nat}{C a dx p q m:Addr}{j j0 k kk:Nat}{x:Str}{ps:List Str}{e0 e1 em e3 ie:Expr}{pos pH Rm:Pos}{G:Addr->Addr->List D->Dl->Option (D×Dl)}{g1 gi g3:be}
set_option tactic.hygienic true in
theorem Ma(F:Dn X.prog X.w X.K X.mg X.base k x ps (UB X.K C 4 2 G))(hr:de kk X.A)(hk:k<=kk)(h0:PE X e0 (iO j0))(h1:PE X e1 (tE X.K O g1))(hm:PE X em (iO j))(hi:PE X ie (gz X.K O gi))(h3:PE X e3 (tE X.K O g3))(hj0:j0∉O:=by decide)(hj:j∉O:=by decide)
  (hs:u9 ie:=by exact λ_ _=>rfl)(hg:Gl X x:=by rfl)(pf:(x==("__debug__":Str))=false:=by decide)
  (K9:starEach [e0,e1,.Subscript em ie Rm,e3] X.env=(false,eval e0 X.env)::starEach [e1,.Subscript em ie Rm,e3] X.env:=by rfl)(Ez:starEach [e1,.Subscript em ie Rm,e3] X.env=(false,eval e1 X.env)::starEach [.Subscript em ie Rm,e3] X.env:=by rfl)
  (jF:starEach [.Subscript em ie Rm,e3] X.env=(false,eval (.Subscript em ie Rm) X.env)::starEach [e3] X.env:=by rfl)(Nt:starEach [e3] X.env=(false,eval e3 X.env)::starEach [] X.env:=by rfl)
  (i8:(backTo pos (starEach [e1,.Subscript em ie Rm,e3] X.env)).any (·.1)=false:=by rfl):
  PE X (.Call (.Name x pH) [e0,e1,.Subscript em ie Rm,e3] [] pos) (xI X.K O (UG C a dx p q m) (Ay j0 j a m G g1 gi g3)):=by
 refine(yU F hr hk (aY h0 (aY h1 (aY (Kf Ed hm hi hs) (aY h3 b9 Nt) jF) Ez) K9) hg pf K9 i8).mono λσ H Q ⟨B,U,A0,δ,s,d,s',R,ed,qq⟩=>?_
 obtain⟨Jh,ed0⟩:=Aw ed
 split at ed0
 rotate_left
 .grind
 rename_i ha0
 obtain⟨d1,e1,ed1⟩:=bind1 ed0
 obtain⟨kd,e2,ed2⟩:=bind1 ed1
 obtain⟨b,e3,YU⟩:=bind1 ed2
 obtain⟨d3,e4,ed4⟩:=bind1 YU
 obtain rfl:=zi e3
 obtain⟨va,hva,hda⟩:=R.r.fz j0 (a9 a) hj0 ha0
 obtain rfl:=iz hda
 obtain⟨vm,hvm,V5⟩:=R.r.fz j (a9 m) hj Jh
 obtain rfl:=iz V5
 obtain⟨l0,l1,rfl,pk,mk⟩:=id R.p
 obtain⟨hmm,PB,UI,UJ,dd0,dd1,Wl,t0,t1⟩:=id mk
 refine⟨.ref a,hva,U,([a,dx,p,q]++[m,l0,l1])++A0,δ,d1,R.r,e1,λv1 H1 s1 Bz=>?_⟩
 refine⟨.ref m,hvm,U,([a,dx,p,q]++[m,l0,l1])++A0,δ,_,(R.same s1).r,e2,λv2 H2 s2 h2=>?_⟩
 obtain⟨l,lo,el⟩:∃l lo,(l,lo)=if b=true then(l1,l0)else(l0,l1):=⟨_,_,rfl⟩
 refine .inl ⟨m,[.ref l0,.ref l1],(if b=true then 1 else 0),.ref l,rfl,h2.int,.inl (.inl ((s1.trans s2) _ _ hmm)),by cases b<;>(cases el;rfl),?_⟩
 refine⟨U,([a,dx,p,q]++[m,l0,l1])++A0,δ,d3,(R.same (s1.trans s2)).r,e4,λv3 H3 s3 hd3=>?_⟩
 have sm:=(s1.trans s2).trans s3
 have R3:=R.same sm
 obtain⟨⟨d',sl⟩,g1',g2'⟩:=bind1 (wq ed4 l)
 cases g2'
 have fac:l≠lo/\l≠m/\lo≠m/\(∀x,x∈[l0,l1]↔x∈[l,lo])/\Jf X.K H (wo H (U++(([a,dx,p,q]++[m,l0,l1])++A0))) l (CC s.mi b)/\∃xo,H lo=some (.lst xo):=by
  rw[Wl];obtain⟨y0,z0,w0⟩:=id t0;obtain⟨y1,z1,w1⟩:=id t1;cases b with
  |true=>cases el;exact⟨acb PB,UJ,UI,λx=>by simp;exact Or.comm,t1,y0,z0⟩
  |false=>cases el;exact⟨PB,UI,UJ,λx=>Iff.rfl,t0,y1,z1⟩
 obtain⟨nlo,YT,nom,afT,tl,xo,hlo⟩:=fac
 obtain⟨xl,hl,hxl⟩:=id tl
 have mem:∀x,x∈U++(([a,dx,p,q]++[m,l0,l1])++A0)↔x∈([a,dx,p,q]++[l])++(U++([m,lo]++A0)):=λx=>by grind
 have ew:∀h:Hp,wo h (U++(([a,dx,p,q]++[m,l0,l1])++A0))=wo h (([a,dx,p,q]++[l])++(U++([m,lo]++A0))):=λh=>kN mem
 have subB:∀x∈[a,dx,p,q]++[l],x∈[a,dx,p,q]++[m,l0,l1]:=λx hx=>by grind
 have nd:∀{y:Addr} {ys:List V},H y=some (.lst ys)->y∉[a,dx,p,q]:=λe=>wy pk e
 have pk3:ye C X.K H3 (wo H3 (U++(([a,dx,p,q]++[m,l0,l1])++A0))) a dx p q s.dk:=pk.mono (λx hx=>by obtain⟨o,y,_⟩:=pk.own x hx;rw[y,sm _ _ y]) (bE sm)
 refine⟨rfl,a,dx,p,q,l,U++([m,lo]++A0),[a9 a,d1,a9 l,d3],⟨s.dk,CC s.mi b⟩,d',sl,R3.r.al.congr λx hx=>(mem x).mpr hx,λx hx=>?_,⟨rfl,ew H3 ▸ pk3,xl,sm _ _ hl,ew H3 ▸ hxl.same (bE sm)⟩,ew H3 ▸ .cons (.ptr a) (.cons (Bz.same (bE (s2.trans s3))) (.cons (.ptr l) (.cons hd3 .nil))),rfl,rfl,g1',λv H4 k4 p4 h4=>?_⟩
 .intro hz;rcases aaf.mp hx with y|y;.exact R.dj x y (subB x hz)
  .rcases aaf.mp y with y|y;.grind
   .exact R.da x y (subB x hz)
 .rw [<-ew]at p4 h4;have sx:cg ([a,dx,p,q]++[m,l0,l1]) H3 H4:=λb o nb hb=>k4 b o (λz=>nb (subB b z)) hb;obtain⟨_,pk4,tl4⟩:=p4;have sw:=sx.wo (A:=U++(([a,dx,p,q]++[m,l0,l1])++A0)) c6.K8;have out:∀{y:Addr} {ys:List V},H y=some (.lst ys)->y≠l->H4 y=some (.lst ys):=λe hn=>k4 _ _ (λz=>(aaf.mp z).elim (nd e) λw=>hn (aaE.mp w)) (sm _ _ e);refine qq _ v H4 ((cg.of sm).trans sx) (λ_ z=>.inl z) (R3.grow sx ⟨l0,l1,rfl,pk4,out hmm (acb YT),PB,UI,UJ,?_⟩) h4;have keep:∀{y:Addr} {ys:List D},Jf X.K H (wo H (U++(([a,dx,p,q]++[m,l0,l1])++A0))) y ys->y≠l->Jf X.K H4 (wo H4 (U++(([a,dx,p,q]++[m,l0,l1])++A0))) y ys:=λ⟨zs,z1,z2⟩ hn=>⟨zs,out z1 hn,(z2.same (bE sm)).same sw⟩;rw[Wl];cases b with
  |true=>cases el;exact⟨dd0,sl.so,rfl,keep t0 PB,tl4⟩
  |false=>cases el;exact⟨sl.so,dd1,rfl,tl4,keep t1 (acb PB)⟩
open Classical in
def qS (j0 j:Nat) (a m:Addr) (G:Addr->List D->Dk->Option (D×Dk)) (g1:be):DS->Lw->Option (D×Lw):=UH j m λδ s=>(g1 δ).bind λd1=>(G a [a9 a,d1,.list (s.mi.map .list)] s.dk).bind λr=>match r.1 with
 |.bool t=>if δ[j0]?=some (some (a9 a))/\pj (r.2.pl.map (·.2))=true/\pj (r.2.lo.map (·.2))=true then some (.bool t,(⟨r.2,s.mi⟩:Lw))else none
 |_=>none
open Classical in
set_option tactic.hygienic true in
theorem Ji {G:Addr->List D->Dk->Option (D×Dk)} (F:Dn X.prog X.w X.K X.mg X.base k x ps (lC X.K C 3 G)) (hr:de kk X.A) (hk:k<=kk) (h0:PE X e0 (iO j0)) (h1:PE X e1 (tE X.K O g1)) (hm:PE X em (iO j)) (hj0:j0∉O:=by decide) (hj:j∉O:=by decide)
  (hg:Gl X x:=by rfl) (pf:(x==("__debug__":Str))=false:=by decide)
  (K9:starEach [e0,e1,em] X.env=(false,eval e0 X.env)::starEach [e1,em] X.env:=by rfl) (Ez:starEach [e1,em] X.env=(false,eval e1 X.env)::starEach [em] X.env:=by rfl)
  (jF:starEach [em] X.env=(false,eval em X.env)::starEach [] X.env:=by rfl) (i8:(backTo pos (starEach [e1,em] X.env)).any (·.1)=false:=by rfl):
  PE X (.Call (.Name x pH) [e0,e1,em] [] pos) (xI X.K O (UG C a dx p q m) (qS j0 j a m G g1)):=by
 refine(yU F hr hk (aY h0 (aY h1 (aY hm b9 jF) Ez) K9) hg pf K9 i8).mono λσ H Q ⟨B,U,A0,δ,s,d,s',R,ed,qq⟩=>?_
 obtain⟨Jh,ed0⟩:=Aw ed
 obtain⟨d1,e1,ed1⟩:=bind1 ed0
 obtain⟨⟨d',k'⟩,e2,ed2⟩:=bind1 ed1
 cases d' with
 |bool tt=>
   have YU:(if δ[j0]?=some (some (a9 a))/\pj (k'.pl.map (·.2))=true/\pj (k'.lo.map (·.2))=true then some (PyData.bool tt,(⟨k',s.mi⟩:Lw))else none)=some (d,s'):=ed2;split at YU;rotate_left;.cases YU
   rename_i hc;cases YU;obtain⟨ha0,UK,nl2⟩:=hc;obtain⟨va,hva,hda⟩:=R.r.fz j0 (a9 a) hj0 ha0;obtain rfl:=iz hda;obtain⟨vm,hvm,V5⟩:=R.r.fz j (a9 m) hj Jh;obtain rfl:=iz V5;obtain⟨l0,l1,rfl,pk,mk⟩:=id R.p;obtain⟨hmm,PB,UI,UJ,dd0,dd1,Wl,t0,t1⟩:=id mk;refine⟨.ref a,hva,U,([a,dx,p,q]++[m,l0,l1])++A0,δ,d1,R.r,e1,λv1 H1 s1 Bz=>⟨.ref m,hvm,?_⟩⟩;show lC X.K C 3 G ([.ref a,v1,.ref m]++[]) H1 Q E0;rw[abk];have R1:=R.same s1;have ks:aA (wo H1 (U++(([a,dx,p,q]++[m,l0,l1])++A0))) (wo H1 ([a,dx,p,q]++(U++A0))):=iu λz hz=>by
    simp only[aaf]at hz ⊢;exact hz.elim (λy=>.inr (.inl (.inl y))) λy=>y.elim .inl λy=>.inr (.inr y)
   have nh:∀z∈[m,l0,l1],z∉[a,dx,p,q]++(U++A0):=λz hz w=>by
    obtain⟨ys,e⟩:=mk.own z hz;rcases aaf.mp w with w|w;.exact wy pk e w
    .rcases aaf.mp w with w|w;.exact R.dj z w (aad _ hz)
     .exact R.da z w (aad _ hz)
   have inner:∀{y:Addr} {ys:List D},y∈[m,l0,l1]->Jf X.K H (wo H (U++(([a,dx,p,q]++[m,l0,l1])++A0))) y ys->HD X.K (wo H1 ([a,dx,p,q]++(U++A0))) (.ref y) (.list ys):=λhy ⟨zs,z1,z2⟩=>.lst (.of (by rw[aN (nh _ hy)];exact s1 _ _ z1)) ((z2.same (bE s1)).same ks);have hmi:HD X.K (wo H1 ([a,dx,p,q]++(U++A0))) (.ref m) (.list (s.mi.map .list)):=by
    rw[Wl];exact .lst (.of (by rw[aN (nh m (by simp))];exact s1 _ _ hmm)) (.cons (inner (by simp) t0) (.cons (inner (by simp) t1) .nil))
   have al1:Ls ([a,dx,p,q]++(U++A0)) H1:=R1.r.al.congr λz hz=>by
    simp only[aaf]at hz ⊢;exact hz.elim (λy=>.inr (.inl (.inl y))) λy=>y.elim .inl λy=>.inr (.inr y)
   refine⟨rfl,a,dx,p,q,U++A0,[a9 a,d1,.list (s.mi.map .list)],s.dk,.bool tt,k',al1,λz hz=>?_,(pk.mono (λz hz=>by obtain⟨o,y,_⟩:=pk.own z hz;rw[y,s1 _ _ y]) (bE s1)).mono (λ_ _=>rfl) ks,.cons (.ptr a) (.cons (Bz.same ks) (.cons hmi .nil)),rfl,e2,λv H2 k2 p2 h2=>?_⟩
   .rcases aaf.mp hz with y|y;.exact λw=>R.dj z y (aar _ w)
    .exact λw=>R.da z y (aar _ w)
   .cases h2;have sx:cg ([a,dx,p,q]++[m,l0,l1]) H1 H2:=λb o nb hb=>k2 b o (λw=>nb (aar _ w)) hb;have out:∀z∈[m,l0,l1],H2 z=H1 z:=λz hz=>by
     obtain⟨ys,e⟩:=mk.own z hz;rw[s1 _ _ e,k2 _ _ (wy pk e) (s1 _ _ e)]
    have sw:=sx.wo (A:=U++(([a,dx,p,q]++[m,l0,l1])++A0)) c6.K8;have mk2:UE X.K H2 (wo H2 (U++(([a,dx,p,q]++[m,l0,l1])++A0))) m l0 l1 s.mi:=(mk.mono (λz hz=>by obtain⟨ys,e⟩:=mk.own z hz;rw[e,s1 _ _ e]) (bE s1)).mono out sw;have al2:Ls (U++(([a,dx,p,q]++[m,l0,l1])++A0)) H2:=by
     refine⟨λz hz=>?_,λpp ys mm=>?_⟩
     .by_cases w:z∈[a,dx,p,q];.exact p2.own z w
      .obtain ⟨o,y1,y2⟩:=R1.r.al.1 z hz;exact⟨o,k2 z o w y1,y2⟩
     .have t:=R1.r.al.2 pp ys mm;have nn:pp∉[a,dx,p,q]:=λw=>by
       obtain⟨o,y1,y2⟩:=(pk.mono (H':=H1) (λz hz=>by obtain⟨o,y,_⟩:=pk.own z hz;rw[y,s1 _ _ y]) (bE s1)).own pp w;exact t.apart y1 y2 rfl
      rcases t with t|⟨ob,t⟩;.exact .inl (k2 _ _ nn t)
      .exact .inr ⟨ob,k2 _ _ nn t⟩
    have off:∀{kv:List (Key×V)} {l:List (Str×D)},pj (l.map (·.2))=true->TK X.K (wo H2 ([a,dx,p,q]++(U++A0))) kv l->TK X.K (wo H2 (U++(([a,dx,p,q]++[m,l0,l1])++A0))) kv l:=λhn ⟨u1,u2⟩=>⟨u1,(u2.same bN).off al2 hn⟩;obtain⟨q1,q2,⟨kp,q3,q4⟩,⟨kq,q5,q6⟩,q7⟩:=p2;exact qq _ _ H2 ((cg.of s1).trans sx) (λ_ z=>.inl z) (R1.grow sx ⟨l0,l1,rfl,⟨q1,q2,⟨kp,q3,off UK q4⟩,⟨kq,q5,off nl2 q6⟩,q7⟩,mk2⟩) (.bl _)
 |_=>cases ed2
end
def DfA(K:Frag)(mg:dO)(y x:Str)(st:Stmt)(ps:List Str):Prop:=∃f fd,xR K x x st f fd/\mg y=some (.ref f)/\Binds K fd ps []
theorem PH{K:Frag}{st:Stmt}(O:List Nat)(g:bB)(F:DfA K mg y x st ps)(S:aB N ps (ah st))
  (body:∀(f:Addr) (cn:Value) (A:Around) (outer:List Env) (s:Shared) (H:Hp) (E:XK),de k (A.deeper (envOfC x (ah st) s.heap.objs.size f cn))->jy (jd xQ P w K mg base N x (ah st) f cn A outer s H E).JG (bP st) (tS K O (false,λ_ _=>True) g))
  (hO:∀i∈O,ps.length<=i:=by decide)(hN:N.length=n:=by rfl)(hP:ps.length=m:=by rfl):Dn P w K mg base (k+1) y ps (kF K m (fB n g)):=by
 obtain⟨f,fd,F,e,b⟩:=F
 exact⟨f,fd,QY O g F S body hO hN hP,e,F.kp,b⟩
abbrev Tk:=List (Addr×List (Str×Nat))
def tkV(t:Tk):List (Addr×List V):=t.map λe=>(e.1,e.2.map λx=>V.str x.1)
def tkO(l:List (Str×Nat)):Obj:=⟨.type "tuple",none,.seq (l.map λx=>Value.str x.1 x.2).toArray 0,#[]⟩
theorem G4:∀l:List (Str×Nat),bz (l.map λx=>V.str x.1) (l.map λx=>Value.str x.1 x.2)
 |[]=>.nil
 |_::l=>.cons ⟨_,rfl⟩ (G4 l)
theorem G5{α:Type}{x:α}:∀{l:List (Addr×α)},(l.map (·.1)).Nodup->(p,x)∈l->l.lookup p=some x
 |(b,y)::l,nd,m=>by
   rw[aaw,aeg]at nd;rw[ae0];rcases aam.mp m with z|z;.grind
   .have:(p==b)=false:=ac7.mpr λe=>nd.1 (e ▸ (aa9.mpr ⟨_,z,rfl⟩:p∈l.map (·.1)));rw[this];exact G5 nd.2 z
theorem Mb{α:Type}{x:α}:∀{l:List (Addr×α)},l.lookup p=some x->(p,x)∈l
 |(b,y)::l,h=>by
   rw[ae0]at h;cases q:p==b with
   |true=>rw[q]at h;cases h;rw[eq_of_beq q];exact aan
   |false=>rw[q]at h;exact aap _ (Mb h)
theorem YV{K:Frag}:∀{t:Tk},t.map (λe=>K.lookup e.1)=t.map (λe=>some (tkO e.2))->∀e∈t,K.lookup e.1=some (tkO e.2):=by simp
theorem UL{K:Frag}(ct:dQ=tkV t)(nd:((tkV t).map (·.1)).Nodup)(h:t.map (λe=>K.lookup e.1)=t.map (λe=>some (tkO e.2)))(hl:∀e∈t,e.2.length<=sizeLine):j1 K:=by
 refine⟨λp xs m=>?_,λp xs m=>?_⟩
 .rw [ct]at m ⊢;exact G5 nd m
 .rw [ct]at m;obtain⟨e,he,q⟩:=aa9.mp (Mb m);cases q;refine⟨_,_,_,_,YV h e he,?_,?_⟩;.grind
  .exact G4 e.2
theorem YW{t:Fm}(ct:dQ=tkV k)(e:(t.map λe=>(e.2.2.1,e.2.2.2))=k.map λe=>(e.1,e.2.map (·.1))):∀e∈t,(e.2.2.1,e.2.2.2.map V.str)∈dQ:=λx hx=>by
 have:(x.2.2.1,x.2.2.2)∈k.map λe=>(e.1,e.2.map (·.1)):=e ▸ List.mem_map_of_mem (f:=λe:Str×Nat×Addr×List Str=>(e.2.2.1,e.2.2.2)) hx
 obtain⟨y,hy,q⟩:=aa9.mp this
 obtain⟨q1,q2⟩:=Prod.mk.inj q
 rw[ct,<-q1,<-q2,adw]
 exact List.mem_map_of_mem (f:=λe:Addr×List (Str×Nat)=>(e.1,e.2.map λx=>V.str x.1)) hy
end L2
namespace LS
open PySem PySem.Spec PyProof.Rows
section
variable {prog:Program}{w:World}{A:Around}{E:dz}{s:Shared}{z TI TO i1 i2:Addr}{f1 f2:List Addr}{n1 n2 i:Nat}{P1 P2:Nat->Value->Prop}{S1 S2:Nat->Heap->Prop}{a b:Value}
structure ZAp(z TI TO i1 i2:Addr)(f1 f2:List Addr):Prop where
 zI:z≠TI
 zO:z≠TO
 z1:z≠i1
 z2:z≠i2
 IO:TI≠TO
 I1:TI≠i1
 I2:TI≠i2
 O1:TO≠i1
 O2:TO≠i2
 fz1:z∉f1
 fz2:z∉f2
 fO1:TO∉f1
 fO2:TO∉f2
 f12:i2∉f1
 f21:i1∉f2
theorem sr(D:Draws prog w A it fp n P S)(hi:i<n)(hs:S i s.heap)
  (hQ:∀x h' tk,P i x->S (i+1) h'->Heap.SameBut it s.heap h'->Q (some x) {s with heap:=h',toks:=tk}):wpAny (model prog w) A ((Builtin.SmallTypes.nextOf (.ref it) >>= λv=>pure (some v)).onRaise k) Q E s:=
 wpAny_onRaise (aaa (D.item i s _ _ hi hs λx h' tk p st k=>aae (hQ x h' tk p st k)))
theorem Mc(Z:ZAp z TI TO i1 i2 f1 f2)(D1:Draws prog w A.in1 i1 f1 n1 P1 S1)(D2:Draws prog w A.in1 i2 f2 n2 P2 S2)(h1:i<n1)(h2:i<n2)
  (hz:IsZip s.heap z TI TO .none)(hI:IsPair s.heap TI (.ref i1) (.ref i2))(hO:IsPair s.heap TO a b)(s1:S1 i s.heap)(s2:S2 i s.heap)
  (hQ:∀x y T h' tk,P1 i x->P2 i y->s.heap.objs.size<=T->IsZip h' z TI TO (rawInt T)->IsPair h' TI (.ref i1) (.ref i2)->IsPair h' TO x y->S1 (i+1) h'->S2 (i+1) h'->IsPair h' T x y->(∀c o,c∉[z,TO,i1,i2]->s.heap.get? c=some o->h'.get? c=some o)->Q (some (.ref T)) {s with heap:=h',toks:=tk}):
  wpAny (model prog w) A (pyNext (.ref z)) Q E s:=by
 have hT:s.TypeIs (.ref z) "zip":=⟨_,hz,rfl⟩
 unfold pyNext
 refine aaa (adF (abL (name:="__next__") hT aeh (ab0 aeh hT F.entry_zip_next ?_ (F.args_zip_next_1 _))))
 wp_walk using(wpAny_field hz rfl (x:=.none) (i:=0) rfl),(wpAny_field hz rfl (x:=.bool false) (i:=2) rfl),(wpAny_field hz rfl (x:=.ref TI) (i:=3) rfl),(wpAny_field hz rfl (x:=.ref TO) (i:=4) rfl),(wpAny_seqItems hI rfl),(wpAny_setField_rec hz (x:=.ellipsis) (by simp))
 intro g1 z1 k1
 have a1:S1 i g1:=D1.frame i _ _ s1 λc hc o e=>k1.extBut c o (λq=>Z.fz1 (q ▸ hc)) e
 have O1:IsPair g1 TO a b:=k1.extBut _ _ Z.zO.symm hO
 refine aaa ?_
 show wpAny _ _ (forIn [(Value.ref i1,0),(Value.ref i2,1)] _ _) _ _ _
 simp only[acA,List.forIn_nil]
 refine aaa (aaa (sr D1 h1 a1 λx g2 tk2 p2 a2 k2=>?_))
 have O2:IsPair g2 TO a b:=k2.extBut _ _ Z.O1 O1
 wp_walk using(wpAny_seqItems O2 rfl),(wpAny_updateSeq_pair O2),wpAny_letGo
 intro g3 O3 k3
 refine aaa (wpAny_letGo (aae ?_))
 have z3:=k3.extBut _ _ Z.zO (k2.extBut _ _ Z.z1 z1)
 have I3:IsPair g3 TI (.ref i1) (.ref i2):=k3.extBut _ _ Z.IO (k2.extBut _ _ Z.I1 (k1.extBut _ _ Z.zI.symm hI))
 have a3:S1 (i+1) g3:=D1.frame _ _ _ a2 λc hc o e=>k3.extBut c o (λq=>Z.fO1 (q ▸ hc)) e
 have b3:S2 i g3:=D2.frame _ _ _ s2 λc hc o e=>k3.extBut c o (λq=>Z.fO2 (q ▸ hc)) (k2.extBut c o (λq=>Z.f21 (q ▸ hc)) (k1.extBut c o (λq=>Z.fz2 (q ▸ hc)) e))
 refine aaa (aaa (sr D2 h2 b3 λy g4 tk4 p4 b4 k4=>?_))
 have O4:IsPair g4 TO x b:=k4.extBut _ _ Z.O2 O3
 wp_walk using(wpAny_seqItems O4 rfl),(wpAny_updateSeq_pair O4),wpAny_letGo
 intro g5 O5 k5
 replace O5:IsPair g5 TO x y:=O5
 refine aaa (wpAny_letGo (aae (aae ?_)))
 have z5:=k5.extBut _ _ Z.zO (k4.extBut _ _ Z.z2 z3)
 have I5:IsPair g5 TI (.ref i1) (.ref i2):=k5.extBut _ _ Z.IO (k4.extBut _ _ Z.I2 I3)
 have a5:S1 (i+1) g5:=D1.frame _ _ _ a3 λc hc o e=>k5.extBut c o (λq=>Z.fO1 (q ▸ hc)) (k4.extBut c o (λq=>Z.f12 (q ▸ hc)) e)
 have b5:S2 (i+1) g5:=D2.frame _ _ _ b4 λc hc o e=>k5.extBut c o (λq=>Z.fO2 (q ▸ hc)) e
 have hsz:g5.objs.size=s.heap.objs.size:=by rw[k5.1,k4.1,k3.1,k2.1];exact k1.1
 wp_walk using(wpAny_seqItems O5 rfl)
 refine⟨_,rfl,aae ?_⟩
 have k6:∀c o,c≠z->g5.get? c=some o->(((g5.push {cls:=Value.type "tuple",data:=Data.seq #[x,y]}).update z (Obj.mapFields λx=>x.setIfInBounds 0 (rawInt g5.objs.size))).update z (Obj.mapFields λx=>x.setIfInBounds 1 (Value.bool false))).get? c=some o:=λc o hc e=>(adz _ _ _ _ hc).trans ((adz _ _ _ _ hc).trans (aab _ e))
 have zT:g5.objs.size≠z:=λq=>absurd (aai z5) (by rw[q];exact abM _)
 refine hQ x y g5.objs.size _ _ p2 p4 (Nat.le_of_eq hsz.symm) ?_ (k6 _ _ Z.zI.symm I5) (k6 _ _ Z.zO.symm O5) (D1.frame _ _ _ a5 λc hc o e=>k6 c o (λq=>Z.fz1 (q ▸ hc)) e) (D2.frame _ _ _ b5 λc hc o e=>k6 c o (λq=>Z.fz2 (q ▸ hc)) e) ?_ λc o hc e=>?_
 .exact abi _ (abi _ (aab _ z5) rfl) rfl
 .exact (adz _ _ _ _ zT).trans ((adz _ _ _ _ zT).trans (aag _ rfl))
 .have n1:c≠z:=λq=>hc (by simp[q]);have n2:c≠TO:=λq=>hc (by simp[q]);have n3:c≠i1:=λq=>hc (by simp[q]);have n4:c≠i2:=λq=>hc (by simp[q]);exact k6 c o n1 (k5.extBut c o n2 (k4.extBut c o n4 (k3.extBut c o n2 (k2.extBut c o n3 (k1.extBut c o n1 e)))))
theorem CD(D:Draws prog w A it fp n P S)(hs:S n s.heap)
  (hE:∀h' e,Heap.ExtBut it s.heap h'->(∃o,h'.get? e=some o/\o.cls=.type "StopIteration")->wpAny (model prog w) A (k (.ref e)) (λ_ s'=>E (.ref e) s') E {s with heap:=h'}):wpAny (model prog w) A ((Builtin.SmallTypes.nextOf (.ref it) >>= λv=>pure (some v)).onRaise k) Q E s:=
 wpAny_onRaise (aaa (D.done s _ _ hs λh' e k c=>hE h' e k c))
theorem PJ(Z:ZAp z TI TO i1 i2 f1 f2)(D1:Draws prog w A.in1 i1 f1 n1 P1 S1)(D2:Draws prog w A.in1 i2 f2 n2 P2 S2)(hi:min n1 n2=i)
  (hz:IsZip s.heap z TI TO .none)(hI:IsPair s.heap TI (.ref i1) (.ref i2))(hO:IsPair s.heap TO a b)(s1:S1 i s.heap)(s2:S2 i s.heap)
  (hQ:∀h' tk,(∀c o,c∉[z,TO,i1,i2]->s.heap.get? c=some o->h'.get? c=some o)->Q none {s with heap:=h',toks:=tk}):
  wpAny (model prog w) A (pyNext (.ref z)) Q E s:=by
 have hT:s.TypeIs (.ref z) "zip":=⟨_,hz,rfl⟩
 unfold pyNext
 refine aaa (adF (abL (name:="__next__") hT aeh (ab0 aeh hT F.entry_zip_next ?_ (F.args_zip_next_1 _))))
 wp_walk using(wpAny_field hz rfl (x:=.none) (i:=0) rfl),(wpAny_field hz rfl (x:=.bool false) (i:=2) rfl),(wpAny_field hz rfl (x:=.ref TI) (i:=3) rfl),(wpAny_field hz rfl (x:=.ref TO) (i:=4) rfl),(wpAny_seqItems hI rfl),(wpAny_setField_rec hz (x:=.ellipsis) (by simp))
 intro g1 z1 k1
 have a1:S1 i g1:=D1.frame i _ _ s1 λc hc o e=>k1.extBut c o (λq=>Z.fz1 (q ▸ hc)) e
 have O1:IsPair g1 TO a b:=k1.extBut _ _ Z.zO.symm hO
 refine aaa ?_
 show wpAny _ _ (forIn [(Value.ref i1,0),(Value.ref i2,1)] _ _) _ _ _
 simp only[acA,List.forIn_nil]
 by_cases h1:i<n1
 .have h2:n2=i:=by lia
  subst h2;refine aaa (aaa (sr D1 h1 a1 λx g2 tk2 p2 a2 k2=>?_));have O2:IsPair g2 TO a b:=k2.extBut _ _ Z.O1 O1;wp_walk using(wpAny_seqItems O2 rfl),(wpAny_updateSeq_pair O2),wpAny_letGo;intro g3 O3 k3;refine aaa (wpAny_letGo (aae ?_));have z3:=k3.extBut _ _ Z.zO (k2.extBut _ _ Z.z1 z1);have b3:S2 n2 g3:=D2.frame _ _ _ s2 λc hc o e=>k3.extBut c o (λq=>Z.fO2 (q ▸ hc)) (k2.extBut c o (λq=>Z.f21 (q ▸ hc)) (k1.extBut c o (λq=>Z.fz2 (q ▸ hc)) e));refine aaa (aaa (CD D2 b3 λg4 e k4 c4=>?_));refine wpAny_setField_rec (k4 _ _ Z.z2 z3) (by simp) λg5 z5 k5=>?_;obtain⟨oe,he,ce⟩:=c4;have ez:e≠z:=λq=>by rw[q,k4 _ _ Z.z2 z3]at he;cases he;exact absurd (acU ce) (by decide)
  have ty:Shared.TypeIs {s with heap:=g5,toks:=tk2} (.ref e) "StopIteration":=⟨oe,k5.extBut _ _ ez he,ce⟩;wp_walk using(wpAny_isInstance (T:="StopIteration") (b:=true) ty isSubtype_stop);refine hQ _ _ λc o hc e=>?_;have n1:c≠z:=λq=>hc (by simp[q]);have n2:c≠TO:=λq=>hc (by simp[q]);have n3:c≠i1:=λq=>hc (by simp[q]);have n4:c≠i2:=λq=>hc (by simp[q]);exact k5.extBut c o n1 (k4 c o n4 (k3.extBut c o n2 (k2.extBut c o n3 (k1.extBut c o n1 e))))
 .have h2:n1=i:=by lia
  subst h2;refine aaa (aaa (CD D1 a1 λg4 e k4 c4=>?_));refine wpAny_setField_rec (k4 _ _ Z.z1 z1) (by simp) λg5 z5 k5=>?_;obtain⟨oe,he,ce⟩:=c4;have ez:e≠z:=λq=>by rw[q,k4 _ _ Z.z1 z1]at he;cases he;exact absurd (acU ce) (by decide)
  have ty:Shared.TypeIs {s with heap:=g5} (.ref e) "StopIteration":=⟨oe,k5.extBut _ _ ez he,ce⟩;wp_walk using(wpAny_isInstance (T:="StopIteration") (b:=true) ty isSubtype_stop);refine hQ _ _ λc o hc e=>?_;have n1:c≠z:=λq=>hc (by simp[q]);have n3:c≠i1:=λq=>hc (by simp[q]);exact k5.extBut c o n1 (k4 c o n3 (k1.extBut c o n1 e))
end
structure YX(h h':Heap)(l t:Addr):Prop where
 zip:IsZip h' (h.objs.size+4) (h.objs.size+2) (h.objs.size+3) .none
 two:IsPair h' (h.objs.size+2) (.ref h.objs.size) (.ref (h.objs.size+1))
 own:IsPair h' (h.objs.size+3) .none .none
 YO:h'.IsListIter h.objs.size l 0
 it2:h'.IsTupleIter (h.objs.size+1) t 0
 keep:∀c o,h.get? c=some o->h'.get? c=some o
theorem Md(l t:Addr)(xs ts:Array Value):Meets (Builtin.«zip.__new__» ⟨[.type "zip",.ref l,.ref t],[]⟩) (λ_ R s=>s.heap.IsList l xs/\s.heap.IsTuple t ts/\∀h',YX s.heap h' l t->R (.ok (.ret (.ref (s.heap.objs.size+4)))) {s with heap:=h'}):=
 .of_wp λprog w A R s h=>by
  obtain⟨hp,g,d,tk,os⟩:=s;obtain⟨hl,ht,h⟩:=h;have vL:=sub_zip;have hL:Heap.IsList (Shared.heap ⟨hp,g,d,tk,os⟩) l xs:=hl;have hT:Heap.IsTuple (Shared.heap ⟨hp.push {cls:=.type "list_iterator",data:=.fields #[.ref l,.int 0 0]},g,d,tk,os⟩) t ts:=ht.at λo e=>aab _ e;wp_walk using wpAny_pyIter_list hL,wpAny_pyIter_tuple hT;have e1:∀o:Obj,(hp.push o).objs.size=hp.objs.size+1:=λo=>abK ..;have e2:∀o o2:Obj,((hp.push o).push o2).objs.size=hp.objs.size+2:=λo o2=>by rw[abK,e1]
  have e3:∀o o2 o3:Obj,(((hp.push o).push o2).push o3).objs.size=hp.objs.size+3:=λo o2 o3=>by rw[abK,e2]
  have e4:∀o o2 o3 o4:Obj,((((hp.push o).push o2).push o3).push o4).objs.size=hp.objs.size+4:=λo o2 o3 o4=>by rw[abK,e3]
  simp only[e1,e2,e3,e4];refine⟨_,rfl,h _ ?_⟩;constructor;.rw [<-e4];exact aag _ rfl
  .refine aab _ (aab _ ?_);show _=_;rw[<-e2];exact aag _ rfl
  .refine aab _ ?_;rw[<-e3];exact aag _ rfl
  .exact ⟨_,aab _ (aab _ (aab _ (aab _ (aag _ rfl)))),rfl,rfl⟩
  .exact ⟨_,aab _ (aab _ (aab _ (by rw[<-e1];exact aag _ rfl))),rfl,rfl⟩
  .exact λc o e=>aab _ (aab _ (aab _ (aab _ (aab _ e))))
section
variable {prog:Program}{w:World}{A:Around}{E:dz}{s:Shared}
theorem Jj(hl:s.heap.IsList l xs)(ht:s.heap.IsTuple t ts)(h:∀h',YX s.heap h' l t->Q (.ref (s.heap.objs.size+4)) {s with heap:=h'}):wpAny (model prog w) A (call (.type "zip") [.ref l,.ref t]) Q E s:=by
 refine callType_new F.called_zip (by decide) (F.typeCall_zip_2 _ _) (F.newCall_zip_2 _ _) (λobj=>F.args_object_init_3 obj _ _) F.entry_zip_new (Md l t xs ts) ⟨hl,ht,λh' n=>⟨⟨_,n.zip,rfl⟩,h h' n⟩⟩
end
end LS
namespace L2
open PySem PySem.Spec PyProof.Rows LS
def YY(K:ak)(a b:Addr):It:=
 ⟨λi H=>∃xs ys x y,kY K H a xs/\kg K H b ys/\xs[i]?=some x/\ys[i]?=some y,λi H v H'=>∃p x y,H p=none/\v=.ref p/\H'=upd H p (.tup [x,y])/\(∀xs,kY K H a xs->xs[i]?=some x)/\∀ys,kg K H b ys->ys[i]?=some y,λi H=>∃xs ys,kY K H a xs/\kg K H b ys/\min xs.length ys.length=i⟩
theorem Jk{K:ak}(l1 l2 z TI TO i1 i2:Addr)(D:ZAp z TI TO i1 i2 [i1,l1] [i2,l2])(n1:l1≠i1)(n2:l2≠i2):Turn P w K (.Tuple es kk pz) (YY K l1 l2) [z,TI,TO,i1,i2] z (λi h=>IsZip h z TI TO .none/\IsPair h TI (.ref i1) (.ref i2)/\(∃a b,IsPair h TO a b)/\h.IsListIter i1 l1 i/\h.IsTupleIter i2 l2 i) where
 mem:=by simp
 obj:=λi h st b hb=>by
  obtain⟨h1,h2,⟨a,c,h3⟩,⟨o4,h4,_,d4⟩,o5,h5,_,d5⟩:=st;simp at hb;rcases hb with rfl|rfl|rfl|rfl|rfl;.grind
  .grind
  .grind
  .grind
  .grind
 keep:=λi h h' st k=>by
  obtain⟨h1,h2,⟨a,c,h3⟩,h4,h5⟩:=st;exact⟨k z (by simp) _ h1,k TI (by simp) _ h2,⟨a,c,k TO (by simp) _ h3⟩,h4.at λo e=>k i1 (by simp) o e,h5.at λo e=>k i2 (by simp) o e⟩
 item:=by
  intro X hP hw hK hc i pins s σ H E I hf st hg;subst hP hw hK;obtain⟨xs,ys,x,y,PK,Im,hx,hy⟩:=hg;obtain⟨t1,rv1,p1,OC⟩:=I.list PK;obtain⟨t2,Wf,p2,Z4⟩:=I.tuple Im;obtain⟨u1,Ux,ru1⟩:=rv1.get hx;obtain⟨u2,hu2,ru2⟩:=Wf.get hy;obtain⟨s1,s2,⟨ta,tb,s3⟩,s4,s5⟩:=st;have D1:=Draws.list (prog:=X.prog) (w:=X.w) (A:=X.A.in1) (I.ok.hd hc) i1 l1 n1 t1.toArray;have D2:=gN (prog:=X.prog) (w:=X.w) (A:=X.A.in1) (I.ok.hd hc) i2 l2 n2 t2.toArray;have g1:t1.toArray[i]?=some u1:=by simpa using Ux
  have g2:t2.toArray[i]?=some u2:=by simpa using hu2
  refine Mc D D1 D2 (adq.mp g1).1 (adq.mp g2).1 s1 s2 s3 ⟨s4,p1.isList⟩ ⟨s5,p2⟩ λx' y' T h1 tk e1 e2 hT r1 r2 r3 r4 r5 ht hk=>⟨_,rfl,wpAny_letOwnedTupleGo_zip r1 λh2 z2 k2=>?_⟩;rw[g1]at e1;rw[g2]at e2;cases e1;cases e2;have hTz:T≠z:=λq=>absurd (aai s1) (by rw[<-q];exact Nat.not_lt.mpr hT);have I1:Inv X pins σ H {s with heap:=h2,toks:=tk}:=I.jY (t':=tk) (ch:=[z,TI,TO,i1,i2]) (λb o hb eo=>by
   have Rn:b∉[z,TO,i1,i2]:=λq=>hb (by simp at q ⊢;rcases q with q|q|q|q<;>simp[q]);exact k2.extBut b o (λq=>hb (by simp[q])) (hk b o Rn eo)) hf;have TM:IsTup h2 T [u1,u2].toArray:=⟨_,k2.extBut _ _ hTz ht,rfl,_,rfl⟩;have xH:=I.bM.fresh hT;have fo:=I.uE (H':=H) hT xH;have I2:=I1.zV xH (aaW I.sz hT) fo.2.1 fo.2.2.2.2.1 fo.2.2.2.2.2 TM (.cons ru1 (.cons ru2 .nil)) (by show 2<=sizeLine;decide);refine⟨.ref T,_,I2,rfl,⟨T,x,y,xH,rfl,rfl,λzs hz=>by rw[I.vo hz PK];exact hx,λzs hz=>by rw[I.og hz Im];exact hy⟩,⟨z2,k2.extBut _ _ D.zI.symm r2,⟨_,_,k2.extBut _ _ D.zO.symm r3⟩,r4.1.at λo e=>k2.extBut _ _ D.z1.symm e,r5.1.at λo e=>k2.extBut _ _ D.z2.symm e⟩,λb hb=>?_⟩;have i9:b<s.heap.objs.size:=by
   obtain⟨o4,s4,_⟩:=s4;obtain⟨o5,s5,_⟩:=s5;simp at hb;rcases hb with q|q|q|q|q;.rw [q];exact aai s1
   .rw [q];exact aai s2
   .rw [q];exact aai s3
   .rw [q];exact aai s4
   .rw [q];exact aai s5
  rw[av (aat (aao i9 hT))];exact(hf b hb).1
 done:=by
  intro X hP hw hK hc i pins s σ H E I hf st hg;subst hP hw hK;obtain⟨xs,ys,PK,Im,hx⟩:=hg;obtain⟨t1,rv1,p1,OC⟩:=I.list PK;obtain⟨t2,Wf,p2,Z4⟩:=I.tuple Im;obtain⟨s1,s2,⟨ta,tb,s3⟩,s4,s5⟩:=st;have D1:=Draws.list (prog:=X.prog) (w:=X.w) (A:=X.A.in1) (I.ok.hd hc) i1 l1 n1 t1.toArray;have D2:=gN (prog:=X.prog) (w:=X.w) (A:=X.A.in1) (I.ok.hd hc) i2 l2 n2 t2.toArray;have a1:=rv1.length;have a2:=Wf.length;refine PJ D D1 D2 (by simp only[aaD];lia) s1 s2 s3 ⟨s4,p1.isList⟩ ⟨s5,p2⟩ λh1 tk hk=>⟨rfl,?_⟩;exact I.jY (t':=tk) (ch:=[z,TI,TO,i1,i2]) (λb o hb eo=>hk b o (λq=>hb (by simp at q ⊢;rcases q with q|q|q|q<;>simp[q])) eo) hf
 self:=λ_ _ _ _ _ st h=>wpAny_pyIter_zip st.1 h
section
variable {X:Cx}{O:List Nat}{a b:Expr}{ga gb:be}{p pos:Pos}{es:List Expr}{kk}{pz:Pos}
def YZ(K:ak)(ta:TA):TI:=λσ H R=>ta σ H λvs H1=>∃a b xs ys,vs=[.ref a,.ref b]/\kY K H1 a xs/\kg K H1 b ys/\R (YY K a b) H1
theorem acC{x a b:Nat}(h1:x≠a)(h2:x≠b):x∉[a,b]:=by simp[h1,h2]
theorem PL{n l1 l2:Nat}(h1:l1<n)(h2:l2<n):ZAp (n+4) (n+2) (n+3) n (n+1) [n,l1] [n+1,l2]:=by
 constructor<;>first|(show @Ne Nat _ _;lia)|exact acC (by lia) (by lia)
theorem PM(hg:Gl X "zip")(hm:X.mg "zip"=none)(ha:PA X [a,b] ta)(hs:starEach [a,b] X.env=(false,eval a X.env)::starEach [b] X.env:=by rfl)(rJ:(backTo pos (starEach [b] X.env)).any (·.1)=false:=by rfl):PI X (.Tuple es kk pz) (.Call (.Name "zip" p) [a,b] [] pos) (YZ X.K ta):=by
 intro pins s σ H R I h
 refine acS (mE I hg hm Uk (acq (dw (ha pos pins s σ H _ I h) λus s1 ⟨vs,H1,I1,r1,q1⟩=>?_) hs rJ))
 obtain⟨l1,l2,xs,ys,e,PK,Im,q⟩:=q1
 subst e
 cases r1 with
 |cons r1 t1=>
   cases t1 with
   |cons r2 t2=>
     cases t2;cases r1;cases r2;obtain⟨t1,rv1,p1,OC⟩:=I1.list PK;obtain⟨t2,Wf,p2,Z4⟩:=I1.tuple Im;have lt1:l1<s1.heap.objs.size:=by obtain⟨o,ho,_⟩:=p1.isList;exact aai ho
     have lt2:l2<s1.heap.objs.size:=by obtain⟨o,ho,_⟩:=id p2;exact aai ho
     refine Jj p1.isList p2 λh' n=>wpAny_pyIter_zip n.zip ?_;refine⟨s1.heap.objs.size+4,[s1.heap.objs.size+4,s1.heap.objs.size+2,s1.heap.objs.size+3,s1.heap.objs.size,s1.heap.objs.size+1],_,_,H1,rfl,I1.kept (t':=s1.toks) n.keep,Jk l1 l2 _ _ _ _ _ (PL lt1 lt2) (aat lt1) (aat (ac3 lt2)),⟨n.zip,n.two,⟨_,_,n.own⟩,n.YO,n.it2⟩,λb hb=>?_,q⟩;have hle:s1.heap.objs.size<=b:=by grind
     exact I1.uE hle (I1.bM.fresh hle)
def CF(ga gb:be):cq:=λδ=>(ga δ).bind λx=>(gb δ).bind λy=>match x,y with
 |.list x,.tuple y=>some (OQ x y)
 |_,_=>none
theorem PN(hm:X.mg "zip"=none)(ha:PE X a (tE X.K O ga))(hb:PE X b (tE X.K O gb))(hg:Gl X "zip":=by rfl)(hs:starEach [a,b] X.env=(false,eval a X.env)::starEach [b] X.env:=by rfl)(Ny:starEach [b] X.env=(false,eval b X.env)::starEach [] X.env:=by rfl)(rJ:(backTo pos (starEach [b] X.env)).any (·.1)=false:=by rfl):PI X (.Tuple es kk pz) (.Call (.Name "zip" p) [a,b] [] pos) (tI X.K O (CF ga gb)):=
 (PM hg hm (aY ha (aY hb b9 Ny) hs) hs rJ).mono λσ H Q hh=>hh.e λU A0 δ ds R ed q=>by
  obtain⟨x,e1,e2⟩:=bind1 ed;obtain⟨y,e3,e4⟩:=bind1 e2;refine⟨U,A0,δ,x,R,e1,λv H1 s1 h1=>⟨U,A0,δ,y,R.same s1,e3,λv2 H2 s2 h2=>?_⟩⟩;cases x with
  |list x=>
    cases y with
    |tuple y=>
      cases e4;have X7:=h1.same (bE (A:=U++A0) s2);cases X7 with
      |lst PK d1=>
        cases h2 with
        |tup Im d2=>
          refine⟨_,_,_,_,rfl,(PK.same bN).sq,(.inl (bN.mq Im)),q _ H2 (s1.trans s2) ?_⟩;intro A' i H3 s3 al;have k1:=d1.same s3;have k2:=d2.same s3;have l1:=((PK.same s3).same bN).sq;have l2:kg X.K H3 _ _:=.inl (bN.mq (s3.mq Im));refine⟨λd hd=>?_,λhi=>⟨_,_,l1,l2,by rw[hi,OQ,List.length_zipWith,k1.len,k2.len]⟩⟩;rw[OQ,List.getElem?_zipWith]at hd;cases ex:x[i]? with
          |none=>rw[ex]at hd;cases hd
          |some dx=>
            cases ey:y[i]? with
            |none=>rw[ex,ey]at hd;cases hd
            |some dy=>
              rw[ex,ey]at hd;cases hd;obtain⟨vx,hvx,hdx⟩:=k1.get ex;obtain⟨vy,hvy,hdy⟩:=k2.get ey;refine⟨⟨_,_,vx,vy,l1,l2,hvx,hvy⟩,λz H4 hz=>?_⟩;obtain⟨p,x',y',hp,rfl,rfl,f1,f2⟩:=hz;have g1:=f1 _ l1;have g2:=f2 _ l2;rw[hvx]at g1;rw[hvy]at g2;cases g1;cases g2;exact⟨bj hp _,HD.xU al hp (.cons hdx (.cons hdy .nil))⟩
    |_=>cases e4
  |_=>cases e4
end
end L2
namespace Q1
def dv(t b:Int):Int:=if b<0 then -(Int.gcd t b:Int)else(Int.gcd t b:Int)
theorem Y0(hb:b≠0):dv t b≠0:=by
 have hp:0<Int.gcd t b:=Int.gcd_pos_of_ne_zero_right _ hb
 unfold dv;split<;>lia
theorem Me:Int.gcd b (a%b)=Int.gcd a b:=by
 have e:a=a%b+(a/b)*b:=by have:=Int.emod_add_ediv_mul a b;lia
 have h:Int.gcd (a%b+(a/b)*b) b=Int.gcd (a%b) b:=Int.gcd_add_mul_right_left ..
 rw[<-e]at h
 rw[h,Int.gcd_comm]
end Q1
namespace Q1
def Jl(t b:Int):Int×Int:=(t.fdiv (dv t b),b.fdiv (dv t b))
abbrev Qz:Int×Int:=(0,1)
def at0(l:List (Int×Int))(k:Nat):Int×Int:=l.getD k Qz
end Q1
namespace Q1
end Q1
namespace Q1
end Q1
namespace aC
open PySem Builtin Builtin.Str PySem.StrLaws
noncomputable def eB(c:Nat):List Nat->List (List Nat)
 |[]=>[[]]
 |a::l=>if a=c then[]::eB c l else match eB c l with
   |h::t=>(a::h)::t
   |[]=>[[a]]
theorem su(c:Nat):∀l,∃h t,eB c l=h::t
 |[]=>⟨[],[],rfl⟩
 |a::l=>by
   obtain⟨h,t,e⟩:=su c l;by_cases ha:a=c;.exact ⟨[],_,by rw[eB,aaq ha]⟩
   .exact ⟨a::h,t,by rw[eB,aaO ha,e]⟩
noncomputable def uL(c:Nat):Nat->List Nat->List Nat
 |_,[]=>[]
 |o,a::l=>if a=c then o::uL c (o+1) l else uL c (o+1) l
theorem pI(c:Nat)(W:List Nat):∀(l:List Nat) (o s:Nat),W.drop o=l->o<=W.length->s<=o->∀h t,eB c l=h::t->
  ((s::(uL c o l).map (·+1)).zip (uL c o l++[W.length])).map (λ(p:Nat×Nat)=>(W.drop p.1).take (p.2-p.1))=((W.drop s).take (o-s)++h)::t
 |[],o,s,hd,ho,hs,h,t,e=>by
   have hl:=ads.mp hd;have:o=W.length:=by lia
   subst this;cases e;simp[uL]
 |a::l,o,s,hd,ho,hs,h,t,e=>by
   have i9:o<W.length:=by grind
   have uZ:W.drop (o+1)=l:=by rw[<-List.drop_drop,hd];rfl
   obtain⟨h',t',e'⟩:=su c l;by_cases ha:a=c
   .rw [eB,aaq ha]at e;cases e;have ih:=pI c W l (o+1) (o+1) uZ (by lia) (aah _) h' t' e';rw[afg,aeB,acY]at ih;rw[uL,aaq ha,aaw,adf,List.zip_cons_cons,aaw,ih,e',abk]
   .rw [eB,aaO ha,e']at e;obtain⟨i1,i2⟩:=acI e;rw[<-i1,<-i2];have ih:=pI c W l (o+1) s uZ (by lia) (by lia) h' t' e';rw[uL,aaO ha,ih];have ek:(W.drop s).take (o+1-s)=(W.drop s).take (o-s)++[a]:=by
     rw[show o+1-s=(o-s)+1 by lia,acj,adL,show s+(o-s)=o by lia];have:W[o]?=some a:=by
      have:=adL (xs:=W) (i:=o) (j:=0);rw[hd]at this;simpa using this.symm
     rw[this];rfl
    rw[ek,ach];rfl
theorem Az(x:Str)(c:Nat):∀(l:List Nat) (o:Nat) (found:Array Nat) (free:Nat),x.cps.toList.drop o=l->o<=x.length->free<=o->found.size<=o->
  (forIn (List.range' o (l.length+1)) (found,free) (occBody x ⟨#[c]⟩ x.length (x.length+1))).run.fst.toList=found.toList++uL c o l
 |[],o,found,free,hd,ho,hf,hs=>by
   have hl:=ads.mp hd;have hx:x.cps.toList.length=x.length:=aaP;rw[adj,ad8,acA];unfold occBody;rw[aaO (λz=>by have:=z.1.2;have e:(⟨#[c]⟩:Str).length=1:=rfl;lia)];simp[uL]
 |a::l,o,found,free,hd,ho,hf,hs=>by
   have hx:x.cps.toList.length=x.length:=aaP;have i9:o<x.cps.toList.length:=by grind
   have uZ:x.cps.toList.drop (o+1)=l:=by rw[<-List.drop_drop,hd];rfl
   rw[aaR,ad8,acA];have vL:subAt x ⟨#[c]⟩ o=decide (a=c):=by
    rw[subAt_eq,hd];show((a::l).take 1==[c])=_;simp[Bool.beq_eq_decide_eq]
   have e1:(⟨#[c]⟩:Str).length=1:=rfl;have key:occBody x ⟨#[c]⟩ x.length (x.length+1) o (found,free)=if a=c then pure (ForInStep.yield (found.push o,o+1))else pure (ForInStep.yield (found,free)):=by
    unfold occBody;by_cases ha:a=c;.grind
    .grind
   rw[key,uL];by_cases ha:a=c
   .rw [aaq ha,aaq ha];have ih:=Az x c l (o+1) (found.push o) (o+1) uZ (by lia) (aah _) (by rw[Array.size_push];lia);show(forIn (List.range' (o+1) (l.length+1)) (found.push o,o+1) (occBody x ⟨#[c]⟩ x.length (x.length+1))).run.fst.toList=_;rw[ih,adW,ach];rfl
   .rw [aaO ha,aaO ha];exact Az x c l (o+1) found free uZ (by lia) (by lia) (by lia)
theorem G6(x:Str)(c:Nat):occurrences x ⟨#[c]⟩ 0 x.length (x.length+1)=uL c 0 x.cps.toList:=by
 rw[occ_eq]
 have h:=Az x c x.cps.toList 0 #[] 0 rfl (ab8 _) (aah _) (aah _)
 have hx:x.cps.toList.length=x.length:=aaP
 rw[hx]at h
 rw[Nat.sub_zero,h];rfl
def gV(l:List Nat):Str:=⟨l.toArray⟩
theorem lE(x:Str):gV x.cps.toList=x:=rfl
theorem sv(x:Str)(c:Nat):partsBetween x (uL c 0 x.cps.toList) 1=(eB c x.cps.toList).map gV:=by
 obtain⟨h,t,e⟩:=su c x.cps.toList
 have k:=pI c x.cps.toList x.cps.toList 0 0 rfl (ab8 _) (aah _) h t e
 rw[afg,aeB,acY,<-e]at k
 rw[<-k,adw]
 refine adA λp _=>?_
 show strSub x p.1 p.2=gV ((x.cps.toList.drop p.1).take (p.2-p.1))
 rw[<-strSub_toList,lE]
theorem j3:∀{l:List Nat},c∉l->eB c l=[l]
 |[],_=>rfl
 |a::l,h=>by
   rw[eB,aaO (λz=>h (by rw[z];exact aan)),j3 λz=>h (aap _ z)]
theorem jP:∀{l:List Nat},c∉l->eB c (l++c::r)=l::eB c r
 |[],_=>by rw[acY,eB,aaq rfl]
 |a::l,h=>by
   rw[adf,eB,aaO (λz=>h (by rw[z];exact aan)),jP λz=>h (aap _ z)]
theorem Ro(h:c<256)(x:Str):decide (Builtin.Str.strKind x<Builtin.Str.strKind ⟨#[c]⟩)=false:=by
 refine aa3 ?_
 have e:Builtin.Str.strKind ⟨#[c]⟩=1:=by
  unfold Builtin.Str.strKind;rw[aaq (by simp[h])]
 rw[e]
 unfold Builtin.Str.strKind
 split
 .lia
 .grind
set_option tactic.hygienic true in
theorem oA(h:c<256)(x:Str):Txt.split x ⟨#[c]⟩=(eB c x.cps.toList).map gV:=by
 unfold Txt.split
 rw[Ro h x,Bool.or_false]
 have e1:(⟨#[c]⟩:Str).length=1:=rfl
 rw[e1,G6,sv]
 have hx:x.cps.toList.length=x.length:=aaP
 split
 .rename_i hl;have hl:=ad0 hl;have:x.cps.toList=[]:=acy.mp (by lia);rw[this];show[x]=[gV []];rw[<-this,lE]
 .split
  .rename_i he;have he:=List.isEmpty_iff.mp he;have k:=sv x c;rw[<-k,he];congr 1;refine aed ?_;show x.cps=x.cps.extract 0 x.length;rw[show x.length=x.cps.size from rfl,Array.extract_size]
  .rfl
theorem join_cons(sep:Str)(x y:Str)(r:List Str):Txt.join sep (x::y::r)=x++sep++Txt.join sep (y::r):=by
 unfold Txt.join
 rw[glued_eq_join,glued_eq_join];rfl
theorem join_one(sep:Str)(x:Str):Txt.join sep [x]=x:=rfl
theorem uq:∀{ts:List Str},ts≠[]->(∀t∈ts,c∉t.cps.toList)->eB c (Txt.join ⟨#[c]⟩ ts).cps.toList=ts.map (λt=>t.cps.toList)
 |[],h,_=>(h rfl).elim
 |[x],_,h=>by rw[join_one];exact j3 (h x aan)
 |x::y::r,_,h=>by
   rw[join_cons,aeC,aeC,ada,ada];rw[ach,List.singleton_append,jP (h x aan),uq (by simp) λt ht=>h t (aap _ ht)];rfl
theorem wz(hc:c<256)(gK:ts≠[])(h:∀t∈ts,c∉t.cps.toList):Txt.split (Txt.join ⟨#[c]⟩ ts) ⟨#[c]⟩=ts:=by
 rw[oA hc,uq gK h,adw]
 exact(adA λt _=>lE t).trans (List.map_id ts)
theorem mem_join:∀{ts:List Str},c∉sep.cps.toList->(∀t∈ts,c∉t.cps.toList)->c∉(Txt.join sep ts).cps.toList
 |[],_,_=>by
   exact ade
 |[x],_,h=>by rw[join_one];exact h x aan
 |x::y::r,hs,h=>by
   rw[join_cons,aeC,aeC,ada,ada,aaf,aaf];have:=mem_join (ts:=y::r) hs λt ht=>h t (aap _ ht);have:=h x aan;simp only[not_or];refine⟨⟨?_,?_⟩,?_⟩<;>assumption
theorem CG(h:∀t∈ts,t.length<=B):(Txt.join sep ts).length<=ts.length*B+ts.length*sep.length:=by
 unfold Txt.join
 rw[glued_eq_join]
 exact aaW (StrLaws.join_length_le sep ts) (Nat.add_le_add_right (sumLen_le ts h) _)
theorem wA(c:Nat):∀l:List Nat,(eB c l).length<=l.length+1
 |[]=>aah _
 |a::l=>by
   have ih:=wA c l;rw[eB];split;.grind
   .grind
noncomputable def cx(c:Nat):Nat->List Nat->List (List Nat)
 |0,l=>[l]
 |_+1,[]=>[[]]
 |k+1,a::l=>if a=c then[]::cx c k l else match cx c (k+1) l with
   |h::t=>(a::h)::t
   |[]=>[[a]]
theorem kR(c:Nat):∀k l,∃h t,cx c k l=h::t
 |0,l=>⟨l,[],by rw[cx]⟩
 |k+1,[]=>⟨[],[],by rw[cx]⟩
 |k+1,a::l=>by
   obtain⟨h,t,e⟩:=kR c (k+1) l;by_cases ha:a=c;.exact ⟨[],_,by rw[cx,aaq ha]⟩
   .exact ⟨a::h,t,by rw[cx,aaO ha,e]⟩
noncomputable def posK(c:Nat):Nat->Nat->List Nat->List Nat
 |0,_,_=>[]
 |_+1,_,[]=>[]
 |k+1,o,a::l=>if a=c then o::posK c k (o+1) l else posK c (k+1) (o+1) l
theorem m6(c:Nat)(W:List Nat):∀(k:Nat) (l:List Nat) (o s:Nat),W.drop o=l->o<=W.length->s<=o->∀h t,cx c k l=h::t->
  ((s::(posK c k o l).map (·+1)).zip (posK c k o l++[W.length])).map (λ(p:Nat×Nat)=>(W.drop p.1).take (p.2-p.1))=((W.drop s).take (o-s)++h)::t
 |0,l,o,s,hd,ho,hs,h,t,e=>by
   rw[cx]at e;cases e;rw[posK];show[(W.drop s).take (W.length-s)]=_;rw[adZ (by rw[adt];lia),<-hd];rw[show W.drop o=(W.drop s).drop (o-s)by rw[List.drop_drop,show s+(o-s)=o by lia],ad5]
 |k+1,[],o,s,hd,ho,hs,h,t,e=>by
   have hl:=ads.mp hd;have:o=W.length:=by lia
   subst this;cases e;simp[posK]
 |k+1,a::l,o,s,hd,ho,hs,h,t,e=>by
   have i9:o<W.length:=by grind
   have uZ:W.drop (o+1)=l:=by rw[<-List.drop_drop,hd];rfl
   by_cases ha:a=c
   .obtain ⟨h',t',e'⟩:=kR c k l;rw[cx,aaq ha]at e;cases e;have ih:=m6 c W k l (o+1) (o+1) uZ (by lia) (aah _) h' t' e';rw[afg,aeB,acY]at ih;rw[posK,aaq ha,aaw,adf,List.zip_cons_cons,aaw,ih,e',abk]
   .obtain ⟨h',t',e'⟩:=kR c (k+1) l;rw[cx,aaO ha,e']at e;obtain⟨i1,i2⟩:=acI e;rw[<-i1,<-i2];have ih:=m6 c W (k+1) l (o+1) s uZ (by lia) (by lia) h' t' e';rw[posK,aaO ha,ih];have ek:(W.drop s).take (o+1-s)=(W.drop s).take (o-s)++[a]:=by
     rw[show o+1-s=(o-s)+1 by lia,acj,adL,show s+(o-s)=o by lia];have:W[o]?=some a:=by
      have:=adL (xs:=W) (i:=o) (j:=0);rw[hd]at this;simpa using this.symm
     rw[this];rfl
    rw[ek,ach];rfl
theorem qT(x:Str)(c m:Nat):∀(l:List Nat) (o:Nat) (found:Array Nat) (free:Nat),x.cps.toList.drop o=l->o<=x.length->free<=o->found.size<=m->
  (forIn (List.range' o (l.length+1)) (found,free) (occBody x ⟨#[c]⟩ x.length m)).run.fst.toList=found.toList++posK c (m-found.size) o l
 |[],o,found,free,hd,ho,hf,hs=>by
   have hl:=ads.mp hd;have hx:x.cps.toList.length=x.length:=aaP;rw[adj,ad8,acA];unfold occBody;rw[aaO (λz=>by have:=z.1.2;have e:(⟨#[c]⟩:Str).length=1:=rfl;lia)];cases m-found.size<;>simp[posK]
 |a::l,o,found,free,hd,ho,hf,hs=>by
   have hx:x.cps.toList.length=x.length:=aaP;have i9:o<x.cps.toList.length:=by grind
   have uZ:x.cps.toList.drop (o+1)=l:=by rw[<-List.drop_drop,hd];rfl
   rw[aaR,ad8,acA];have vL:subAt x ⟨#[c]⟩ o=decide (a=c):=by
    rw[subAt_eq,hd];show((a::l).take 1==[c])=_;simp[Bool.beq_eq_decide_eq]
   have e1:(⟨#[c]⟩:Str).length=1:=rfl;have key:occBody x ⟨#[c]⟩ x.length m o (found,free)=if a=c/\found.size<m then pure (ForInStep.yield (found.push o,o+1))else pure (ForInStep.yield (found,free)):=by
    unfold occBody;by_cases ha:a=c/\found.size<m;.grind
    .grind
   rw[key];by_cases hm:found.size<m
   .obtain ⟨j,hj⟩:∃j,m-found.size=j+1:=⟨m-found.size-1,by lia⟩;rw[hj,posK];by_cases ha:a=c
    .rw [aaq ⟨ha,hm⟩,aaq ha];have ih:=qT x c m l (o+1) (found.push o) (o+1) uZ (by lia) (aah _) (by rw[Array.size_push];lia);show(forIn (List.range' (o+1) (l.length+1)) (found.push o,o+1) (occBody x ⟨#[c]⟩ x.length m)).run.fst.toList=_;rw[ih,adW,ach,Array.size_push,show m-(found.size+1)=j by lia];rfl
    .rw [aaO (λz=>ha z.1),aaO ha];have ih:=qT x c m l (o+1) found free uZ (by lia) (by lia) hs;rw[hj]at ih;exact ih
   .rw [aaO (λz=>hm z.2)];have ih:=qT x c m l (o+1) found free uZ (by lia) (by lia) hs;rw[show m-found.size=0 by lia]at ih ⊢;rw[posK]at ih ⊢;exact ih
theorem CH(x:Str)(c m:Nat):occurrences x ⟨#[c]⟩ 0 x.length m=posK c m 0 x.cps.toList:=by
 rw[occ_eq]
 have h:=qT x c m x.cps.toList 0 #[] 0 rfl (ab8 _) (aah _) (ab8 _)
 have hx:x.cps.toList.length=x.length:=aaP
 rw[hx]at h
 rw[Nat.sub_zero,h];rfl
theorem E4(x:Str)(c k:Nat):partsBetween x (posK c k 0 x.cps.toList) 1=(cx c k x.cps.toList).map gV:=by
 obtain⟨h,t,e⟩:=kR c k x.cps.toList
 have q:=m6 c x.cps.toList k x.cps.toList 0 0 rfl (ab8 _) (aah _) h t e
 rw[afg,aeB,acY,<-e]at q
 rw[<-q,adw]
 refine adA λp _=>?_
 show strSub x p.1 p.2=gV ((x.cps.toList.drop p.1).take (p.2-p.1))
 rw[<-strSub_toList,lE]
theorem gD:∀{l:List Nat},c∉l->cx c (k+1) (l++c::r)=l::cx c k r
 |[],_=>by rw[acY,cx,aaq rfl]
 |a::l,h=>by
   rw[aam,not_or]at h;rw[adf,cx,aaO (acb h.1),gD h.2]
theorem ur:∀{l:List Nat},c∉l->cx c k l=[l]:=by
 intro l
 cases k with
 |zero=>intro _;rw[cx]
 |succ k=>
   induction l with
   |nil=>intro _;rw[cx]
   |cons a l ih=>
     intro h;rw[aam,not_or]at h;rw[cx,aaO (acb h.1),ih h.2]
end aC
namespace aC
theorem G7:∀{l:List Nat} {m o:Nat},c∈l->0<m->posK c m o l≠[]
 |a::l,m+1,o,h,_=>by
   rw[posK];by_cases ha:a=c;.grind
   .rw [aaO ha];rcases aam.mp h with z|z;.grind
    .exact G7 z (Nat.succ_pos m)
theorem pJ(c:Nat):∀(m:Nat) (l:List Nat),(cx c m l).length<=l.length+1
 |0,l=>by rw[cx];exact Nat.le_add_left _ _
 |m+1,[]=>by rw[cx];exact aah _
 |m+1,a::l=>by
   rw[cx];by_cases ha:a=c;.rw [aaq ha];have:=pJ c m l;simp;lia
   .rw [aaO ha];obtain⟨h,t,e⟩:=kR c (m+1) l;have:=pJ c (m+1) l;rw[e]at this ⊢;simp at this ⊢;lia
end aC
namespace Q1
end Q1
namespace Q1
end Q1
namespace K06
noncomputable def ch:Nat->Nat->Nat
 |_,0=>1
 |0,_+1=>0
 |n+1,k+1=>ch n k+ch n (k+1)
def sg(k:Nat):Int:=1-2*((k:Int)%2)
def tp(n k:Nat):Int:=(ch n k:Int)*sg k
def row(n:Nat):List Int:=(List.range (n+1)).map λj=>(ch n j:Int)
def part(n j:Nat):List Int:=(List.range (j+1)).map λi=>(ch (n+1) i:Int)
end K06
namespace Q1
end Q1
namespace Q1
end Q1
namespace aC
open PySem L2 Q1
abbrev bt(x:Int):Nat:=Builtin.Int.intBits x
theorem kS(h:x.natAbs<2^m):bt x<=m:=intBits_le_iff.mpr h
theorem Mf(h:x.natAbs<=y.natAbs)(hy:bt y<=m):bt x<=m:=intBits_le_of_natAbs h hy
theorem wB(h:bt x<=m)(h2:m<=n):bt x<=n:=aaW h h2
theorem Mg(h1:bt x<=m)(h2:bt y<=n)(h:m+n<=134217728:=by lia):IntMulOk x y:=IntMulOk.of_le h1 h2 h
theorem G8(i:Int):(if i<0 then -i else i)=(i.natAbs:Nat):=by split<;>lia
theorem o8(h:IntMulOk a b):ij (.int a) (.int b)=some (.int (a*b)):=vE h
theorem eO(h:0<b):eu (.int a) (.int b)=some (.int (a%b)):=by
 rw[<-Int.fmod_eq_emod_of_nonneg _ (ad1 h)]
 exact vE (C:=λ_ j=>j≠0) (by lia)
theorem wC(h:0<b)(hb:bt b<=9000):gW (.int a) (.int b)=some (.int (a/b)):=by
 rw[<-Int.fdiv_eq_ediv_of_nonneg _ (ad1 h)]
 exact vE (C:=Gr) ⟨by lia,yT hb⟩
theorem Mh(h:b≠0)(hb:bt b<=9000):gW (.int a) (.int b)=some (.int (a.fdiv b)):=vE (C:=Gr) ⟨h,yT hb⟩
theorem Mi{k:Nat}(h:a.natAbs<2^64)(hk:k<=1000000):r8 (.int a) (.int k)=some (.int (a^k)):=by
 have:=vE (C:=SU) (g:=λi j=>.int (i^j.toNat)) (a:=a) (b:=k) ⟨by lia,by lia,h⟩
 simpa using this
def gZ{β:Type}(x:Option β)(P:β->Prop):Prop:=∃d,x=some d/\P d
theorem bu(h:gZ x λy=>y=d):x=some d:=by
 obtain⟨y,e,rfl⟩:=h;exact e
theorem gZ.mk{d:β}(e:x=some d)(h:P d):gZ x P:=⟨d,e,h⟩
theorem oB(h:a δ=some (.nx δ')):aM a b δ=b δ':=by
 unfold aM;rw[h];rfl
theorem AA(h:a δ=some (.rt d)):aM a b δ=some (.rt d):=by
 unfold aM;rw[h];rfl
theorem E5(W:Nat->DS->Prop)(Z:DS->Prop)(m:Nat)(h:W m δ)
  (hs:∀m δ,W m δ->(c δ=some false/\Z δ)\/(c δ=some true/\∃δ' m',b δ=some (.nx δ')/\m'<m/\W m' δ')):∃δ',jJ c b δ=some (.nx δ')/\Z δ':=by
 obtain⟨q,h1,δ',rfl,h2⟩:=Il W (λ_ q=>∃δ',q=.nx δ'/\Z δ') m δ h (λm δ hW=>by
  rcases hs m δ hW with⟨a,z⟩|⟨a,δ',m',e,l,w⟩;.exact .inl ⟨a,δ,rfl,z⟩
  .exact .inr ⟨a,.inl ⟨δ',m',.inl e,l,w,λq hq=>hq⟩⟩)
 exact⟨δ',h1,h2⟩
theorem CI(W:Nat->DS->Prop):∀(ds:List D) (k:Nat) {δ:DS},W k δ->(∀i d δ,ds[i]?=some d->W (k+i) δ->∃gY δ',t d δ=some gY/\b gY=some (.nx δ')/\W (k+i+1) δ')->
  ∃δ',ls t b ds δ=some (.nx δ')/\W (k+ds.length) δ'
 |[],k,δ,h,_=>⟨δ,rfl,h⟩
 |d::ds,k,δ,h,hs=>by
   obtain⟨gY,δ',e1,e2,h'⟩:=hs 0 d δ rfl h;obtain⟨UM,e3,h2⟩:=CI W ds (k+1) h' (λi d δ e w=>by
    have:=hs (i+1) d δ (by simpa using e) (by rw[show k+(i+1)=k+1+i by lia];exact w);rw[show k+(i+1)+1=k+1+i+1 by lia]at this;exact this);refine⟨UM,?_,by rw[aaR,show k+(ds.length+1)=k+1+ds.length by lia];exact h2⟩;rw[ls,e1,aac,e2,aac];exact e3
theorem qU{α:Type}(enc:α->D)(W:Nat->DS->Prop)(xs:List α)(h:W 0 δ)
  (hs:∀i x δ,xs[i]?=some x->W i δ->∃gY δ',t (enc x) δ=some gY/\b gY=some (.nx δ')/\W (i+1) δ'):∃δ',ls t b (xs.map enc) δ=some (.nx δ')/\W xs.length δ':=by
 obtain⟨δ',e,w⟩:=CI (t:=t) (b:=b) W (xs.map enc) 0 h (λi d δ e w=>by
  rw[aa4]at e;cases ex:xs[i]? with
  |none=>rw[ex]at e;cases e
  |some x=>
    rw[ex]at e;cases e;rw[aep]at w ⊢;exact hs i x δ ex w)
 rw[aep,aaj]at w
 exact⟨δ',e,w⟩
theorem Mj(W:Nat->DS->Prop)(h:W 0 δ)
  (hs:∀i δ,i<n->W i δ->∃gY δ',t (.int (lo+i)) δ=some gY/\b gY=some (.nx δ')/\W (i+1) δ'):∃δ',ls t b (jK lo n) δ=some (.nx δ')/\W n δ':=by
 obtain⟨δ',e,w⟩:=qU (t:=t) (b:=b) (λk:Nat=>PyData.int (lo+k)) W (List.range n) h (λi x δ e w=>by
  have hi:=(aal.mp e).1;rw[adm]at hi;rw[aek hi]at e;cases e;exact hs i δ hi w)
 rw[adm]at w
 exact⟨δ',e,w⟩
theorem sA{b rest:bB}{R:β->Prop}(W:Nat->DS->Prop)(Z:DS->Prop)(m:Nat)(h:W m δ)
  (hs:∀m δ,W m δ->(c δ=some false/\Z δ)\/(c δ=some true/\∃δ' m',b δ=some (.nx δ')/\m'<m/\W m' δ'))(k:∀δ',Z δ'->gZ ((rest δ').bind f) R):gZ ((aM (jJ c b) rest δ).bind f) R:=by
 obtain⟨δ',h1,h2⟩:=E5 W Z m h hs
 rw[oB h1]
 exact k δ' h2
theorem oC{α:Type}{b rest:bB}{R:β->Prop}(enc:α->D)(xs:List α)(W:Nat->DS->Prop)(hi:gi δ=some (xs.map enc))(h:W 0 δ)
  (hs:∀i x δ,xs[i]?=some x->W i δ->∃gY δ',t (enc x) δ=some gY/\b gY=some (.nx δ')/\W (i+1) δ')(k:∀δ',W xs.length δ'->gZ ((rest δ').bind f) R):gZ ((aM (fS gi t b) rest δ).bind f) R:=by
 obtain⟨δ',h1,h2⟩:=qU (t:=t) (b:=b) enc W xs h hs
 rw[oB (δ':=δ') (by unfold fS;rw[hi];exact h1)]
 exact k δ' h2
theorem qV{b rest:bB}{R:β->Prop}(lo:Int)(n:Nat)(W:Nat->DS->Prop)(hi:gi δ=some (jK lo n))(h:W 0 δ)
  (hs:∀i δ,i<n->W i δ->∃gY δ',t (.int (lo+i)) δ=some gY/\b gY=some (.nx δ')/\W (i+1) δ')(k:∀δ',W n δ'->gZ ((rest δ').bind f) R):gZ ((aM (fS gi t b) rest δ).bind f) R:=by
 obtain⟨δ',h1,h2⟩:=Mj (t:=t) (b:=b) W h hs
 rw[oB (δ':=δ') (by unfold fS;rw[hi];exact h1)]
 exact k δ' h2
theorem bA{a rest:bB}{R:β->Prop}(δ':DS)(h:a δ=some (.nx δ'))(k:gZ ((rest δ').bind f) R):gZ ((aM a rest δ).bind f) R:=by
 rw[oB h];exact k
theorem fU{a rest:bB}{R:β->Prop}(h:c δ=some false)(k:gZ ((rest δ).bind f) R):gZ ((aM (gU c a bF) rest δ).bind f) R:=by
 rw[oB (δ':=δ) (by unfold gU;rw[h];rfl)];exact k
theorem fG{a b rest:bB}{R:β->Prop}(x:Bool)(h:c δ=some x)(k1:x=true->gZ ((aM a rest δ).bind f) R)(k2:x=false->gZ ((aM b rest δ).bind f) R):gZ ((aM (gU c a b) rest δ).bind f) R:=by
 have e:gU c a b δ=if x=true then a δ else b δ:=by unfold gU;rw[h];rfl
 cases x with
 |true=>rw[if_pos rfl]at e;have:=k1 rfl;unfold aM at this ⊢;rw[e];exact this
 |false=>rw[if_neg Bool.false_ne_true]at e;have:=k2 rfl;unfold aM at this ⊢;rw[e];exact this
theorem fH{rest:bB}{R:β->Prop}(d:D)(h:g δ=some d)(k:gZ (f (.rt d)) R):gZ ((aM (bo g) rest δ).bind f) R:=by
 rw[AA (d:=d) (by unfold bo;rw[h];rfl)];exact k
theorem ret(d:D)(h:g δ=some d)(k:gZ (f (.rt d)) R):gZ ((bo g δ).bind f) R:=by
 unfold bo;rw[h];exact k
theorem ff(δ':DS)(h:a δ=some (.nx δ'))(k:b δ'=r):aM a b δ=r:=(oB h).trans k
theorem zj(h:c δ=some false):gU c a bF δ=some (.nx δ):=by unfold gU;rw[h];rfl
theorem wD{rest:bB}:aM bF rest δ=rest δ:=rfl
theorem seq_assoc:aM (aM a b) c δ=aM a (aM b c) δ:=by
 unfold aM
 cases a δ with
 |none=>rfl
 |some r=>cases r<;>rfl
theorem G9{α β:Type}(enc:α->D)(pK:β->D)(h:α->β):∀(l:List α),(∀a∈l,f (enc a)=some (pK (h a)))->KO f (l.map enc)=some ((l.map h).map pK)
 |[],_=>rfl
 |a::l,hf=>by
   rw[aaw,KO,hf a aan,aac,G9 enc pK h l λb hb=>hf b (aap _ hb)];rfl
theorem fJ{α β:Type}(enc:α->D)(pK:β->D)(h:α->β)(l:List α)(hi:gi δ=some (l.map enc))(hn:l.length<=100000)
  (hf:∀a∈l,ge (some (enc a)::iQ ix δ)=some (pK (h a))):cN gi ix ge δ=some ((l.map h).map pK):=by
 unfold cN
 rw[hi,aac,aaq (by rw[aaj];exact hn)]
 exact G9 enc pK h l hf
theorem E6(a b:Int):gT (.int a) (.int b)=some (.bool (decide (a=b))):=rfl
theorem UN(a b:Int):zL (.int a) (.int b)=some (.bool (!decide (a=b))):=rfl
theorem E7(h:gT a b=some (.bool c)):zL a b=some (.bool (!c)):=by unfold zL;rw[h];rfl
theorem jB(h:g δ=some [.int (n:Nat)])(hn:n<=100000):eX g δ=some (jK 0 n):=by
 unfold eX
 rw[h,aac]
 show(if -(2^62)<=((n:Nat):Int)/\((n:Nat):Int)<2^62 then some (jK 0 ((n:Nat):Int).toNat)else none)=_
 rw[ab4,aaq ⟨by lia,by lia⟩]
theorem call_of(h:g δ=some ds)(hn:ds.length=n)(hG:G ds=r):aP G n g δ=r:=by
 unfold aP;rw[h,Option.bind_some,if_pos hn];exact hG
theorem fZ(h:g δ=some ds)(hn:ds.length=n)(hG:G ds=r):cD G n g δ=r:=by
 unfold cD;rw[h,Option.bind_some,if_pos hn];exact hG
theorem br(h:g δ=some l):bb g δ=some (.list l):=by unfold bb;rw[h];rfl
theorem cons_of(h:a δ=some x)(h2:r δ=some xs):aa a r δ=some (x::xs):=by unfold aa;rw[h,h2];rfl
theorem bh(h:g δ=some d):bp i g δ=some (.nx (δ.set i (some d))):=by unfold bp;rw[h];rfl
theorem UO(l:List D):dU [.list l]=some (.int l.length):=rfl
theorem Y1(l:List D)(i:Int):bw (.list l) (.int i)=yN l i:=rfl
theorem CJ(h1:a δ=some false)(h2:b δ=r):GA a b δ=r:=by unfold GA;rw[h1];exact h2
theorem UP(h1:a δ=some true)(h2:b δ=r):pq a b δ=r:=by unfold pq;rw[h1];exact h2
theorem eI(h:a δ=some x):iy a δ=some (!x):=by unfold iy;rw[h];rfl
theorem bW(h:g δ=some (.bool b)):gB g δ=some b:=by unfold gB;rw[h];rfl
theorem ee(h:g δ=some (.bool b)):gX g δ=some b:=by unfold gX;rw[h];rfl
theorem aj(h1:a δ=some x)(h2:b δ=some y)(h3:f x y=r):g2 f a b δ=r:=by unfold g2;rw[h1,h2];exact h3
noncomputable abbrev Jm:Fm:=[("plan many",856,494,["number"]),("plan till",859,495,["number","number"]),("plan steps",863,496,["number","number or -1","number","number"]),("plan between",869,497,["number","number","number","number","number"]),("show",876,498,[]),("ends",878,499,[]),("ways",880,500,["number","number"]),("odds",884,501,["number","number","fraction"]),("mean",889,502,["fraction"]),("share",892,503,["number","number"]),("judge",896,504,[]),("rule",898,505,["fraction","fraction","fraction"]),("lot",903,506,["name"]),("bad",906,507,[]),("good",908,508,[]),("at",910,509,[])]
noncomputable abbrev fmK:Tk:=[(494,[("number",857)]),(495,[("number",860),("number",861)]),(496,[("number",864),("number or -1",865),("number",866),("number",867)]),(497,[("number",870),("number",871),("number",872),("number",873),("number",874)]),(498,[]),(499,[]),(500,[("number",881),("number",882)]),(501,[("number",885),("number",886),("fraction",887)]),(502,[("fraction",890)]),(503,[("number",893),("number",894)]),(504,[]),(505,[("fraction",899),("fraction",900),("fraction",901)]),(506,[("name",904)]),(507,[]),(508,[]),(509,[])]
abbrev sI(x:Int):Option D:=some (.int x)
abbrev sL(x:List D):Option D:=some (.list x)
abbrev gE:bB:=(aM (bp 0 (dS zM (aa (ae 0) ag)))
  (aM (bp 1 (dS zM (aa (ae 1) ag)))
  (aM (jJ (gB (g2 zL (ae 1) (ax 0))) (aM (bp 2 (g2 eu (ae 0) (ae 1)))
  (aM (bp 0 (ae 1))
  (aM (bp 1 (ae 2))
  (gU (gB (g2 xG (g1 KQ (ae 1)) (ax 4000))) (aM (λ_=>none)
  (aM (bp 0 (g2 bw (ae 3) (ax 0)))
  (bp 1 (g2 bw (ae 3) (ax 1))))) bF)))))
  (bo (ae 0)))))
def eJ:List D->Option D:=fB 4 gE
theorem pL(a0 a1:D):eJ [a0,a1]=(gE [some a0,some a1,none,none]).bind fT:=rfl
abbrev E8:bB:=(aM (gU (gB (g2 gT (ae 1) (ax 0))) (λ_=>none) bF)
  (aM (bp 2 (aP eJ 2 (aa (ae 0) (aa (ae 1) ag))))
  (aM (gU (gB (g2 Ky (ae 1) (ax 0))) (bp 2 (g1 KC (ae 2))) bF)
  (bo (bC (aa (g2 gW (ae 0) (ae 2)) (aa (g2 gW (ae 1) (ae 2)) ag)))))))
def AB:List D->Option D:=fB 3 E8
theorem UQ(a0 a1:D):AB [a0,a1]=(E8 [some a0,some a1,none]).bind fT:=rfl
abbrev pM:bB:=(bo (jI (xW "int" (ae 0)) (g1 KD (xW "bool" (ae 0)))))
def gG:List D->Option D:=fB 1 pM
theorem UR(a0:D):gG [a0]=(pM [some a0]).bind fT:=rfl
abbrev pN:bB:=(aM (gU (GA (iy (gX (xW "tuple" (ae 0)))) (gB (g2 gT (dS dU (aa (ae 0) ag)) (ax 0)))) (bo (gC (.bool false))) bF)
  (aM (gU (iy (gX (dS Cm (aa (bb (cN (aZ (ae 0)) [1] (jI (aP gG 1 (aa (ae 0) ag)) (g2 JH (ae 0) (ae 1))))) ag)))) (bo (gC (.bool false))) bF)
  (bo (g2 gT (bb (KI vJ (aa (ae 0) ag))) (bb (T9 (ae 0)))))))
def du:List D->Option D:=fB 2 pN
theorem E9(a0 a1:D):du [a0,a1]=(pN [some a0,some a1]).bind fT:=rfl
abbrev wF:bB:=(bo (bb (T9 (bb (Oo B4 (bb (KI vJ (aa (ae 0) ag))) (bb (cN (aZ (ae 0)) [] (g2 ao (ae 0) (ax 1)))))))))
def eC:List D->fV:=qF 1 wF
theorem Y2(a0:D):eC [a0]=(wF [some a0]).bind qE:=rfl
abbrev sC:bB:=(aM (gU (GA (iy (gX (xW "tuple" (ae 0)))) (iy (gB (iZ Oq Oq (ax 1) (dS dU (aa (ae 0) ag)) (ax 24))))) (bo (gC (.bool false))) bF)
  (aM (bp 1 (bb (df (aa (ax 0) ag))))
  (aM (fS (aZ (ae 0)) (aO 2)
   (aM (gU (iy (gX (aP du 2 (aa (ae 2) (aa (ae 1) ag))))) (bo (gC (.bool false))) bF)
  (bp 1 (bb (cD eC 1 (aa (ae 2) ag))))))
  (bo (gC (.bool true))))))
def oE:List D->Option D:=fB 3 sC
theorem Jn(a0:D):oE [a0]=(sC [some a0,none,none]).bind fT:=rfl
abbrev sF:bB:=(aM (bp 2 (g2 ao (g2 bw (ae 1) (ax 0)) (g2 bw (ae 1) (ax 1))))
  (bo (jI (iZ Oq Ky (ax 0) (ae 2) (dS dU (aa (ae 0) ag))) (g2 JH (g2 bw (ae 1) (ax 0)) (g2 bw (ae 0) (ae 2))))))
def eP:List D->Option D:=fB 3 sF
theorem Jo(a0 a1:D):eP [a0,a1]=(sF [some a0,some a1,none]).bind fT:=rfl
abbrev sG:bB:=(aM (ui 1 (df (aa (bC (aa (ax 0) (aa (ax 0) ag))) ag)))
  (aM (fS (Lp (ae 0)) (kI 2 (cE (aO 2) (cE (aO 3) jW)))
   (KU 1 (cN (aZ (bb (cD eC 1 (aa (ae 3) ag)))) [2] (bC (aa (ae 0) (aa (g2 ia (ae 1) (ae 0)) ag))))))
  (bo (ae 1))))
def jC:List D->fV:=qF 4 sG
theorem Wm(a0:D):jC [a0]=(sG [some a0,none,none,none]).bind qE:=rfl
abbrev Fb:bB:=(bo (bb (gA (aZ (bb (cD jC 1 (aa (ae 0) ag)))) 1 [0] (aO 0) (iy (gX (aP eP 2 (aa (ae 1) (aa (ae 0) ag))))) (ae 0))))
def AD:List D->fV:=qF 1 Fb
theorem acE(a0:D):AD [a0]=(Fb [some a0]).bind qE:=rfl
abbrev pO:bB:=(aM (ui 1 (df ag))
  (aM (fS (Af (ae 0)) (kI 2 (cE (aO 2) (cE (aO 3) jW)))
   (KU 1 (cN (aZ (ae 3)) [2] (bC (aa (ae 0) (aa (g2 ia (ae 1) (ae 0)) ag))))))
  (bo (ae 1))))
def jQ:List D->fV:=qF 4 pO
theorem US(a0:D):jQ [a0]=(pO [some a0,none,none,none]).bind qE:=rfl
abbrev lG:bB:=(aM (bp 2 (bb (cD AD 1 (aa (ae 0) ag))))
  (fS (aZ (ae 1)) (aO 3)
   (gU (gB (g2 (II true) (ae 3) (ae 2))) (λ_=>none) bF)))
def ji:List D->Option D:=fB 4 lG
theorem PQ(a0 a1:D):ji [a0,a1]=(lG [some a0,some a1,none,none]).bind fT:=rfl
abbrev AE:bB:=(aM (gU (gB (g2 gT (ae 1) (bR "b"))) (bo (bC (aa (g2 ao (g2 bw (ae 0) (ax 0)) (ax 1)) (aa (g2 bw (ae 0) (ax 1)) ag)))) bF)
  (bo (bC (aa (g2 bw (ae 0) (ax 0)) (aa (g2 ao (g2 bw (ae 0) (ax 1)) (ax 1)) ag)))))
def fK:List D->Option D:=fB 2 AE
theorem aak(a0 a1:D):fK [a0,a1]=(AE [some a0,some a1]).bind fT:=rfl
abbrev m7:bB:=(aM (GJ 2 (Ag (ae 1) (ax 1)))
  (aM (fS (aZ (bb (cD jQ 1 (aa (ae 0) ag)))) (aO 3)
   (aM (bp 4 (dA (ae 2) (ae 3) (ax 0)))
  (fS (aZ (bC (aa (aP fK 2 (aa (ae 3) (aa (bR "b") ag))) (aa (aP fK 2 (aa (ae 3) (aa (bR "g") ag))) ag)))) (aO 5)
   (oZ 2 (ae 5) (g2 ao (dA (ae 2) (ae 5) (ax 0)) (ae 4))))))
  (bo (ae 2))))
def gO:List D->Option D:=fB 6 m7
theorem Rp(a0 a1:D):gO [a0,a1]=(m7 [some a0,some a1,none,none,none,none]).bind fT:=rfl
abbrev sH:bB:=(bo (dA (aP gO 2 (aa (ae 0) (aa (bC (aa (ax 0) (aa (ax 0) ag))) ag))) (ae 1) (ax 0)))
def oF:List D->Option D:=fB 2 sH
theorem Wn(a0 a1:D):oF [a0,a1]=(sH [some a0,some a1]).bind fT:=rfl
abbrev m8:bB:=(bo (dA (aP gO 2 (aa (ae 0) (aa (bC (aa (ax 1) (aa (ax 0) ag))) ag))) (ae 1) (ax 0)))
def j4:List D->Option D:=fB 2 m8
theorem Rq(a0 a1:D):j4 [a0,a1]=(m8 [some a0,some a1]).bind fT:=rfl
abbrev pP:bB:=(aM (qC (aP ji 2 (aa (ae 0) (aa (bb (df (aa (ae 1) ag))) ag))))
  (bo (aP AB 2 (aa (aP j4 2 (aa (ae 0) (aa (ae 1) ag))) (aa (aP oF 2 (aa (ae 0) (aa (ae 1) ag))) ag)))))
def jR:List D->Option D:=fB 2 pP
theorem UT(a0 a1:D):jR [a0,a1]=(pP [some a0,some a1]).bind fT:=rfl
abbrev m9:bB:=(aM (gU (GA (gB (g2 gT (ae 0) (bR ""))) (iy (gX (dS Cm (aa (bb (cN (lA (ae 0)) [] (g2 (ya true) (ae 0) (bR "0123456789")))) ag))))) (bo (gC (.bool false))) bF)
  (bo (TC (g2 gT (ae 0) (bR "0")) (g2 zL (g2 bw (ae 0) (ax 0)) (bR "0")))))
def iS:List D->Option D:=fB 1 m9
theorem CL(a0:D):iS [a0]=(m9 [some a0]).bind fT:=rfl
abbrev ki:bB:=(aM (gU (GA (iy (gX (aP iS 1 (aa (ae 0) ag)))) (gB (g2 xG (dS dU (aa (ae 0) ag)) (ax 2)))) (λ_=>none) bF)
  (bo (dS Lu (aa (ae 0) ag))))
def f9:List D->Option D:=fB 1 ki
theorem NA(a0:D):f9 [a0]=(ki [some a0]).bind fT:=rfl
abbrev lH:bB:=(bo (dS kG (aa (bb (cN (aZ (bb (i4 (ae 0) (bR " ")))) [] (aP f9 1 (aa (ae 0) ag)))) ag)))
def g6:List D->Option D:=fB 1 lH
theorem PR(a0:D):g6 [a0]=(lH [some a0]).bind fT:=rfl
abbrev ng:bB:=(aM (bp 1 (dS kG (aa (bb (cN (aZ (bb (i4 (ae 0) (bR "|")))) [] (aP g6 1 (aa (ae 0) ag)))) ag)))
  (aM (gU (iy (gX (aP oE 1 (aa (ae 1) ag)))) (λ_=>none) bF)
  (bo (ae 1))))
def iT:List D->Option D:=fB 2 ng
theorem Rr(a0:D):iT [a0]=(ng [some a0,none]).bind fT:=rfl
abbrev i5:bB:=(aM (gU (gB (g2 gT (g2 bw (ae 0) (ax 1)) (ax 1))) (bo (dS kL (aa (g2 bw (ae 0) (ax 0)) ag))) bF)
  (bo (qM (bR "/") (bb (cN (aZ (ae 0)) [] (dS kL (aa (ae 0) ag)))))))
def gj:List D->Option D:=fB 1 i5
theorem JJ(a0:D):gj [a0]=(i5 [some a0]).bind fT:=rfl
abbrev lI:bB:=(bo (qM (bR ",") (bb (cN (aZ (ae 0)) [] (dS kL (aa (ae 0) ag))))))
def jk:List D->Option D:=fB 1 lI
theorem PU(a0:D):jk [a0]=(lI [some a0]).bind fT:=rfl
abbrev kj:bB:=(gU (iy (gX (ae 0))) (λ_=>none) bF)
def eQ:List D->Option D:=fB 1 kj
theorem NB(a0:D):eQ [a0]=(kj [some a0]).bind fT:=rfl
abbrev ni:bB:=(aM (gU (gB (g2 gT (ae 1) (bR "name"))) (bo (ae 0)) bF)
  (aM (gU (gB (g2 gT (ae 1) (bR "fraction"))) (λ_=>none) bF)
  (aM (gU (pq (gB (g2 gT (ae 1) (bR "number or -1"))) (gB (g2 gT (ae 0) (bR "-1")))) (bo (g1 KC (ax 1))) bF)
  (λ_=>none))))
def fi:List D->Option D:=fB 2 ni
theorem Rt(a0 a1:D):fi [a0,a1]=(ni [some a0,some a1]).bind fT:=rfl
abbrev lJ:bB:=(aM (qC (aP eQ 1 (aa (Ph Jm (ae 0)) ag)))
  (aM (bp 3 (GZ Jm (ae 0)))
  (aM (qC (aP eQ 1 (aa (g2 gT (dS dU (aa (ae 2) ag)) (dS dU (aa (ae 3) ag))) ag)))
  (bo (bC (aa (ae 0) (aa (ae 1) (aa (bb (gA (CF (ae 2) (ae 3)) 2 [] (kI 2 (cE (aO 0) (cE (aO 1) jW))) (λ_=>some true) (aP fi 2 (aa (ae 0) (aa (ae 1) ag))))) ag))))))))
def c8:List D->Option D:=fB 4 lJ
theorem PV(a0 a1 a2:D):c8 [a0,a1,a2]=(lJ [some a0,some a1,some a2,none]).bind fT:=rfl
abbrev pQ:bB:=(aM (bp 1 (bb (lD (ae 0) (bR " ") (ax 3))))
  (aM (gU (pq (gB (g2 gT (dS dU (aa (ae 1) ag)) (ax 4))) (pq (gB (g2 gT (g2 bw (ae 1) (ax 0)) (bR "plan"))) (pq (gB (g2 zL (g2 bw (ae 1) (ax 1)) (bR ""))) (gB (g2 gT (g2 bw (ae 1) (ax 2)) (bR "hand")))))) (bo (bC (aa (bR "plan hand") (aa (g2 bw (ae 1) (ax 1)) (aa (bb (df (aa (g2 bw (ae 1) (ax 3)) ag))) ag))))) bF)
  (aM (bp 2 (bb (i4 (ae 0) (bR " "))))
  (aM (qC (aP eQ 1 (aa (jI (g2 i3 (bR "") (ae 2)) (g2 Ot (dS dU (aa (ae 2) ag)) (ax 2))) ag)))
  (aM (gU (pq (gB (g2 gT (g2 bw (ae 2) (ax 0)) (bR "plan"))) (gB (g2 Ot (dS dU (aa (ae 2) ag)) (ax 3)))) (bo (aP c8 3 (aa (g2 ao (bR "plan ") (g2 bw (ae 2) (ax 2))) (aa (g2 bw (ae 2) (ax 1)) (aa (bb (xX (ae 2) (e9 (ax 3)) jf)) ag))))) bF)
  (bo (aP c8 3 (aa (g2 bw (ae 2) (ax 0)) (aa (g2 bw (ae 2) (ax 1)) (aa (bb (xX (ae 2) (e9 (ax 2)) jf)) ag))))))))))
def dW:List D->Option D:=fB 3 pQ
theorem UU(a0:D):dW [a0]=(pQ [some a0,none,none]).bind fT:=rfl
abbrev jm:bB:=(gU (GA (iy (gB (iZ Oq Oq (ax 1) (dS dU (aa (ae 0) ag)) (ax 8)))) (iy (gX (dS Cm (aa (bb (cN (lA (ae 0)) [] (g2 (ya true) (ae 0) (bR "abcdefghijklmnopqrstuvwxyz")))) ag))))) (λ_=>none) bF)
def g7:List D->Option D:=fB 1 jm
theorem AF(a0:D):g7 [a0]=(jm [some a0]).bind fT:=rfl
abbrev sJ:bB:=(aM (gU (gB (g2 gT (ae 0) (bR "plan many"))) (λ_=>none) bF)
  (aM (gU (gB (g2 gT (ae 0) (bR "plan till"))) (λ_=>none) bF)
  (aM (gU (gB (g2 gT (ae 0) (bR "plan steps"))) (λ_=>none) bF)
  (aM (gU (gB (g2 gT (ae 0) (bR "plan between"))) (λ_=>none) bF)
  (bo (aP iT 1 (aa (g2 bw (ae 1) (ax 0)) ag)))))))
def oG:List D->Option D:=fB 2 sJ
theorem Wo(a0 a1:D):oG [a0,a1]=(sJ [some a0,some a1]).bind fT:=rfl
abbrev pR:bB:=(aM (gU (gB (g2 Ky (ae 1) (dS dU (aa (ae 0) ag)))) (bo (g2 bw (ae 0) (ae 1))) bF)
  (bo (ax 0)))
def cV:List D->Option D:=fB 2 pR
theorem Fc(a0 a1:D):cV [a0,a1]=(pR [some a0,some a1]).bind fT:=rfl
abbrev lK:bB:=(aM (ui 3 (df ag))
  (aM (fS (eX (aa (ae 2) ag)) (aO 4)
   (aM (B7 3 (g2 eu (ae 0) (ae 1)))
  (bp 0 (g2 gW (ae 0) (ae 1)))))
  (bo (ae 3))))
def g8:List D->fV:=qF 5 lK
theorem AG(a0 a1 a2:D):g8 [a0,a1,a2]=(lK [some a0,some a1,some a2,none,none]).bind qE:=rfl
abbrev nj:bB:=(aM (ui 3 (df ag))
  (aM (fS (eX (aa (ae 2) ag)) (aO 4)
   (aM (bp 5 (g2 eu (g2 ao (g2 ao (g2 ij (g2 eu (ae 0) (ax 1000003)) (ax 48271)) (g2 ij (g2 ij (ae 4) (ae 4)) (ax 69621))) (g2 ij (ae 4) (ax 16807))) (ax 2147483647)))
  (B7 3 (g2 eu (g2 gW (g2 eu (g2 ao (g2 ij (ae 5) (ax 39373)) (ae 0)) (ax 2147483629)) (ax 13)) (ae 1)))))
  (bo (ae 3))))
def iU:List D->fV:=qF 6 nj
theorem CM(a0 a1 a2:D):iU [a0,a1,a2]=(nj [some a0,some a1,some a2,none,none,none]).bind qE:=rfl
abbrev pT:bB:=(aM (bp 2 (g2 gW (ae 0) (ax 4)))
  (aM (bp 3 (g2 ao (ax 100) (g2 ij (ax 200) (dS xV (aa (g2 xG (ae 1) (ax 12)) ag)))))
  (aM (bp 4 (bb (cD iU 3 (aa (ae 2) (aa (ax 3) (aa (ae 3) ag))))))
  (aM (gU (gB (g2 Ot (dS zM (aa (ae 0) ag)) (g2 r8 (ax 10) (ax 18)))) (bp 4 (bb (cD g8 3 (aa (ae 2) (aa (ax 3) (aa (ae 3) ag)))))) bF)
  (aM (ui 5 (df (aa (bC (aa (ax 0) ag)) ag)))
  (aM (bp 6 (bb (df (aa (ax 0) (aa (ax 1) ag)))))
  (aM (bp 7 (ax 0))
  (aM (jJ (pq (gB (g2 Ky (dS dU (aa (ae 5) ag)) (ae 1))) (gB (g2 xG (dS dU (aa (ae 6) ag)) (ax 0)))) (aM (bp 8 (bb (gA (lx (ae 6)) 2 [4,3,7] (kI 2 (cE (aO 0) (cE (aO 1) jW))) (gB (g2 xG (g2 bw (ae 2) (g2 eu (g2 ao (ae 4) (ae 0)) (ae 3))) (ax 0))) (ae 1))))
  (aM (bp 7 (g2 ao (ae 7) (dS dU (aa (ae 6) ag))))
  (aM (gU (gB (g2 xG (g2 eu (ae 0) (ax 4)) (ax 1))) (bp 8 (bb (xX (ae 6) (e9 (g2 bw (ae 4) (g2 eu (ae 7) (ae 3)))) (e9 (dS B5 (aa (ax 0) (aa (g2 ia (dS dU (aa (ae 6) ag)) (g2 bw (ae 4) (g2 eu (g2 ao (ae 7) (ax 1)) (ae 3)))) ag))))))) bF)
  (aM (bp 6 (bb (T9 (bb (Oo B4 (ae 8) (bb (cN (aZ (ae 8)) [] (g2 ao (ae 0) (ax 1)))))))))
  (gU (gB (g2 xG (dS dU (aa (ae 8) ag)) (ax 0))) (B7 5 (dS kG (aa (ae 8) ag))) bF))))))
  (bo (dS kG (aa (ae 5) ag)))))))))))
def jS:List D->Option D:=fB 9 pT
theorem Fd(a0 a1:D):jS [a0,a1]=(pT [some a0,some a1,none,none,none,none,none,none,none]).bind fT:=rfl
abbrev pU:bB:=(aM (gU (gB (g2 gT (g2 eu (g2 gW (ae 0) (ax 7)) (ax 8)) (ax 1))) (bo (g2 ao (ax 1) (g2 eu (g2 gW (ae 0) (ax 56)) (ax 12)))) bF)
  (bo (g2 ao (ax 1) (g2 eu (ae 0) (ax 7)))))
def lL:List D->Option D:=fB 1 pU
theorem UW(a0:D):lL [a0]=(pU [some a0]).bind fT:=rfl
abbrev kl:bB:=(aM (gU (gB (iZ Ky Ky (g1 KC (g2 r8 (ax 10) (ax 18))) (ae 0) (g2 r8 (ax 10) (ax 18)))) (aM (bp 2 (bb (cD iU 3 (aa (ae 0) (aa (ax 1000003) (aa (dS dU (aa (ae 1) ag)) ag))))))
  (bo (bb (cN (eX (aa (dS dU (aa (ae 1) ag)) ag)) [2,1] (g2 eu (g2 bw (ae 1) (ae 0)) (g2 bw (ae 2) (ae 0))))))) bF)
  (aM (ui 3 (df ag))
  (aM (bp 0 (g2 gW (ae 0) (ax 2)))
  (aM (fS (aZ (ae 1)) (aO 4)
   (aM (B7 3 (g2 eu (ae 0) (ae 4)))
  (bp 0 (g2 gW (ae 0) (ae 4)))))
  (bo (ae 3))))))
def c9:List D->fV:=qF 5 kl
theorem NC(a0 a1:D):c9 [a0,a1]=(kl [some a0,some a1,none,none,none]).bind qE:=rfl
abbrev pV:bB:=(aM (GJ 1 (Ag (bC (aa (ax 0) (aa (ax 0) ag))) (ax 1)))
  (aM (fS (Af (ae 0)) (kI 2 (cE (aO 2) (cE (aO 3) jW)))
   (fS (aZ (ae 3)) (aO 4)
   (aM (bp 5 (vZ (ae 1) (bC (aa (ae 4) (aa (g2 ia (ae 2) (ae 4)) ag)))))
  (fS (aZ (bC (aa (bC (aa (g2 ao (ae 4) (ax 1)) (aa (g2 ia (ae 2) (ae 4)) ag))) (aa (bC (aa (ae 4) (aa (g2 ao (g2 ia (ae 2) (ae 4)) (ax 1)) ag))) ag)))) (aO 6)
   (oZ 1 (ae 6) (g2 ao (dA (ae 1) (ae 6) (ax 0)) (ae 5)))))))
  (bo (ae 1))))
def iA:List D->Option D:=fB 7 pV
theorem UX(a0:D):iA [a0]=(pV [some a0,none,none,none,none,none,none]).bind fT:=rfl
abbrev km:bB:=(bo (qM (bR "|") (bb (cN (aZ (ae 0)) [] (qM (bR " ") (bb (cN (aZ (ae 0)) [] (dS kL (aa (ae 0) ag)))))))))
def eR:List D->Option D:=fB 1 km
theorem ND(a0:D):eR [a0]=(km [some a0]).bind fT:=rfl
abbrev nk:bB:=(aM (bp 1 (bR "abcdefghijklmnopqrstuvwxyz"))
  (aM (gU (gB (g2 gT (g2 eu (ae 0) (ax 8)) (ax 5))) (aM (bp 2 (bb (df (Rb ["plan","lot","hand","many","bad","good","at","rule","ends","ways","odds","mean","show"]))))
  (bo (bb (cN (eX (aa (ax 3) ag)) [2,0] (g2 bw (ae 1) (g2 eu (g2 ao (g2 gW (ae 2) (ax 8)) (g2 ij (ax 5) (ae 0))) (ax 13))))))) bF)
  (aM (bp 3 (bR ""))
  (aM (fS (eX (aa (g2 ao (ax 1) (g2 eu (g2 gW (ae 0) (ax 8)) (ax 8))) ag)) (aO 4)
   (bp 3 (g2 ao (ae 3) (g2 bw (ae 1) (g2 eu (g2 ao (g2 gW (ae 0) (ax 64)) (g2 ij (ae 4) (g2 gW (ae 0) (ax 1664)))) (ax 26))))))
  (aM (bp 5 (g2 eu (g2 gW (ae 0) (ax 64)) (dS dU (aa (ae 3) ag))))
  (aM (ui 6 (df ag))
  (aM (fS (eX (aa (ax 3) ag)) (aO 4)
   (aM (bp 7 (g2 bw (ae 1) (g2 eu (g2 ao (g2 gW (ae 0) (ax 64)) (g2 ij (ax 7) (ae 4))) (ax 26))))
  (B7 6 (g2 ao (g2 ao (EM (ae 3) jf (e9 (ae 5))) (ae 7)) (EM (ae 3) (e9 (g2 ao (ae 5) (ax 1))) jf)))))
  (bo (ae 6)))))))))
def iV:List D->fV:=qF 8 nk
theorem Ru(a0:D):iV [a0]=(nk [some a0,none,none,none,none,none,none,none]).bind qE:=rfl
abbrev nr:bB:=(aM (bp 2 (vZ (aP iA 1 (aa (ae 0) ag)) (ae 1)))
  (aM (GJ 3 (Ag (bC (aa (ax 1) (aa (ax 0) ag))) (ax 1)))
  (aM (fS (Af (ae 0)) (kI 2 (cE (aO 4) (cE (aO 5) jW)))
   (fS (aZ (ae 5)) (aO 6)
   (aM (bp 7 (dA (ae 3) (bC (aa (ae 6) (aa (g2 ia (ae 4) (ae 6)) ag))) (ax 0)))
  (fS (aZ (bC (aa (bC (aa (g2 ao (ae 6) (ax 1)) (aa (g2 ia (ae 4) (ae 6)) ag))) (aa (bC (aa (ae 6) (aa (g2 ao (g2 ia (ae 4) (ae 6)) (ax 1)) ag))) ag)))) (aO 8)
   (gU (gB (g2 xG (ae 4) (ax 0))) (oZ 3 (ae 8) (g2 ao (dA (ae 3) (ae 8) (ax 0)) (ae 7))) bF)))))
  (aM (bp 9 (dA (ae 3) (ae 1) (ax 0)))
  (aM (bp 10 (ae 2))
  (aM (jJ (gB (g2 xG (ae 10) (ax 0))) (OA 9 10 (aa (ae 10) (aa (g2 eu (ae 9) (ae 10)) ag))))
  (aM (gU (gB (g2 gT (ae 9) (ae 2))) (bo (dS kL (aa (g2 gW (dA (ae 3) (ae 1) (ax 0)) (ae 9)) ag))) bF)
  (bo (g2 ao (g2 ao (dS kL (aa (g2 gW (dA (ae 3) (ae 1) (ax 0)) (ae 9)) ag)) (bR "/")) (dS kL (aa (g2 gW (ae 2) (ae 9)) ag)))))))))))
def gP:List D->Option D:=fB 11 nr
theorem CN(a0 a1:D):gP [a0,a1]=(nr [some a0,some a1,none,none,none,none,none,none,none,none,none]).bind fT:=rfl
abbrev JK:List Str:=["NoDraw"]
noncomputable abbrev TSX:List Str:=["NoDraw","NoDeed","NoEnd","NoName"]
abbrev g9(a:Addr):GD Dk:=(cw (mz (zf true 0 a (ae 1)) (ip (λ_=>none)) d6)
  (pG (ze true 0 a (ae 1))))
def cF:Addr->List D->Dk->Option (D×Dk):=kO 2 g9
theorem DQ(a:Addr)(a0 a1:D)(s:Dk):cF a [a0,a1] s=(g9 a [some a0,some a1] s).bind outD:=rfl
abbrev iB(a:Addr):GD Dk:=(cw (wm false 0 a (ae 1) (Cw (cP id (λ_ k=>k) 0 a cF 2 (aa (ae 2) ag)) (bC (aa (ax 0) (aa (ax 0) ag)))))
  (ip (bo (bR "ok"))))
def eY:Addr->List D->Dk->Option (D×Dk):=kO 3 iB
theorem Fe(a:Addr)(a0 a1 a2:D)(s:Dk):eY a [a0,a1,a2] s=(iB a [some a0,some a1,some a2] s).bind outD:=rfl
abbrev iC(a:Addr):GD Dk:=(cw (mz (zf false 0 a (ae 1)) (ip (λ_=>none)) d6)
  (pG (ze false 0 a (ae 1))))
def cj:Addr->List D->Dk->Option (D×Dk):=kO 2 iC
theorem Ff(a:Addr)(a0 a1:D)(s:Dk):cj a [a0,a1] s=(iC a [some a0,some a1] s).bind outD:=rfl
abbrev lM(a:Addr):GD Dk:=(cw (IY 3 (cP id (λ_ k=>k) 0 a cj 2 (aa (ae 1) ag)))
  (cw (ip (bp 4 (g2 bw (ae 3) (ax 0))))
  (cw (ip (gU (iy (gX (aP eP 2 (aa (ae 4) (aa (g2 bw (ae 3) (ax 1)) ag))))) (LD "NoDraw") bF))
  (cw (ip (bp 5 (aP fK 2 (aa (g2 bw (ae 3) (ax 1)) (aa (ae 2) ag)))))
  (cw (wm false 0 a (ae 1) (yd (bC (aa (ae 4) (aa (ae 5) ag)))))
  (cw (ip (gU (gX (aP eP 2 (aa (ae 4) (aa (ae 5) ag)))) (bo (bR "on")) bF))
  (ip (bo (g2 ao (bR "end ") (aP gj 1 (aa (aP jR 2 (aa (ae 4) (aa (ae 5) ag))) ag)))))))))))
def fL:Addr->List D->Dk->Option (D×Dk):=kO 6 lM
theorem NF(a:Addr)(a0 a1 a2:D)(s:Dk):fL a [a0,a1,a2] s=(lM a [some a0,some a1,some a2,none,none,none] s).bind outD:=rfl
abbrev i6(a:Addr):GD Dk:=(cw (wm true 0 a (ae 1) (yd (ae 2)))
  (ip (bo (bR "ok"))))
def fM:Addr->List D->Dk->Option (D×Dk):=kO 3 i6
theorem Ha(a:Addr)(a0 a1 a2:D)(s:Dk):fM a [a0,a1,a2] s=(i6 a [some a0,some a1,some a2] s).bind outD:=rfl
abbrev nu(a:Addr):GD Dk:=(cw (ip (bp 2 (aP dW 1 (aa (ae 1) ag))))
  (cw (ip (bp 3 (g2 bw (ae 2) (ax 0))))
  (cw (ip (bp 4 (g2 bw (ae 2) (ax 1))))
  (cw (ip (bp 5 (g2 bw (ae 2) (ax 2))))
  (cw (ip (qC (aP g7 1 (aa (ae 4) ag))))
  (cw (mz (yd (gX (Aj (ae 3) (bR "plan ")))) (pG (cP id (λ_ k=>k) 0 a fM 3 (aa (ae 4) (aa (aP oG 2 (aa (ae 3) (aa (ae 5) ag))) ag)))) d6)
  (cw (mz (yd (gB (g2 gT (ae 3) (bR "lot")))) (pG (cP id (λ_ k=>k) 0 a eY 3 (aa (ae 4) (aa (g2 bw (ae 5) (ax 0)) ag)))) d6)
  (cw (mz (yd (gB (g2 gT (ae 3) (bR "at")))) (pG (Aq jk (d2 bw (cP id (λ_ k=>k) 0 a cj 2 (aa (ae 4) ag)) (ax 1)))) d6)
  (cw (mz (yd (gB (g2 gT (ae 3) (bR "bad")))) (pG (cP id (λ_ k=>k) 0 a fL 3 (aa (ae 4) (aa (bR "b") ag)))) d6)
  (cw (mz (yd (gB (g2 gT (ae 3) (bR "good")))) (pG (cP id (λ_ k=>k) 0 a fL 3 (aa (ae 4) (aa (bR "g") ag)))) d6)
  (ip λ_=>none)))))))))))
def dM:Addr->List D->Dk->Option (D×Dk):=kO 6 nu
theorem PX(a:Addr)(a0 a1:D)(s:Dk):dM a [a0,a1] s=(nu a [some a0,some a1,none,none,none,none] s).bind outD:=rfl
abbrev bg:=L5 dM
abbrev wG(a:Addr):GD Dk:=(cw (IZ (eX (aa (ax 2) ag)) (aO 3)
   (mz (dB (d2 zL (cP id (λ_ k=>k) 0 a bg 2 (aa (g2 ao (bR "at ") (g2 bw (ae 1) (ae 3))) ag)) (g2 ao (g2 ao (dS kL (aa (g2 bw (g2 bw (ae 2) (ae 3)) (ax 1)) ag)) (bR ",")) (dS kL (aa (g2 bw (g2 bw (ae 2) (ae 3)) (ax 2)) ag))))) (ip (bo (gC (.bool false)))) d6))
  (ip (bo (gC (.bool true)))))
def fN:Addr->List D->Dk->Option (D×Dk):=kO 4 wG
theorem UY(a:Addr)(a0 a1 a2:D)(s:Dk):fN a [a0,a1,a2] s=(wG a [some a0,some a1,some a2,none] s).bind outD:=rfl
abbrev uu(a:Addr):bB:=(bo (jI (LG JK "NoDraw" (ae 7)) (g1 KD (LI JK "NoDeed" "NoEnd" "NoName" (ae 7)))))
theorem AH(a:Addr)(c:Str)(d:D)(h:pF JK (λ_=>.bool true) c=some d):uu a ((List.replicate 9 none).set 7 (some (YF a c)))=some (.rt d):=by
 obtain⟨hc,rfl⟩:=uo h
 cases aaE.mp hc;rfl
abbrev nv(a l:Addr):GD Dl:=(cw (L7 2 l 3 (cE (aO 4) (cE (aO 5) (cE (aO 6) jW))))
  (cw (mz (yd (GA (gB (g2 Ot (g2 ao (ae 5) (ae 6)) (dS dU (aa (ae 4) ag)))) (gB (g2 i3 (ae 5) (g2 bw (ae 4) (g2 ao (ae 5) (ae 6))))))) (cw (Pp (wu (cP Dl.dk (λs k=>⟨k,s.so⟩) 0 a dM 2 (aa (g2 ao (g2 ao (ae 3) (bR " ")) (ae 1)) ag))) (pF JK (λ_=>.bool true)))
  (ip (bo (gC (.bool false))))) d6)
  (cw (zh 2 l (ax 1) (g2 ao (ae 5) (dS xV (aa (g2 gT (ae 3) (bR "bad")) ag))))
  (cw (zh 2 l (ax 2) (g2 ao (ae 6) (dS xV (aa (g2 gT (ae 3) (bR "good")) ag))))
  (cw (ip (bp 8 (bR "on")))
  (cw (mz (Jg 2 l (GA (gB (g2 Ot (g2 ao (g2 bw (ae 2) (ax 1)) (g2 bw (ae 2) (ax 2))) (dS dU (aa (ae 4) ag)))) (gB (g2 i3 (g2 bw (ae 2) (ax 1)) (g2 bw (ae 4) (g2 ao (g2 bw (ae 2) (ax 1)) (g2 bw (ae 2) (ax 2)))))))) (IY 8 (Jg 2 l (g2 ao (bR "end ") (aP gP 2 (aa (ae 4) (aa (bC (aa (g2 bw (ae 2) (ax 1)) (aa (g2 bw (ae 2) (ax 2)) ag))) ag)))))) d6)
  (pG (d2 gT (cP Dl.dk (λs k=>⟨k,s.so⟩) 0 a bg 2 (aa (g2 ao (g2 ao (ae 3) (bR " ")) (ae 1)) ag)) (ae 8)))))))))
def fO:Addr->Addr->List D->Dl->Option (D×Dl):=Rj 9 nv
theorem PY(a l:Addr)(a0 a1 a2 a3:D)(s:Dl):fO a l [a0,a1,a2,a3] s=(nv a l [some a0,some a1,some a2,some a3,none,none,none,none,none] s).bind outD:=rfl
abbrev sM(a:Addr):GD Dk:=(cw (IZ (eX (aa (ax 2) ag)) (aO 3)
   (mz (dB (d2 zL (cP id (λ_ k=>k) 0 a bg 2 (aa (g2 ao (g2 ao (g2 ao (bR "plan ") (g2 bw (ae 1) (ae 3))) (bR " hand ")) (aP eR 1 (aa (g2 bw (ae 2) (ae 3)) ag))) ag)) (bR "ok"))) (ip (bo (gC (.bool false)))) d6))
  (ip (bo (gC (.bool true)))))
def dX:Addr->List D->Dk->Option (D×Dk):=kO 4 sM
theorem Rv(a:Addr)(a0 a1 a2:D)(s:Dk):dX a [a0,a1,a2] s=(sM a [some a0,some a1,some a2,none] s).bind outD:=rfl
abbrev Ml:bB:=(aM (bp 1 (bb (cD iV 1 (aa (g2 eu (aP cV 2 (aa (ae 0) (aa (ax 2) ag))) (g2 r8 (ax 10) (ax 30))) ag))))
  (aM (bp 2 (bb (df (aa (g2 bw (ae 1) (ax 0)) (aa (g2 bw (bb (df (aa (g2 bw (ae 1) (ax 1)) (aa (g2 bw (ae 1) (ax 2)) ag)))) (g2 eu (aP cV 2 (aa (ae 0) (aa (ax 2) ag))) (ax 2))) ag)))))
  (aM (bp 3 (aP lL 1 (aa (g2 gW (aP cV 2 (aa (ae 0) (aa (ax 2) ag))) (ax 2)) ag)))
  (aM (bp 4 (bb (df (aa (aP jS 2 (aa (aP cV 2 (aa (ae 0) (aa (ax 0) ag))) (aa (ae 3) ag))) (aa (aP jS 2 (aa (aP cV 2 (aa (ae 0) (aa (ax 1) ag))) (aa (ae 3) ag))) ag)))))
  (Au 5 λa=>(cw (mz (mZ (dB (zd id (λ_ k=>k) a dX 3 (aa (ae 5) (aa (ae 1) (aa (ae 4) ag)))))) (ip (bo (gC (.bool false)))) d6)
  (Av 6 (aa (g2 bw (ae 4) (ax 0)) (aa (ax 0) (aa (ax 0) ag))) (aa (g2 bw (ae 4) (ax 1)) (aa (ax 0) (aa (ax 0) ag))) λm=>(cw (mz (dOr (dB (d2 zL (cP Lw.dk (λs k=>⟨k,s.mi⟩) 5 a bg 2 (aa (g2 ao (g2 ao (g2 ao (bR "lot ") (g2 bw (ae 2) (ax 0))) (bR " ")) (g2 bw (ae 1) (ax 0))) ag)) (bR "ok"))) (dB (d2 zL (cP Lw.dk (λs k=>⟨k,s.mi⟩) 5 a bg 2 (aa (g2 ao (g2 ao (g2 ao (bR "lot ") (g2 bw (ae 2) (ax 1))) (bR " ")) (g2 bw (ae 1) (ax 1))) ag)) (bR "ok")))) (ip (bo (gC (.bool false)))) d6)
  (cw (IZ (aZ (bb (Oo B4 (bb (xX (ae 0) (e9 (ax 3)) (e9 (ax 43)))) (bb (df (aa (aP cV 2 (aa (ae 0) (aa (ax 3) ag))) ag)))))) (aO 7)
   (cw (ip (bp 8 (bb (cD c9 2 (aa (ae 7) (aa (bb (df (aa (ax 2) (aa (ax 2) (aa (ax 8) (aa (ax 2) ag)))))) ag))))))
  (cw (ip (bp 9 (g2 bw (ae 8) (ax 0))))
  (cw (mz (yd (gB (g2 gT (g2 bw (ae 8) (ax 2)) (ax 1)))) (cw (Ax 6 m (ae 9) (aa (g2 bw (ae 4) (g2 bw (ae 8) (ax 3))) (aa (ax 0) (aa (ax 0) ag))))
  (mz (dB (d2 zL (cP Lw.dk (λs k=>⟨k,s.mi⟩) 5 a bg 2 (aa (g2 ao (g2 ao (g2 ao (bR "lot ") (g2 bw (ae 2) (ae 9))) (bR " ")) (g2 bw (ae 1) (g2 bw (ae 8) (ax 3)))) ag)) (bR "ok"))) (ip (bo (gC (.bool false)))) d6)) (mz (yd (gB (g2 gT (g2 bw (ae 8) (ax 2)) (ax 2)))) (cw (ip (bp 4 (bb (df (aa (g2 bw (ae 4) (ax 1)) (aa (g2 bw (ae 4) (ax 0)) ag))))))
  (mz (mZ (dB (zd Lw.dk (λs k=>⟨k,s.mi⟩) a dX 3 (aa (ae 5) (aa (ae 1) (aa (ae 4) ag)))))) (ip (bo (gC (.bool false)))) d6)) (mz (mZ (dB (Ay 5 6 a m fO (g2 bw (ae 2) (ae 9)) (ae 9) (g2 bw (bb (df (aa (bR "bad") (aa (bR "good") ag)))) (g2 bw (ae 8) (ax 1)))))) (ip (bo (gC (.bool false)))) d6)))
  (mz (mZ (dB (qS 5 6 a m fN (ae 2)))) (ip (bo (gC (.bool false)))) d6)))))
  (ip (bo (gC (.bool true)))))))))))))
def zk:List D->Option D:=fB 10 Ml
theorem aec(a0:D):zk [a0]=(Ml [some a0,none,none,none,none,none,none,none,none,none]).bind fT:=rfl
end aC
open L2
namespace aC
open PySem L2 Q1
theorem Fg(ns:List Int)(k:Nat):cV [.list (ns.map .int),.int k]=some (.int (ns.getD k 0)):=by
 rw[Fc]
 simp only[aM,gU,gB,g2,ae,abn,aa8,ab1,dS,aa,ag,aac,UO,Kx,bo,Y1,aaS]
 rw[aaj,aa2]
 by_cases h:k<ns.length
 .rw [aaq (by lia),lg (v:=.int ns[k]) (by rw[aa4,aau h];rfl),aau h];rfl
 .rw [aaO (by lia),ad6 (by lia)];rfl
noncomputable def dR(r:List Int):D:=.tuple (r.map .int)
def bD(p:cA):D:=.tuple (p.map dR)
def wH(l:List Int):Prop:=l.Pairwise (·<·)
def led(r:List Int):List Int:=ss (r++r.map (·+1))
def Nx(r s:List Int):Prop:=s≠[]/\wH s/\∀x∈s,x∈led r
def NG:List Int->List (List Int)->Prop
 |_,[]=>True
 |r,s::q=>Nx r s/\NG s q
def lst:List Int->List (List Int)->List Int
 |r,[]=>r
 |_,s::q=>lst s q
theorem CO:∀{q:cA} {r:List Int},NG r q->Nx (lst r q) s->NG r (q++[s])
 |[],_,_,h=>⟨h,trivial⟩
 |_::_,_,h1,h2=>⟨h1.1,CO h1.2 h2⟩
theorem lst_snoc:∀{q:cA} {r:List Int},lst r (q++[s])=s
 |[],_=>rfl
 |_::q,_=>lst_snoc (q:=q)
structure Pl(p:cA):Prop where
 ex:∃q,p=[0]::q/\NG [0] q
theorem jn:x∈led r↔x∈r\/x-1∈r:=by
 unfold led
 rw[EB,aaf,aa9]
 constructor
 .grind
 .grind
theorem wI:∀{l:List Int} {a b:Int},wH l->(∀x∈l,a<=x/\x<=b)->(l.length:Int)<=max 0 (b-a+1)
 |[],a,b,_,_=>by simp;lia
 |x::l,a,b,h,hb=>by
   obtain⟨h1,h2⟩:=acu.mp h;have hx:=hb x aan;have:=wI (l:=l) (a:=x+1) (b:=b) h2 λy hy=>⟨by have:=h1 y hy;lia,(hb y (aap _ hy)).2⟩;rw[aaR];lia
theorem wJ(h1:ae i δ=some (.list ds))(h2:g δ=some d)(h3:ds.length<100000):B7 i g δ=some (.nx (δ.set i (some (.list (ds++[d]))))):=by
 unfold B7
 rw[h1,h2]
 show(if ds.length<100000 then _ else _)=_
 rw[aaq h3]
theorem Rw(h:g δ=some d)(h2:T8 d=some (ns.map .int))(h3:ns.length<64):T9 g δ=some ((ss ns).map .int):=by
 unfold T9
 rw[h,aac,h2,aac,kK,aac,aaq h3]
theorem Mm(h1:a δ=some (.list x))(h2:b δ=some (.list y))(h3:x.length+y.length<=100000):Oo B4 a b δ=some (x++y):=by
 unfold Oo
 rw[h1,h2]
 show(if x.length+y.length<=100000 then _ else _)=_
 rw[aaq h3]
theorem ny(x:Bool)(h:c δ=some x)(h1:x=true->a δ=r)(h2:x=false->b δ=r):gU c a b δ=r:=by
 unfold gU
 rw[h]
 cases x with
 |true=>exact h1 rfl
 |false=>exact h2 rfl
theorem Mn{α:Type}(enc:α->D)(l:List α)(lo hi:Option Int):∃m:List α,cutD (l.map enc) lo hi=m.map enc/\m.Sublist l:=by
 refine⟨(l.drop (HT.u6 l.length 0 lo)).take (HT.u6 l.length l.length hi-HT.u6 l.length 0 lo),?_,(List.take_sublist _ _).trans (List.drop_sublist _ _)⟩
 unfold cutD
 rw[aaj,List.map_take,List.map_drop]
theorem iq(h:g δ=some ds)(h2:f ds=r):dS f g δ=r:=by unfold dS;rw[h];exact h2
theorem part_of(h:g δ=some (.int i)):e9 g δ=some (some i):=by unfold e9;rw[h];rfl
theorem Mo(h1:a δ=some (.list (r.map .int)))(h2:b δ=some (.list (r.map .int))\/b δ=some (dR r))(hl:r.length<32):T9 (bb (Oo B4 a (bb (cN (aZ b) [] (g2 ao (ae 0) (gC (.int 1))))))) δ=some ((led r).map .int):=by
 have hi:aZ b δ=some (r.map .int):=by
  unfold aZ;rcases h2 with h2|h2;.grind
  .rw [h2];rfl
 have hc:cN (aZ b) [] (g2 ao (ae 0) (gC (.int 1))) δ=some ((r.map (·+1)).map .int):=fJ PyData.int PyData.int (λx=>x+1) r hi (by lia) (λx _=>rfl)
 have acF:=Mm h1 (br hc) (by simp;lia)
 refine Rw (br acF) ?_ (by simp;lia)
 rw[abb]
 rfl
theorem uv(c b:Int)(n:Nat)(hb:0<b)(hn:n<=1000):gZ (iU [.int c,.int b,.int (n:Nat)]) λds=>∃l:List Int,ds=l.map .int/\l.length=n/\∀x∈l,0<=x/\x<b:=by
 rw[CM]
 refine bA [sI c,sI b,sI (n:Nat),sL ([]),none,none] rfl ?_
 refine qV 0 n (λi δ=>∃(l:List Int) (x y:Option D),δ=[sI c,sI b,sI (n:Nat),sL (l.map .int),x,y]/\l.length=i/\∀x∈l,0<=x/\x<b) (jB rfl (by lia)) ⟨[],none,none,rfl,rfl,by simp⟩ ?_ ?_
 .rintro i δ hi ⟨l,x,y,rfl,hl,hx⟩;have m1:ij (.int (c%1000003)) (.int 48271)=some (.int (c%1000003*48271)):=o8 (mul_right (by decide) (by decide));have m2:ij (.int (0+(i:Int))) (.int (0+(i:Int)))=some (.int ((0+(i:Int))*(0+(i:Int)))):=o8 (mul_right (by lia) (by lia));have m3:ij (.int ((0+(i:Int))*(0+(i:Int)))) (.int 69621)=some (.int ((0+(i:Int))*(0+(i:Int))*69621)):=o8 (mul_right (by decide) (by decide));have m4:ij (.int (0+(i:Int))) (.int 16807)=some (.int ((0+(i:Int))*16807)):=o8 (mul_right (by decide) (by decide));refine⟨_,[sI c,sI b,sI (n:Nat),sL ((l++[_]).map .int),sI (0+(i:Int)),sI ((c%1000003*48271+(0+(i:Int))*(0+(i:Int))*69621+(0+(i:Int))*16807)%2147483647)],rfl,
   ff [sI c,sI b,sI (n:Nat),sL (l.map .int),sI (0+(i:Int)),sI ((c%1000003*48271+(0+(i:Int))*(0+(i:Int))*69621+(0+(i:Int))*16807)%2147483647)]
    (bh (aj (aj (aj (aj (aj rfl rfl (eO (by decide))) rfl m1) (aj (aj rfl rfl m2) rfl m3) rfl) (aj rfl rfl m4) rfl) rfl (eO (by decide))))
    ((wJ (d:=.int (((c%1000003*48271+(0+(i:Int))*(0+(i:Int))*69621+(0+(i:Int))*16807)%2147483647*39373+c)%2147483629/13%b)) rfl
      (aj (aj (aj (aj (aj rfl rfl (o8 (mul_right (by decide) (by decide)))) rfl rfl) rfl (eO (by decide))) rfl (wC (by decide) (wB (kS (m:=4) (by decide)) (by decide)))) rfl (eO hb)) (by simp;lia)).trans (by rw[abb];rfl)),l++[_],_,_,rfl,by simp[hl],?_⟩;intro z hz;rcases aaf.mp hz with q|q;.grind
  .rw [aaE.mp q];exact⟨abJ _ (by lia),abw _ hb⟩
 .rintro δ' ⟨l,x,y,rfl,hl,hx⟩;exact ret (.list (l.map .int)) rfl (.mk rfl ⟨l,rfl,hl,hx⟩)
theorem AI(c b:Int)(n:Nat)(hb:0<b)(hb2:bt b<=9000)(hn:n<=1000):gZ (g8 [.int c,.int b,.int (n:Nat)]) λds=>∃l:List Int,ds=l.map .int/\l.length=n/\∀x∈l,0<=x/\x<b:=by
 rw[AG]
 refine bA [sI c,sI b,sI (n:Nat),sL ([]),none] rfl ?_
 refine qV 0 n (λi δ=>∃(c:Int) (l:List Int) (x:Option D),δ=[sI c,sI b,sI (n:Nat),sL (l.map .int),x]/\l.length=i/\∀x∈l,0<=x/\x<b) (jB rfl (by lia)) ⟨c,[],none,rfl,rfl,by simp⟩ ?_ ?_
 .rintro i δ hi ⟨c,l,x,rfl,hl,hx⟩;refine⟨_,[sI (c/b),sI b,sI (n:Nat),sL ((l++[c%b]).map .int),sI (0+(i:Int))],rfl,
   ff [sI c,sI b,sI (n:Nat),sL ((l++[c%b]).map .int),sI (0+(i:Int))] ((wJ (d:=.int (c%b)) rfl (aj rfl rfl (eO hb)) (by simp;lia)).trans (by rw[abb];rfl)) (bh (aj rfl rfl (wC hb hb2))),c/b,l++[c%b],_,rfl,by simp[hl],?_⟩;intro z hz;rcases aaf.mp hz with q|q;.grind
  .rw [aaE.mp q];exact⟨abJ _ (by lia),abw _ hb⟩
 .rintro δ' ⟨c,l,x,rfl,hl,hx⟩;exact ret (.list (l.map .int)) rfl (.mk rfl ⟨l,rfl,hl,hx⟩)
theorem Hb(hf:∀(k:Nat) (x:Int),∃b:Bool,f (.tuple [.int (k:Nat),.int x])=some (if b=true then some (.int x)else none)):∀(l:List Int) (n:Nat),∃m:List Int,vV f (((l.map PyData.int).zipIdx n).map λp=>.tuple [.int (p.2:Nat),p.1])=some (m.map .int)/\m.Sublist l
 |[],n=>⟨[],rfl,.slnil⟩
 |x::l,n=>by
   obtain⟨m,e,hs⟩:=Hb hf l (n+1);obtain⟨b,hb⟩:=hf n x;rw[aaw,List.zipIdx_cons,aaw,vV,hb,aac,e,aac];cases b with
   |true=>exact⟨x::m,rfl,hs.cons₂ x⟩
   |false=>exact⟨m,rfl,hs.cons x⟩
theorem Fh{l:List Int}{i:Int}(h0:0<=i)(h1:i<l.length):∃x,x∈l/\bw (.list (l.map .int)) (.int i)=some (.int x):=by
 obtain⟨k,rfl⟩:∃k:Nat,i=(k:Int):=⟨i.toNat,by lia⟩
 have hk:k<l.length:=by lia
 exact⟨l[k],adv hk,lg (by rw[aa4,aau hk];rfl)⟩
theorem acH:led [0]=[0,1]:=La (by simp) (by intro z;simp)
noncomputable def sZ(c:Int)(m n:Nat)(x y z u v:Option D):DS:=[some (.int c),some (.int (m:Nat)),some (.int (c/4)),some (.int (n:Nat)),x,y,z,u,v]
def sY(c:Int)(m n:Nat)(dg:List Int)(q:cA)(cX:List Int)(pos:Nat)(z:Option D):DS:=sZ c m n (some (.list (dg.map .int))) (some (.list (([0]::q).map dR))) (some (.list (cX.map .int))) (some (.int (pos:Nat))) z
theorem wK(c:Int)(m:Nat)(hm1:1<=m)(hm:m<=24):gZ (jS [.int c,.int (m:Nat)]) λd=>∃p,d=bD p/\Pl p/\p.length<=m/\∀r∈p,r.length<=25:=by
 rw[Fd]
 have p18:r8 (.int 10) (.int 18)=some (.int (10^18)):=Mi (k:=18) (by decide) (by decide)
 obtain⟨many,Y3,UZ,Y4⟩:∃many:Nat,100<=many/\many<=300/\g2 ao (ax 100) (g2 ij (ax 200) (dS xV (aa (g2 xG (ae 1) (ax 12)) ag))) [sI c,sI (m:Nat),sI (c/4),none,none,none,none,none,none]=some (.int (many:Nat)):=by
  by_cases h:(12:Int)<(m:Int)
  .refine ⟨300,by decide,by decide,aj rfl (aj rfl (show _=some (.int 1)from ?_) (o8 (mul_right (by decide) (by decide)))) rfl⟩;show some (PyData.int (if decide ((12:Int)<(m:Int))=true then 1 else 0))=_;rw[aas h];rfl
  .refine ⟨100,by decide,by decide,aj rfl (aj rfl (show _=some (.int 0)from ?_) (o8 (mul_right (by decide) (by decide)))) rfl⟩;show some (PyData.int (if decide ((12:Int)<(m:Int))=true then 1 else 0))=_;rw[aa3 h];rfl
 have Jh:(0:Int)<(many:Int):=Int.ofNat_lt.mpr (aao (by decide) Y3)
 have Mp:many<=1000:=aaW UZ (by decide)
 refine bA [sI c,sI (m:Nat),sI (c/4),none,none,none,none,none,none] (bh (aj rfl rfl (wC (by decide) (wB (kS (m:=4) (by decide)) (by decide))))) ?_
 refine bA (sZ c m many none none none none none) (bh Y4) ?_
 obtain⟨_,e1,l1,rfl,BA,Z6⟩:=uv (c/4) 3 many (by decide) Mp
 refine bA (sZ c m many (some (.list (l1.map .int))) none none none none) (bh (br (fZ (cons_of rfl (cons_of rfl (cons_of rfl rfl))) rfl e1))) ?_
 have dig:∃dg:List Int,dg.length=many/\gU (gB (g2 Ot (dS zM (aa (ae 0) ag)) (g2 r8 (ax 10) (ax 18)))) (bp 4 (bb (cD g8 3 (aa (ae 2) (aa (ax 3) (aa (ae 3) ag)))))) bF (sZ c m many (some (.list (l1.map .int))) none none none none)
   =some (.nx (sZ c m many (some (.list (dg.map .int))) none none none none)):=by
  obtain⟨_,e2,l2,rfl,HY,hx2⟩:=AI (c/4) 3 many (by decide) (wB (kS (m:=4) (by decide)) (by decide)) Mp;have hc:gB (g2 Ot (dS zM (aa (ae 0) ag)) (g2 r8 (ax 10) (ax 18))) (sZ c m many (some (.list (l1.map .int))) none none none none)=some (decide ((10^18:Int)<=(if c<0 then -c else c))):=bW (aj rfl p18 rfl);by_cases h:((10^18:Int)<=(if c<0 then -c else c));.exact ⟨l2,HY,ny true (by rw[hc,aas h]) (λ_=>bh (br (fZ (cons_of rfl (cons_of rfl (cons_of rfl rfl))) rfl e2))) (λz=>nomatch z)⟩
  .exact ⟨l1,BA,ny false (by rw[hc,aa3 h]) (λz=>nomatch z) (λ_=>rfl)⟩
 obtain⟨dg,hdg,edg⟩:=dig
 refine bA _ edg ?_
 refine bA (sZ c m many (some (.list (dg.map .int))) (some (.list [dR [0]])) none none none) rfl ?_
 refine bA (sZ c m many (some (.list (dg.map .int))) (some (.list [dR [0]])) (some (.list (([0,1]:List Int).map .int))) none none) rfl ?_
 refine bA (sZ c m many (some (.list (dg.map .int))) (some (.list [dR [0]])) (some (.list (([0,1]:List Int).map .int))) (some (.int 0)) none) rfl ?_
 refine sA (λk δ=>∃(q:cA) (cX:List Int) (pos:Nat) (z:Option D),δ=(sY c m many dg q cX pos z)/\
   NG [0] q/\q.length+1<=m/\(cX=[]\/cX=led (lst [0] q))/\wH cX/\(∀x∈cX,0<=x/\x<=(q.length:Int)+1)/\(∀r∈q,r.length<=25)/\k=2*(m-q.length)+(if cX=[]then 0 else 1))
  (λδ=>∃(q:cA) (x y z:Option D),δ=(sZ c m many (some (.list (dg.map .int))) (some (.list (([0]::q).map dR))) x y z)/\NG [0] q/\q.length+1<=m/\∀r∈q,r.length<=25)
  (2*m+1) ⟨[],[0,1],0,none,rfl,trivial,by simpa using hm1,.inr acH.symm,by unfold wH;simp,by intro x hx;simp at hx;rcases hx with h|h<;>subst h<;>decide,by simp,by simp⟩ ?_ ?_
 .rintro k δ ⟨q,cX,pos,z,rfl,hq,hqm,Y5,hr,hb,kZ,rfl⟩;have hlen:cX.length<=q.length+2:=by
   have:=wI hr hb;lia
  have cond:pq (gB (g2 Ky (dS dU (aa (ae 5) ag)) (ae 1))) (gB (g2 xG (dS dU (aa (ae 6) ag)) (ax 0))) (sY c m many dg q cX pos z)
    =some (decide ((((([0]::q).map dR).length:Nat):Int)<(m:Int))&&decide ((0:Int)<(((cX.map PyData.int).length:Nat):Int))):=by
   by_cases h:((((([0]::q).map dR).length:Nat):Int)<(m:Int))
   .rw [aas h,acM];exact UP (bW (b:=true) (show _=_ from ab7 (λb=>some (PyData.bool b)) (aas h))) (bW rfl)
   .rw [aa3 h,Bool.false_and];have h1:gB (g2 Ky (dS dU (aa (ae 5) ag)) (ae 1)) (sY c m many dg q cX pos z)=some false:=
     bW (b:=false) (show _=_ from ab7 (λb=>some (PyData.bool b)) (aa3 h));unfold pq;rw[h1];rfl
  rw[cond];cases xM:(decide ((((([0]::q).map dR).length:Nat):Int)<(m:Int))&&decide ((0:Int)<(((cX.map PyData.int).length:Nat):Int)))with
  |false=>exact .inl ⟨rfl,q,_,_,_,rfl,hq,hqm,kZ⟩
  |true=>
    rw[aax,aaS,aaS]at xM;have af9:q.length+1<m:=by
     have:=xM.1;simp at this;lia
    have gK:cX≠[]:=by
     intro e;subst e;simp at xM
    have uI:cX=led (lst [0] q):=Y5.resolve_left gK;refine .inr ⟨rfl,?_⟩;have comp:∃r1:List Int,gA (lx (ae 6)) 2 [4,3,7] (kI 2 (cE (aO 0) (cE (aO 1) jW))) (gB (g2 xG (g2 bw (ae 2) (g2 eu (g2 ao (ae 4) (ae 0)) (ae 3))) (ax 0))) (ae 1)
      (sY c m many dg q cX pos z)=some (r1.map .int)/\r1.Sublist cX:=by
     obtain⟨f,ef⟩:∃f:D->Option (Option D),f=λd=>(kI 2 (cE (aO 0) (cE (aO 1) jW)) d (List.replicate 2 none++iQ [4,3,7] (sY c m many dg q cX pos z))).bind λgY=>
       (gB (g2 xG (g2 bw (ae 2) (g2 eu (g2 ao (ae 4) (ae 0)) (ae 3))) (ax 0)) gY).bind λb=>if b=true then(ae 1 gY).map some else some none:=⟨_,rfl⟩;have hf:∀(k:Nat) (x:Int),∃b:Bool,f (.tuple [.int (k:Nat),.int x])=some (if b=true then some (.int x)else none):=by
      intro k x;obtain⟨y,_,ey⟩:=Fh (l:=dg) (i:=((pos:Nat)+(k:Nat):Int)%(many:Nat)) (abJ _ (Int.ne_of_gt Jh)) (by rw[hdg];exact abw _ Jh);refine⟨decide (0<y),?_⟩;rw[ef];show(Option.bind (some [some (PyData.int (k:Nat)),sI x,sL (dg.map .int),sI (many:Nat),sI (pos:Nat)]) _)=_;rw[aac];have hb:gB (g2 xG (g2 bw (ae 2) (g2 eu (g2 ao (ae 4) (ae 0)) (ae 3))) (ax 0)) [some (PyData.int (k:Nat)),sI x,sL (dg.map .int),sI (many:Nat),sI (pos:Nat)]=some (decide (0<y)):=
       bW (aj (aj rfl (aj (aj rfl rfl rfl) rfl (eO Jh)) ey) rfl rfl);rw[hb,aac];cases decide (0<y)<;>rfl
     obtain⟨m1,em1,Ny⟩:=Hb hf cX 0;refine⟨m1,?_,Ny⟩;unfold gA;rw[show lx (ae 6) (sY c m many dg q cX pos z)=some (jZ (cX.map .int))from rfl,aac,aaq (by rw[sf,aaj];lia)];rw[ef]at em1;exact em1
    obtain⟨r1,er1,Ny⟩:=comp;have slice:∃r:List Int,r.Sublist cX/\gU (gB (g2 xG (g2 eu (ae 0) (ax 4)) (ax 1))) (bp 8 (bb (xX (ae 6) (e9 (g2 bw (ae 4) (g2 eu (ae 7) (ae 3)))) (e9 (dS B5 (aa (ax 0) (aa (g2 ia (dS dU (aa (ae 6) ag)) (g2 bw (ae 4) (g2 eu (g2 ao (ae 7) (ax 1)) (ae 3)))) ag))))))) bF
      (sZ c m many (some (.list (dg.map .int))) (some (.list (([0]::q).map dR))) (some (.list (cX.map .int))) (some (.int ((pos:Nat)+(cX.map PyData.int).length))) (some (.list (r1.map .int))))
      =some (.nx (sZ c m many (some (.list (dg.map .int))) (some (.list (([0]::q).map dR))) (some (.list (cX.map .int))) (some (.int ((pos:Nat)+(cX.map PyData.int).length))) (some (.list (r.map .int))))):=by
     obtain⟨y1,_,ey1⟩:=Fh (l:=dg) (i:=((pos:Nat)+(cX.map PyData.int).length:Int)%(many:Nat)) (abJ _ (Int.ne_of_gt Jh)) (by rw[hdg];exact abw _ Jh);obtain⟨y2,_,ey2⟩:=Fh (l:=dg) (i:=((pos:Nat)+(cX.map PyData.int).length+1:Int)%(many:Nat)) (abJ _ (Int.ne_of_gt Jh)) (by rw[hdg];exact abw _ Jh);have hc:gB (g2 xG (g2 eu (ae 0) (ax 4)) (ax 1)) (sZ c m many (some (.list (dg.map .int))) (some (.list (([0]::q).map dR))) (some (.list (cX.map .int))) (some (.int ((pos:Nat)+(cX.map PyData.int).length))) (some (.list (r1.map .int))))=some (decide (1<c%4)):=
      bW (aj (aj rfl rfl (eO (by decide))) rfl rfl);by_cases h:1<c%4
     .obtain ⟨r2,er2,rJ⟩:=Mn PyData.int cX (some y1) (some (if((cX.map PyData.int).length:Int)-y2>0 then((cX.map PyData.int).length:Int)-y2 else 0));refine⟨r2,rJ,ny true (by rw[hc,aas h]) (λ_=>bh (br ?_)) (λz=>nomatch z)⟩;have f1:e9 (g2 bw (ae 4) (g2 eu (ae 7) (ae 3))) (sZ c m many (some (.list (dg.map .int))) (some (.list (([0]::q).map dR))) (some (.list (cX.map .int))) (some (.int ((pos:Nat)+(cX.map PyData.int).length))) (some (.list (r1.map .int))))=some (some y1):=by
       exact part_of (aj rfl (aj rfl rfl (eO Jh)) ey1)
      have f2:e9 (dS B5 (aa (ax 0) (aa (g2 ia (dS dU (aa (ae 6) ag)) (g2 bw (ae 4) (g2 eu (g2 ao (ae 7) (ax 1)) (ae 3)))) ag))) (sZ c m many (some (.list (dg.map .int))) (some (.list (([0]::q).map dR))) (some (.list (cX.map .int))) (some (.int ((pos:Nat)+(cX.map PyData.int).length))) (some (.list (r1.map .int))))
        =some (some (if((cX.map PyData.int).length:Int)-y2>0 then((cX.map PyData.int).length:Int)-y2 else 0)):=by
       have g:g2 ia (dS dU (aa (ae 6) ag)) (g2 bw (ae 4) (g2 eu (g2 ao (ae 7) (ax 1)) (ae 3))) (sZ c m many (some (.list (dg.map .int))) (some (.list (([0]::q).map dR))) (some (.list (cX.map .int))) (some (.int ((pos:Nat)+(cX.map PyData.int).length))) (some (.list (r1.map .int))))=some (.int (((cX.map PyData.int).length:Int)-y2)):=
        aj rfl (aj rfl (aj (aj rfl rfl rfl) rfl (eO Jh)) ey2) rfl;exact part_of (iq (cons_of rfl (cons_of g rfl)) rfl)
      unfold xX;rw[f1,f2];show some (cutD (cX.map .int) _ _)=_;rw[er2]
     .exact ⟨r1,Ny,ny false (by rw[hc,aa3 h]) (λz=>nomatch z) (λ_=>rfl)⟩
    obtain⟨r,hs,esl⟩:=slice;have hrr:wH r:=hr.sublist hs;have Rx:r.length<=25:=by have:=hs.length_le;lia
    have hrb:∀x∈r,0<=x/\x<=(q.length:Int)+1:=λx hx=>hb x (hs.subset hx);have e6:=Mo (a:=ae 8) (b:=ae 8) (δ:=(sZ c m many (some (.list (dg.map .int))) (some (.list (([0]::q).map dR))) (some (.list (cX.map .int))) (some (.int ((pos:Nat)+(cX.map PyData.int).length))) (some (.list (r.map .int))))) (r:=r) rfl (.inl rfl) (by lia);by_cases Wp:r=[]
    .subst Wp;refine⟨(sZ c m many (some (.list (dg.map .int))) (some (.list (([0]::q).map dR))) (some (.list (([]:List Int).map .int))) (some (.int (((pos+cX.length:Nat):Nat):Int))) (some (.list (([]:List Int).map .int)))),2*(m-q.length),?_,by rw[aaO gK];lia,q,[],pos+cX.length,_,rfl,hq,hqm,.inl rfl,.nil,by simp,kZ,by simp⟩;refine ff _ (bh (br er1)) (ff _ (bh (aj rfl rfl rfl)) (ff _ esl (ff _ (bh (br e6)) ?_)));refine(ny false rfl (λz=>nomatch z) λ_=>rfl).trans ?_;rw[aaj];push_cast;rfl
    .have hnx:Nx (lst [0] q) r:=⟨Wp,hrr,λx hx=>uI ▸ hs.subset hx⟩;refine⟨(sZ c m many (some (.list (dg.map .int))) (some (.list (([0]::(q++[r])).map dR))) (some (.list ((led r).map .int))) (some (.int (((pos+cX.length:Nat):Nat):Int))) (some (.list (r.map .int)))),2*(m-(q++[r]).length)+(if led r=[]then 0 else 1),?_,?_,q++[r],led r,pos+cX.length,_,rfl,CO hq hnx,by simp;lia,.inr (by rw[lst_snoc]),oo,?_,?_,rfl⟩
     .refine ff _ (bh (br er1)) (ff _ (bh (aj rfl rfl rfl)) (ff _ esl (ff _ (bh (br e6)) ?_)));have L3:(0:Int)<((r.map PyData.int).length:Int):=by
       have:=List.length_pos_iff.mpr Wp;simp;lia
      refine(ny true (bW (b:=true) (show _=_ from ab7 (λb=>some (PyData.bool b)) (aas L3))) (λ_=>wJ (ds:=([0]::q).map dR) (d:=dR r) rfl rfl (by simp;lia)) λz=>nomatch z).trans ?_;rw[aaj,<-List.cons_append,abb];push_cast;rfl
     .have hl:led r≠[]:=λe=>by
       obtain⟨x,hx⟩:=List.exists_mem_of_ne_nil r Wp;have:=jn.mpr (.inl hx);rw[e]at this;simp at this
      rw[aaO hl,aaO gK];simp;lia
     .intro x hx;rcases jn.mp hx with h|h;.have:=hrb x h;simp;lia
      .have:=hrb _ h;simp;lia
     .intro s qr;rcases aaf.mp qr with h|h;.exact kZ s h
      .rw [aaE.mp h];exact Rx
 .rintro δ' ⟨q,x,y,z,rfl,hq,hqm,kZ⟩;refine ret (bD ([0]::q)) rfl (.mk rfl ⟨[0]::q,rfl,⟨q,rfl,hq⟩,by simpa using hqm,λr hr=>?_⟩);rcases aam.mp hr with h|h;.rw [h];decide
  .exact kZ r h
theorem He{T:List Int}:JH (.int i) (.list (T.map .int))=some (.bool (decide (i∈T))):=by
 have hf:(kJ (.int i)&&(T.map PyData.int).all kJ)=true:=by simp[kJ]
 show(if(kJ (.int i)&&(T.map PyData.int).all kJ)=true then some (PyData.bool ((T.map PyData.int).any λz=>V2 z (.int i)))else none)=_
 rw[aaq hf,ael]
 congr 2
 rw[adi,ae6,aaS]
 constructor
 .rintro ⟨x,hx,e⟩;rw[Function.comp,GC,aaS]at e;rw[<-e];exact hx
 .intro h;exact⟨i,h,by rw[Function.comp,GC];simp⟩
theorem Mq:JH (.int i) (dR T)=some (.bool (decide (i∈T))):=He
theorem dd(b:Int)(h:0<b)(h2:b.natAbs<2^70):gW (.int a) (.int b)=some (.int (a/b)):=wC h (wB (kS h2) (by decide))
theorem U0(h1:a δ=some (.bool x))(h2:x=true->b δ=some (.bool y)):jI a b δ=some (.bool (x&&y)):=by
 unfold jI
 rw[bW h1,aac]
 cases x with
 |true=>rw[aaq rfl,h2 rfl];rfl
 |false=>rfl
theorem Ry(h0:0<=i)(h1:i<(p.length:Int)):bw (bD p) (.int i)=some (dR (p.getD i.toNat [])):=by
 obtain⟨k,rfl⟩:∃k:Nat,i=(k:Int):=⟨i.toNat,by lia⟩
 have hk:k<p.length:=by lia
 refine lg ?_
 rw[aa4,ab4,aa2,aau hk]
 rfl
theorem Fi(c:Int):∃m:Nat,1<=m/\m<=12/\lL [.int c]=some (.int (m:Nat)):=by
 by_cases h:c/7%8=1
 .have h0:=abJ (c/56) (b:=12) (by decide);refine⟨(1+c/56%12).toNat,by lia,by lia,?_⟩;refine bu (fG true (bW (b:=true) ?_) (λ_=>fH (.int (1+c/56%12)) (aj rfl (aj (aj rfl rfl (dd 56 (by decide) (by decide))) rfl (eO (by decide))) rfl) (.mk rfl ?_)) λz=>nomatch z)
  .refine (aj (aj (aj rfl rfl (dd 7 (by decide) (by decide))) rfl (eO (by decide))) rfl rfl).trans ?_;rw[E6,aas h]
  .grind
 .have h0:=abJ c (b:=7) (by decide);refine⟨(1+c%7).toNat,by lia,by lia,?_⟩;refine bu (fU (bW (b:=false) ?_) (ret (.int (1+c%7)) (aj rfl (aj rfl rfl (eO (by decide))) rfl) (.mk rfl ?_)))
  .refine (aj (aj (aj rfl rfl (dd 7 (by decide) (by decide))) rfl (eO (by decide))) rfl rfl).trans ?_;rw[E6,aa3 h]
  .grind
abbrev WF:=Int->Int->Int
noncomputable def dC(c:Int×Int):D:=.tuple [.int c.1,.int c.2]
noncomputable def bX(F:WF)(c:Int×Int):WF:=λx y=>F x y+(if x=c.1+1/\y=c.2 then F c.1 c.2 else 0)+(if x=c.1/\y=c.2+1 then F c.1 c.2 else 0)
def gH(c:Int×Int):WF:=λx y=>if x=c.1/\y=c.2 then 1 else 0
def lN(n:Nat)(r:List Int):List (Int×Int):=r.map λb=>(b,(n:Int)-b)
def bY:Nat->List (List Int)->List (Int×Int)
 |_,[]=>[]
 |n,r::p=>lN n r++bY (n+1) p
theorem jD(r:List Int):∀(p:cA) (n:Nat),bY n (p++[r])=bY n p++lN (n+p.length) r
 |[],n=>by simp[bY]
 |s::p,n=>by
   rw[adf,bY,bY,jD r p (n+1),ach,aaR,show n+1+p.length=n+(p.length+1)by lia]
theorem wL:∀(p:cA) (n:Nat),(∀r∈p,r.length<=25)->(bY n p).length<=25*p.length
 |[],_,_=>by simp[bY]
 |r::p,n,h=>by
   have h1:=wL p (n+1) λs hs=>h s (aap _ hs);have h2:=h r aan;rw[bY,aaB,aaR,lN,aaj];lia
noncomputable def lv(A:Int->Int)(r:List Int)(b:Int):Int:=(if b-1∈r then A (b-1)else 0)+(if b∈r then A b else 0)
theorem U3(A:Int->Int)(b:Int):lv A [] b=0:=by simp[lv]
theorem Mr(h:∀x,x∈r↔x∈s)(b:Int):lv A r b=lv A s b:=by simp only[lv,h]
def WW:(Int->Int)->List (List Int)->Nat->Int->Int
 |A,_,0,b=>A b
 |_,[],_+1,_=>0
 |A,r::p,k+1,b=>WW (lv A r) p k b
theorem WW_0(A:Int->Int)(p:cA):WW A p 0=A:=by funext b;cases p<;>rfl
theorem j5:∀(p:cA) (A:Int->Int) (k:Nat) (b:Int),WW A p (k+1) b=lv (WW A p k) (p.getD k []) b
 |[],A,k,b=>by
   rfl
 |r::p,A,0,b=>by
   show WW (lv A r) p 0 b=lv (WW A (r::p) 0) r b;rw[WW_0,WW_0]
 |r::p,A,k+1,b=>by
   exact j5 p (lv A r) k b
structure Y6(n:Nat)(F:WF)(A B:Int->Int):Prop where
 at0:∀x y:Int,x+y=(n:Int)->F x y=A x
 at1:∀x y:Int,x+y=(n:Int)+1->F x y=B x
 up:∀x y:Int,(n:Int)+1<x+y->F x y=0
theorem Ms(h:Y6 n F A (lv A bs))(hb:b∉bs):Y6 n (bX F (b,(n:Int)-b)) A (lv A (b::bs))/\∀x y:Int,x+y<(n:Int)->bX F (b,(n:Int)-b) x y=F x y:=by
 have e:∀x y,bX F (b,(n:Int)-b) x y=F x y+(if x=b+1/\y=(n:Int)-b then A b else 0)+(if x=b/\y=(n:Int)-b+1 then A b else 0):=by
  intro x y;unfold bX;rw[h.at0 b ((n:Int)-b) (by lia)]
 refine⟨⟨?_,?_,?_⟩,?_⟩
 .intro x y OI;rw[e,aaO (by lia),aaO (by lia),h.at0 x y OI];lia
 .intro x y OI;rw[e,h.at1 x y OI];have e1:(x=b+1/\y=(n:Int)-b)↔x-1=b:=by constructor<;>intro z<;>lia
  have e2:(x=b/\y=(n:Int)-b+1)↔x=b:=by constructor<;>intro z<;>lia
  simp only[lv];by_cases c1:x-1=b;.grind
  .grind
 .intro x y OI;rw[e,aaO (by lia),aaO (by lia),h.up x y OI];rfl
 .grind
theorem Hf:∀(r bs:List Int) (F:WF),Y6 n F A (lv A bs)->(∀x∈r,x∉bs)->r.Nodup->Y6 n ((lN n r).foldl bX F) A (lv A (r++bs))/\∀x y:Int,x+y<(n:Int)->(lN n r).foldl bX F x y=F x y
 |[],bs,F,h,_,_=>⟨h,λ_ _ _=>rfl⟩
 |b::r,bs,F,h,hd,nd=>by
   obtain⟨h1,h2⟩:=Ms h (hd b aan);obtain⟨n1,n2⟩:=aeg.mp nd;obtain⟨h3,h4⟩:=Hf r (b::bs) _ h1 (λx hx z=>by
    rcases aam.mp z with q|q;.grind
    .exact hd x (aap _ hx) q) n2;refine⟨?_,λx y OI=>(h4 x y OI).trans (h2 x y OI)⟩;have:lv A (r++b::bs)=lv A ((b::r)++bs):=by
    funext x;exact Mr (λz=>by simp;constructor<;>rintro(q|q|q)<;>simp[q]) x
   rw[<-this];exact h3
theorem qW:∀(p:cA) (n:Nat) (A:Int->Int) (F:WF),(∀r∈p,r.Nodup)->(∀x y:Int,x+y=(n:Int)->F x y=A x)->(∀x y:Int,(n:Int)<x+y->F x y=0)->
  ∀x y:Int,(x+y<(n:Int)->(bY n p).foldl bX F x y=F x y)/\∀k:Nat,x+y=(n:Int)+(k:Int)->(bY n p).foldl bX F x y=WW A p k x
 |[],n,A,F,_,h0,h1,x,y=>by
   refine⟨λ_=>rfl,λk hk=>?_⟩;cases k with
   |zero=>rw[WW_0];exact h0 x y (by lia)
   |succ k=>exact h1 x y (by lia)
 |r::p,n,A,F,hn,h0,h1,x,y=>by
   have L0:Y6 n F A (lv A []):=⟨h0,λx y q=>by rw[U3];exact h1 x y (by lia),λx y q=>h1 x y (by lia)⟩;obtain⟨L1,K1⟩:=Hf r [] F L0 (λx _ z=>by simp at z) (hn r aan);rw[abk]at L1;have ih:=qW p (n+1) (lv A r) ((lN n r).foldl bX F) (λs hs=>hn s (aap _ hs)) (λx y q=>L1.at1 x y (by push_cast at q;lia)) (λx y q=>L1.up x y (by push_cast at q;lia)) x y;rw[bY,acz];refine⟨λq=>(ih.1 (by push_cast;lia)).trans (K1 x y q),λk hk=>?_⟩;cases k with
   |zero=>
     rw[WW_0,ih.1 (by push_cast;lia)];exact L1.at0 x y (by lia)
   |succ k=>exact ih.2 k (by push_cast;push_cast at hk;lia)
theorem PZ(h:wH l):l.Nodup:=h.imp λz e=>by lia
theorem Hg:∀{q:cA} {r:List Int} {n:Nat},(∀x∈r,0<=x/\x<=(n:Int))->NG r q->(∀s∈q,s.Nodup)/\∀k,∀x∈q.getD k [],0<=x/\x<=((n+1+k:Nat):Int)
 |[],_,_,_,_=>⟨by simp,λk x hx=>by simp at hx⟩
 |s::q,r,n,hr,hc=>by
   have hs:∀x∈s,0<=x/\x<=((n+1:Nat):Int):=λx hx=>by
    rcases jn.mp (hc.1.2.2 x hx)with h|h;.grind
    .grind
   obtain⟨i1,i2⟩:=Hg (n:=n+1) hs hc.2;refine⟨λt ht=>?_,λk x hx=>?_⟩
   .rcases aam.mp ht with z|z;.rw [z];exact PZ hc.1.2.1
    .grind
   .cases k with
    |zero=>exact hs x (by simpa using hx)
    |succ k=>
      have:=i2 k x (by simpa using hx);lia
theorem vh(h:Pl p):(∀s∈p,s.Nodup)/\∀k,∀x∈p.getD k [],0<=x/\x<=(k:Int):=by
 obtain⟨q,rfl,hc⟩:=h.ex
 obtain⟨i1,i2⟩:=Hg (q:=q) (r:=[0]) (n:=0) (by simp) hc
 refine⟨λs hs=>?_,λk x hx=>?_⟩
 .grind
 .cases k with
  |zero=>simp at hx;subst hx;simp
  |succ k=>
    have:=i2 k x (by simpa using hx);lia
structure Dt(kds:eW)(F:WF):Prop where
 fn:Ig kds=false
 acJ:∀b g:Int,(dn kds [.inl b,.inl g]).getD (.int 0)=.int (F b g)
instance {kds:eW}{F:WF}:CoeFun (Dt kds F) (λ_=>∀b g:Int,(dn kds [.inl b,.inl g]).getD (.int 0)=.int (F b g)):=⟨Dt.acJ⟩
theorem P0(h:Ig kds=false):Ig (il kds k d)=false:=by
 unfold il
 split
 .cases kds with
  |nil=>rfl
  |cons p r=>
    obtain⟨p1,p2⟩:=p;rw[aaw];split<;>(cases p1 with
     |list l=>
       cases l with
       |nil=>cases h
       |cons _ _=>rfl
     |_=>rfl)
 .cases kds with
  |nil=>rfl
  |cons p r=>
    obtain⟨p1,p2⟩:=p;cases p1 with
    |list l=>
      cases l with
      |nil=>cases h
      |cons _ _=>rfl
    |_=>rfl
theorem fj(h1:gd δ=some (.dict kds))(h2:gk δ=some (dC c))(h3:ge δ=some z)(hf:Ig kds=false:=by first|assumption|exact Dt.fn (by assumption)):dA gd gk ge δ=some ((dn kds [.inl c.1,.inl c.2]).getD z):=by
 unfold dA;rw[h1,h2,h3]
 show(if Ig kds=true then none else _)=_
 rw[hf];rfl
theorem Hh(h1:gd δ=some (.dict kds))(h2:gk δ=some (dC c))(hf:Ig kds=false:=by first|assumption|exact Dt.fn (by assumption)):vZ gd gk δ=dn kds [.inl c.1,.inl c.2]:=by
 unfold vZ;rw[h1,h2]
 show(if Ig kds=true then none else _)=_
 rw[hf];rfl
theorem oH(h1:ae i δ=some (.dict kds))(h2:gk δ=some (dC c))(h3:ge δ=some d)(h4:kds.length<100000):oZ i gk ge δ=some (.nx (δ.set i (some (.dict (il kds [.inl c.1,.inl c.2] d))))):=by
 unfold oZ;rw[h1,h2,h3]
 show(if kds.length<100000 then _ else _)=_
 rw[aaq h4]
theorem U4:(([.inl b,.inl g]:List Key)=[.inl x,.inl y])↔b=x/\g=y:=by simp
theorem P4{d2:D}(gY UM δ3 δ4:DS)(h1:t d1 δ=some gY)(h2:b gY=some (.nx UM))(h3:t d2 UM=some δ3)(h4:b δ3=some (.nx δ4)):ls t b [d1,d2] δ=some (.nx δ4):=by
 simp only[ls,h1,h2,h3,h4,aac]
theorem Dt.put(h:Dt kds F)(x y v:Int):Dt (il kds [.inl x,.inl y] (.int v)) (λb g=>if b=x/\g=y then v else F b g):=by
 refine⟨P0 h.fn,λb g=>?_⟩
 rw[IE]
 by_cases e:b=x/\g=y
 .grind
 .rw [aaO (λz=>e (U4.mp z)),aaO e];exact h b g
theorem Mt(h1:ae i δ=some (.list ds))(h2:g δ=some zs)(h3:ds.length+zs.length<=100000):KU i g δ=some (.nx (δ.set i (some (.list (ds++zs))))):=by
 unfold KU
 rw[h1,h2]
 show(if ds.length+zs.length<=100000 then _ else _)=_
 rw[aaq h3]
theorem P5(p:cA):jZ (p.map dR)=p.zipIdx.map λx=>.tuple [.int (x.2:Nat),dR x.1]:=by
 unfold jZ
 rw[List.zipIdx_map,adw]
 rfl
theorem Fj(hl:p.length<=24)(kZ:∀r∈p,r.length<=25):jQ [bD p]=some ((bY 0 p).map dC):=by
 refine bu ?_
 refine oC (λx:List Int×Nat=>PyData.tuple [.int (x.2:Nat),dR x.1]) p.zipIdx (λi δ=>∃a b,δ=[some (bD p),sL ((bY 0 (p.take i)).map dC),a,b]) ?_ ⟨none,none,rfl⟩ ?_ ?_
 .show some (jZ (p.map dR))=_;rw[P5]
 .rintro i ⟨r,n⟩ δ hi ⟨a,b,rfl⟩;rw[acx]at hi;cases er:p[i]? with
  |none=>rw[er]at hi;cases hi
  |some r'=>
    rw[er]at hi;simp at hi;obtain⟨rfl,rfl⟩:=hi;have OP:=(aal.mp er).1;have hr:=kZ r' (aa7 er);have ht:p.take (i+1)=p.take i++[r']:=by
     rw[acj,er];rfl
    have Fk:(p.take i).length=i:=by rw[acf];lia
    have hc0:=wL (p.take i) 0 λs hs=>kZ s (List.mem_of_mem_take hs);refine⟨_,[some (bD p),sL ((bY 0 (p.take (i+1))).map dC),sI (i:Nat),some (dR r')],rfl,?_,_,_,rfl⟩;have hc:cN (aZ (ae 3)) [2] (bC (aa (ae 0) (aa (g2 ia (ae 1) (ae 0)) ag))) [some (bD p),sL ((bY 0 (p.take i)).map dC),sI (i:Nat),some (dR r')]=some ((r'.map λb=>(b,(i:Int)-b)).map dC):=
     fJ PyData.int dC (λb=>(b,(i:Int)-b)) r' rfl (by lia) λx _=>rfl;refine(Mt rfl hc (by simp only[aaj];lia)).trans ?_;rw[ht,jD,Fk,aep,abb];rfl
 .rintro δ' ⟨a,b,rfl⟩;refine ret (.list ((bY 0 p).map dC)) ?_ (.mk rfl rfl);rw[adM,acN];rfl
theorem iD(ha:PyData.strOk a=true)(hb:PyData.strOk b=true)(hc:(a==b)=c):gT (.str a) (.str b)=some (.bool c):=by
 unfold gT
 simp[SeqAt.shaped,PyData.canLay0,PyData.depth,PyData.eqv,ha,hb,hc]
theorem zl(c:Int×Int):fK [dC c,.str "b"]=some (dC (c.1+1,c.2)):=by
 exact bu (fG true (bW (b:=true) (aj rfl rfl (iD (by decide +kernel) (by decide +kernel) (by decide +kernel)))) (λ_=>fH (dC (c.1+1,c.2)) rfl (.mk rfl rfl)) λz=>nomatch z)
theorem zm(c:Int×Int):fK [dC c,.str "g"]=some (dC (c.1,c.2+1)):=by
 exact bu (fU (bW (b:=false) (aj rfl rfl (iD (by decide +kernel) (by decide +kernel) (by decide +kernel)))) (ret (dC (c.1,c.2+1)) rfl (.mk rfl rfl)))
theorem uw(hl:p.length<=24)(kZ:∀r∈p,r.length<=25)(c:Int×Int):∃kds,gO [bD p,dC c]=some (.dict kds)/\Dt kds ((bY 0 p).foldl bX (gH c)):=by
 have uI:=wL p 0 kZ
 have main:gZ (gO [bD p,dC c]) λd=>∃kds,d=.dict kds/\Dt kds ((bY 0 p).foldl bX (gH c)):=by
  refine bA [some (bD p),some (dC c),some (.dict [(dC c,.int 1)]),none,none,none] rfl ?_;refine oC dC (bY 0 p) (λi δ=>∃kds a b e,δ=[some (bD p),some (dC c),some (.dict kds),a,b,e]/\Dt kds (((bY 0 p).take i).foldl bX (gH c))/\kds.length<=1+2*i) ?_ ⟨_,_,_,_,rfl,?_,by simp⟩ ?_ ?_
  .have ec:bb (cD jQ 1 (aa (ae 0) ag)) [some (bD p),some (dC c),some (.dict [(dC c,.int 1)]),none,none,none]=some (.list ((bY 0 p).map dC)):=br (fZ (cons_of rfl rfl) rfl (Fj hl kZ));unfold aZ;rw[ec];rfl
  .refine ⟨rfl,λb g=>?_⟩;exact(Dt.put (kds:=[]) (F:=λ_ _=>0) ⟨rfl,λb g=>rfl⟩ c.1 c.2 1) b g
  .rintro i k δ hi ⟨kds,a,b,e,rfl,hd,hlen⟩;have OP:=(aal.mp hi).1;obtain⟨F,hF⟩:∃F,F=((bY 0 p).take i).foldl bX (gH c):=⟨_,rfl⟩;rw[<-hF]at hd;have CP:((bY 0 p).take (i+1)).foldl bX (gH c)=bX F k:=by
    rw[acj,hi,acz,<-hF];rfl
   obtain⟨k1,Cc⟩:∃k1,k1=il kds [.inl (k.1+1),.inl k.2] (.int (F (k.1+1) k.2+F k.1 k.2)):=⟨_,rfl⟩;have Bz:=hd.put (k.1+1) k.2 (F (k.1+1) k.2+F k.1 k.2);rw[<-Cc]at Bz;have hd2:=Bz.put k.1 (k.2+1) (F k.1 (k.2+1)+F k.1 k.2);have l1:k1.length<=kds.length+1:=by rw[Cc];exact jA _ _ _
   have l2:=jA k1 [.inl k.1,.inl (k.2+1)] (.int (F k.1 (k.2+1)+F k.1 k.2));refine⟨_,[some (bD p),some (dC c),some (.dict (il k1 [.inl k.1,.inl (k.2+1)] (.int (F k.1 (k.2+1)+F k.1 k.2)))),some (dC k),sI (F k.1 k.2),some (dC (k.1,k.2+1))],rfl,?_,_,_,_,_,rfl,?_,by lia⟩
   .refine ff [some (bD p),some (dC c),some (.dict kds),some (dC k),sI (F k.1 k.2),e] (bh ((fj rfl rfl rfl).trans (ab7 some (hd k.1 k.2)))) ?_;unfold fS;have hit:aZ (bC (aa (aP fK 2 (aa (ae 3) (aa (bR "b") ag))) (aa (aP fK 2 (aa (ae 3) (aa (bR "g") ag))) ag))) [some (bD p),some (dC c),some (.dict kds),some (dC k),sI (F k.1 k.2),e]=some [dC (k.1+1,k.2),dC (k.1,k.2+1)]:=by
     have e1:aP fK 2 (aa (ae 3) (aa (bR "b") ag)) [some (bD p),some (dC c),some (.dict kds),some (dC k),sI (F k.1 k.2),e]=some (dC (k.1+1,k.2)):=call_of (cons_of rfl (cons_of rfl rfl)) rfl (zl k);have e2:aP fK 2 (aa (ae 3) (aa (bR "g") ag)) [some (bD p),some (dC c),some (.dict kds),some (dC k),sI (F k.1 k.2),e]=some (dC (k.1,k.2+1)):=call_of (cons_of rfl (cons_of rfl rfl)) rfl (zm k);unfold aZ bC;rw[cons_of e1 (cons_of e2 rfl)];rfl
    rw[hit,aac];refine P4 [some (bD p),some (dC c),some (.dict kds),some (dC k),sI (F k.1 k.2),some (dC (k.1+1,k.2))] [some (bD p),some (dC c),some (.dict k1),some (dC k),sI (F k.1 k.2),some (dC (k.1+1,k.2))] [some (bD p),some (dC c),some (.dict k1),some (dC k),sI (F k.1 k.2),some (dC (k.1,k.2+1))] _ rfl ?_ rfl ?_
    .refine (oH (c:=(k.1+1,k.2)) rfl rfl (aj ((fj (c:=(k.1+1,k.2)) rfl rfl rfl).trans (ab7 some (hd (k.1+1) k.2))) rfl rfl) (by lia)).trans ?_;rw[Cc];rfl
    .have h5:(dn k1 [.inl k.1,.inl (k.2+1)]).getD (.int 0)=.int (F k.1 (k.2+1)):=by
      have:=Bz k.1 (k.2+1);rw[this];rw[aaO (by lia)]
     exact oH (c:=(k.1,k.2+1)) rfl rfl (aj ((fj (c:=(k.1,k.2+1)) rfl rfl rfl).trans (ab7 some h5)) rfl rfl) (by lia)
   .rw [CP];refine⟨hd2.fn,λx y=>?_⟩;rw[hd2 x y];congr 1;show(if x=k.1/\y=k.2+1 then _ else if x=k.1+1/\y=k.2 then _ else F x y)=F x y+_+_;by_cases c1:x=k.1/\y=k.2+1;.grind
    .grind
  .rintro δ' ⟨kds,a,b,e,rfl,hd,_⟩;rw[acN]at hd;exact ret (.dict kds) rfl (.mk rfl ⟨kds,rfl,hd⟩)
 obtain⟨_,e,kds,rfl,hd⟩:=main
 exact⟨kds,e,hd⟩
theorem Jp(hl:p.length<=24)(kZ:∀r∈p,r.length<=25)(c:Int×Int):oF [bD p,dC c]=some (.int ((bY 0 p).foldl bX (gH (0,0)) c.1 c.2)):=by
 obtain⟨kds,e,hd⟩:=uw hl kZ (0,0)
 exact bu (ret _ ((fj (c:=c) (call_of (cons_of rfl (cons_of rfl rfl)) rfl e) rfl rfl).trans (ab7 some (hd c.1 c.2))) (.mk rfl rfl))
def A0:Int->Int:=λb=>if b=0 then 1 else 0
theorem Mu(h:Pl p){k:Nat}(e:x+y=(k:Int)):(bY 0 p).foldl bX (gH (0,0)) x y=WW A0 p k x:=by
 refine(qW p 0 A0 (gH (0,0)) (vh h).1 ?_ ?_ x y).2 k (by push_cast;lia)
 .intro x y q;unfold gH A0;by_cases c:x=0;.grind
  .grind
 .intro x y q;unfold gH;lia
theorem Mv{α β:Type}(enc:α->D)(pK:β->D)(h:α->β)(P:α->Bool):∀l:List α,(∀a∈l,f (enc a)=some (if P a=true then some (pK (h a))else none))->vV f (l.map enc)=some (((l.filter P).map h).map pK)
 |[],_=>rfl
 |a::l,q=>by
   have ih:=Mv enc pK h P l λb hb=>q b (aap _ hb);rw[aaw,vV,q a aan,aac,ih,aac,List.filter_cons];cases P a<;>rfl
theorem Mw{α β:Type}(enc:α->D)(pK:β->D)(h:α->β)(P:α->Bool)(l:List α)(hi:gi δ=some (l.map enc))(hl:l.length<=100000)
  (hc:∀a∈l,gc (some (enc a)::iQ ix δ)=some (P a))(he:∀a∈l,P a=true->ge (some (enc a)::iQ ix δ)=some (pK (h a))):gA gi 1 ix (aO 0) gc ge δ=some (((l.filter P).map h).map pK):=by
 unfold gA
 rw[hi,aac,aaq (by rw[aaj];exact hl)]
 refine Mv enc pK h P l λa ha=>?_
 show(Option.bind (some (some (enc a)::iQ ix δ)) _)=_
 rw[aac,hc a ha,aac]
 cases q:P a with
 |true=>rw[aaq rfl,aaq rfl,he a ha q];rfl
 |false=>rfl
theorem AJ(h1:a δ=some x)(h2:b δ=some y)(h3:f x y=some (.bool u))(h4:c δ=some w)(h5:f' y w=some (.bool v)):iZ f f' a b c δ=some (.bool (u&&v)):=by
 unfold iZ
 rw[h1,h2]
 simp only[aac,h3]
 cases u with
 |true=>simp only[h4,aac,h5,acM]
 |false=>rfl
theorem CQ(h:r.length<32):eC [dR r]=some ((led r).map .int):=by
 exact bu (ret (.list ((led r).map .int)) (br (Mo (a:=bb (KI vJ (aa (ae 0) ag))) (b:=ae 0) (r:=r) rfl (.inr rfl) h)) (.mk rfl rfl))
noncomputable def nz(p:cA)(c:Int×Int):Bool:=(decide (0<=c.1+c.2)&&decide (c.1+c.2<(p.length:Int)))&&decide (c.1∈p.getD (c.1+c.2).toNat [])
theorem oJ(p:cA)(c:Int×Int):eP [bD p,dC c]=some (.bool (nz p c)):=by
 rw[Jo]
 refine bu ?_
 refine ret (.bool (nz p c)) ?_ (.mk rfl rfl)
 refine U0 (x:=decide (0<=c.1+c.2)&&decide (c.1+c.2<(p.length:Int))) ?_ λh=>?_
 .have e2:Ky (.int (c.1+c.2)) (.int (((p.map dR).length:Nat):Int))=some (.bool (decide (c.1+c.2<(p.length:Int)))):=by
   rw[aaj];rfl
  exact AJ rfl rfl rfl rfl e2
 .rw [aax,aaS,aaS]at h;exact aj rfl (aj rfl rfl (Ry h.1 h.2)) Mq
theorem sP:∀(p:cA) (n:Nat),(∀r∈p,r.length<=50)->(bY n p).length<=50*p.length
 |[],_,_=>by simp[bY]
 |r::p,n,h=>by
   have h1:=sP p (n+1) λs hs=>h s (aap _ hs);have h2:=h r aan;rw[bY,aaB,aaR,lN,aaj];lia
theorem Mx(p:cA):uk (p.map dR)=(p.zipIdx 1).map λx=>.tuple [.int (x.2:Nat),dR x.1]:=by
 unfold uk
 rw[List.zipIdx_map,adw]
 rfl
theorem Hi(x:Int):∀l:List Int,(ins x l).length<=l.length+1
 |[]=>by simp[ins]
 |y::l=>by
   have:=Hi x l;rw[ins];split;.simp
   .grind
theorem My:∀l:List Int,(ss l).length<=l.length
 |[]=>by simp[ss]
 |x::l=>by
   have h1:=My l;have h2:=Hi x (ss l);rw[ss,aaR];lia
theorem AK:(led r).length<=2*r.length:=by
 have h:((led r):List Int).length<=(r++r.map (·+1)).length:=My _
 rw[aaB,aaj]at h
 lia
theorem Jq(hl:p.length<=24)(kZ:∀r∈p,r.length<=25):jC [bD p]=some (((0,0)::bY 1 (p.map led)).map dC):=by
 refine bu ?_
 refine oC (λx:List Int×Nat=>PyData.tuple [.int (x.2:Nat),dR x.1]) (p.zipIdx 1) (λi δ=>∃a b,δ=[some (bD p),sL (((0,0)::bY 1 ((p.take i).map led)).map dC),a,b]) ?_ ⟨none,none,rfl⟩ ?_ ?_
 .show some (uk (p.map dR))=_;rw[Mx]
 .rintro i ⟨r,n⟩ δ hi ⟨a,b,rfl⟩;rw[acx]at hi;cases er:p[i]? with
  |none=>rw[er]at hi;cases hi
  |some r'=>
    rw[er]at hi;simp at hi;obtain⟨rfl,rfl⟩:=hi;have OP:=(aal.mp er).1;have hr:=kZ r' (aa7 er);have ht:p.take (i+1)=p.take i++[r']:=by
     rw[acj,er];rfl
    have Fk:(p.take i).length=i:=by rw[acf];lia
    have hll:(led r').length<=50:=by have:=AK (r:=r');lia
    have uI:(bY 1 ((p.take i).map led)).length<=1200:=by
     have:=sP ((p.take i).map led) 1 (λs hs=>by
      obtain⟨t,ht,rfl⟩:=aa9.mp hs;have:=AK (r:=t);have:=kZ t (List.mem_of_mem_take ht);lia);rw[aaj,Fk]at this;lia
    refine⟨_,[some (bD p),sL (((0,0)::bY 1 ((p.take (i+1)).map led)).map dC),sI ((1+i:Nat):Int),some (dR r')],rfl,?_,_,_,rfl⟩;have hc:cN (aZ (bb (cD eC 1 (aa (ae 3) ag)))) [2] (bC (aa (ae 0) (aa (g2 ia (ae 1) (ae 0)) ag))) [some (bD p),sL (((0,0)::bY 1 ((p.take i).map led)).map dC),sI ((1+i:Nat):Int),some (dR r')]=some (((led r').map λb=>(b,((1+i:Nat):Int)-b)).map dC):=by
     refine fJ PyData.int dC (λb=>(b,((1+i:Nat):Int)-b)) (led r') ?_ (by lia) λx _=>rfl;have ec:bb (cD eC 1 (aa (ae 3) ag)) [some (bD p),sL (((0,0)::bY 1 ((p.take i).map led)).map dC),sI ((1+i:Nat):Int),some (dR r')]=some (.list ((led r').map .int)):=br (fZ (cons_of rfl rfl) rfl (CQ (by lia)));unfold aZ;rw[ec];rfl
    refine(Mt rfl hc (by simp only[aaj,aaR];lia)).trans ?_;have key:bY 1 ((p.take (i+1)).map led)=bY 1 ((p.take i).map led)++lN (1+i) (led r'):=by
     rw[ht,abb,show List.map led [r']=[led r']from rfl,jD,aaj,Fk]
    simp only[key,aaw,abb];rfl
 .rintro δ' ⟨a,b,rfl⟩;refine ret (.list (((0,0)::bY 1 (p.map led)).map dC)) ?_ (.mk rfl rfl);rw[adM,acN];rfl
def jb(p:cA):List (Int×Int):=((0,0)::bY 1 (p.map led)).filter λc=> !nz p c
theorem U5(hl:p.length<=24)(kZ:∀r∈p,r.length<=25):AD [bD p]=some ((jb p).map dC):=by
 have uI:(bY 1 (p.map led)).length<=1200:=by
  have:=sP (p.map led) 1 (λs hs=>by
   obtain⟨t,ht,rfl⟩:=aa9.mp hs;have:=AK (r:=t);have:=kZ t ht;lia);rw[aaj]at this;lia
 have hc:gA (aZ (bb (cD jC 1 (aa (ae 0) ag)))) 1 [0] (aO 0) (iy (gX (aP eP 2 (aa (ae 1) (aa (ae 0) ag))))) (ae 0) [some (bD p)]=some (((((0,0)::bY 1 (p.map led)).filter λc=> !nz p c).map id).map dC):=by
  refine Mw dC dC id (λc=> !nz p c) ((0,0)::bY 1 (p.map led)) ?_ (by simp only[aaR];lia) (λc _=>?_) λc _ _=>rfl
  .have ec:bb (cD jC 1 (aa (ae 0) ag)) [some (bD p)]=some (.list (((0,0)::bY 1 (p.map led)).map dC)):=br (fZ (cons_of rfl rfl) rfl (Jq hl kZ));unfold aZ;rw[ec];rfl
  .exact eI (ee (call_of (cons_of rfl (cons_of rfl rfl)) rfl (oJ p c)))
 rw[List.map_id]at hc
 exact bu (ret (.list ((jb p).map dC)) (br hc) (.mk rfl rfl))
theorem Rz(c:Int×Int):SeqAt.shaped (dC c)=true:=rfl
theorem U6(a c:Int×Int):PyData.eqv (dC a) (dC c)=decide (a=c):=by
 obtain⟨a1,a2⟩:=a
 obtain⟨c1,c2⟩:=c
 simp[dC,PyData.eqv,PyData.eqvAll]
 rfl
theorem U7(neg:Bool)(c:Int×Int)(es:List (Int×Int)):II neg (dC c) (.list (es.map dC))=some (.bool (decide (c∈es)!=neg)):=by
 unfold II
 simp only
 rw[aaq (by rw[Rz,acM,List.all_map];simp[Rz])]
 congr 3
 rw[ael,adi]
 simp[U6]
theorem AL(hl:p.length<=24)(kZ:∀r∈p,r.length<=25)(cs:List (Int×Int))(h:∀c∈cs,c∈jb p):ji [bD p,.list (cs.map dC)]=some .none:=by
 refine bu ?_
 refine bA [some (bD p),sL (cs.map dC),sL ((jb p).map dC),none] (bh (br (fZ (cons_of rfl rfl) rfl (U5 hl kZ)))) ?_
 obtain⟨δ',e,a,rfl⟩:=qU (t:=aO 3) (b:=gU (gB (g2 (II true) (ae 3) (ae 2))) (λ_=>none) bF) dC (λ_ δ=>∃a,δ=[some (bD p),sL (cs.map dC),sL ((jb p).map dC),a]) cs (δ:=[some (bD p),sL (cs.map dC),sL ((jb p).map dC),none]) ⟨none,rfl⟩ (by
  rintro i c δ hi ⟨a,rfl⟩;refine⟨_,[some (bD p),sL (cs.map dC),sL ((jb p).map dC),some (dC c)],rfl,zj (bW (aj rfl rfl ((U7 true c (jb p)).trans ?_))),_,rfl⟩;rw[aas (h c (aa7 hi))];rfl)
 refine .mk (d:=.none) ?_ rfl
 unfold fS
 rw[show aZ (ae 1) [some (bD p),sL (cs.map dC),sL ((jb p).map dC),none]=some (cs.map dC)from rfl,aac,e]
 rfl
def TE(n:Nat)(x:D):Prop:=PyData.canLay0 x=true/\PyData.depth x<=n
theorem TE.up(h:TE n x)(hn:n<=m):TE m x:=⟨h.1,aaW h.2 hn⟩
theorem Fl:∀{l:List D},(∀x∈l,TE n x)->PyData.canLayAll0 l=true/\PyData.depthAll l<=n
 |[],_=>⟨rfl,ab8 _⟩
 |a::l,h=>by
   obtain⟨h1,h2⟩:=h a aan;obtain⟨h3,h4⟩:=Fl λx hx=>h x (aap _ hx);refine⟨by rw[PyData.canLayAll0,h1,h3];rfl,?_⟩;exact Nat.max_le.mpr ⟨h2,h4⟩
theorem CS(h:∀x∈l,TE n x):TE (n+1) (.tuple l):=by
 obtain⟨h1,h2⟩:=Fl h
 exact⟨by rw[PyData.canLay0];exact h1,by rw[PyData.depth];lia⟩
theorem Hj(h:∀x∈l,TE n x):TE (n+1) (.list l):=by
 obtain⟨h1,h2⟩:=Fl h
 exact⟨by rw[PyData.canLay0];exact h1,by rw[PyData.depth];lia⟩
theorem U8(i:Int):TE 1 (.int i):=⟨by rw[PyData.canLay0],by rw[PyData.depth];lia⟩
theorem Mz(x:Str)(h:PyData.strOk x=true):TE 1 (.str x):=⟨by rw[PyData.canLay0];exact h,by rw[PyData.depth];lia⟩
theorem TE.sh(h:TE n x)(hn:n<=60):SeqAt.shaped x=true:=by
 obtain⟨a,b⟩:=h
 unfold SeqAt.shaped
 rw[a];simp;lia
theorem TE.ty(h:TE n x):tyName x∈dh:=by
 cases x with
 |dict l=>have:=h.1;rw[PyData.canLay0]at this;cases this
 |_=>simp[tyName,dh]
theorem MA(h1:SeqAt.shaped a=true)(h2:SeqAt.shaped b=true):gT a b=some (.bool (PyData.eqv a b)):=by
 unfold gT
 split
 .rfl
 .grind
theorem vi(r:List Int):∀x∈r.map PyData.int,TE 1 x:=λx hx=>by
 obtain⟨i,_,rfl⟩:=aa9.mp hx
 exact U8 i
theorem ux:∀l m:List Int,PyData.eqvAll (l.map .int) (m.map .int)=decide (l=m)
 |[],[]=>rfl
 |[],_::_=>rfl
 |_::_,[]=>rfl
 |a::l,b::m=>by
   rw[aaw,aaw,PyData.eqvAll,ux l m,PyData.eqv,adi];simp
theorem AM(h:TE n x)(ht:t∈dh)(hg:g δ=some x):xW t g δ=some (.bool (decide (tyName x=t)||(decide (tyName x="bool")&&decide (t="int")))):=by
 unfold xW
 rw[hg]
 show(if tyName x∈dh/\t∈dh then some _ else none)=_
 rw[aaq ⟨h.ty,ht⟩]
def isI:D->Bool
 |.int _=>true
 |_=>false
theorem Fo(h:TE n x)(hg:g δ=some x):jI (xW "int" g) (g1 KD (xW "bool" g)) δ=some (.bool (isI x)):=by
 have h1:=AM h (t:="int") (by decide) hg
 have h2:=AM h (t:="bool") (by decide) hg
 have h3:g1 KD (xW "bool" g) δ=some (.bool (!(decide (tyName x="bool")||(decide (tyName x="bool")&&decide ("bool"="int"))))):=by
  unfold g1;rw[h2];rfl
 unfold jI
 rw[bW h1,aac,h3]
 cases x<;>simp[tyName,isI]
theorem Fp(h:TE n x):gG [x]=some (.bool (isI x)):=by
 exact bu (ret _ (Fo h rfl) (.mk rfl rfl))
def NH(T:List Int):D->Bool
 |.int i=>decide (i∈T)
 |_=>false
theorem Fq(T:List Int):∀l:List D,l.all (NH T)=match ja l with|some r=>r.all λx=>decide (x∈T)|none=>false
 |[]=>rfl
 |d::l=>by
   cases d with
   |int i=>
     rw[adE,Fq T l,ja];cases ja l with
     |none=>simp
     |some r=>simp[NH]
   |_=>simp[NH,ja]
def wM:D->Option (List Int)
 |.tuple l=>ja l
 |_=>none
theorem Jr(h:wM d=some r):d=dR r:=by
 cases d with
 |tuple l=>exact ab7 PyData.tuple (jL h)
 |_=>cases h
open Classical in
def Y7 (d:D):Bool:=match wM d with
 |some r=> !r.isEmpty&&decide (wH r)
 |none=>false
def MB(T:List Int)(d:D):Bool:=Y7 d&&match wM d with
 |some r=>r.all λx=>decide (x∈T)
 |none=>false
structure TR(d:D):Prop where
 te:TE 4 d
 row:∀l,d=.tuple l->l.length<64/\∀x∈l,TE 3 x
theorem P6:ss r=r↔wH r:=⟨λh=>h ▸ oo,OJ⟩
theorem Fs(h:TR d)(T:List Int):du [d,.list (T.map .int)]=some (.bool (MB T d)):=by
 rw[E9]
 refine bu ?_
 have hi:=AM h.te (t:="tuple") (by decide) (g:=ae 0) (δ:=[some d,sL (T.map .int)]) rfl
 by_cases ht:∃l,d=.tuple l
 .obtain ⟨l,rfl⟩:=ht;obtain⟨hl,hx⟩:=h.row l rfl;have c1:=eI (x:=true) (ee (hi.trans rfl));have c2:gB (g2 gT (dS dU (aa (ae 0) ag)) (ax 0)) [some (.tuple l),sL (T.map .int)]=some (decide ((l.length:Int)=0)):=bW rfl;refine fG (decide ((l.length:Int)=0)) (CJ c1 c2) (λe=>?_) λe=>?_
  .have:l=[]:=acy.mp (by have:=ad0 e;lia);subst this;exact fH (.bool false) rfl (.mk rfl (by simp[MB,Y7,wM,ja]))
  .have gK:l≠[]:=λz=>by subst z;simp at e
   have Y8:cN (aZ (ae 0)) [1] (jI (aP gG 1 (aa (ae 0) ag)) (g2 JH (ae 0) (ae 1))) [some (.tuple l),sL (T.map .int)]=some ((l.map (NH T)).map .bool):=by
    refine fJ id PyData.bool (NH T) l (by simp;rfl) (by lia) λx hxl=>?_;have hw:aP gG 1 (aa (ae 0) ag) (some (id x)::iQ [1] [some (.tuple l),sL (T.map .int)])=some (.bool (isI x)):=call_of (cons_of rfl rfl) rfl (Fp (hx x hxl));unfold jI;rw[bW hw,aac];cases x with
    |int i=>
      exact aj rfl rfl He
    |_=>rfl
   have Oc:gX (dS Cm (aa (bb (cN (aZ (ae 0)) [1] (jI (aP gG 1 (aa (ae 0) ag)) (g2 JH (ae 0) (ae 1))))) ag)) [some (.tuple l),sL (T.map .int)]=some (l.all (NH T)):=by
    refine ee (iq (cons_of (br Y8) rfl) ?_);show(jM ((l.map (NH T)).map .bool)).map _=_;rw[lz];simp[List.all_map]
   refine fG (!(l.all (NH T))) (eI Oc) (λe2=>?_) λe2=>?_
   .refine fH (.bool false) rfl (.mk rfl ?_);have e3:l.all (NH T)=false:=by simpa using e2
    rw[Fq]at e3;unfold MB;rw[show wM (.tuple l)=ja l from rfl,e3,Bool.and_false]
   .have e3:l.all (NH T)=true:=by simpa using e2
    rw[Fq]at e3;cases hr:ja l with
    |none=>rw[hr]at e3;cases e3
    |some r=>
      rw[hr]at e3;dsimp only at e3;have hlr:=jL hr;subst hlr;have Rx:r.length<64:=by simpa using hl
      refine ret (.bool (decide (r=ss r))) (aj (br rfl) (br (Rw (ns:=r) rfl rfl Rx)) ?_) (.mk rfl ?_);.rw [MA ((Hj (vi r)).sh (by decide)) ((Hj (vi (ss r))).sh (by decide)),PyData.eqv,ux]
      .unfold MB Y7;rw[show wM (.tuple (r.map .int))=ja (r.map .int)from rfl,kK];dsimp only;have Wp:r.isEmpty=false:=by cases r with|nil=>exact absurd rfl gK|cons _ _=>rfl
       rw[Wp,e3];simp only[Bool.not_false,acM,Bool.and_true];congr 1;rw[adi,aaS,@aaS _ (Classical.propDecidable _),<-P6,eq_comm]
 .have hn:tyName d≠"tuple":=λz=>by
   cases d with
   |tuple l=>exact ht ⟨l,rfl⟩
   |_=>simp[tyName]at z
  have c1:=eI (x:=false) (ee (hi.trans (by simp[hn])));refine fG true (by unfold GA;rw[c1];rfl) (λ_=>fH (.bool false) rfl (.mk rfl ?_)) λz=>nomatch z;cases d with
  |tuple l=>exact absurd ⟨l,rfl⟩ ht
  |_=>rfl
def NI:List Int->List D->Bool
 |_,[]=>true
 |T,d::l=>MB T d&&NI (led ((wM d).getD [])) l
theorem P7(h:MB T d=true):∃r,wM d=some r/\d=dR r/\r≠[]/\wH r/\∀x∈r,x∈T:=by
 unfold MB Y7 at h
 cases hr:wM d with
 |none=>rw[hr]at h;cases h
 |some r=>
   rw[hr]at h;rw[aax,aax,@aaS _ (Classical.propDecidable _),abv]at h;exact⟨r,rfl,Jr hr,λz=>by subst z;simp at h,h.1.2,λx hx=>ad0 (h.2 x hx)⟩
structure Tame(d:D):Prop where
 te:TE 5 d
 pl:∀l,d=.tuple l->l.length<=100/\∀e∈l,TR e
theorem zo:∀(l:List D) (T:List Int) (k:Nat) (x:Option D),(∀e∈l,TR e)->(∀z∈T,0<=z/\z<=(k:Int))->k+l.length<=26->
  (NI T l=true->∃δ',ls (aO 2) (aM (gU (iy (gX (aP du 2 (aa (ae 2) (aa (ae 1) ag))))) (bo (gC (.bool false))) bF) (bp 1 (bb (cD eC 1 (aa (ae 2) ag))))) l [some th,sL (T.map .int),x]=some (.nx δ'))/\
  (NI T l=false->ls (aO 2) (aM (gU (iy (gX (aP du 2 (aa (ae 2) (aa (ae 1) ag))))) (bo (gC (.bool false))) bF) (bp 1 (bb (cD eC 1 (aa (ae 2) ag))))) l [some th,sL (T.map .int),x]=some (.rt (.bool false)))
 |[],T,k,x,_,_,_=>⟨λ_=>⟨_,rfl⟩,λe=>by cases e⟩
 |d::l,T,k,x,ht,hT,hk=>by
   have hp:=Fs (ht d aan) T;have hc:iy (gX (aP du 2 (aa (ae 2) (aa (ae 1) ag)))) [some th,sL (T.map .int),some d]=some (!(MB T d)):=eI (ee (call_of (cons_of rfl (cons_of rfl rfl)) rfl hp));rw[ls,show aO 2 d [some th,sL (T.map .int),x]=some [some th,sL (T.map .int),some d]from rfl,aac,NI];cases i8:MB T d with
   |false=>
     rw[i8]at hc;refine⟨λe=>(nomatch e),λ_=>?_⟩;rw[show aM (gU (iy (gX (aP du 2 (aa (ae 2) (aa (ae 1) ag))))) (bo (gC (.bool false))) bF) (bp 1 (bb (cD eC 1 (aa (ae 2) ag)))) [some th,sL (T.map .int),some d]=some (.rt (.bool false))from AA (ny true hc (λ_=>rfl) λz=>nomatch z)];rfl
   |true=>
     rw[i8]at hc;obtain⟨r,er,rfl,gK,hr,vL⟩:=P7 i8;have hlen:=wI hr λz hz=>hT z (vL z hz);rw[aaR]at hk;have hb:aM (gU (iy (gX (aP du 2 (aa (ae 2) (aa (ae 1) ag))))) (bo (gC (.bool false))) bF) (bp 1 (bb (cD eC 1 (aa (ae 2) ag)))) [some th,sL (T.map .int),some (dR r)]=some (.nx [some th,sL ((led r).map .int),some (dR r)]):=
      ff _ (zj hc) (bh (br (fZ (cons_of rfl rfl) rfl (CQ (by lia)))));rw[hb,aac,acM,er];refine zo l (led r) (k+1) _ (λe he=>ht e (aap _ he)) (λz hz=>?_) (by lia);rcases jn.mp hz with h|h;.grind
     .grind
def isP:D->Bool
 |.tuple l=>decide (1<=l.length/\l.length<=24)&&NI [0] l
 |_=>false
theorem Js(h:Tame d):oE [d]=some (.bool (isP d)):=by
 rw[Jn]
 refine bu ?_
 have hi:=AM h.te (t:="tuple") (by decide) (g:=ae 0) (δ:=[some d,none,none]) rfl
 by_cases ht:∃l,d=.tuple l
 .obtain ⟨l,rfl⟩:=ht;obtain⟨hl,hx⟩:=h.pl l rfl;have c1:=eI (x:=true) (ee (hi.trans rfl));have c2:iy (gB (iZ Oq Oq (ax 1) (dS dU (aa (ae 0) ag)) (ax 24))) [some (.tuple l),none,none]=some (!(decide (1<=l.length/\l.length<=24))):=by
   refine eI (bW ?_);show(match(PyData.bool (decide ((1:Int)<=(l.length:Int))))with|.bool true=>some (PyData.bool (decide ((l.length:Int)<=24)))|.bool false=>some (PyData.bool false)|_=>none)=_;by_cases h1:(1:Int)<=(l.length:Int)
   .rw [aas h1];dsimp only;congr 2;rw[adi,aaS,aaS];lia
   .grind
  refine fG (!(decide (1<=l.length/\l.length<=24))) (CJ c1 c2) (λe=>?_) λe=>?_
  .refine fH (.bool false) rfl (.mk rfl ?_);have e2:decide (1<=l.length/\l.length<=24)=false:=by rw[aeP]at e;exact e
   rw[isP,e2,Bool.false_and]
  .have e2:1<=l.length/\l.length<=24:=by rw[Bool.not_eq_false']at e;exact ad0 e
   rw[isP,aas e2,acM,wD];refine bA [some (.tuple l),sL (([0]:List Int).map .int),none] rfl ?_;obtain⟨k1,k2⟩:=zo (th:=.tuple l) l [0] 0 none hx (by intro z hz;simp at hz;subst hz;decide) (by lia);have hf:fS (aZ (ae 0)) (aO 2) (aM (gU (iy (gX (aP du 2 (aa (ae 2) (aa (ae 1) ag))))) (bo (gC (.bool false))) bF) (bp 1 (bb (cD eC 1 (aa (ae 2) ag))))) [some (.tuple l),sL (([0]:List Int).map .int),none]
     =ls (aO 2) (aM (gU (iy (gX (aP du 2 (aa (ae 2) (aa (ae 1) ag))))) (bo (gC (.bool false))) bF) (bp 1 (bb (cD eC 1 (aa (ae 2) ag))))) l [some (.tuple l),sL (([0]:List Int).map .int),none]:=rfl;cases hck:NI [0] l with
   |true=>
     obtain⟨δ',e3⟩:=k1 hck;exact bA δ' (hf.trans e3) (ret (.bool true) rfl (.mk rfl rfl))
   |false=>
     rw[AA (hf.trans (k2 hck))];exact .mk rfl rfl
 .have hn:tyName d≠"tuple":=λz=>by
   cases d with
   |tuple l=>exact ht ⟨l,rfl⟩
   |_=>simp[tyName]at z
  have c1:=eI (x:=false) (ee (hi.trans (by simp[hn])));refine fG true (by unfold GA;rw[c1];rfl) (λ_=>fH (.bool false) rfl (.mk rfl ?_)) λz=>nomatch z;cases d with
  |tuple l=>exact absurd ⟨l,rfl⟩ ht
  |_=>rfl
theorem U9(r:List Int)(h:r.length<64):TR (dR r):=⟨(CS (vi r)).up (by decide),λl e=>by
 cases e
 exact⟨by simpa using h,λx hx=>(vi r x hx).up (by decide)⟩⟩
theorem MC(h1:r≠[])(h2:wH r)(h3:∀x∈r,x∈T):MB T (dR r)=true:=by
 have Ld:wM (dR r)=some r:=kK r
 unfold MB Y7
 rw[Ld]
 rw[aax,aax,@aaS _ (Classical.propDecidable _),abv]
 refine⟨⟨?_,h2⟩,λx hx=>aas (h3 x hx)⟩
 cases r with
 |nil=>exact(h1 rfl).elim
 |cons a l=>rfl
theorem CU:∀{q:cA} {r:List Int},NG r q->NI (led r) (q.map dR)=true
 |[],_,_=>rfl
 |s::q,r,h=>by
   have Ld:wM (dR s)=some s:=kK s;rw[aaw,NI,MC h.1.1 h.1.2.1 h.1.2.2,acM,Ld];exact CU h.2
theorem MD(hp:Pl p)(hl:p.length<=24):isP (bD p)=true:=by
 obtain⟨q,rfl,hq⟩:=hp.ex
 show(decide (1<=(([0]::q).map dR).length/\(([0]::q).map dR).length<=24)&&NI [0] (([0]::q).map dR))=true
 rw[decide_eq_true (show 1<=(([0]::q).map dR).length/\(([0]::q).map dR).length<=24 by simp at hl ⊢;exact hl),Bool.true_and,List.map_cons,NI,MC (by simp) (by unfold wH;simp) (by simp),Bool.true_and]
 exact CU hq
theorem Jt(hl:p.length<=24)(kZ:∀r∈p,r.length<=25):Tame (bD p):=by
 have trp:∀x∈p.map dR,TR x:=λx hx=>by
  obtain⟨r,hr,rfl⟩:=aa9.mp hx;exact U9 r (by have:=kZ r hr;lia)
 exact⟨CS λx hx=>(trp x hx).te,λl e=>by cases e;exact⟨by simp;lia,trp⟩⟩
theorem sOk(h:∀c∈x.cps.toList,c<128):PyData.strOk x=true/\x.cps.all (·<128)=true:=by
 refine⟨?_,?_⟩
 .show x.cps.all (·<0x110000)=true;rw[Array.all_eq_true_iff_forall_mem];intro c hc;have:=h c (Array.mem_toList_iff.mpr hc);exact aas (by lia)
 .grind
theorem Ft(hx:PyData.strOk x=true)(hy:PyData.strOk y=true):gT (.str x) (.str y)=some (.bool (x==y)):=by
 rw[MA ((Mz x hx).sh (by decide)) ((Mz y hy).sh (by decide)),PyData.eqv]
theorem Fu{x y:Str}(h:x.cps.toList≠y.cps.toList):(x==y)=false:=by lia
noncomputable def nS(b:Int):Str:=Str.ofString (toString b)
noncomputable def mx(m:Nat):List Nat:=(Nat.toDigits 10 m).map Char.toNat
theorem iI(m:Nat):(nS (m:Nat)).cps.toList=mx m:=PySem.W.KIN.signs_num m
def Y9(m:Nat):Bool:=(mx m).all (λc=>decide (48<=c)&&decide (c<=57))&&!(mx m).isEmpty&&decide ((mx m).length<=2)&&(decide (m=0)||(!((mx m)[0]?==some 48)))
theorem Va:∀m,m<25->Y9 m=true:=by decide +kernel
theorem dg0:mx 0=[48]:=by decide +kernel
structure Dg(m:Nat):Prop where
 xK:∀c∈mx m,48<=c/\c<=57
 ne:mx m≠[]
 len:(mx m).length<=2
 hd:m=0\/(mx m)[0]?≠some 48
theorem CV(h:m<25):Dg m:=by
 have k:=Va m h
 unfold Y9 at k
 simp at k
 exact⟨k.1.1.1,k.1.1.2,k.1.2,k.2⟩
theorem acK:(("0123456789":Str)).cps.toList=[48,49,50,51,52,53,54,55,56,57]:=by decide +kernel
theorem RA:(("":Str)).cps.toList=[]:=by decide +kernel
theorem RB:(("0":Str)).cps.toList=[48]:=by decide +kernel
theorem Vb(h1:48<=c)(h2:c<=57):ya true (.str ⟨#[c]⟩) (.str "0123456789")=some (.bool true):=by
 show some (PyData.bool ((!(Builtin.Str.occurrences ("0123456789":Str) ⟨#[c]⟩ 0 ("0123456789":Str).length 1).isEmpty)==true))=_
 rw[PySem.StrLaws.found_one,acK,aas (by simp;lia)]
 rfl
theorem Vc(h:m<25):∀c∈(nS (m:Nat)).cps.toList,c<128:=λc hc=>by
 rw[iI]at hc
 have:=(CV h).xK c hc
 lia
theorem CW(h:m<25):iS [.str (nS (m:Nat))]=some (.bool true):=by
 rw[CL]
 refine bu ?_
 have g:=CV h
 obtain⟨k1,k2⟩:=sOk (Vc h)
 have o1:PyData.strOk ""=true:=by decide +kernel
 have o2:PyData.strOk "0"=true:=by decide +kernel
 have c1:gB (g2 gT (ae 0) (bR "")) [some (.str (nS (m:Nat)))]=some false:=by
  refine bW (aj rfl rfl ((Ft k1 o1).trans ?_));rw[Fu (by rw[iI,RA];exact g.ne)]
 have es:lA (ae 0) [some (.str (nS (m:Nat)))]=some ((mx m).map λc=>PyData.str ⟨#[c]⟩):=by
  show(if(nS (m:Nat)).cps.all (·<128)=true then some (mV (nS (m:Nat)))else none)=_;rw[aaq k2,mV,iI]
 have ec:cN (lA (ae 0)) [] (g2 (ya true) (ae 0) (bR "0123456789")) [some (.str (nS (m:Nat)))]=some (((mx m).map λ_=>true).map .bool):=by
  refine fJ (λc:Nat=>PyData.str ⟨#[c]⟩) PyData.bool (λ_=>true) (mx m) es (by have:=g.len;lia) λc hc=>?_;exact aj rfl rfl (Vb (g.xK c hc).1 (g.xK c hc).2)
 have ca:gX (dS Cm (aa (bb (cN (lA (ae 0)) [] (g2 (ya true) (ae 0) (bR "0123456789")))) ag)) [some (.str (nS (m:Nat)))]=some true:=by
  refine ee (iq (cons_of (br ec) rfl) ?_);show(jM (((mx m).map λ_=>true).map .bool)).map _=_;rw[lz];simp
 refine fU (CJ c1 (eI ca)) ?_
 refine ret (.bool true) ?_ (.mk rfl rfl)
 have e1:g2 gT (ae 0) (bR "0") [some (.str (nS (m:Nat)))]=some (.bool (nS (m:Nat)=="0")):=aj rfl rfl (Ft k1 o2)
 unfold TC
 rw[bW e1,aac]
 by_cases hz:nS (m:Nat)="0"
 .grind
 .rw [ac7.mpr hz,aaO (by decide)];have hm:m≠0:=λz=>hz (by
   subst z;refine aed (ad9.mp ?_);rw[iI,dg0,RB]);obtain⟨a,r,er⟩:∃a r,mx m=a::r:=by
   cases hd:mx m with
   |nil=>exact(g.ne hd).elim
   |cons a r=>exact⟨a,r,rfl⟩
  have ha:a≠48:=λz=>by
   rcases g.hd with h0|h0;.grind
   .grind
  have hlen:(nS (m:Nat)).length<=2:=by
   have e:(nS (m:Nat)).cps.toList.length=(nS (m:Nat)).length:=aaP;rw[<-e,iI];exact g.len
  have ix:bw (.str (nS (m:Nat))) (.int 0)=some (.str ⟨#[a]⟩):=by
   show(if(nS (m:Nat)).length<=100000 then(yN (nS (m:Nat)).cps.toList 0).map (λc=>PyData.str ⟨#[c]⟩)else none)=_;rw[aaq (by lia),iI,er,show(0:Int)=((0:Nat):Int)from rfl,lg (v:=a) rfl];rfl
  have oa:PyData.strOk ⟨#[a]⟩=true:=(sOk (x:=⟨#[a]⟩) (λc hc=>by
   have:c=a:=by simpa using hc
   subst this;have:=g.xK c (by rw[er];exact aan);lia)).1;refine aj (aj rfl rfl ix) rfl ?_;refine(E7 (Ft oa o2)).trans ?_;rw[Fu (by rw[RB];simpa using ha)];rfl
theorem yf(h:m<25):f9 [.str (nS (m:Nat))]=some (.int (m:Nat)):=by
 refine bu ?_
 have hlen:(nS (m:Nat)).length<=2:=by
  have e:(nS (m:Nat)).cps.toList.length=(nS (m:Nat)).length:=aaP;rw[<-e,iI];exact(CV h).len
 have c1:iy (gX (aP iS 1 (aa (ae 0) ag))) [some (.str (nS (m:Nat)))]=some false:=eI (x:=true) (ee (call_of (cons_of rfl rfl) rfl (CW h)))
 have e2:dS dU (aa (ae 0) ag) [some (.str (nS (m:Nat)))]=some (.int ((nS (m:Nat)).length:Nat)):=by
  show(if(nS (m:Nat)).length<=100000 then some (PyData.int ((nS (m:Nat)).length:Nat))else none)=_;rw[aaq (by lia)]
 have c2:gB (g2 xG (dS dU (aa (ae 0) ag)) (ax 2)) [some (.str (nS (m:Nat)))]=some false:=by
  refine bW (aj e2 rfl ?_);show some (PyData.bool (decide ((2:Int)<((nS (m:Nat)).length:Nat))))=_;rw[aa3 (by lia)]
 refine fU (CJ c1 c2) ?_
 refine ret (.int (m:Nat)) (iq (cons_of rfl rfl) ?_) (.mk rfl rfl)
 show(if(nS (m:Nat)).length<=640 then(PySem.intText? (nS (m:Nat))).map PyData.int else none)=_
 rw[aaq (by lia),nS,PySem.W.KIN.num_reads (by lia) (by lia)]
 rfl
theorem AN:(" ":Str)=⟨#[32]⟩:=by decide +kernel
theorem RC:("|":Str)=⟨#[124]⟩:=by decide +kernel
structure Ent(r:List Int):Prop where
 ne:r≠[]
 len:r.length<=25
 xK:∀b∈r,0<=b/\b<=24
def rS(r:List Int):Str:=Txt.join ⟨#[32]⟩ (r.map nS)
def pS(p:cA):Str:=Txt.join ⟨#[124]⟩ (p.map rS)
theorem AO(h:0<=b/\b<=24):∃m:Nat,b=(m:Int)/\m<25:=⟨b.toNat,by lia,by lia⟩
theorem ME(h:0<=b/\b<=24):(nS b).length<=2:=by
 obtain⟨m,rfl,hm⟩:=AO h
 have e:(nS (m:Nat)).cps.toList.length=(nS (m:Nat)).length:=aaP
 rw[<-e,iI];exact(CV hm).len
theorem RD(h:0<=b/\b<=24)(hc:c<48\/57<c):c∉(nS b).cps.toList:=by
 obtain⟨m,rfl,hm⟩:=AO h
 rw[iI]
 intro hx
 have:=(CV hm).xK c hx
 lia
theorem Fv(h:Ent r):(rS r).length<=75:=by
 have k:=CG (sep:=⟨#[32]⟩) (B:=2) (ts:=r.map nS) λt ht=>by
  obtain⟨b,hb,rfl⟩:=aa9.mp ht;exact ME (h.xK b hb)
 rw[aaj]at k
 have:=h.len
 have e:(⟨#[32]⟩:Str).length=1:=rfl
 rw[e]at k
 unfold rS
 lia
theorem Za(h:Ent r):JoinOk ⟨#[32]⟩ (r.map nS)=true:=by
 unfold JoinOk
 rw[ad2 (B:=2) (λt ht=>by
  obtain⟨b,hb,rfl⟩:=aa9.mp ht;exact ME (h.xK b hb)) (by rw[aaj];have:=h.len;have e:(⟨#[32]⟩:Str).length=1:=rfl;rw[e];lia)]
 rfl
theorem Zb{p:cA}(hl:p.length<=24)(h:∀r∈p,Ent r):JoinOk ⟨#[124]⟩ (p.map rS)=true:=by
 unfold JoinOk
 rw[ad2 (B:=75) (λt ht=>by
  obtain⟨r,hr,rfl⟩:=aa9.mp ht;exact Fv (h r hr)) (by rw[aaj];have e:(⟨#[124]⟩:Str).length=1:=rfl;rw[e];lia)]
 rfl
theorem Fw(hl:p.length<=24)(h:∀r∈p,Ent r):(pS p).length<=2000:=by
 have k:=CG (sep:=⟨#[124]⟩) (B:=75) (ts:=p.map rS) λt ht=>by
  obtain⟨r,hr,rfl⟩:=aa9.mp ht;exact Fv (h r hr)
 rw[aaj]at k
 have e:(⟨#[124]⟩:Str).length=1:=rfl
 rw[e]at k
 unfold pS
 lia
theorem Zc(h:Ent r)(hc:c<48\/57<c)(h32:c≠32):c∉(rS r).cps.toList:=by
 refine mem_join (by simpa using h32) λt ht=>?_
 obtain⟨b,hb,rfl⟩:=aa9.mp ht
 exact RD (h.xK b hb) hc
theorem AQ(h1:go δ=eU sep)(h2:ge δ=some (.list (ns.map .str)))(h3:JoinOk sep ns=true):qM go ge δ=some (.str (Txt.join sep ns)):=by
 unfold qM
 rw[h1,aac,h2,aac]
 show(sk (ns.map PyData.str)).bind _=_
 rw[v8,aac,aaq h3]
theorem Vd(h:0<=b/\b<=24):kL [.int b]=some (.str (nS b)):=by
 show(if b.natAbs<1000000 then some (PyData.str (Str.ofString (toString b)))else none)=_
 rw[aaq (by lia)];rfl
theorem MF(h:Ent r)(e:g δ=some (dR r)):qM (bR " ") (bb (cN (aZ g) [] (dS kL (aa (ae 0) ag)))) δ=some (.str (rS r)):=by
 refine AQ (ns:=r.map nS) (show some (PyData.str (" ":Str))=_ by rw[AN]) (br ?_) (Za h)
 refine fJ PyData.int PyData.str nS r ?_ (by have:=h.len;lia) λb hb=>iq (cons_of rfl rfl) (Vd (h.xK b hb))
 unfold aZ;rw[e];rfl
theorem yg(hl:p.length<=24)(h:∀r∈p,Ent r):eR [bD p]=some (.str (pS p)):=by
 refine bu (ret (.str (pS p)) ?_ (.mk rfl rfl))
 refine AQ (ns:=p.map rS) (show some (PyData.str ("|":Str))=_ by rw[RC]) (br ?_) (Zb hl h)
 exact fJ dR PyData.str rS p rfl (by lia) λr hr=>MF (h r hr) rfl
theorem qX(hc:c<256)(h1:go δ=eU a)(h2:ge δ=some (.str ⟨#[c]⟩))(h3:a.length<=2000):i4 go ge δ=some ((Txt.split a ⟨#[c]⟩).map .str):=by
 have e1:(⟨#[c]⟩:Str).length=1:=rfl
 have hx:a.cps.toList.length=a.length:=aaP
 have hl:=wA c a.cps.toList
 have ok:lB a ⟨#[c]⟩=true:=by
  unfold lB;rw[e1,G6,sv,oA hc,aaj,aas (show a.length<=100000 by lia),aas (show(eB c a.cps.toList).length<=100000 by lia)];rfl
 unfold i4
 rw[h1,aac,h2,aac]
 show(if lB a ⟨#[c]⟩=true then some ((Txt.split a ⟨#[c]⟩).map PyData.str)else none)=_
 rw[aaq ok]
theorem AR(h:Ent r):g6 [.str (rS r)]=some (dR r):=by
 refine bu (ret (dR r) (iq (cons_of (br (l:=r.map PyData.int) ?_) rfl) rfl) (.mk rfl rfl))
 have es:i4 (ae 0) (bR " ") [some (.str (rS r))]=some ((r.map nS).map .str):=by
  refine(qX (c:=32) (by decide) rfl (show some (PyData.str (" ":Str))=_ by rw[AN]) (by have:=Fv h;lia)).trans ?_;rw[rS,wz (by decide) (by simpa using h.ne) λt ht=>?_];obtain⟨b,hb,rfl⟩:=aa9.mp ht;exact RD (h.xK b hb) (by lia)
 have ec:=fJ (λb:Int=>PyData.str (nS b)) PyData.int id r (gi:=aZ (bb (i4 (ae 0) (bR " ")))) (ix:=[]) (ge:=aP f9 1 (aa (ae 0) ag)) (δ:=[some (.str (rS r))]) (by unfold aZ;rw[br es,List.map_map];rfl) (by have:=h.len;lia) λb hb=>by
  obtain⟨m,rfl,hm⟩:=AO (h.xK b hb);exact call_of (cons_of rfl rfl) rfl (yf hm)
 rw[List.map_id]at ec
 exact ec
theorem CY(hp:Pl p)(hl:p.length<=24)(h:∀r∈p,Ent r):iT [.str (pS p)]=some (bD p):=by
 refine bu ?_
 have gK:p≠[]:=by obtain⟨q,rfl,_⟩:=hp.ex;simp
 have es:i4 (ae 0) (bR "|") [some (.str (pS p)),none]=some ((p.map rS).map .str):=by
  refine(qX (c:=124) (by decide) rfl (show some (PyData.str ("|":Str))=_ by rw[RC]) (Fw hl h)).trans ?_;rw[pS,wz (by decide) (by simpa using gK) λt ht=>?_];obtain⟨r,hr,rfl⟩:=aa9.mp ht;exact Zc (h r hr) (by lia) (by decide)
 have ec:=fJ (λr:List Int=>PyData.str (rS r)) dR id p (gi:=aZ (bb (i4 (ae 0) (bR "|")))) (ix:=[]) (ge:=aP g6 1 (aa (ae 0) ag)) (δ:=[some (.str (pS p)),none]) (by unfold aZ;rw[br es,List.map_map];rfl) (by lia) λr hr=>call_of (cons_of rfl rfl) rfl (AR (h r hr))
 rw[List.map_id]at ec
 refine bA [some (.str (pS p)),some (bD p)] (bh (iq (cons_of (br ec) rfl) rfl)) ?_
 have hi:=Js (Jt hl λr hr=>(h r hr).len)
 rw[MD hp hl]at hi
 refine fU (eI (x:=true) (ee (call_of (cons_of rfl rfl) rfl hi))) ?_
 exact ret (bD p) rfl (.mk rfl rfl)
theorem Hk:∀{q:cA} {r:List Int} {n:Nat},(∀x∈r,0<=x/\x<=(n:Int))->NG r q->∀s∈q,s≠[]/\∀x∈s,0<=x/\x<=((n+q.length:Nat):Int)
 |[],_,_,_,_,_,hs=>absurd hs ade
 |t::q,r,n,hr,hc,s,hs=>by
   have ht:∀x∈t,0<=x/\x<=((n+1:Nat):Int):=λx hx=>by
    rcases jn.mp (hc.1.2.2 x hx)with z|z;.grind
    .grind
   rcases aam.mp hs with rfl|hs;.exact ⟨hc.1.1,λx hx=>by have:=ht x hx;rw[aaR];lia⟩
   .obtain ⟨a,b⟩:=Hk ht hc.2 s hs;exact⟨a,λx hx=>by have:=b x hx;rw[aaR];lia⟩
theorem Ve(hp:Pl p)(hl:p.length<=24)(kZ:∀r∈p,r.length<=25):∀r∈p,Ent r:=λr hr=>by
 obtain⟨q,rfl,hq⟩:=hp.ex
 rw[aaR]at hl
 rcases aam.mp hr with rfl|hs
 .exact ⟨by simp,by simp,by simp⟩
 .obtain ⟨a,b⟩:=Hk (n:=0) (by simp) hq r hs;exact⟨a,kZ r hr,λx hx=>by have:=b x hx;lia⟩
theorem MG(h1:gi δ=some ds)(h2:ls t b ds δ=r):fS gi t b δ=r:=by unfold fS;rw[h1];exact h2
theorem Zd(h:∀x,0<=A x)(b:Int):0<=lv A r b:=by
 have h1:=h (b-1)
 have h2:=h b
 unfold lv
 split<;>split<;>lia
theorem zp(h:∀x,0<=A x):∀(k:Nat) (b:Int),0<=WW A p k b
 |0,b=>by rw[WW_0];exact h b
 |k+1,b=>by rw[j5];exact Zd (zp h k) b
theorem MH(x:Int):0<=A0 x:=by unfold A0;split<;>lia
theorem MI(h:∀x,0<=A x)(hr:∀x∈r,0<A x)(hb:b∈led r):0<lv A r b:=by
 unfold lv
 rcases jn.mp hb with z|z
 .grind
 .grind
theorem Hl:∀{q:cA} {r:List Int},NG r q->∀k x,x∈(r::q).getD (k+1) []->x∈led ((r::q).getD k [])
 |[],_,_,k,x,hx=>by simp at hx
 |s::q,r,hc,0,x,hx=>hc.1.2.2 x (by simpa using hx)
 |s::q,r,hc,k+1,x,hx=>by
   have:=Hl hc.2 k x (by simpa using hx);simpa using this
theorem Vf(h:Pl p)(k:Nat)(x:Int)(hx:x∈p.getD (k+1) []):x∈led (p.getD k []):=by
 obtain⟨q,rfl,hc⟩:=h.ex
 exact Hl hc k x hx
theorem Fy(h:Pl p):∀(k:Nat) (x:Int),x∈p.getD k []->0<WW A0 p k x
 |0,x,hx=>by
   obtain⟨q,rfl,hc⟩:=h.ex;rw[WW_0];have:x=0:=by simpa using hx
   subst this;decide
 |k+1,x,hx=>by
   rw[j5];exact MI (zp MH k) (Fy h k) (Vf h k x hx)
theorem Vg(h:Pl p)(k:Nat)(x:Int)(hx:x∈led (p.getD k [])):0<WW A0 p (k+1) x:=by
 rw[j5]
 exact MI (zp MH k) (Fy h k) hx
theorem Hm:∀(k:Nat),(∀j,j<k->p.getD j []=q.getD j [])->WW A p k=WW A q k
 |0,_=>by rw[WW_0,WW_0]
 |k+1,h=>by
   funext b;rw[j5,j5,h k (by lia),Hm k λj hj=>h j (by lia)]
theorem Dt.get(h:Dt kds F)(hp:F b g≠0):dn kds [.inl b,.inl g]=some (.int (F b g)):=by
 have:=h b g
 cases e:dn kds [.inl b,.inl g]with
 |none=>rw[e]at this;exact absurd (by injection this with z;exact z.symm) hp
 |some d=>rw[e]at this;rw[show d=.int (F b g)from this]
def j6(p:cA):WF:=(bY 0 p).foldl bX (gH (0,0))
theorem MJ(h:Pl p){k:Nat}(e:x+y=(k:Int)):j6 p x y=WW A0 p k x:=Mu h e
theorem Ju(h:Pl p){n:Nat}(hr:p[n]?=some (bs++cs))(e:x+y=(n:Int)):(lN n bs).foldl bX ((bY 0 (p.take n)).foldl bX (gH (0,0))) x y=WW A0 p n x:=by
 have hn:=(aal.mp hr).1
 have hl:(p.take n).length=n:=by rw[acf];lia
 have e1:(lN n bs).foldl bX ((bY 0 (p.take n)).foldl bX (gH (0,0)))=(bY 0 (p.take n++[bs])).foldl bX (gH (0,0)):=by
  rw[jD,acz,hl,aep]
 rw[e1]
 have nd:=(vh h).1
 have hnd:∀s∈p.take n++[bs],s.Nodup:=by
  intro s hs;rcases aaf.mp hs with z|z;.grind
  .rw [aaE.mp z];have:=nd _ (aa7 hr);exact(List.nodup_append.mp this).1
 refine((qW (p.take n++[bs]) 0 A0 (gH (0,0)) hnd ?_ ?_ x y).2 n (by push_cast;lia)).trans ?_
 .intro x y q;unfold gH A0;by_cases c:x=0;.grind
  .grind
 .intro x y q;unfold gH;lia
 .rw [Hm (q:=p) n λj hj=>?_];rw[aa2,aa2,List.getElem?_append_left (by lia),List.getElem?_take_of_lt hj]
theorem CZ(p:cA):jZ (p.map dR)=p.zipIdx.map λx=>.tuple [.int (x.2:Nat),dR x.1]:=by
 unfold jZ
 rw[List.zipIdx_map,adw]
 rfl
theorem wl1(l2:x<=y+1)(l1:y<=z+1)(h:z<=n+2*j):x<=n+2*(j+1):=by lia
theorem wl2(h:z<=1+50*i+2*j)(hi:i<L)(hL:L<=24)(hj:j<r)(hr:r<=25):z+1<100000:=by lia
theorem Fz(hp:Pl p)(hl:p.length<=24)(kZ:∀r∈p,r.length<=25):∃kds,iA [bD p]=some (.dict kds)/\Dt kds (j6 p):=by
 have main:gZ (iA [bD p]) λd=>∃kds,d=.dict kds/\Dt kds (j6 p):=by
  refine bA [some (bD p),some (.dict [(dC (0,0),.int 1)]),none,none,none,none,none] rfl ?_;refine oC (λx:List Int×Nat=>PyData.tuple [.int (x.2:Nat),dR x.1]) p.zipIdx (λi δ=>∃kds a b c d e,δ=[some (bD p),some (.dict kds),a,b,c,d,e]/\Dt kds ((bY 0 (p.take i)).foldl bX (gH (0,0)))/\kds.length<=1+50*i) ?_ ⟨_,_,_,_,_,_,rfl,?_,by simp⟩ ?_ ?_
  .show some (jZ (p.map dR))=_;rw[CZ]
  .refine ⟨rfl,λb g=>?_⟩;have:il [] [.inl 0,.inl 0] (.int 1)=[(dC (0,0),.int 1)]:=rfl;rw[<-this];exact(Dt.put (kds:=[]) (F:=λ_ _=>0) ⟨rfl,λb g=>rfl⟩ 0 0 1) b g
  .rintro i ⟨r,n⟩ δ hi ⟨kds,a,b,c,d,e,rfl,hd,hlen⟩;rw[acx]at hi;cases er:p[i]? with
   |none=>rw[er]at hi;cases hi
   |some r'=>
   rw[er]at hi;simp at hi;obtain⟨rfl,rfl⟩:=hi;have OP:=(aal.mp er).1;have Rx:=kZ r' (aa7 er);have ht:p.take (i+1)=p.take i++[r']:=by rw[acj,er];rfl
   have Fk:(p.take i).length=i:=by rw[acf];lia
   obtain⟨G,hG⟩:∃G,G=(bY 0 (p.take i)).foldl bX (gH (0,0)):=⟨_,rfl⟩;rw[<-hG]at hd;obtain⟨δ',e2,Jv,c2,d2,Wb,rfl,hd2,Q0⟩:=qU (t:=aO 4)
    (b:=(aM (bp 5 (vZ (ae 1) (bC (aa (ae 4) (aa (g2 ia (ae 2) (ae 4)) ag)))))
     (fS (aZ (bC (aa (bC (aa (g2 ao (ae 4) (ax 1)) (aa (g2 ia (ae 2) (ae 4)) ag))) (aa (bC (aa (ae 4) (aa (g2 ao (g2 ia (ae 2) (ae 4)) (ax 1)) ag))) ag)))) (aO 6)
      (oZ 1 (ae 6) (g2 ao (dA (ae 1) (ae 6) (ax 0)) (ae 5)))))) PyData.int
    (λj δ=>∃kds c d e,δ=[some (bD p),some (.dict kds),sI (i:Nat),some (dR r'),c,d,e]/\Dt kds ((lN i (r'.take j)).foldl bX G)/\kds.length<=1+50*i+2*j) r' (δ:=[some (bD p),some (.dict kds),sI (i:Nat),some (dR r'),c,d,e]) ⟨kds,c,d,e,rfl,hd,by lia⟩ (by
     rintro j x δ hj ⟨kds,c,d,e,rfl,hd,hlen⟩;have hjl:=(aal.mp hj).1;have hxr:=aa7 hj;obtain⟨F,hF⟩:∃F,F=(lN i (r'.take j)).foldl bX G:=⟨_,rfl⟩;rw[<-hF]at hd;obtain⟨k,hk⟩:∃k:Int×Int,k=(x,(i:Int)-x):=⟨_,rfl⟩;have CP:(lN i (r'.take (j+1))).foldl bX G=bX F k:=by
      rw[acj,hj];unfold lN at hF ⊢;rw[abb,acz,<-hF,hk];rfl
     have Ir:F k.1 k.2=WW A0 p i x:=by
      rw[hF,hG,hk];exact Ju hp (cs:=r'.drop j) (by rw[ad5];exact er) (by show x+((i:Int)-x)=_;lia)
     have L3:F k.1 k.2≠0:=by
      have:=Fy hp i x (by rw[aa2,er];exact hxr);lia
     obtain⟨k1,Cc⟩:∃k1,k1=il kds [.inl (k.1+1),.inl k.2] (.int (F (k.1+1) k.2+F k.1 k.2)):=⟨_,rfl⟩;have Bz:=hd.put (k.1+1) k.2 (F (k.1+1) k.2+F k.1 k.2);rw[<-Cc]at Bz;have hd2:=Bz.put k.1 (k.2+1) (F k.1 (k.2+1)+F k.1 k.2);have l1:k1.length<=kds.length+1:=by rw[Cc];exact jA _ _ _
     have hz:=wl2 hlen OP hl hjl Rx;have l2:=jA k1 [.inl k.1,.inl (k.2+1)] (.int (F k.1 (k.2+1)+F k.1 k.2));refine⟨_,[some (bD p),some (.dict (il k1 [.inl k.1,.inl (k.2+1)] (.int (F k.1 (k.2+1)+F k.1 k.2)))),sI (i:Nat),some (dR r'),sI x,sI (F k.1 k.2),some (dC (k.1,k.2+1))],rfl,?_,_,_,_,_,rfl,?_,wl1 l2 l1 hlen⟩
     .refine ff [some (bD p),some (.dict kds),sI (i:Nat),some (dR r'),sI x,sI (F k.1 k.2),e] (bh ((Hh (c:=k) rfl (by rw[hk];rfl)).trans (hd.get L3))) ?_;unfold fS;have hit:aZ (bC (aa (bC (aa (g2 ao (ae 4) (ax 1)) (aa (g2 ia (ae 2) (ae 4)) ag))) (aa (bC (aa (ae 4) (aa (g2 ao (g2 ia (ae 2) (ae 4)) (ax 1)) ag))) ag))) [some (bD p),some (.dict kds),sI (i:Nat),some (dR r'),sI x,sI (F k.1 k.2),e]=some [dC (k.1+1,k.2),dC (k.1,k.2+1)]:=by
       show some [dC (x+1,(i:Int)-x),dC (x,(i:Int)-x+1)]=_;rw[hk]
      rw[hit,aac];refine P4 [some (bD p),some (.dict kds),sI (i:Nat),some (dR r'),sI x,sI (F k.1 k.2),some (dC (k.1+1,k.2))] [some (bD p),some (.dict k1),sI (i:Nat),some (dR r'),sI x,sI (F k.1 k.2),some (dC (k.1+1,k.2))] [some (bD p),some (.dict k1),sI (i:Nat),some (dR r'),sI x,sI (F k.1 k.2),some (dC (k.1,k.2+1))] _ rfl ?_ rfl ?_;.refine (oH (c:=(k.1+1,k.2)) rfl rfl (aj ((fj (c:=(k.1+1,k.2)) rfl rfl rfl).trans (ab7 some (hd (k.1+1) k.2))) rfl rfl) (Nat.lt_of_succ_lt hz)).trans ?_;rw[Cc];rfl
      .have h5:(dn k1 [.inl k.1,.inl (k.2+1)]).getD (.int 0)=.int (F k.1 (k.2+1)):=by
        have:=Bz k.1 (k.2+1);rw[this];rw[aaO (by lia)]
       exact oH (c:=(k.1,k.2+1)) rfl rfl (aj ((fj (c:=(k.1,k.2+1)) rfl rfl rfl).trans (ab7 some h5)) rfl rfl) (abl l1 hz)
     .rw [CP];refine⟨hd2.fn,λx y=>?_⟩;rw[hd2 x y];congr 1;show(if x=k.1/\y=k.2+1 then _ else if x=k.1+1/\y=k.2 then _ else F x y)=F x y+_+_;by_cases c1:x=k.1/\y=k.2+1;.grind
      .rw [aaO c1,aaO c1];by_cases c2:x=k.1+1/\y=k.2;.grind
       .rw [aaO c2,aaO c2];lia);refine⟨_,[some (bD p),some (.dict Jv),sI (i:Nat),some (dR r'),c2,d2,Wb],rfl,?_,Jv,_,_,_,_,_,rfl,?_,by lia⟩;.exact MG rfl e2
   .rw [ht,jD,acz,Fk,aep,<-hG];rw[acN]at hd2;exact hd2
  .rintro δ' ⟨kds,a,b,c,d,e,rfl,hd,_⟩;rw[adM,acN]at hd;exact ret (.dict kds) rfl (.mk rfl ⟨kds,rfl,hd⟩)
 obtain⟨_,e,kds,rfl,hd⟩:=main
 exact⟨kds,e,hd⟩
theorem C0:∀{q:cA} {n:Nat},c∈bY n q->∃k,k<q.length/\c.1∈q.getD k []/\c.1+c.2=((n+k:Nat):Int)
 |[],n,h=>by simp[bY]at h
 |r::q,n,h=>by
   rw[bY,aaf]at h;rcases h with h|h;.obtain ⟨b,hb,rfl⟩:=aa9.mp h;exact⟨0,by simp,by simpa using hb,by show b+((n:Int)-b)=_;lia⟩
   .obtain ⟨k,h1,h2,h3⟩:=C0 h;exact⟨k+1,by simpa using h1,by simpa using h2,by rw[h3];lia⟩
theorem ML:∀(k:Nat) (b:Int),WW A0 p k b<=2^k
 |0,b=>by rw[WW_0];unfold A0;split<;>decide
 |k+1,b=>by
   have h1:=ML (p:=p) k (b-1);have h2:=ML (p:=p) k b;have h3:=zp (p:=p) MH k (b-1);rw[j5,Int.pow_succ];unfold lv;split<;>split<;>lia
structure Hn(p:cA)(c:Int×Int)(b g:Nat):Prop where
 eq:c=((b:Int),(g:Int))
 dr:b+g<=p.length
 d1:1<=b+g
 led:(b:Int)∈led (p.getD (b+g-1) [])
 ww:j6 p c.1 c.2=WW A0 p (b+g) b
 pos:0<j6 p c.1 c.2
 le:j6 p c.1 c.2<=2^(b+g)
theorem P8{k:Nat}(h:(0<=x/\x<=(k:Int))\/(0<=x-1/\x-1<=(k:Int)))(e:x+y=((1+k:Nat):Int)):∃b g:Nat,x=(b:Int)/\y=(g:Int)/\b+g=k+1/\x+y=((b+g:Nat):Int):=⟨x.toNat,y.toNat,by lia,by lia,by lia,by lia⟩
theorem MM(hp:Pl p)(h:c∈bY 1 (p.map led)):∃b g:Nat,Hn p c b g:=by
 obtain⟨k,h1,h2,h3⟩:=C0 h
 rw[aaj]at h1
 have e:(p.map led).getD k []=led (p.getD k []):=by grind
 rw[e]at h2
 have hr:=(vh hp).2 k
 obtain⟨b,g,Rn,hg',hn,hs⟩:=P8 ((jn.mp h2).imp (hr _) (hr _)) h3
 have hw:j6 p c.1 c.2=WW A0 p (b+g) b:=by rw[MJ hp (k:=b+g) hs,Rn]
 refine⟨b,g,Prod.ext Rn hg',hn ▸ h1,hn ▸ ae7 (ab8 k),?_,hw,?_,?_⟩
 .grind
 .rw [hw,hn,<-Rn];exact Vg hp k _ h2
 .rw [hw];exact ML _ _
theorem P9(hp:Pl p):jb p=(bY 1 (p.map led)).filter λc=> !nz p c:=by
 obtain⟨q,rfl,_⟩:=hp.ex
 unfold jb
 rw[List.filter_cons_of_neg]
 have:nz ([0]::q) (0,0)=true:=by unfold nz;simp
 rw[this];decide
theorem MN(hp:Pl p)(h:c∈jb p):∃b g:Nat,Hn p c b g:=by
 rw[P9 hp]at h
 exact MM hp (aef.mp h).1
theorem oK(h:g δ=some d):qC g δ=some (.nx δ):=by unfold qC;rw[h];rfl
theorem Vh(a b:Int)(hb:bt b<=4000):eJ [.int a,.int b]=some (.int (Int.gcd a b:Nat)):=by
 rw[pL]
 refine bu ?_
 refine bA [sI (a.natAbs:Nat),sI b,none,none] (by simp only[bp,dS,aa,ae,aa8,ab1,ag,aac,zM,aeD];rw[G8]) ?_
 refine bA [sI (a.natAbs:Nat),sI (b.natAbs:Nat),none,none] (by simp only[bp,dS,aa,ae,abn,aa8,ab1,ag,aac,zM,List.set_cons_succ,aeD];rw[G8]) ?_
 refine sA (λm δ=>∃(x:Nat) (r p:Option D),δ=[sI (x:Nat),sI (m:Nat),r,p]/\bt (m:Int)<=4000/\Nat.gcd x m=Int.gcd a b) (λδ=>∃(x:Nat) (r p:Option D),δ=[sI (x:Nat),sI 0,r,p]/\x=Int.gcd a b) b.natAbs ?_ ?_ ?_
 .exact ⟨_,none,none,rfl,Mf (by simp) hb,rfl⟩
 .rintro m δ ⟨x,r,p,rfl,hbm,hg⟩;by_cases hm:m=0
  .subst hm;exact .inl ⟨by simp;rfl,x,r,p,rfl,by simpa using hg⟩
  .have i9:x%m<m:=Nat.mod_lt _ (by lia);have e:((x:Int)%(m:Int))=((x%m:Nat):Int):=by lia
   have Rn:bt ((x%m:Nat):Int)<=4000:=Mf (by simp;lia) hbm;refine .inr ⟨by simp only[gB,g2,ae,abn,aa8,ab1,gC,aac,UN];simp;lia,[sI m,sI ((x%m:Nat):Int),sI ((x%m:Nat):Int),p],x%m,?_,i9,m,_,_,rfl,Rn,?_⟩
   .simp only[aM,bp,g2,ae,aa8,ab1,abn,aac,gU,gB,g1,gC,bF];rw[eO (by lia),e];simp only[aac,abn,aa8,ab1,aeD,List.set_cons_succ,KQ,Kx,aaS];have agn:Builtin.Int.intBits ((x%m:Nat):Int)<=4000:=Rn;rw[aaO (by lia)]
   .rw [<-hg,Nat.gcd_comm x m,Nat.gcd_rec m x,Nat.gcd_comm]
 .rintro δ' ⟨x,r,p,rfl,h2⟩;exact ret _ (by simp only[ae,aa8,ab1];rw[h2]) (.mk rfl rfl)
theorem Qa(t b:Int)(Yj:b≠0)(hb:bt b<=4000):AB [.int t,.int b]=some (dF (Jl t b)):=by
 rw[UQ]
 refine bu ?_
 have hg:=Vh t b hb
 have Rk:dv t b≠0:=Y0 Yj
 have hgb:bt (dv t b)<=9000:=by
  refine wB (Mf ?_ hb) (by decide);have:(Int.gcd t b) ∣ b.natAbs:=Nat.gcd_dvd_right _ _;have:=Nat.le_of_dvd (by lia) this;unfold dv;split<;>lia
 refine fU (by simp only[gB,g2,ae,abn,aa8,ab1,gC,aac,E6];rw[aa3 Yj]) ?_
 refine bA [sI t,sI b,sI (Int.gcd t b:Nat)] (by simp only[bp,aP,aa,ae,aa8,ab1,abn,ag,aac];rw[hg];rfl) ?_
 refine bA [sI t,sI b,sI (dv t b)] ?_ ?_
 .simp only[gU,gB,g2,ae,abn,aa8,ab1,gC,aac,Kx,aaS];unfold dv;split<;>rfl
 .refine ret (dF (Jl t b)) ?_ (.mk rfl rfl);simp only[bC,aa,g2,ae,aa8,ab1,abn,aac];rw[Mh Rk hgb,Mh Rk hgb];rfl
end aC
namespace aC
def A1:Int->Int:=λb=>if b=1 then 1 else 0
def FB(p:cA):Nat->Int->Int
 |0,_=>0
 |k+1,x=>WW A1 p.tail k x
def NJ(p:cA):WF:=(bY 0 p).foldl bX (gH (1,0))
theorem RE:NJ ([0]::q)=(bY 1 q).foldl bX (gH (1,0)):=by
 show(bY 1 q).foldl bX (bX (gH (1,0)) (0,((0:Nat):Int)-0))=_
 unfold bX
 have:gH (1,0) 0 (((0:Nat):Int)-0)=0:=by unfold gH;rw[if_neg (by rintro⟨z,_⟩;exact absurd z (by decide))]
 simp only[this]
 simp
theorem Qb(hn:∀s∈q,s.Nodup)(x y:Int):(x+y<((1:Nat):Int)->NJ ([0]::q) x y=gH (1,0) x y)/\∀k:Nat,x+y=((1:Nat):Int)+(k:Int)->NJ ([0]::q) x y=WW A1 q k x:=by
 rw[RE]
 refine qW q 1 A1 (gH (1,0)) hn ?_ ?_ x y
 .intro x y q;unfold gH A1;by_cases c:x=1;.grind
  .grind
 .intro x y q;unfold gH;lia
theorem A1_01(x:Int):0<=A1 x/\A1 x<=1:=by unfold A1;split<;>lia
theorem FA(h0:∀x,0<=A x)(h1:∀x,A x<=1):∀(k:Nat) (b:Int),WW A p k b<=2^k
 |0,b=>by rw[WW_0];exact h1 b
 |k+1,b=>by
   have h2:=FA h0 h1 (p:=p) k (b-1);have h3:=FA h0 h1 (p:=p) k b;have h4:=zp (p:=p) h0 k (b-1);rw[j5,Int.pow_succ];unfold lv;split<;>split<;>lia
theorem Ze(hp:Pl p)(he:Hn p c b g):0<=NJ p c.1 c.2/\NJ p c.1 c.2<=2^(b+g):=by
 have hn:=(vh hp).1
 obtain⟨q,rfl,_⟩:=hp.ex
 have h1:=he.d1
 have hc:=he.eq
 have e:=(Qb (q:=q) (λs hs=>hn s (aap _ hs)) c.1 c.2).2 (b+g-1) (by rw[hc];lia)
 rw[e]
 refine⟨zp (λx=>(A1_01 x).1) _ _,?_⟩
 have:=FA (λx=>(A1_01 x).1) (λx=>(A1_01 x).2) (p:=q) (b+g-1) c.1
 have:(2:Int)^(b+g-1)<=2^(b+g):=by exact_mod_cast aee (by decide) (by lia)
 lia
end aC
namespace aC
open PySem L2 Q1
theorem Vi(hl:p.length<=24)(he:Hn p c b g):bt (j6 p c.1 c.2)<=25:=by
 have h1:=he.pos
 have h2:=he.le
 have h3:=he.dr
 have:(2:Int)^(b+g)<=2^24:=by exact_mod_cast aee (by decide) (by lia)
 exact kS (by lia)
def shr(p:cA)(c:Int×Int):Fr2:=Jl (NJ p c.1 c.2) (j6 p c.1 c.2)
theorem C4(hl:p.length<=24)(kZ:∀r∈p,r.length<=25)(c:Int×Int):j4 [bD p,dC c]=some (.int (NJ p c.1 c.2)):=by
 obtain⟨kds,e,hd⟩:=uw hl kZ (1,0)
 exact bu (ret _ ((fj (c:=c) (call_of (cons_of rfl (cons_of rfl rfl)) rfl e) rfl rfl).trans (ab7 some (hd c.1 c.2))) (.mk rfl rfl))
theorem FC(hp:Pl p)(hl:p.length<=24)(kZ:∀r∈p,r.length<=25)(h:c∈jb p):jR [bD p,dC c]=some (dF (shr p c)):=by
 refine bu ?_
 refine bA _ (oK (call_of (cons_of rfl (cons_of rfl rfl)) rfl (AL hl kZ [c] λx hx=>by rw[aaE.mp hx];exact h))) ?_
 obtain⟨b,g,he⟩:=MN hp h
 have hw:=he.pos
 have w:=Jp hl kZ c
 have hb:bt (j6 p c.1 c.2)<=4000:=aaW (Vi hl he) (by decide)
 refine ret (dF (shr p c)) ?_ (.mk rfl rfl)
 exact call_of (cons_of (call_of (cons_of rfl (cons_of rfl rfl)) rfl (C4 hl kZ c)) (cons_of (call_of (cons_of rfl (cons_of rfl rfl)) rfl w) rfl)) rfl (Qa _ _ (by show j6 p c.1 c.2≠0;lia) hb)
theorem Qc(h:b.natAbs<1000000):kL [.int b]=some (.str (nS b)):=by
 show(if b.natAbs<1000000 then some (PyData.str (Str.ofString (toString b)))else none)=_
 rw[aaq h];rfl
theorem sT(hc:c<256)(h1:go δ=eU a)(h2:ge δ=some (.str ⟨#[c]⟩))(h3:gf δ=some (.int (m:Nat)))(hm:0<m)(TV:m<1000)(hl:a.length<=2500)(V7:c∈a.cps.toList):
  lD go ge gf δ=some (((cx c m a.cps.toList).map gV).map .str):=by
 have e1:(⟨#[c]⟩:Str).length=1:=rfl
 have hx:a.cps.toList.length=a.length:=aaP
 have h0:0<a.length:=by rw[<-hx];exact List.length_pos_of_mem V7
 have el:limitOf a (m:Nat)=m:=by
  rfl
 have hk:=pJ c m a.cps.toList
 have ec:kP a ⟨#[c]⟩ (m:Nat)=(cx c m a.cps.toList).map gV:=by
  unfold kP;rw[el,CH,e1,E4]
 have ne:(posK c m 0 a.cps.toList).isEmpty=false:=by
  cases q:posK c m 0 a.cps.toList with
  |nil=>exact absurd q (G7 V7 hm)
  |cons _ _=>rfl
 have ok:iR a ⟨#[c]⟩ (m:Nat)=true:=by
  unfold iR;rw[ec,el,CH,e1,ne,Ro hc,aaj,aa3 (show ¬a.length<1 by lia),aas (show(0:Int)<=(m:Nat)by lia),aas (show((m:Nat):Int)<1000 by lia),aas (show a.length<=100000 by lia),aas (show(cx c m a.cps.toList).length<=100000 by lia)];rfl
 unfold lD
 rw[h1,aac,h2,aac,h3,aac]
 show(if iR a ⟨#[c]⟩ (m:Nat)=true then some ((kP a ⟨#[c]⟩ (m:Nat)).map PyData.str)else none)=_
 rw[aaq ok,ec]
structure Nm(x:Str):Prop where
 len:1<=x.cps.toList.length/\x.cps.toList.length<=8
 xK:∀c∈x.cps.toList,97<=c/\c<=122
theorem Nm.no(h:Nm x):32∉x.cps.toList:=λz=>by have:=h.xK 32 z;lia
theorem Nm.lo(h:Nm x):∀c∈x.cps.toList,c<128:=λc z=>by have:=h.xK c z;lia
theorem app_list(x y:Str):(x++y).cps.toList=x.cps.toList++y.cps.toList:=by
 show(x.cps++y.cps).toList=_
 rw[ada]
theorem hJ(h1:x.length+y.length<=100000):ao (.str x) (.str y)=some (.str (x++y)):=by
 show(if x.length+y.length<=100000 then some (PyData.str (x++y))else none)=_
 rw[aaq h1]
theorem FD(h1:a δ=some true)(h2:b δ=some true):pq a b δ=some true:=by unfold pq;rw[h1];exact h2
theorem AS(h1:a δ=some false):pq a b δ=some false:=by unfold pq;rw[h1];rfl
theorem Vj:gV [112,108,97,110]=("plan":Str):=by decide +kernel
theorem Vk:gV [104,97,110,100]=("hand":Str):=by decide +kernel
theorem Vl:("plan ":Str).cps.toList=[112,108,97,110]++[32]:=by decide +kernel
theorem Vm:(" hand ":Str).cps.toList=32::([104,97,110,100]++[32]):=by decide +kernel
theorem Jw(h:∀c∈x.cps.toList,c<128):PyData.strOk x=true:=(sOk h).1
theorem Nm.ne(h:Nm x):(x==("":Str))=false:=Fu (by rw[RA];intro z;have:=h.len.1;rw[z]at this;exact absurd this (by decide))
def wN(n t:Str):Str:=("plan "++n)++" hand "++t
theorem sU(n t:Str):(wN n t).cps.toList=[112,108,97,110]++32::(n.cps.toList++32::([104,97,110,100]++32::t.cps.toList)):=by
 unfold wN
 rw[app_list,app_list,app_list,Vl,Vm]
 simp
theorem C5(hn:Nm n)(hl:t.length<=2000):dW [.str (wN n t)]=some (.tuple [.str "plan hand",.str n,.list [.str t]]):=by
 have hlen:(wN n t).length<=2500:=by
  have e:(wN n t).cps.toList.length=(wN n t).length:=aaP;have e2:t.cps.toList.length=t.length:=aaP;have:=hn.len.2;rw[<-e,sU];simp only[aaB,aaR,adj];lia
 have e:lD (ae 0) (bR " ") (ax 3) [some (.str (wN n t)),none,none]=some ([.str "plan",.str n,.str "hand",.str t]:List D):=by
  refine(sT (c:=32) (m:=3) (by decide) rfl (by rw[<-AN];rfl) rfl (by decide) (by decide) hlen (by rw[sU];simp)).trans ?_;rw[sU,gD (by decide),gD hn.no,gD (by decide),cx];show some [PyData.str (gV [112,108,97,110]),.str n,.str (gV [104,97,110,100]),.str t]=_;rw[Vj,Vk]
 refine bu ?_
 refine bA [some (.str (wN n t)),some (.list [.str "plan",.str n,.str "hand",.str t]),none] (bh (br e)) ?_
 refine fG true ?_ (λ_=>fH (.tuple [.str "plan hand",.str n,.list [.str t]]) rfl (.mk rfl rfl)) (λz=>nomatch z)
 refine FD rfl (FD ?_ (FD ?_ ?_))
 .exact bW (aj rfl rfl (iD (by decide +kernel) (by decide +kernel) (by decide +kernel)))
 .exact bW (aj rfl rfl (E7 (c:=false) (iD (Jw hn.lo) (by decide +kernel) hn.ne)))
 .exact bW (aj rfl rfl (iD (by decide +kernel) (by decide +kernel) (by decide +kernel)))
theorem oM:eQ [.bool true]=some .none:=rfl
theorem notin_2(hw:Nm w)(hn:Nm n):i3 (.str "") (.list [.str w,.str n])=some (.bool true):=by
 have e1:=hw.ne
 have e2:=hn.ne
 unfold i3 JH
 simp[kJ]
 exact⟨e1,e2⟩
theorem notin_3(hw:Nm w)(hn:Nm n)(hm:Nm m):i3 (.str "") (.list [.str w,.str n,.str m])=some (.bool true):=by
 have e1:=hw.ne
 have e2:=hn.ne
 have e3:=hm.ne
 unfold i3 JH
 simp[kJ]
 exact⟨e1,e2,e3⟩
theorem jo(x:Str):x.cps.toList.length=x.length:=aaP
theorem FE(hr:r.cps.toList=w.cps.toList++32::n.cps.toList)(hw:Nm w)(hn:Nm n)(hp:(w==("plan":Str))=false)(h:c8 [.str w,.str n,.list []]=some v):dW [.str r]=some v:=by
 have hlen:r.length<=2000:=by
  have h1:=hw.len.2;have h2:=hn.len.2;rw[<-jo,hr];simp only[aaB,aaR];lia
 have e:lD (ae 0) (bR " ") (ax 3) [eU r,none,none]=some ([.str w,.str n]:List D):=by
  refine(sT (c:=32) (m:=3) (by decide) rfl (by rw[<-AN];rfl) rfl (by decide) (by decide) (by lia) (by rw[hr];simp)).trans ?_;rw[hr,gD hw.no,ur hn.no];rfl
 have e2:i4 (ae 0) (bR " ") [eU r,sL ([.str w,.str n]),none]=some ([.str w,.str n]:List D):=by
  refine(qX (c:=32) (by decide) rfl (by rw[<-AN];rfl) hlen).trans ?_;rw[oA (by decide),hr,jP hw.no,j3 hn.no];rfl
 refine bu ?_
 refine bA [eU r,sL ([.str w,.str n]),none] (bh (br e)) ?_
 refine fU (AS rfl) ?_
 refine bA [eU r,sL ([.str w,.str n]),sL ([.str w,.str n])] (bh (br e2)) ?_
 refine bA _ (oK (call_of (cons_of (x:=.bool true) ?_ rfl) rfl oM)) ?_
 .unfold jI;rw[show gB (g2 i3 (bR "") (ae 2)) [eU r,sL ([.str w,.str n]),sL ([.str w,.str n])]=some true from bW (aj rfl rfl (notin_2 hw hn))];rfl
 refine fU (AS (bW (aj rfl rfl (iD (Jw hw.lo) (by decide +kernel) hp)))) ?_
 exact ret v (call_of (cons_of rfl (cons_of rfl (cons_of rfl rfl))) rfl h) (.mk rfl rfl)
theorem AU(hr:r.cps.toList=w.cps.toList++32::(n.cps.toList++32::m.cps.toList))(hw:Nm w)(hn:Nm n)(hm:Nm m)(hp:(w==("plan":Str))=false)(h:c8 [.str w,.str n,.list [.str m]]=some v):dW [.str r]=some v:=by
 have hlen:r.length<=2000:=by
  have h1:=hw.len.2;have h2:=hn.len.2;have h3:=hm.len.2;rw[<-jo,hr];simp only[aaB,aaR];lia
 have e:lD (ae 0) (bR " ") (ax 3) [eU r,none,none]=some ([.str w,.str n,.str m]:List D):=by
  refine(sT (c:=32) (m:=3) (by decide) rfl (by rw[<-AN];rfl) rfl (by decide) (by decide) (by lia) (by rw[hr];simp)).trans ?_;rw[hr,gD hw.no,gD hn.no,ur hm.no];rfl
 have e2:i4 (ae 0) (bR " ") [eU r,sL ([.str w,.str n,.str m]),none]=some ([.str w,.str n,.str m]:List D):=by
  refine(qX (c:=32) (by decide) rfl (by rw[<-AN];rfl) hlen).trans ?_;rw[oA (by decide),hr,jP hw.no,jP hn.no,j3 hm.no];rfl
 refine bu ?_
 refine bA [eU r,sL ([.str w,.str n,.str m]),none] (bh (br e)) ?_
 refine fU (AS rfl) ?_
 refine bA [eU r,sL ([.str w,.str n,.str m]),sL ([.str w,.str n,.str m])] (bh (br e2)) ?_
 refine bA _ (oK (call_of (cons_of (x:=.bool true) ?_ rfl) rfl oM)) ?_
 .unfold jI;rw[show gB (g2 i3 (bR "") (ae 2)) [eU r,sL ([.str w,.str n,.str m]),sL ([.str w,.str n,.str m])]=some true from bW (aj rfl rfl (notin_3 hw hn hm))];rfl
 refine fU (AS (bW (aj rfl rfl (iD (Jw hw.lo) (by decide +kernel) hp)))) ?_
 exact ret v (call_of (cons_of rfl (cons_of rfl (cons_of rfl rfl))) rfl h) (.mk rfl rfl)
section
variable {S:Type}{f g:GD S}{δ δ':DS}{s s':S}{d e:D}{r:Option (Res×S)}
theorem a4(h:f δ s=some (.nx δ',s'))(k:g δ' s'=r):cw f g δ s=r:=by unfold cw;rw[h];exact k
theorem hV(h:f δ s=some (.rt d,s')):cw f g δ s=some (.rt d,s'):=by unfold cw;rw[h];rfl
theorem nA(h:c δ s=some (true,s'))(k:f δ s'=r):mz c f g δ s=r:=by unfold mz;rw[h];exact k
theorem jc(h:c δ s=some (false,s'))(k:g δ s'=r):mz c f g δ s=r:=by unfold mz;rw[h];exact k
theorem dD(h:p δ=some x):ip p δ s=some (x,s):=by unfold ip;rw[h];rfl
theorem nD(h:p δ=some x):yd p δ s=some (x,s):=by unfold yd;rw[h];rfl
theorem iJ(h:p δ s=some (d,s')):pG p δ s=some (.rt d,s'):=by unfold pG;rw[h];rfl
theorem AV(h:p δ s=some (d,s')):IY i p δ s=some (.nx (δ.set i (some d)),s'):=by unfold IY;rw[h];rfl
theorem qY(h:p δ s=some (.bool b,s')):dB p δ s=some (b,s'):=by unfold dB;rw[h];rfl
theorem wO(h:p δ s=some (d,s'))(h2:p2 δ=some e)(h3:q d e=some x):d2 q p p2 δ s=some (x,s'):=by unfold d2;rw[h,Option.bind_some,h2,Option.bind_some,h3];rfl
theorem vj(h:p δ s=some (b,s')):mZ p δ s=some (!b,s'):=by unfold mZ;rw[h];rfl
theorem Zf{r:Option (Bool×S)}(h:p δ s=some (false,s'))(k:p2 δ s'=r):dOr p p2 δ s=r:=by unfold dOr;rw[h];exact k
theorem Jx(h:p δ s=some (d,s'))(h2:G [d]=some x):Aq G p δ s=some (x,s'):=by unfold Aq;rw[h,Option.bind_some];show(G [d]).bind _=_;rw[h2];rfl
theorem MO(h:p δ s=some (d,s'))(h2:p2 δ=some e):Cw p p2 δ s=some (.tuple [d,e],s'):=by unfold Cw;rw[h,Option.bind_some,h2];rfl
theorem dN{get:S->Dk}{set:S->Dk->S}(hj:δ[j]?=some (some (a9 a)))(hg:gr δ=some ds)(hn:ds.length+1=n)(h:G a (a9 a::ds) (get s)=some (d,k)):cP get set j a G n gr δ s=some (d,set s k):=by
 refine An hj ?_
 rw[hg,aac,aaq hn]
 unfold wj
 rw[h];rfl
end
theorem MP(hj:δ[j]?=some (some (a9 a)))(hk:gk δ=eU x)(h:fY (s.fld b) x=some d):ze b j a gk δ s=some (d,s):=by
 refine An hj ?_
 rw[hk]
 show(fY (s.fld b) x).bind _=_
 rw[h];rfl
theorem MQ(hj:δ[j]?=some (some (a9 a)))(hk:gk δ=eU x)(h:fY (s.fld b) x=some d):zf b j a gk δ s=some (false,s):=by
 refine An hj ?_
 rw[hk]
 show some (!(fY (s.fld b) x).isSome,s)=_
 rw[h];rfl
theorem FF(hj:δ[j]?=some (some (a9 a)))(hv:gv δ s=some (d,s'))(hk:gk δ=eU x)(hl:(s'.fld b).length<100000):wm b j a gk gv δ s=some (.nx δ,s'.put b (dJ (s'.fld b) x d)):=by
 refine An hj ?_
 rw[hv]
 rw[hk]
 show(if(s'.fld b).length<100000 then some (Res.nx δ,s'.put b (dJ (s'.fld b) x d))else none)=_
 rw[aaq hl]
theorem AW(h:fY s.pl x=some d):cF a [a9 a,.str x] s=some (d,s):=by
 show((cw (mz (zf true 0 a (ae 1)) (ip (λ_=>none)) d6) (pG (ze true 0 a (ae 1)))) [some (a9 a),eU x] s).bind outD=_
 rw[a4 (jc (MQ (b:=true) (s:=s) (d:=d) rfl rfl h) rfl) (iJ (MP (b:=true) (s:=s) rfl rfl h))];rfl
theorem nF(h:fY s.lo x=some d):cj a [a9 a,.str x] s=some (d,s):=by
 show((cw (mz (zf false 0 a (ae 1)) (ip (λ_=>none)) d6) (pG (ze false 0 a (ae 1)))) [some (a9 a),eU x] s).bind outD=_
 rw[a4 (jc (MQ (b:=false) (s:=s) (d:=d) rfl rfl h) rfl) (iJ (MP (b:=false) (s:=s) rfl rfl h))];rfl
theorem FG(hl:s.pl.length<100000):fM a [a9 a,.str x,d] s=some (.str "ok",⟨dJ s.pl x d,s.lo⟩):=by
 show((cw (wm true 0 a (ae 1) (yd (ae 2))) (ip (bo (bR "ok")))) [some (a9 a),eU x,some d] s).bind outD=_
 rw[a4 (FF (b:=true) (s':=s) rfl (nD rfl) rfl hl) (dD rfl)];rfl
theorem C6(h:fY s.pl y=some d)(hl:s.lo.length<100000):eY a [a9 a,.str x,.str y] s=some (.str "ok",⟨s.pl,dJ s.lo x (.tuple [d,.tuple [.int 0,.int 0]])⟩):=by
 show((cw (wm false 0 a (ae 1) (Cw (cP id (λ_ k=>k) 0 a cF 2 (aa (ae 2) ag)) (bC (aa (ax 0) (aa (ax 0) ag))))) (ip (bo (bR "ok")))) [some (a9 a),eU x,eU y] s).bind outD=_
 have m:cP id (λ_ k=>k) 0 a cF 2 (aa (ae 2) ag) [some (a9 a),eU x,eU y] s=some (d,s):=dN (set:=λ_ k=>k) (ds:=[.str y]) (k:=s) rfl rfl rfl (AW h)
 rw[a4 (FF (b:=false) (s':=s) rfl (MO m rfl) rfl hl) (dD rfl)];rfl
theorem lets:("abcdefghijklmnopqrstuvwxyz":Str).cps.toList=(List.range 26).map (97+·):=by decide +kernel
theorem Vn(h:97<=c/\c<=122):ya true (.str ⟨#[c]⟩) (.str "abcdefghijklmnopqrstuvwxyz")=some (.bool true):=by
 show some (PyData.bool ((!(Builtin.Str.occurrences ("abcdefghijklmnopqrstuvwxyz":Str) ⟨#[c]⟩ 0 ("abcdefghijklmnopqrstuvwxyz":Str).length 1).isEmpty)==true))=_
 rw[PySem.StrLaws.found_one,lets,aas (aa9.mpr ⟨c-97,acw.mpr (by lia),by lia⟩)]
 rfl
theorem AX(h:Nm x):g7 [.str x]=some .none:=by
 rw[AF]
 have hx:x.cps.toList.length=x.length:=aaP
 have l1:=h.len
 obtain⟨k1,k2⟩:=sOk h.lo
 have c1:gB (iZ Oq Oq (ax 1) (dS dU (aa (ae 0) ag)) (ax 8)) [eU x]=some true:=by
  have el:dS dU (aa (ae 0) ag) [eU x]=some (.int (x.length:Nat)):=iq (ds:=[.str x]) rfl (by unfold dU;first|rfl|(rw[if_pos (by lia)])|simp;lia);refine bW (AJ (u:=true) (v:=true) (x:=.int 1) (y:=.int (x.length:Nat)) (w:=.int 8) rfl el ?_ rfl ?_)
  .show some (PyData.bool (decide ((1:Int)<=(x.length:Nat))))=_;rw[aas (by lia)]
  .show some (PyData.bool (decide (((x.length:Nat):Int)<=8)))=_;rw[aas (by lia)]
 have es:lA (ae 0) [eU x]=some (x.cps.toList.map λc=>PyData.str ⟨#[c]⟩):=by
  show(if x.cps.all (·<128)=true then some (mV x)else none)=_;rw[aaq k2,mV]
 have ec:cN (lA (ae 0)) [] (g2 (ya true) (ae 0) (bR "abcdefghijklmnopqrstuvwxyz")) [eU x]=some ((x.cps.toList.map λ_=>true).map .bool):=
  fJ (λc:Nat=>PyData.str ⟨#[c]⟩) PyData.bool (λ_=>true) x.cps.toList es (by lia) λc hc=>aj rfl rfl (Vn (h.xK c hc))
 have ca:gX (dS Cm (aa (bb (cN (lA (ae 0)) [] (g2 (ya true) (ae 0) (bR "abcdefghijklmnopqrstuvwxyz")))) ag)) [eU x]=some true:=by
  refine ee (iq (cons_of (br ec) rfl) ?_);show(jM ((x.cps.toList.map λ_=>true).map .bool)).map _=_;rw[lz];simp
 have e:jm [eU x]=some (.nx [eU x]):=zj (CJ (eI c1) (eI ca))
 rw[e];rfl
theorem Vo(n:Int):gT (.int n) (.int n)=some (.bool true):=by
 show some (PyData.bool (decide (n=n)))=_
 rw[aas rfl]
theorem Qd(h:g δ=some xs)(hl:xs.length<=100000):bC g δ=some (.tuple xs):=by
 unfold bC
 rw[h,aac,aaq hl]
theorem aav(h1:ga δ=some (.list xs))(h2:gb δ=some (.tuple ys)):CF ga gb δ=some (OQ xs ys):=by unfold CF;rw[h1,h2];rfl
theorem Vp(h0:ae 0 δ=eU w)(h:(Jm.find? λe=>decide (e.1=w)).map (·.2.2.2)=some ks):Ph Jm (ae 0) δ=some (.bool true)/\GZ Jm (ae 0) δ=some (.tuple (ks.map .str)):=by
 obtain⟨e,h1,h2⟩:=aca.mp h
 subst h2
 unfold Ph GZ
 rw[h0]
 show some (PyData.bool (Jm.find? λe=>decide (e.1=w)).isSome)=_/\(Jm.find? λe=>decide (e.1=w)).map _=_
 rw[h1]
 exact⟨rfl,rfl⟩
theorem Ho(hf:(Jm.find? λe=>decide (e.1=w)).map (·.2.2.2)=some ks)(hl:xs.length=ks.length)
  (hc:gA (CF (ae 2) (ae 3)) 2 [] (kI 2 (cE (aO 0) (cE (aO 1) jW))) (λ_=>some true) (aP fi 2 (aa (ae 0) (aa (ae 1) ag))) [eU w,eU n,sL xs,some (.tuple (ks.map .str))]=some us):
  c8 [.str w,.str n,.list xs]=some (.tuple [.str w,.str n,.list us]):=by
 obtain⟨f1,f2⟩:=Vp (δ:=[eU w,eU n,sL xs,none]) rfl hf
 refine bu ?_
 refine bA _ (oK (call_of (cons_of f1 rfl) rfl oM)) ?_
 refine bA [eU w,eU n,sL xs,some (.tuple (ks.map .str))] (bh f2) ?_
 refine bA _ (oK (call_of (cons_of (x:=.bool true) (aj (x:=.int (xs.length:Nat)) (y:=.int ((ks.map PyData.str).length:Nat)) rfl rfl ?_) rfl) rfl oM)) ?_
 .rw [hl,aaj];exact Vo _
 .exact ret _ (Qd (cons_of rfl (cons_of rfl (cons_of (br hc) rfl))) (by show 3<=100000;decide)) (.mk rfl rfl)
theorem MR(hf:(Jm.find? λe=>decide (e.1=w)).map (·.2.2.2)=some []):c8 [.str w,.str n,.list []]=some (.tuple [.str w,.str n,.list []]):=
 Ho hf rfl rfl
theorem C7(m:Str):fi [.str m,.str "name"]=eU m:=by
 refine bu ?_
 exact fG true (bW (aj rfl rfl (iD (by decide +kernel) (by decide +kernel) (by decide +kernel)))) (λ_=>fH _ rfl (.mk rfl rfl)) (λz=>nomatch z)
theorem C8(n m:Str):c8 [.str "lot",.str n,.list [.str m]]=some (.tuple [.str "lot",.str n,.list [.str m]]):=by
 refine Ho (ks:=["name"]) (by decide +kernel) rfl ?_
 show((aP fi 2 (aa (ae 0) (aa (ae 1) ag)) [eU m,eU "name"]).map some).bind _=_
 have e:aP fi 2 (aa (ae 0) (aa (ae 1) ag)) [eU m,eU "name"]=eU m:=call_of (cons_of rfl (cons_of rfl rfl)) rfl (C7 m)
 rw[e]
 rfl
theorem Jy(h:iT [.str t]=some d):oG [.str "plan hand",.list [.str t]]=some d:=by
 have no:∀x:Str,("plan hand"==x)=false->PyData.strOk x=true->gB (g2 gT (ae 0) (gC (.str x))) [eU "plan hand",sL ([.str t])]=some false:=λx e o=>bW (aj rfl rfl (iD (by decide +kernel) o e))
 refine bu ?_
 refine fU (no _ (by decide +kernel) (by decide +kernel)) ?_
 refine fU (no _ (by decide +kernel) (by decide +kernel)) ?_
 refine fU (no _ (by decide +kernel) (by decide +kernel)) ?_
 refine fU (no _ (by decide +kernel) (by decide +kernel)) ?_
 exact ret d (call_of (cons_of rfl rfl) rfl h) (.mk rfl rfl)
def dg4(m:Nat):Bool:=(mx m).all (λc=>decide (48<=c)&&decide (c<=57))&&decide ((mx m).length<=4)
theorem Qe:(List.range 4097).all dg4=true:=by decide +kernel
structure Sm(b:Int):Prop where
 lo:0<=b
 hi:b<=4096
theorem Sm.tx(h:Sm b):(∀c∈(nS b).cps.toList,48<=c/\c<=57)/\(nS b).length<=4:=by
 obtain⟨m,rfl⟩:∃m:Nat,b=(m:Int):=⟨b.toNat,by have:=h.lo;lia⟩
 have hm:=abv.mp Qe m (acw.mpr (by have:=h.hi;lia))
 unfold dg4 at hm
 rw[aax,aaS,abv]at hm
 rw[<-jo,iI]
 exact⟨λc hc=>by have:=hm.1 c hc;rw[aax,aaS,aaS]at this;exact this,hm.2⟩
theorem Sm.str(h:Sm b):kL [.int b]=some (.str (nS b)):=Qc (by have:=h.lo;have:=h.hi;lia)
theorem aen(s x y:Str):Txt.join s [x,y]=x++s++y:=rfl
theorem Qf(hx:x.length<=4)(hy:y.length<=4):JoinOk ⟨#[c]⟩ [x,y]=true:=by
 unfold JoinOk
 rw[ad2 (B:=4) (λt ht=>by
  rcases aam.mp ht with rfl|ht;.grind
  .rw [aaE.mp ht];exact hy) (by have e:(⟨#[c]⟩:Str).length=1:=rfl;rw[e];show 2*(4+1)<=_;decide)]
 rfl
theorem MS:(",":Str)=⟨#[44]⟩:=by decide +kernel
theorem RF:("/":Str)=⟨#[47]⟩:=by decide +kernel
theorem MT(hs:s=⟨#[c]⟩)(ha:Sm a)(hb:Sm b)(hg:g δ=some (.tuple [.int a,.int b])):qM (gC (.str s)) (bb (cN (aZ g) [] (dS kL (aa (ae 0) ag)))) δ=some (.str (nS a++s++nS b)):=by
 refine AQ (ns:=[nS a,nS b]) rfl ?_ (by rw[hs];exact Qf ha.tx.2 hb.tx.2)
 refine br ?_
 refine(fJ (λb:Int=>PyData.int b) PyData.str nS [a,b] (by unfold aZ;rw[hg];rfl) (by show 2<=100000;decide) λx hx=>?_).trans rfl
 have:Sm x:=by grind
 exact iq (cons_of rfl rfl) this.str
def cT(c:Int×Int):Str:=nS c.1++","++nS c.2
theorem v_count(h1:Sm c.1)(h2:Sm c.2):jk [dC c]=some (.str (cT c)):=by
 exact bu (ret _ (MT MS h1 h2 rfl) (.mk rfl rfl))
def Hq(f:Fr2):Str:=if f.2=1 then nS f.1 else nS f.1++"/"++nS f.2
theorem Vq(h1:Sm f.1)(h2:Sm f.2):gj [dF f]=some (.str (Hq f)):=by
 have e:gB (g2 gT (g2 bw (ae 0) (ax 1)) (ax 1)) [some (dF f)]=some (decide (f.2=1)):=rfl
 unfold Hq
 by_cases h:f.2=1
 .rw [aaq h];rw[aas h]at e;exact bu (fG true e (λ_=>fH _ (iq (cons_of rfl rfl) h1.str) (.mk rfl rfl)) λz=>nomatch z)
 .rw [aaO h];rw[aa3 h]at e;exact bu (fU e (ret _ (MT RF h1 h2 rfl) (.mk rfl rfl)))
theorem lO(l:List (Str×D))(x:Str)(d:D):fY (dJ l x d) x=some d:=by
 unfold fY dJ
 induction l with
 |nil=>simp
 |cons p l ih=>grind
theorem lP(hy:y≠x):fY (dJ l x d) y=fY l y:=by
 unfold fY dJ
 have hx:decide (x=y)=false:=aa3 λz=>hy z.symm
 induction l with
 |nil=>simp[hx]
 |cons p l ih=>
   by_cases h2:(l.any λp=>decide (p.1=x))=true;.grind
   .by_cases h:p.1=x
    .rw [aaq (by rw[adl,aas h,Bool.true_or]),aaw,List.find?_cons,List.find?_cons,aaq h,h,hx];have:l.map (λp=>if p.1=x then(p.1,d)else p)=l:=by
      refine(adA λq hq=>?_).trans (List.map_id' _);rw[aaO λz=>h2 (ae6.mpr ⟨q,hq,aas z⟩)]
     rw[this]
    .grind
theorem jq(l:List (Str×D))(x:Str)(d:D):(dJ l x d).length<=l.length+1:=by
 unfold dJ
 split<;>simp
def sS(a:Addr)(row oT name:Str)(yh:D):DS:=[some (a9 a),eU row,some (.tuple [.str oT,.str name,yh]),eU oT,eU name,some yh]
theorem wQ{r:Option (Res×Dk)}(hr:dW [.str row]=some (.tuple [.str oT,.str name,yh]))(hn:Nm name)(k:g (sS a row oT name yh) s=r):
  cw (ip (bp 2 (aP dW 1 (aa (ae 1) ag)))) (cw (ip (bp 3 (g2 bw (ae 2) (ax 0)))) (cw (ip (bp 4 (g2 bw (ae 2) (ax 1)))) (cw (ip (bp 5 (g2 bw (ae 2) (ax 2)))) (cw (ip (qC (aP g7 1 (aa (ae 4) ag)))) g)))) [some (a9 a),eU row,none,none,none,none] s=r:=by
 refine a4 (δ':=[some (a9 a),eU row,some (.tuple [.str oT,.str name,yh]),none,none,none]) (dD (bh (call_of (cons_of rfl rfl) rfl hr))) ?_
 refine a4 (δ':=[some (a9 a),eU row,some (.tuple [.str oT,.str name,yh]),eU oT,none,none]) (dD (bh (aj rfl rfl rfl))) ?_
 refine a4 (δ':=[some (a9 a),eU row,some (.tuple [.str oT,.str name,yh]),eU oT,eU name,none]) (dD (bh (aj rfl rfl rfl))) ?_
 refine a4 (δ':=sS a row oT name yh) (dD (bh (aj rfl rfl rfl))) ?_
 exact a4 (dD (oK (call_of (cons_of rfl rfl) rfl (AX hn)))) k
theorem FH{s:Dk}(h:Txt.startswith oT "plan "=b):yd (gX (Aj (ae 3) (bR "plan "))) (sS a row oT name yh) s=some (b,s):=
 nD (ee (show some (PyData.bool (Txt.startswith oT "plan "))=some (.bool b)by rw[h]))
theorem nG{s:Dk}(h:(oT==x)=b)(h1:PyData.strOk oT=true)(h2:PyData.strOk x=true):yd (gB (g2 gT (ae 3) (gC (.str x)))) (sS a row oT name yh) s=some (b,s):=
 nD (bW (aj rfl rfl (iD h1 h2 h)))
theorem cK{r:Option (Res×Dk)}(h:c δ s=some (false,s))(k:g δ s=r):cw (mz c f d6) g δ s=r:=
 a4 (jc h rfl) k
theorem lQ{f:GD Dk}(h:f δ s=some (.rt d,s')):(f δ s).bind outD=some (d,s'):=by rw[h];rfl
theorem AY(h:dM a ds s=some (.str t,s')):bg a ds s=some (.str t,s'):=Pr h rfl
theorem FJ(hn:Nm n)(hp:Pl p)(hl:p.length<=24)(h:∀r∈p,Ent r)(hs:s.pl.length<100000):
  bg a [a9 a,.str (wN n (pS p))] s=some (.str "ok",⟨dJ s.pl n (bD p),s.lo⟩):=by
 refine AY ?_
 refine lQ (wQ (C5 hn (Fw hl h)) hn ?_)
 refine hV (nA (FH (by decide +kernel)) (iJ ?_))
 exact dN (set:=λ_ k=>k) (ds:=[.str n,bD p]) rfl (cons_of rfl (cons_of (call_of (cons_of rfl (cons_of rfl rfl)) rfl (Jy (CY hp hl h))) rfl)) rfl (FG hs)
def Vr(n m:Str):Str:="lot "++n++" "++m
theorem Zg:("lot ":Str).cps.toList=("lot":Str).cps.toList++[32]:=by decide +kernel
theorem Zh:(" ":Str).cps.toList=[32]:=by decide +kernel
theorem wR(h:(decide (1<=x.cps.toList.length)&&decide (x.cps.toList.length<=8)&&x.cps.toList.all λc=>decide (97<=c)&&decide (c<=122))=true):Nm x:=by
 simp only[aax,aaS,abv]at h
 exact⟨h.1,h.2⟩
theorem Vs:Nm "lot":=wR (by decide +kernel)
theorem Zi:Nm "at":=wR (by decide +kernel)
theorem MU:Nm "bad":=wR (by decide +kernel)
theorem Hr:Nm "good":=wR (by decide +kernel)
theorem sX(hn:Nm n)(hm:Nm m)(h:fY s.pl m=some d)(hs:s.lo.length<100000):
  bg a [a9 a,.str (Vr n m)] s=some (.str "ok",⟨s.pl,dJ s.lo n (.tuple [d,.tuple [.int 0,.int 0]])⟩):=by
 refine AY ?_
 refine lQ (wQ (AU (w:="lot") ?_ Vs hn hm (by decide +kernel) (C8 n m)) hn ?_)
 .unfold Vr;rw[app_list,app_list,app_list,Zg,Zh];simp
 refine cK (FH (by decide +kernel)) ?_
 refine hV (nA (nG (by decide +kernel) (by decide +kernel) (by decide +kernel)) (iJ ?_))
 exact dN (set:=λ_ k=>k) (ds:=[.str n,.str m]) rfl (cons_of rfl (cons_of (aj rfl rfl rfl) rfl)) rfl (C6 h hs)
def wU(w n:Str):Str:=w++" "++n
theorem wV(hw:Nm w)(hn:Nm n)(hp:(w==("plan":Str))=false)(hf:(Jm.find? λe=>decide (e.1=w)).map (·.2.2.2)=some []):dW [.str (wU w n)]=some (.tuple [.str w,.str n,.list []]):=by
 refine FE (w:=w) ?_ hw hn hp (MR hf)
 unfold wU
 rw[app_list,app_list,Zh]
 simp
theorem MV(hn:Nm n)(h:fY s.lo n=some (.tuple [d,dC c]))(h1:Sm c.1)(h2:Sm c.2):
  bg a [a9 a,.str (wU "at" n)] s=some (.str (cT c),s):=by
 refine AY ?_
 refine lQ (wQ (wV Zi hn (by decide +kernel) (by decide +kernel)) hn ?_)
 refine cK (FH (by decide +kernel)) (cK (nG (by decide +kernel) (by decide +kernel) (by decide +kernel)) ?_)
 refine hV (nA (nG (by decide +kernel) (by decide +kernel) (by decide +kernel)) (iJ (Jx (d:=dC c) (wO (d:=.tuple [d,dC c]) ?_ rfl rfl) (v_count h1 h2))))
 exact dN (set:=λ_ k=>k) (ds:=[.str n]) rfl (cons_of rfl rfl) rfl (nF h)
structure Pk(p:cA):Prop where
 pl:Pl p
 le:p.length<=12
 kZ:∀r∈p,r.length<=25
theorem Pk.Wq(h:Pk p):p.length<=24:=by have:=h.le;lia
theorem Pk.ent(h:Pk p):∀r∈p,Ent r:=Ve h.pl h.Wq h.kZ
def wd(b:Bool):Str:=if b=true then "bad" else "good"
def sg(b:Bool):Str:=if b=true then "b" else "g"
noncomputable def j7(b:Bool)(c:Int×Int):Int×Int:=if b=true then(c.1+1,c.2)else(c.1,c.2+1)
theorem Zj(b:Bool)(c:Int×Int):fK [dC c,.str (sg b)]=some (dC (j7 b c)):=by
 cases b
 .exact zm c
 .exact zl c
def wW(p:cA)(c:Int×Int):Prop:=c∈(0,0)::bY 1 (p.map led)
theorem AZ:∀{q:cA} {n k:Nat} {x y:Int},x∈q.getD k []->x+y=((n+k:Nat):Int)->(x,y)∈bY n q
 |[],_,_,_,_,h,_=>by simp at h
 |r::q,n,0,x,y,h,e=>by
   refine aar _ (aa9.mpr ⟨x,h,?_⟩);rw[show((n:Nat):Int)-x=y by lia]
 |r::q,n,k+1,x,y,h,e=>by
   exact aad _ (AZ (n:=n+1) (k:=k) h (by lia))
theorem Zk(h:nz p c=true):∃k:Nat,k<p.length/\c.1+c.2=(k:Int)/\c.1∈p.getD k []:=by
 unfold nz at h
 simp only[aax,aaS]at h
 exact⟨(c.1+c.2).toNat,by lia,by lia,h.2⟩
theorem wX(b:Bool)(h:nz p c=true):wW p (j7 b c):=by
 obtain⟨k,hk,e,hm⟩:=Zk h
 have hr:(p.map led).getD k []=led (p.getD k []):=by grind
 refine aap _ ?_
 cases b with
 |true=>exact AZ (n:=1) (k:=k) (x:=c.1+1) (y:=c.2) (by rw[hr];exact jn.mpr (.inr (by rw[show c.1+1-1=c.1 by lia];exact hm))) (by push_cast;lia)
 |false=>exact AZ (n:=1) (k:=k) (x:=c.1) (y:=c.2+1) (by rw[hr];exact jn.mpr (.inl hm)) (by push_cast;lia)
theorem C9(h:wW p c)(hg:nz p c=false):c∈jb p:=aef.mpr ⟨h,by rw[hg];rfl⟩
theorem Hs(hp:Pk p)(h:wW p c):Sm c.1/\Sm c.2:=by
 rcases aam.mp h with rfl|h
 .exact ⟨⟨by decide,by decide⟩,⟨by decide,by decide⟩⟩
 .obtain ⟨b,g,he⟩:=MM hp.pl h;have h1:=he.eq;have h2:=he.dr;have h3:=hp.le;rw[h1];exact⟨⟨by show(0:Int)<=(b:Int);lia,by show((b:Nat):Int)<=4096;lia⟩,⟨by show(0:Int)<=(g:Int);lia,by show((g:Nat):Int)<=4096;lia⟩⟩
theorem FK(h0:0<=t)(h1:t<=4096)(h2:0<b)(h3:b<=4096):(Jl t b).1=t/(Int.gcd t b:Nat)/\(Jl t b).2=b/(Int.gcd t b:Nat)/\Sm (Jl t b).1/\Sm (Jl t b).2:=by
 have hd:dv t b=((Int.gcd t b:Nat):Int):=by unfold dv;rw[if_neg (by lia)]
 have hg:0<=((Int.gcd t b:Nat):Int):=Int.natCast_nonneg _
 have e1:(Jl t b).1=t/(Int.gcd t b:Nat):=by show t.fdiv (dv t b)=_;rw[hd,Int.fdiv_eq_ediv_of_nonneg _ hg]
 have e2:(Jl t b).2=b/(Int.gcd t b:Nat):=by show b.fdiv (dv t b)=_;rw[hd,Int.fdiv_eq_ediv_of_nonneg _ hg]
 refine⟨e1,e2,?_,?_⟩
 .rw [e1];exact⟨Int.ediv_nonneg h0 hg,Int.le_trans (Int.ediv_le_self _ h0) h1⟩
 .rw [e2];exact⟨Int.ediv_nonneg (ad1 h2) hg,Int.le_trans (Int.ediv_le_self _ (ad1 h2)) h3⟩
structure acL(p:cA)(c:Int×Int):Prop where
 f0:0<=NJ p c.1 c.2
 f1:NJ p c.1 c.2<=4096
 w0:0<j6 p c.1 c.2
 w1:j6 p c.1 c.2<=4096
theorem MW(hp:Pk p)(h:c∈jb p):acL p c:=by
 obtain⟨b,g,he⟩:=MN hp.pl h
 obtain⟨h1,h2⟩:=Ze hp.pl he
 have h3:=he.pos
 have h4:=he.le
 have h5:=he.dr
 have h6:=hp.le
 have h7:(2:Int)^(b+g)<=2^12:=by exact_mod_cast aee (by decide) (by lia)
 exact⟨h1,by lia,by lia,by lia⟩
def Wr(p:cA)(c:Int×Int):Str:=if nz p c=true then "on" else "end "++Hq (shr p c)
theorem Ht(h1:Sm f.1)(h2:Sm f.2):(Hq f).length<=9/\∀c∈(Hq f).cps.toList,c<128:=by
 have t1:=h1.tx
 have t2:=h2.tx
 unfold Hq
 split
 .grind
 .rw [<-jo,app_list,app_list,RF];refine⟨?_,λc hc=>?_⟩
  .have e1:=jo (nS f.1);have e2:=jo (nS f.2);rw[aaB,aaB];show _+1+_<=9;lia
  .grind
theorem Qg(h:g δ=some d):bo g δ=some (.rt d):=by unfold bo;rw[h];rfl
def sE(a:Addr)(n:Str)(b:Bool)(x y z:Option D):DS:=[some (a9 a),eU n,some (.str (sg b)),x,y,z]
theorem Vt(b:Bool)(hp:Pk p)(h:fY s.lo n=some (.tuple [bD p,dC c]))(hg:nz p c=true)(hs:s.lo.length<100000):
  fL a [a9 a,.str n,.str (sg b)] s=some (.str (Wr p (j7 b c)),⟨s.pl,dJ s.lo n (.tuple [bD p,dC (j7 b c)])⟩):=by
 refine lQ ?_
 have k0:cP id (λ_ k=>k) 0 a cj 2 (aa (ae 1) ag) (sE a n b none none none) s=some (.tuple [bD p,dC c],s):=dN (set:=λ_ k=>k) (ds:=[.str n]) rfl (cons_of rfl rfl) rfl (nF h)
 refine a4 (δ':=(sE a n b (some (.tuple [bD p,dC c])) none none)) (AV k0) ?_
 refine a4 (δ':=(sE a n b (some (.tuple [bD p,dC c])) (some (bD p)) none)) (dD (bh (aj rfl rfl rfl))) ?_
 have k1:aP eP 2 (aa (ae 4) (aa (g2 bw (ae 3) (ax 1)) ag)) (sE a n b (some (.tuple [bD p,dC c])) (some (bD p)) none)=some (.bool (nz p c)):=call_of (cons_of rfl (cons_of (aj rfl rfl rfl) rfl)) rfl (oJ p c)
 rw[hg]at k1
 refine a4 (dD (zj (eI (ee k1)))) ?_
 have k2:aP fK 2 (aa (g2 bw (ae 3) (ax 1)) (aa (ae 2) ag)) (sE a n b (some (.tuple [bD p,dC c])) (some (bD p)) none)=some (dC (j7 b c)):=call_of (cons_of (aj rfl rfl rfl) (cons_of rfl rfl)) rfl (Zj b c)
 refine a4 (δ':=(sE a n b (some (.tuple [bD p,dC c])) (some (bD p)) (some (dC (j7 b c))))) (dD (bh k2)) ?_
 refine a4 (FF (b:=false) (s':=s) (x:=n) (d:=.tuple [bD p,dC (j7 b c)]) rfl (nD rfl) rfl hs) ?_
 have k3:aP eP 2 (aa (ae 4) (aa (ae 5) ag)) (sE a n b (some (.tuple [bD p,dC c])) (some (bD p)) (some (dC (j7 b c))))=some (.bool (nz p (j7 b c))):=call_of (cons_of rfl (cons_of rfl rfl)) rfl (oJ p _)
 unfold Wr
 by_cases hq:nz p (j7 b c)=true
 .rw [aaq hq];rw[hq]at k3;exact hV (dD (ny true (ee k3) (λ_=>rfl) λz=>nomatch z))
 .rw [aaO hq];have hq:nz p (j7 b c)=false:=by cases z:nz p (j7 b c)with|true=>exact absurd z hq|false=>rfl
  rw[hq]at k3;refine a4 (dD (zj (ee k3))) ?_;have he:=C9 (wX b hg) hq;have hw:=MW hp he;obtain⟨_,_,m1,m2⟩:=FK hw.f0 hw.f1 hw.w0 hw.w1;have k4:aP jR 2 (aa (ae 4) (aa (ae 5) ag)) (sE a n b (some (.tuple [bD p,dC c])) (some (bD p)) (some (dC (j7 b c))))=some (dF (shr p (j7 b c))):=call_of (cons_of rfl (cons_of rfl rfl)) rfl (FC hp.pl hp.Wq hp.kZ he);refine dD (Qg (aj rfl (call_of (cons_of k4 rfl) rfl (Vq m1 m2)) (hJ ?_)));have e:(Hq (shr p (j7 b c))).length<=9:=(Ht m1 m2).1;show 4+(Hq (shr p (j7 b c))).length<=100000;lia
theorem Qh(b:Bool)(h:fY s.lo n=some (.tuple [bD p,dC c]))(hg:nz p c=false):
  fL a [a9 a,.str n,.str (sg b)] s=some (Ii "NoDraw",s):=by
 refine lQ ?_
 have k0:cP id (λ_ k=>k) 0 a cj 2 (aa (ae 1) ag) (sE a n b none none none) s=some (.tuple [bD p,dC c],s):=dN (set:=λ_ k=>k) (ds:=[.str n]) rfl (cons_of rfl rfl) rfl (nF h)
 refine a4 (δ':=(sE a n b (some (.tuple [bD p,dC c])) none none)) (AV k0) ?_
 refine a4 (δ':=(sE a n b (some (.tuple [bD p,dC c])) (some (bD p)) none)) (dD (bh (aj rfl rfl rfl))) ?_
 have k1:aP eP 2 (aa (ae 4) (aa (g2 bw (ae 3) (ax 1)) ag)) (sE a n b (some (.tuple [bD p,dC c])) (some (bD p)) none)=some (.bool (nz p c)):=call_of (cons_of rfl (cons_of (aj rfl rfl rfl) rfl)) rfl (oJ p c)
 rw[hg]at k1
 exact hV (dD (ny true (eI (ee k1)) (λ_=>rfl) λz=>nomatch z))
theorem Zl(b:Bool):Nm (wd b):=by cases b;exact Hr;exact MU
theorem Hu(b:Bool)(hn:Nm n):dW [.str (wU (wd b) n)]=some (.tuple [.str (wd b),.str n,.list []]):=by
 cases b
 .exact wV Hr hn (by decide +kernel) (by decide +kernel)
 .exact wV MU hn (by decide +kernel) (by decide +kernel)
theorem FL(b:Bool)(hn:Nm n)(hp:Pk p)(h:fY s.lo n=some (.tuple [bD p,dC c]))(hg:nz p c=true)(hs:s.lo.length<100000):
  bg a [a9 a,.str (wU (wd b) n)] s=some (.str (Wr p (j7 b c)),⟨s.pl,dJ s.lo n (.tuple [bD p,dC (j7 b c)])⟩):=by
 refine AY ?_
 refine lQ (wQ (Hu b hn) hn ?_)
 have m:=Vt (a:=a) b hp h hg hs
 cases b
 .refine cK (FH (by decide +kernel)) (cK (nG (by decide +kernel) (by decide +kernel) (by decide +kernel)) (cK (nG (by decide +kernel) (by decide +kernel) (by decide +kernel)) (cK (nG (by decide +kernel) (by decide +kernel) (by decide +kernel)) ?_)));refine hV (nA (nG (by decide +kernel) (by decide +kernel) (by decide +kernel)) (iJ ?_));exact dN (set:=λ_ k=>k) (ds:=[.str n,.str "g"]) rfl (cons_of rfl (cons_of rfl rfl)) rfl m
 .refine cK (FH (by decide +kernel)) (cK (nG (by decide +kernel) (by decide +kernel) (by decide +kernel)) (cK (nG (by decide +kernel) (by decide +kernel) (by decide +kernel)) ?_));refine hV (nA (nG (by decide +kernel) (by decide +kernel) (by decide +kernel)) (iJ ?_));exact dN (set:=λ_ k=>k) (ds:=[.str n,.str "b"]) rfl (cons_of rfl (cons_of rfl rfl)) rfl m
theorem Dc(b:Bool)(hn:Nm n)(h:fY s.lo n=some (.tuple [bD p,dC c]))(hg:nz p c=false):
  dM a [a9 a,.str (wU (wd b) n)] s=some (Ii "NoDraw",s):=by
 refine lQ (wQ (Hu b hn) hn ?_)
 have m:=Qh (a:=a) b h hg
 cases b
 .refine cK (FH (by decide +kernel)) (cK (nG (by decide +kernel) (by decide +kernel) (by decide +kernel)) (cK (nG (by decide +kernel) (by decide +kernel) (by decide +kernel)) (cK (nG (by decide +kernel) (by decide +kernel) (by decide +kernel)) ?_)));refine hV (nA (nG (by decide +kernel) (by decide +kernel) (by decide +kernel)) (iJ ?_));exact dN (set:=λ_ k=>k) (ds:=[.str n,.str "g"]) rfl (cons_of rfl (cons_of rfl rfl)) rfl m
 .refine cK (FH (by decide +kernel)) (cK (nG (by decide +kernel) (by decide +kernel) (by decide +kernel)) (cK (nG (by decide +kernel) (by decide +kernel) (by decide +kernel)) ?_));refine hV (nA (nG (by decide +kernel) (by decide +kernel) (by decide +kernel)) (iJ ?_));exact dN (set:=λ_ k=>k) (ds:=[.str n,.str "b"]) rfl (cons_of rfl (cons_of rfl rfl)) rfl m
theorem gt0(i:Nat):xG (.int (i:Int)) (.int 0)=some (.bool (decide (0<i))):=by
 show some (PyData.bool (decide ((0:Int)<(i:Int))))=_
 rw[show decide ((0:Int)<(i:Int))=decide (0<i)by simp]
def sR(P:D)(u v:Option D)(k:eW)(i:Nat)(r:List Int)(c d e:Option D):DS:=[some P,u,v,some (.dict k),some (.int (i:Nat)),some (dR r),c,d,e,none,none]
theorem Jz(P:D)(u v:Option D)(hr:r.length<=25)(hi:i<24)(hd:Dt kds F)(hlen:kds.length<=1+50*i)(c d e:Option D):∃MX c' d' e',ls (aO 6)
   (aM (bp 7 (dA (ae 3) (bC (aa (ae 6) (aa (g2 ia (ae 4) (ae 6)) ag))) (ax 0)))
  (fS (aZ (bC (aa (bC (aa (g2 ao (ae 6) (ax 1)) (aa (g2 ia (ae 4) (ae 6)) ag))) (aa (bC (aa (ae 6) (aa (g2 ao (g2 ia (ae 4) (ae 6)) (ax 1)) ag))) ag)))) (aO 8)
   (gU (gB (g2 xG (ae 4) (ax 0))) (oZ 3 (ae 8) (g2 ao (dA (ae 3) (ae 8) (ax 0)) (ae 7))) bF))) (r.map .int) (sR P u v kds i r c d e)=some (.nx (sR P u v MX i r c' d' e'))/\
  Dt MX (if 0<i then(lN i r).foldl bX F else F)/\MX.length<=1+50*i+2*r.length:=by
 obtain⟨δ',ef,MX,c',d',e',rfl,h1,h2⟩:=qU (t:=aO 6) (b:=(aM (bp 7 (dA (ae 3) (bC (aa (ae 6) (aa (g2 ia (ae 4) (ae 6)) ag))) (ax 0)))
  (fS (aZ (bC (aa (bC (aa (g2 ao (ae 6) (ax 1)) (aa (g2 ia (ae 4) (ae 6)) ag))) (aa (bC (aa (ae 6) (aa (g2 ao (g2 ia (ae 4) (ae 6)) (ax 1)) ag))) ag)))) (aO 8)
   (gU (gB (g2 xG (ae 4) (ax 0))) (oZ 3 (ae 8) (g2 ao (dA (ae 3) (ae 8) (ax 0)) (ae 7))) bF)))) PyData.int
  (λj δ=>∃kds c d e,δ=(sR P u v kds i r c d e)/\Dt kds (if 0<i then(lN i (r.take j)).foldl bX F else F)/\kds.length<=1+50*i+2*j) r (δ:=(sR P u v kds i r c d e)) ⟨kds,c,d,e,rfl,by split<;>exact hd,by lia⟩ (by
   rintro j x δ hj ⟨kds,c,d,e,rfl,hd,hlen⟩;have hjl:=(aal.mp hj).1;obtain⟨G,hG⟩:∃G,G=(if 0<i then(lN i (r.take j)).foldl bX F else F):=⟨_,rfl⟩;rw[<-hG]at hd;obtain⟨k,hk⟩:∃k:Int×Int,k=(x,(i:Int)-x):=⟨_,rfl⟩;have K9:bp 7 (dA (ae 3) (bC (aa (ae 6) (aa (g2 ia (ae 4) (ae 6)) ag))) (ax 0)) (sR P u v kds i r (some (.int x)) d e)=some (.nx (sR P u v kds i r (some (.int x)) (some (.int (G k.1 k.2))) e)):=
    bh ((fj (c:=k) rfl (by rw[hk];rfl) rfl).trans (ab7 some (hd k.1 k.2)));have hit:aZ (bC (aa (bC (aa (g2 ao (ae 6) (ax 1)) (aa (g2 ia (ae 4) (ae 6)) ag))) (aa (bC (aa (ae 6) (aa (g2 ao (g2 ia (ae 4) (ae 6)) (ax 1)) ag))) ag))) (sR P u v kds i r (some (.int x)) (some (.int (G k.1 k.2))) e)=some [dC (k.1+1,k.2),dC (k.1,k.2+1)]:=by
    show some [dC (x+1,(i:Int)-x),dC (x,(i:Int)-x+1)]=_;rw[hk]
   by_cases GI:0<i
   .rw [aaq GI]at hG;have CP:(if 0<i then(lN i (r.take (j+1))).foldl bX F else F)=bX G k:=by
     rw[aaq GI,acj,hj];unfold lN at hG ⊢;rw[abb,acz,<-hG,hk];rfl
    obtain⟨k1,Cc⟩:∃k1,k1=il kds [.inl (k.1+1),.inl k.2] (.int (G (k.1+1) k.2+G k.1 k.2)):=⟨_,rfl⟩;have Bz:=hd.put (k.1+1) k.2 (G (k.1+1) k.2+G k.1 k.2);rw[<-Cc]at Bz;have hd2:=Bz.put k.1 (k.2+1) (G k.1 (k.2+1)+G k.1 k.2);have l1:k1.length<=kds.length+1:=by rw[Cc];exact jA _ _ _
    have l2:=jA k1 [.inl k.1,.inl (k.2+1)] (.int (G k.1 (k.2+1)+G k.1 k.2));refine⟨_,(sR P u v (il k1 [.inl k.1,.inl (k.2+1)] (.int (G k.1 (k.2+1)+G k.1 k.2))) i r (some (.int x)) (some (.int (G k.1 k.2))) (some (dC (k.1,k.2+1)))),rfl,?_,_,_,_,_,rfl,?_,by lia⟩
    .refine ff _ K9 ?_;unfold fS;rw[hit,aac];refine P4 (sR P u v kds i r (some (.int x)) (some (.int (G k.1 k.2))) (some (dC (k.1+1,k.2)))) (sR P u v k1 i r (some (.int x)) (some (.int (G k.1 k.2))) (some (dC (k.1+1,k.2)))) (sR P u v k1 i r (some (.int x)) (some (.int (G k.1 k.2))) (some (dC (k.1,k.2+1)))) _ rfl ?_ rfl ?_
     .refine ny true (bW (aj rfl rfl ((gt0 i).trans (by rw[aas GI])))) (λ_=>?_) λz=>nomatch z;refine(oH (c:=(k.1+1,k.2)) rfl rfl (aj ((fj (c:=(k.1+1,k.2)) rfl rfl rfl).trans (ab7 some (hd (k.1+1) k.2))) rfl rfl) (by lia)).trans ?_;rw[Cc];rfl
     .have h5:(dn k1 [.inl k.1,.inl (k.2+1)]).getD (.int 0)=.int (G k.1 (k.2+1)):=by
       have:=Bz k.1 (k.2+1);rw[this];rw[aaO (by lia)]
      refine ny true (bW (aj rfl rfl ((gt0 i).trans (by rw[aas GI])))) (λ_=>?_) λz=>nomatch z;exact oH (c:=(k.1,k.2+1)) rfl rfl (aj ((fj (c:=(k.1,k.2+1)) rfl rfl rfl).trans (ab7 some h5)) rfl rfl) (by lia)
    .rw [CP];refine⟨hd2.fn,λx y=>?_⟩;rw[hd2 x y];congr 1;show(if x=k.1/\y=k.2+1 then _ else if x=k.1+1/\y=k.2 then _ else G x y)=G x y+_+_;by_cases c1:x=k.1/\y=k.2+1;.grind
     .grind
   .rw [aaO GI]at hG;refine⟨_,(sR P u v kds i r (some (.int x)) (some (.int (G k.1 k.2))) (some (dC (k.1,k.2+1)))),rfl,?_,_,_,_,_,rfl,by rw[aaO GI,<-hG];exact hd,by lia⟩;refine ff _ K9 ?_;unfold fS;rw[hit,aac];have no:∀a:Option D,gU (gB (g2 xG (ae 4) (ax 0))) (oZ 3 (ae 8) (g2 ao (dA (ae 3) (ae 8) (ax 0)) (ae 7))) bF (sR P u v kds i r (some (.int x)) (some (.int (G k.1 k.2))) a)=some (.nx (sR P u v kds i r (some (.int x)) (some (.int (G k.1 k.2))) a)):=λa=>
     zj (bW (aj rfl rfl ((gt0 i).trans (by rw[aa3 GI]))));exact P4 _ _ _ _ rfl (no _) rfl (no _))
 rw[acN]at h1
 exact⟨MX,c',d',e',ef,h1,h2⟩
theorem Vu(h:g δ=some [x,y]):OA i j g δ=some (.nx ((δ.set i (some x)).set j (some y))):=by unfold OA;rw[h];rfl
def sQ(q:cA)(c:Int×Int)(w:Int)(k a b x d e f g:Option D):DS:=[some (bD ([0]::q)),some (dC c),some (.int w),k,a,b,x,d,e,f,g]
theorem Dd(hp:Pk p)(hc:c∈jb p):gP [bD p,dC c]=some (.str (Hq (shr p c))):=by
 rw[CN]
 have ok:=MW hp hc
 have hl:=hp.Wq
 have kZ:=hp.kZ
 obtain⟨kw,ew,hw⟩:=Fz hp.pl hl kZ
 have gw:=hw.get (b:=c.1) (g:=c.2) (by have:=ok.w0;lia)
 obtain⟨e1,e2,m1,m2⟩:=FK ok.f0 ok.f1 ok.w0 ok.w1
 obtain⟨q,rfl,JT⟩:=hp.pl.ex
 refine bu ?_
 obtain⟨w,RG⟩:∃w,w=j6 ([0]::q) c.1 c.2:=⟨_,rfl⟩
 obtain⟨f,Vv⟩:∃f,f=NJ ([0]::q) c.1 c.2:=⟨_,rfl⟩
 have s1:bp 2 (vZ (aP iA 1 (aa (ae 0) ag)) (ae 1)) [some (bD ([0]::q)),some (dC c),none,none,none,none,none,none,none,none,none]=some (.nx (sQ q c w none none none none none none none none)):=by
  rw[RG];exact bh ((Hh (c:=c) (call_of (cons_of rfl rfl) rfl ew) rfl hw.fn).trans gw)
 refine bA _ s1 ?_
 have d0:Dt [(dC (1,0),PyData.int 1)] (gH (1,0)):=by
  exact Dt.put (kds:=[]) (F:=λ_ _=>0) ⟨rfl,λb g=>rfl⟩ 1 0 1
 refine bA (sQ q c w (some (.dict [(dC (1,0),PyData.int 1)])) none none none none none none none) rfl ?_
 refine oC (λx:List Int×Nat=>PyData.tuple [.int (x.2:Nat),dR x.1]) (([0]:List Int)::q).zipIdx (λi δ=>∃kds a b x d e,δ=(sQ q c w (some (.dict kds)) a b x d e none none)/\Dt kds ((bY 1 (q.take (i-1))).foldl bX (gH (1,0)))/\kds.length<=1+50*i) ?_ ⟨_,_,_,_,_,_,rfl,by simpa[bY]using d0,by simp⟩ ?_ ?_
 .show some (jZ ((([0]:List Int)::q).map dR))=_;rw[CZ]
 .rintro i ⟨r,n⟩ δ hi ⟨kds,a,b,x,d,e,rfl,hd,hlen⟩;rw[acx]at hi;cases er:(([0]:List Int)::q)[i]? with
  |none=>rw[er]at hi;cases hi
  |some r'=>
  rw[er]at hi;simp at hi;obtain⟨rfl,rfl⟩:=hi;have OP:=(aal.mp er).1;have Rx:=kZ r' (aa7 er);obtain⟨Jv,c2,d2,e2,ef,hd2,Q0⟩:=Jz (bD ([0]::q)) (some (dC c)) (some (.int w)) Rx (show i<24 by lia) hd hlen x d e;refine⟨_,(sQ q c w (some (.dict Jv)) (some (.int (i:Nat))) (some (dR r')) c2 d2 e2 none none),rfl,MG rfl ef,Jv,_,_,_,_,_,rfl,?_,by lia⟩;cases i with
  |zero=>exact hd2
  |succ i=>
    have er2:q[i]?=some r':=by simpa using er
    have ht:q.take (i+1)=q.take i++[r']:=by rw[acj,er2];rfl
    have hiq:=(aal.mp er2).1;have Fk:(q.take i).length=i:=by rw[acf];lia
    show Dt Jv ((bY 1 (q.take (i+1))).foldl bX (gH (1,0)));rw[ht,jD,acz,Fk,Nat.add_comm 1 i];exact hd2
 .rintro δ' ⟨kds,a,b,x,d,e,rfl,hd,hlen⟩;rw[adM]at hd hlen;have hq:q.take ((([0]:List Int)::q).length-1)=q:=by rw[aaR,Nat.add_sub_cancel,acN]
  rw[hq,<-RE]at hd;have gf:∀u v:Option D,dA (ae 3) (ae 1) (ax 0) (sQ q c w (some (.dict kds)) a b x d e u v)=some (.int f):=λu v=>by
   rw[Vv];exact(fj (c:=c) rfl rfl rfl hd.fn).trans (ab7 some (hd c.1 c.2))
  refine bA (sQ q c w (some (.dict kds)) a b x d e (some (.int f)) none) (bh (gf none none)) ?_;refine bA (sQ q c w (some (.dict kds)) a b x d e (some (.int f)) (some (.int w))) rfl ?_;have f0:0<=f:=by rw[Vv];exact ok.f0
  have w0:0<w:=by rw[RG];exact ok.w0
  have w1:w<=4096:=by rw[RG];exact ok.w1
  refine sA (λm δ=>∃z:Int,δ=(sQ q c w (some (.dict kds)) a b x d e (some (.int z)) (some (.int (m:Nat))))/\0<=z/\Int.gcd z (m:Int)=Int.gcd f w) (λδ=>δ=(sQ q c w (some (.dict kds)) a b x d e (some (.int (Int.gcd f w:Nat))) (some (.int 0)))) w.toNat ⟨f,by rw[adB (ad1 w0)],f0,by rw[adB (ad1 w0)]⟩ ?_ ?_
  .rintro m δ ⟨z,rfl,z0,hg⟩;have ec:∀t:DS,gB (g2 xG (ae 10) (ax 0)) (some (bD ([0]::q))::some (dC c)::some (.int w)::some (.dict kds)::a::b::x::d::e::some (.int z)::some (.int (m:Nat))::t)=some (decide (0<m)):=λt=>bW (aj rfl rfl (gt0 m));by_cases hm:m=0
   .subst hm;refine .inl ⟨(ec []).trans (by decide),?_⟩;have:Int.gcd z 0=Int.gcd f w:=hg;rw[Int.gcd_zero_right]at this;rw[<-this,Int.natAbs_of_nonneg z0];rfl
   .have h1:0<=z%(m:Int):=abJ _ (by lia);have h2:z%(m:Int)<m:=abw _ (by lia);refine .inr ⟨(ec []).trans (by rw[aas (by lia)]),(sQ q c w (some (.dict kds)) a b x d e (some (.int (m:Nat))) (some (.int (z%(m:Int))))),(z%(m:Int)).toNat,Vu (cons_of rfl (cons_of (aj rfl rfl (eO (by lia))) rfl)),by lia,m,by rw[adB h1],by lia,?_⟩;rw[adB h1,Me,hg]
  .rintro δ' rfl;obtain⟨g,Zm⟩:∃g:Int,g=(Int.gcd f w:Nat):=⟨_,rfl⟩;have g0:0<g:=by
    have:Int.gcd f w≠0:=λz=>by rw[Int.gcd_eq_zero_iff]at z;lia
    lia
   have gl:g<=w:=by rw[Zm];exact Int.le_of_dvd w0 (Int.gcd_dvd_right ..)
   rw[<-Zm];rw[<-Vv,<-RG,<-Zm]at e1;rw[<-Vv,<-RG,<-Zm]at e2;rw[<-Vv,<-RG]at m1;rw[<-Vv,<-RG]at m2;have hsh:shr ([0]::q) c=Jl f w:=by rw[Vv,RG];rfl
   rw[hsh];have hb:bt g<=9000:=wB (kS (m:=13) (by lia)) (by decide);have q1:dS kL (aa (g2 gW (dA (ae 3) (ae 1) (ax 0)) (ae 9)) ag) (sQ q c w (some (.dict kds)) a b x d e (some (.int g)) (some (.int 0)))=some (.str (nS (Jl f w).1)):=
    iq (cons_of (aj (gf _ _) rfl (wC g0 hb)) rfl) (by rw[e1]at m1 ⊢;exact m1.str);have q2:dS kL (aa (g2 gW (ae 2) (ae 9)) ag) (sQ q c w (some (.dict kds)) a b x d e (some (.int g)) (some (.int 0)))=some (.str (nS (Jl f w).2)):=
    iq (cons_of (aj rfl rfl (wC g0 hb)) rfl) (by rw[e2]at m2 ⊢;exact m2.str);have qe:gB (g2 gT (ae 9) (ae 2)) (sQ q c w (some (.dict kds)) a b x d e (some (.int g)) (some (.int 0)))=some (decide (g=w)):=rfl;have t1:=m1.tx.2;have t2:=m2.tx.2;have Zn:(Jl f w).2=1↔g=w:=by
    rw[e2];have dvd:g ∣ w:=by rw[Zm];exact Int.gcd_dvd_right ..
    obtain⟨k,hk⟩:=dvd;rw[hk,Int.mul_ediv_cancel_left _ (by lia)];constructor;.grind
    .intro z;have:g*1=g*k:=by rw[Int.mul_one];exact z
     exact(Int.eq_of_mul_eq_mul_left (by lia) this).symm
   unfold Hq;by_cases hgw:g=w;.rw [aaq (Zn.mpr hgw)];exact fG true (qe.trans (by rw[aas hgw])) (λ_=>fH _ q1 (.mk rfl rfl)) λz=>nomatch z
   .rw [aaO λz=>hgw (Zn.mp z)];refine fU (qe.trans (by rw[aa3 hgw])) (ret _ (aj (aj q1 rfl (hJ ?_)) q2 (hJ ?_)) (.mk rfl rfl))
    .show _+1<=_;lia
    .rw [<-jo,app_list,aaB,jo];show _+1+_<=_;lia
theorem Zo{l:List Int}{k:Nat}(h:l[k]?=some x):bw (.list (l.map .int)) (.int (0+(k:Int)))=some (.int x):=by
 rw[Int.zero_add]
 exact lg (by rw[aa4,h];rfl)
theorem vk{l:List Int}(h:k<l.length):l[k]?=some (l.getD k d):=by grind
theorem wY(c:Int)(bs:List Int)(hb:∀b∈bs,0<b/\b<=10^30)(hl:bs.length<=100):gZ (c9 [.int c,.list (bs.map .int)]) λds=>∃l:List Int,ds=l.map .int/\l.length=bs.length/\∀(i:Nat) (b x:Int),bs[i]?=some b->l[i]?=some x->0<=x/\x<b:=by
 have p18:r8 (.int 10) (.int 18)=some (.int (10^18)):=Mi (k:=18) (by decide) (by decide)
 have hc:gB (iZ Ky Ky (g1 KC (g2 r8 (ax 10) (ax 18))) (ae 0) (g2 r8 (ax 10) (ax 18))) [sI c,sL (bs.map .int),none,none,none]=some (decide (-(10^18:Int)<c)&&decide (c<(10^18:Int))):=
  bW (AJ (x:=.int (-(10^18:Int))) (by unfold g1;rw[show g2 r8 (ax 10) (ax 18) _=_ from aj rfl rfl p18];rfl) rfl rfl (aj rfl rfl p18) rfl)
 have eln:∀x y z:Option D,dS dU (aa (ae 1) ag) [sI c,sL (bs.map .int),x,y,z]=some (.int (bs.length:Nat)):=λx y z=>by
  show some (PyData.int (((bs.map PyData.int).length:Nat):Int))=_;rw[aaj]
 refine fG _ hc (λ_=>?_) λ_=>?_
 .obtain ⟨_,e1,row,rfl,Rx,_⟩:=uv c 1000003 bs.length (by decide) (by lia);rw[seq_assoc];refine bA [sI c,sL (bs.map .int),sL (row.map .int),none,none] (bh (br (fZ (cons_of rfl (cons_of rfl (cons_of (eln _ _ _) rfl))) rfl e1))) ?_;have e2:cN (eX (aa (dS dU (aa (ae 1) ag)) ag)) [2,1] (g2 eu (g2 bw (ae 1) (ae 0)) (g2 bw (ae 2) (ae 0))) [sI c,sL (bs.map .int),sL (row.map .int),none,none]=some (((List.range bs.length).map λk=>row.getD k 0%bs.getD k 1).map .int):=by
   refine fJ (λk:Nat=>PyData.int (0+(k:Int))) PyData.int (λk=>row.getD k 0%bs.getD k 1) (List.range bs.length) (jB (cons_of (eln _ _ _) rfl) (by lia)) (by rw[adm];lia) λk hk=>?_;have hk:=acw.mp hk;have Vw:=hb (bs.getD k 1) (aa7 (vk hk));exact aj (aj rfl rfl (Zo (vk (d:=0) (by lia)))) (aj rfl rfl (Zo (vk (d:=1) hk))) (eO Vw.1)
  refine fH _ (br e2) (.mk rfl ⟨_,rfl,by rw[aaj,adm],λi b x h1 h2=>?_⟩);have hi:=(aal.mp h1).1;rw[aa4,aek hi]at h2;have h3:=vk (d:=1) hi;rw[h1]at h3;have Vw:=hb b (aa7 h1);cases h2;show 0<=row.getD i 0%bs.getD i 1/\row.getD i 0%bs.getD i 1<b;rw[<-Option.some.inj h3];exact⟨abJ _ (by lia),abw _ Vw.1⟩
 .rw [wD];refine bA [sI c,sL (bs.map .int),none,sL ([]),none] rfl ?_;refine bA [sI (c/2),sL (bs.map .int),none,sL ([]),none] (bh (aj rfl rfl (dd 2 (by decide) (by decide)))) ?_;refine oC PyData.int bs (λi δ=>∃(c':Int) (l:List Int) (z:Option D),δ=[sI (c'),sL (bs.map .int),none,sL (l.map .int),z]/\l.length=i/\∀(j:Nat) (b x:Int),bs[j]?=some b->l[j]?=some x->0<=x/\x<b) rfl ⟨c/2,[],none,rfl,rfl,λj b x _ h=>by simp at h⟩ ?_ ?_
  .rintro i b δ hi ⟨c',l,z,rfl,ZX,hx⟩;have Vw:=hb b (aa7 hi);have hib:=(aal.mp hi).1;refine⟨_,[sI (c'/b),sL (bs.map .int),none,sL ((l++[c'%b]).map .int),sI b],rfl,ff [sI (c'),sL (bs.map .int),none,sL ((l++[c'%b]).map .int),sI b] ((wJ (d:=.int (c'%b)) rfl (aj rfl rfl (eO Vw.1)) (by rw[aaj];lia)).trans (by rw[abb];rfl)) (bh (aj rfl rfl (wC Vw.1 (wB (kS (m:=100) (by lia)) (by decide))))),c'/b,_,_,rfl,by rw[aaB,abx,ZX],λj b' x h1 h2=>?_⟩;by_cases hj:j<l.length;.grind
   .have hj2:j<(l++[c'%b]).length:=(aal.mp h2).1;rw[aaB,abx]at hj2;have:j=i:=by lia
    subst this;rw[adp (by lia),show j-l.length=0 by lia]at h2;cases h2;rw[hi]at h1;cases h1;exact⟨abJ _ (by lia),abw _ Vw.1⟩
  .rintro δ' ⟨c',l,z,rfl,ZX,hx⟩;exact ret (.list (l.map .int)) rfl (.mk rfl ⟨l,rfl,ZX,hx⟩)
theorem yi(c:Int)(bs:List Int)(hb:∀b∈bs,0<b/\b<=1000)(hl:bs.length<=100):gZ (c9 [.int c,.list (bs.map .int)]) λds=>∃l:List Int,ds=l.map .int/\l.length=bs.length/\∀(i:Nat) (b x:Int),bs[i]?=some b->l[i]?=some x->0<=x/\x<b:=
 wY c bs (λb h=>⟨(hb b h).1,Int.le_trans (hb b h).2 (by decide)⟩) hl
structure Zp(x y z:Str):Prop where
 a:Nm x
 b:Nm y
 c:Nm z
 ab:x≠y
 ac:x≠z
 bc:y≠z
noncomputable def JL:List Str:=["plan","lot","hand","many","bad","good","at","rule","ends","ways","odds","mean","show"]
noncomputable def nmB(x:Str):Bool:=decide (1<=x.cps.toList.length)&&decide (x.cps.toList.length<=8)&&x.cps.toList.all λc=>decide (97<=c)&&decide (c<=122)
def Vx(x y z:Str):Bool:=nmB x&&(nmB y&&(nmB z&&(!(decide (x=y))&&(!(decide (x=z))&&!(decide (y=z))))))
theorem Vy(h:Vx x y z=true):Zp x y z:=by
 unfold Vx at h
 simp at h
 exact⟨wR h.1,wR h.2.1,wR h.2.2.1,h.2.2.2.1,h.2.2.2.2.1,h.2.2.2.2.2⟩
theorem Vz:(List.range 13).all (λj=>Vx (JL.getD j "") (JL.getD ((j+5)%13) "") (JL.getD ((j+10)%13) ""))=true:=by decide +kernel
theorem Zq(m:Int):bw (.list (JL.map .str)) (.int (m%13))=some (.str (JL.getD (m%13).toNat "")):=by
 obtain⟨k,hk⟩:∃k:Nat,m%13=(k:Int):=⟨(m%13).toNat,by lia⟩
 have hl:k<JL.length:=by show k<13;lia
 rw[hk,ab4]
 exact lg (by rw[aa4,aau hl,aa2,aau hl];rfl)
theorem MY(m:Int):bw (.str "abcdefghijklmnopqrstuvwxyz") (.int (m%26))=some (.str ⟨#[97+(m%26).toNat]⟩):=by
 obtain⟨k,hk⟩:∃k:Nat,m%26=(k:Int):=⟨(m%26).toNat,by lia⟩
 have hl:k<26:=by lia
 rw[hk,ab4]
 show(if("abcdefghijklmnopqrstuvwxyz":Str).length<=100000 then(yN ("abcdefghijklmnopqrstuvwxyz":Str).cps.toList (k:Int)).map (λc=>PyData.str ⟨#[c]⟩)else none)=_
 rw[aaq (by decide +kernel),lets,lg (v:=97+k) (by rw[aa4,aek hl];rfl)]
 rfl
theorem o9(w:List Nat):(gV w).cps.toList=w:=List.toList_toArray
theorem hX(w:List Nat):(gV w).length=w.length:=aaD
theorem slT{k:Nat}(h:k<=t.length):Txt.slice (gV t) none (some (k:Int))=gV (t.take k):=by
 have e:=ac4.mp (PyProof.Rows.slice_closes_to (x:=gV t) (j:=(k:Int)) ⟨by lia,by rw[o9];lia⟩)
 rw[e]
 refine aed (ad9.mp ?_)
 rw[o9,o9,show((k:Int)-0).toNat=k by lia,show(0:Int).toNat=0 from rfl,List.drop_zero]
theorem slF{k:Nat}(h:k<=t.length):Txt.slice (gV t) (some (k:Int)) none=gV (t.drop k):=by
 have e:=ac4.mp (PyProof.Rows.slice_closes_from (x:=gV t) (i:=(k:Int)) ⟨by lia,by rw[o9];lia⟩)
 rw[e]
 refine aed (ad9.mp ?_)
 rw[o9,o9,ab4,adZ (by rw[adt];lia)]
theorem De(h:g δ=some (.int k)):e9 g δ=some (some k):=by unfold e9;rw[h];rfl
theorem slA(h:ae i δ=some (.str (gV t)))(hg:g δ=some (.int (k:Nat)))(hk:k<=t.length)(hl:t.length<=100000):EM (ae i) jf (e9 g) δ=some (.str (gV (t.take k))):=by
 unfold EM
 rw[h,aac,show jf δ=some none from rfl,aac,De hg,aac]
 show(if(gV t).length<=100000 then some (PyData.str (Txt.slice (gV t) none (some (k:Int))))else none)=_
 rw[aaq (by rw[hX];exact hl),slT hk]
theorem slB(h:ae i δ=some (.str (gV t)))(hg:g δ=some (.int (k:Nat)))(hk:k<=t.length)(hl:t.length<=100000):EM (ae i) (e9 g) jf δ=some (.str (gV (t.drop k))):=by
 unfold EM
 rw[h,aac,De hg,aac,show jf δ=some none from rfl,aac]
 show(if(gV t).length<=100000 then some (PyData.str (Txt.slice (gV t) (some (k:Int)) none))else none)=_
 rw[aaq (by rw[hX];exact hl),slF hk]
noncomputable def Hv(t:List Nat)(a:Nat)(m:Int)(k:Nat):List Nat:=t.take a++[97+((m+7*(k:Int))%26).toNat]++t.drop (a+1)
theorem Qi(ha:a<t.length):(Hv t a m k).length=t.length:=by
 unfold Hv
 rw[aaB,aaB,acf,adt,abx];lia
theorem FN(ha:a<t.length)(hl:t.length<=8)(ht:∀c∈t,97<=c/\c<=122):Nm (gV (Hv t a m k)):=by
 refine⟨by rw[o9,Qi ha];lia,λc hc=>?_⟩
 rcases aaf.mp hc with hc|hc
 .grind
 .grind
theorem FO{k j:Nat}(h:((m+7*(k:Int))%26).toNat≠((m+7*(j:Int))%26).toNat):gV (Hv t a m k)≠gV (Hv t a m j):=λz=>by
 have e:=ab7 (λx:Str=>x.cps.toList) z
 have e:=(List.append_inj_left e (by simp))
 have e:=(List.append_inj_right e (by simp))
 exact h (by have:=acI e;lia)
theorem Zr(ha:a<t.length)(hl:t.length<=8)(ht:∀c∈t,97<=c/\c<=122):Zp (gV (Hv t a m 0)) (gV (Hv t a m 1)) (gV (Hv t a m 2)):=
 ⟨FN ha hl ht,FN ha hl ht,FN ha hl ht,FO (by lia),FO (by lia),FO (by lia)⟩
theorem vn(x y:List Nat):gV x++gV y=gV (x++y):=aed (ad9.mp (by rw[app_list,o9,o9,o9]))
theorem len_str(h:x.length<=100000):dU [.str x]=some (.int (x.length:Nat)):=by
 show(if x.length<=100000 then some (PyData.int (x.length:Nat))else none)=_
 rw[aaq h]
def sN(n:Int)(x y z u v:Option D):DS:=[some (.int n),eU "abcdefghijklmnopqrstuvwxyz",none,x,y,z,u,v]
theorem Dh(h0:0<=n)(h1:n<10^30):∃x y z,iV [.int n]=some [.str x,.str y,.str z]/\Zp x y z:=by
 suffices main:gZ (iV [.int n]) λds=>∃x y z,ds=[.str x,.str y,.str z]/\Zp x y z by
  obtain⟨_,e,x,y,z,rfl,h⟩:=main;exact⟨x,y,z,e,h⟩
 refine fG (decide (n%8=5)) (bW (aj (aj rfl rfl (eO (by decide))) rfl rfl)) (λ_=>?_) λ_=>?_
 .rw [seq_assoc];have e:cN (eX (aa (ax 3) ag)) [2,0] (g2 bw (ae 1) (g2 eu (g2 ao (g2 gW (ae 2) (ax 8)) (g2 ij (ax 5) (ae 0))) (ax 13))) [sI n,eU "abcdefghijklmnopqrstuvwxyz",sL (JL.map .str),none,none,none,none,none]=some (((List.range 3).map λk:Nat=>JL.getD ((n/8+5*(0+(k:Int)))%13).toNat "").map .str):=by
   refine fJ (λk:Nat=>PyData.int (0+(k:Int))) PyData.str (λk:Nat=>JL.getD ((n/8+5*(0+(k:Int)))%13).toNat "") (List.range 3) (jB (cons_of rfl rfl) (by decide)) (by decide) λk hk=>?_;have hk:=acw.mp hk;exact aj rfl (aj (aj (aj rfl rfl (dd 8 (by decide) (by decide))) (aj rfl rfl (o8 (Mg (m:=3) (n:=3) (kS (by decide)) (kS (by lia))))) rfl) rfl (eO (by decide))) (Zq _)
  refine fH _ (br e) (.mk rfl ⟨_,_,_,rfl,?_⟩);obtain⟨j,hj⟩:∃j:Nat,(n/8)%13=(j:Int):=⟨((n/8)%13).toNat,by lia⟩;have w:=abv.mp Vz j (acw.mpr (by lia));have e0:((n/8+5*(0+((0:Nat):Int)))%13).toNat=j:=by lia
  have e1:((n/8+5*(0+((1:Nat):Int)))%13).toNat=(j+5)%13:=by lia
  have e2:((n/8+5*(0+((2:Nat):Int)))%13).toNat=(j+10)%13:=by lia
  show Zp (JL.getD ((n/8+5*(0+((0:Nat):Int)))%13).toNat "") (JL.getD ((n/8+5*(0+((1:Nat):Int)))%13).toNat "") (JL.getD ((n/8+5*(0+((2:Nat):Int)))%13).toNat "");rw[e0,e1,e2];exact Vy w
 .rw [wD];obtain⟨L,hL,hL2⟩:∃L:Nat,(1+n/8%8:Int)=(L:Int)/\1<=L/\L<=8:=⟨(1+n/8%8).toNat,by lia,by lia⟩;have rg:eX (aa (g2 ao (ax 1) (g2 eu (g2 gW (ae 0) (ax 8)) (ax 8))) ag) (sN n (some (.str (gV []))) none none none none)=some (jK 0 L):=
   jB (cons_of (aj rfl (aj (aj rfl rfl (dd 8 (by decide) (by decide))) rfl (eO (by decide))) (show some (PyData.int (1+n/8%8))=some (.int (L:Nat))by rw[hL])) rfl) (by lia);refine qV 0 L (λi δ=>∃(t:List Nat) (z:Option D),δ=(sN n (some (.str (gV t))) z none none none)/\t.length=i/\∀c∈t,97<=c/\c<=122) rg ⟨[],none,rfl,rfl,λc hc=>nomatch hc⟩ ?_ ?_
  .rintro i δ hi ⟨t,z,rfl,hlen,ht⟩;obtain⟨m,hm⟩:∃m:Int,m=n/64+(0+(i:Int))*(n/1664):=⟨_,rfl⟩;have b2:bt (n/1664)<=100:=kS (by lia);have ix:g2 bw (ae 1) (g2 eu (g2 ao (g2 gW (ae 0) (ax 64)) (g2 ij (ae 4) (g2 gW (ae 0) (ax 1664)))) (ax 26)) (sN n (some (.str (gV t))) (some (.int (0+(i:Int)))) none none none)=some (.str (gV [97+(m%26).toNat])):=by
    rw[hm];exact aj rfl (aj (aj (aj rfl rfl (dd 64 (by decide) (by decide))) (aj rfl (aj rfl rfl (dd 1664 (by decide) (by decide))) (o8 (Mg (m:=4) (n:=100) (kS (by lia)) b2))) rfl) rfl (eO (by decide))) (MY _)
   refine⟨_,(sN n (some (.str (gV (t++[97+(m%26).toNat])))) (some (.int (0+(i:Int)))) none none none),rfl,?_,t++[97+(m%26).toNat],_,rfl,by rw[aaB,abx,hlen],λc hc=>?_⟩
   .rw [<-vn];exact bh (aj rfl ix (hJ (by rw[hX,hX,abx];lia)))
   .grind
  .rintro δ' ⟨t,z,rfl,hlen,ht⟩;obtain⟨a,ha⟩:∃a:Nat,(n/64)%(t.length:Int)=(a:Int):=⟨((n/64)%(t.length:Int)).toNat,by have:=abJ (n/64) (b:=(t.length:Int)) (by lia);lia⟩;have hat:a<t.length:=by have:=abw (n/64) (b:=(t.length:Int)) (by lia);lia
   refine bA (sN n (some (.str (gV t))) z (some (.int (a:Nat))) none none) (bh ((aj (aj rfl rfl (dd 64 (by decide) (by decide))) (iq (cons_of rfl rfl) (len_str (by rw[hX];lia))) (eO (by rw[hX];lia))).trans (by rw[hX,ha]))) ?_;refine qV 0 3 (λi δ=>∃(z w:Option D),δ=(sN n (some (.str (gV t))) z (some (.int (a:Nat))) (some (.list ((List.range i).map λk=>PyData.str (gV (Hv t a (n/64) k))))) w)) (jB (cons_of rfl rfl) (by decide)) ⟨z,none,rfl⟩ ?_ ?_
   .rintro i δ hi ⟨z,w,rfl⟩;have ix:g2 bw (ae 1) (g2 eu (g2 ao (g2 gW (ae 0) (ax 64)) (g2 ij (ax 7) (ae 4))) (ax 26)) (sN n (some (.str (gV t))) (some (.int (0+(i:Int)))) (some (.int (a:Nat))) (some (.list ((List.range i).map λk=>PyData.str (gV (Hv t a (n/64) k))))) w)=some (.str (gV [97+((n/64+7*(i:Int))%26).toNat])):=by
     refine(aj rfl (aj (aj (aj rfl rfl (dd 64 (by decide) (by decide))) (aj rfl rfl (o8 (Mg (m:=3) (n:=3) (kS (by decide)) (kS (by lia))))) rfl) rfl (eO (by decide))) (MY _)).trans ?_;rw[Int.zero_add];rfl
    refine⟨_,(sN n (some (.str (gV t))) (some (.int (0+(i:Int)))) (some (.int (a:Nat))) (some (.list ((List.range (i+1)).map λk=>PyData.str (gV (Hv t a (n/64) k))))) (some (.str (gV [97+((n/64+7*(i:Int))%26).toNat])))),rfl,ff (sN n (some (.str (gV t))) (some (.int (0+(i:Int)))) (some (.int (a:Nat))) (some (.list ((List.range i).map λk=>PyData.str (gV (Hv t a (n/64) k))))) (some (.str (gV [97+((n/64+7*(i:Int))%26).toNat])))) (bh ix) ?_,_,_,rfl⟩;refine(wJ (d:=.str (gV (Hv t a (n/64) i))) rfl ?_ (by rw[aaj,adm];lia)).trans ?_
    .have e:gV (Hv t a (n/64) i)=gV (t.take a)++gV [97+((n/64+7*(i:Int))%26).toNat]++gV (t.drop (a+1)):=by rw[vn,vn];rfl
     rw[e];refine aj (aj (slA rfl rfl (by lia) (by lia)) rfl (hJ ?_)) (slB rfl (aj (r:=some (.int ((a+1:Nat):Int))) rfl rfl rfl) (by lia) (by lia)) (hJ ?_);.rw [hX,hX,acf,abx];lia
     .rw [vn,hX,hX,aaB,acf,adt,abx];lia
    .rw [List.range_succ,abb];rfl
   .rintro δ' ⟨z,w,rfl⟩;exact ret _ rfl (.mk rfl ⟨_,_,_,rfl,Zr hat (by lia) ht⟩)
theorem RH{d1 d2:D}(h1:t d1 δ=some gY)(h2:b gY s=some (.nx UM,s1))(h3:t d2 UM=some δ3)(h4:b δ3 s1=some (.nx δ4,s2)):j2 t b [d1,d2] δ s=some (.nx δ4,s2):=by
 unfold j2
 rw[h1,aac,h2,aac]
 show j2 t b [d2] UM s1=_
 unfold j2
 rw[h3,aac,h4];rfl
theorem A2(h:gi δ=some ds)(k:j2 t b ds δ s=r):IZ gi t b δ s=r:=by unfold IZ;rw[h];exact k
theorem Di(h:PyData.strOk x=true):zL (.str x) (.str x)=some (.bool false):=E7 (c:=true) (iD h h (beq_self_eq_true x))
theorem Hy:PyData.strOk ("ok":Str)=true:=by decide +kernel
theorem MZ(hn:Nm n)(hp:Pk p)(h1:gn δ=eU n)(h2:gw δ=some (bD p)):
  g2 ao (g2 ao (g2 ao (bR "plan ") gn) (bR " hand ")) (aP eR 1 (aa gw ag)) δ=some (.str (wN n (pS p))):=by
 have l1:=hn.len.2
 rw[jo]at l1
 have l2:=Fw hp.Wq hp.ent
 have a:("plan ":Str).length=5:=by decide +kernel
 have b:(" hand ":Str).length=6:=by decide +kernel
 have e1:("plan "++n:Str).length=5+n.length:=by rw[<-jo,app_list,aaB,jo,jo,a]
 have e2:("plan "++n++" hand ":Str).length=5+n.length+6:=by rw[<-jo,app_list,aaB,jo,jo,e1,b]
 exact aj (aj (aj rfl h1 (hJ (by lia))) rfl (hJ (by lia))) (call_of (cons_of h2 rfl) rfl (yg hp.Wq hp.ent)) (hJ (by lia))
theorem zq(hx:Nm x)(hy:Nm y)(h0:Pk p0)(h1:Pk p1)(hs:s.pl.length<1000):
  dX a [a9 a,.list [.str x,.str y,z],.list [bD p0,bD p1]] s=some (.bool true,⟨dJ (dJ s.pl x (bD p0)) y (bD p1),s.lo⟩):=by
 have hl:=jq s.pl x (bD p0)
 have st:∀(k:Int) (n:Str) (p:cA) (s:Dk),Nm n->Pk p->s.pl.length<100000->bw (.list [.str x,.str y,z]) (.int k)=eU n->bw (.list [bD p0,bD p1]) (.int k)=some (bD p)->
   mz (dB (d2 zL (cP id (λ_ k=>k) 0 a bg 2 (aa (g2 ao (g2 ao (g2 ao (bR "plan ") (g2 bw (ae 1) (ae 3))) (bR " hand ")) (aP eR 1 (aa (g2 bw (ae 2) (ae 3)) ag))) ag)) (bR "ok"))) (ip (bo (gC (.bool false)))) d6 [some (a9 a),sL ([.str x,.str y,z]),sL ([bD p0,bD p1]),sI k] s=some (.nx [some (a9 a),sL ([.str x,.str y,z]),sL ([bD p0,bD p1]),sI k],⟨dJ s.pl n (bD p),s.lo⟩):=
  λk n p s hn hp hs e1 e2=>jc (qY (wO (dN (set:=λ_ k=>k) (ds:=[.str (wN n (pS p))]) rfl (cons_of (MZ hn hp (aj rfl rfl e1) (aj rfl rfl e2)) rfl) rfl (FJ hn hp.pl hp.Wq hp.ent hs)) rfl (Di Hy))) rfl
 refine lQ ?_
 refine a4 (A2 (ds:=[.int 0,.int 1]) rfl (RH rfl (st 0 x p0 s hx h0 (by lia) rfl rfl) rfl (st 1 y p1 _ hy h1 (by show(dJ s.pl x (bD p0)).length<_;lia) rfl rfl))) ?_
 exact dD rfl
theorem agu:("at ":Str)="at"++" ":=by decide +kernel
theorem VA(h1:ga δ=eU u)(h2:gb δ=eU v)(hs:s=⟨#[c]⟩)(hu:u.length<=100)(hv:v.length<=100):g2 ao (g2 ao ga (gC (.str s))) gb δ=some (.str (u++s++v)):=by
 have e:s.length=1:=by rw[hs];rfl
 refine aj (aj h1 rfl (hJ (by lia))) h2 (hJ ?_)
 rw[<-jo,app_list,aaB,jo,jo]
 lia
theorem Zs(h1:Sm c.1)(h2:Sm c.2):PyData.strOk (cT c)=true:=by
 refine Jw λx hx=>?_
 unfold cT at hx
 rw[app_list,app_list,MS]at hx
 rcases aaf.mp hx with hx|hx
 .rcases aaf.mp hx with hx|hx;.have:=h1.tx.1 x hx;lia
  .have:x=44:=by simpa using hx
   lia
 .have:=h2.tx.1 x hx;lia
def bZ(q:cA)(c:Int×Int):List D:=[bD q,.int c.1,.int c.2]
theorem M0(n0:Nm l0)(n1:Nm l1)(k0:Pk q0)(k1:Pk q1)(m0:wW q0 c0)(m1:wW q1 c1)(h0:fY s.lo l0=some (.tuple [bD q0,dC c0]))(h1:fY s.lo l1=some (.tuple [bD q1,dC c1])):
  fN a [a9 a,.list [.str l0,.str l1],.list [.list (bZ q0 c0),.list (bZ q1 c1)]] s=some (.bool true,s):=by
 have st:∀(k:Int) (n:Str) (q:cA) (c:Int×Int),Nm n->Pk q->wW q c->fY s.lo n=some (.tuple [bD q,dC c])->bw (.list [.str l0,.str l1]) (.int k)=eU n->bw (.list [.list (bZ q0 c0),.list (bZ q1 c1)]) (.int k)=some (.list (bZ q c))->
   mz (dB (d2 zL (cP id (λ_ k=>k) 0 a bg 2 (aa (g2 ao (bR "at ") (g2 bw (ae 1) (ae 3))) ag)) (g2 ao (g2 ao (dS kL (aa (g2 bw (g2 bw (ae 2) (ae 3)) (ax 1)) ag)) (bR ",")) (dS kL (aa (g2 bw (g2 bw (ae 2) (ae 3)) (ax 2)) ag))))) (ip (bo (gC (.bool false)))) d6 [some (a9 a),sL ([.str l0,.str l1]),sL ([.list (bZ q0 c0),.list (bZ q1 c1)]),sI k] s=some (.nx [some (a9 a),sL ([.str l0,.str l1]),sL ([.list (bZ q0 c0),.list (bZ q1 c1)]),sI k],s):=by
  intro k n q c hn hq hm hg e1 e2;obtain⟨s1,s2⟩:=Hs hq hm;have ln:=hn.len.2;rw[jo]at ln;have er:g2 ao (bR "at ") (g2 bw (ae 1) (ae 3)) [some (a9 a),sL ([.str l0,.str l1]),sL ([.list (bZ q0 c0),.list (bZ q1 c1)]),sI k]=some (.str (wU "at" n)):=by
   refine(aj rfl (aj rfl rfl e1) (hJ (x:="at ") ?_)).trans ?_
   .have:("at ":Str).length=3:=by decide +kernel
    lia
   .rfl
  refine jc (qY (wO (dN (set:=λ_ k=>k) (ds:=[.str (wU "at" n)]) rfl (cons_of er rfl) rfl (MV hn hg s1 s2)) ?_ (Di (Zs s1 s2)))) rfl;exact VA (iq (cons_of (aj (aj rfl rfl e2) rfl rfl) rfl) s1.str) (iq (cons_of (aj (aj rfl rfl e2) rfl rfl) rfl) s2.str) MS (aaW s1.tx.2 (by decide)) (aaW s2.tx.2 (by decide))
 refine lQ ?_
 refine a4 (A2 (ds:=[.int 0,.int 1]) rfl (RH rfl (st 0 l0 q0 c0 n0 k0 m0 h0 rfl rfl) rfl (st 1 l1 q1 c1 n1 k1 m1 h1 rfl rfl))) ?_
 exact dD rfl
theorem Hz{f:GD S}(h:f δ s=some (.rt d,s')):(f δ s).bind outD=some (d,s'):=by rw[h];rfl
theorem M1(h0:0<=c.1+c.2)(h1:gb δ=some (.int c.1))(h2:gg δ=some (.int c.2))(h3:gp δ=some (bD q)):
  GA (gB (g2 Ot (g2 ao gb gg) (dS dU (aa gp ag)))) (gB (g2 i3 gb (g2 bw gp (g2 ao gb gg)))) δ=some (!nz q c):=by
 have es:g2 ao gb gg δ=some (.int (c.1+c.2)):=aj h1 h2 rfl
 have el:dS dU (aa gp ag) δ=some (.int (q.length:Nat)):=iq (cons_of h3 rfl) (by show some (PyData.int (((q.map dR).length:Nat):Int))=_;rw[aaj])
 have e1:gB (g2 Ot (g2 ao gb gg) (dS dU (aa gp ag))) δ=some (decide ((q.length:Int)<=c.1+c.2)):=bW (aj es el rfl)
 unfold GA
 rw[e1,aac]
 unfold nz
 by_cases hl:(q.length:Int)<=c.1+c.2
 .grind
 .rw [aa3 hl,aas (show c.1+c.2<(q.length:Int)by lia),aas h0,acM,acM];refine(bW (b:= !decide (c.1∈q.getD (c.1+c.2).toNat [])) (aj h1 (aj h3 es (Ry h0 (by lia))) ?_));unfold i3;rw[Mq];rfl
theorem HA(hp:Pk p)(h:wW p c):0<=c.1+c.2:=by
 obtain⟨h1,h2⟩:=Hs hp h
 have:=h1.lo;have:=h2.lo;lia
theorem VB(b:Bool):(wd b).length<=4:=by cases b<;>decide +kernel
theorem HB(hj:δ[j]?=some (some (a9 a)))(hg:gr δ=some ds)(hn:ds.length+1=n)(h:G a (a9 a::ds) s.dk=some (d,k)):cP Dl.dk (λs k=>⟨k,s.so⟩) j a G n gr δ s=some (d,⟨k,s.so⟩):=
 dN (get:=Dl.dk) (set:=λs k=>(⟨k,s.so⟩:Dl)) hj hg hn h
theorem Zt(b:Bool):xV [.bool b]=some (.int (if b=true then 1 else 0)):=by cases b<;>rfl
theorem M3(hg:g δ=some (.str (wd b)))(hw:(wd b==w)=r)(h2:PyData.strOk w=true):dS xV (aa (g2 gT g (gC (.str w))) ag) δ=some (.int (if r=true then 1 else 0)):=
 iq (cons_of (aj hg rfl (iD (Jw (Zl b).lo) h2 hw)) rfl) (Zt r)
theorem VC(b:Bool):(wd b==("bad":Str))=b:=by cases b<;>decide +kernel
theorem Qj(b:Bool):(wd b==("good":Str))= !b:=by cases b<;>decide +kernel
theorem M4(hj:δ[j]?=some (some (a9 l)))(he:ge δ=some d)(hx:gx δ=some (.int i))(hk:Nv s.so.length i=some k):zh j l gx ge δ s=some (.nx δ,⟨s.dk,s.so.set k d⟩):=by
 refine EZ hj ?_
 rw[he,aac,hx,aac]
 show(Nv s.so.length i).bind _=_
 rw[hk];rfl
theorem A3(hj:δ[j]?=some (some (a9 l)))(h:g (δ.set j (some (.list s.so)))=some d):Jg j l g δ s=some (d,s):=by
 refine EZ hj ?_
 rw[h];rfl
def Ws(b:Bool)(q:cA)(c:Int×Int):Int×Int:=if nz q c=true then j7 b c else c
def sD(a l:Addr)(n:Str)(b:Bool)(q:cA)(c:Int×Int)(y:Option D):DS:=[some (a9 a),eU n,some (a9 l),some (.str (wd b)),some (bD q),some (.int c.1),some (.int c.2),none,y]
theorem Dj(b:Bool)(hn:Nm n)(hq:Pk q)(hm:wW q c)(h:fY s.lo n=some (.tuple [bD q,dC c]))(hs:s.lo.length<100000):
  fO a l [a9 a,.str n,a9 l,.str (wd b)] ⟨s,bZ q c⟩=some (.bool true,⟨if nz q c=true then⟨s.pl,dJ s.lo n (.tuple [bD q,dC (j7 b c)])⟩else s,bZ q (Ws b q c)⟩):=by
 have lw:=VB b
 have ln:=hn.len.2
 rw[jo]at ln
 have row:∀u v w x y:Option D,g2 ao (g2 ao (ae 3) (bR " ")) (ae 1) [some (a9 a),eU n,some (a9 l),some (.str (wd b)),u,v,w,x,y]=some (.str (wU (wd b) n)):=λu v w x y=>VA rfl rfl AN (by lia) (by lia)
 have un:L7 2 l 3 (cE (aO 4) (cE (aO 5) (cE (aO 6) jW))) [some (a9 a),eU n,some (a9 l),some (.str (wd b)),none,none,none,none,none] ⟨s,bZ q c⟩=some (.nx (sD a l n b q c none),⟨s,bZ q c⟩):=by
  refine EZ rfl ?_;exact(aaq (show(bZ q c).length=3 from rfl)).trans rfl
 have c1:=M1 (q:=q) (c:=c) (HA hq hm) (δ:=(sD a l n b q c none)) (gb:=ae 5) (gg:=ae 6) (gp:=ae 4) rfl rfl rfl
 unfold Ws
 by_cases hg:nz q c=true
 .rw [aaq hg,aaq hg];rw[hg]at c1;have Wd:=wX b hg;have k1:zh 2 l (ax 1) (g2 ao (ae 5) (dS xV (aa (g2 gT (ae 3) (bR "bad")) ag))) (sD a l n b q c none) ⟨s,bZ q c⟩=some (.nx (sD a l n b q c none),⟨s,[bD q,.int (j7 b c).1,.int c.2]⟩):=by
   refine(M4 (k:=1) rfl (aj rfl (M3 rfl (VC b) (by decide +kernel)) rfl) rfl rfl).trans ?_;cases b;.show some (Res.nx _,(⟨s,[bD q,.int (c.1+0),.int c.2]⟩:Dl))=_;rw[Int.add_zero];rfl
   .rfl
  have k2:zh 2 l (ax 2) (g2 ao (ae 6) (dS xV (aa (g2 gT (ae 3) (bR "good")) ag))) (sD a l n b q c none) ⟨s,[bD q,.int (j7 b c).1,.int c.2]⟩=some (.nx (sD a l n b q c none),⟨s,bZ q (j7 b c)⟩):=by
   refine(M4 (k:=2) rfl (aj rfl (M3 rfl (Qj b) (by decide +kernel)) rfl) rfl rfl).trans ?_;cases b;.rfl
   .show some (Res.nx _,(⟨s,[bD q,.int (j7 true c).1,.int (c.2+0)]⟩:Dl))=_;rw[Int.add_zero];rfl
  have c2:=M1 (q:=q) (c:=j7 b c) (HA hq Wd) (δ:=[some (a9 a),eU n,sL (bZ q (j7 b c)),some (.str (wd b)),some (bD q),sI c.1,sI c.2,none,eU "on"]) (gb:=g2 bw (ae 2) (ax 1)) (gg:=g2 bw (ae 2) (ax 2)) (gp:=ae 4) rfl rfl rfl;have sy:=λu:Option D=>HB (j:=0) (n:=2) (a:=a) (G:=bg) (gr:=aa (g2 ao (g2 ao (ae 3) (bR " ")) (ae 1)) ag) (ds:=[.str (wU (wd b) n)]) (δ:=(sD a l n b q c u)) (s:=⟨s,bZ q (j7 b c)⟩) rfl (cons_of (row _ _ _ _ _) rfl) rfl (FL b hn hq h hg hs);have fin:∀t:Str,PyData.strOk t=true->Wr q (j7 b c)=t->pG (d2 gT (cP Dl.dk (λs k=>⟨k,s.so⟩) 0 a bg 2 (aa (g2 ao (g2 ao (ae 3) (bR " ")) (ae 1)) ag)) (ae 8)) (sD a l n b q c (eU t)) ⟨s,bZ q (j7 b c)⟩=some (.rt (.bool true),⟨⟨s.pl,dJ s.lo n (.tuple [bD q,dC (j7 b c)])⟩,bZ q (j7 b c)⟩):=λt ht e=>
   iJ (wO (sy _) rfl (by rw[e];exact iD ht ht (beq_self_eq_true t)));refine Hz (a4 un (a4 (jc (nD c1) rfl) (a4 k1 (a4 k2 (a4 (δ':=(sD a l n b q c (eU "on"))) (dD rfl) ?_)))));by_cases T5:nz q (j7 b c)=true;.rw [T5]at c2;exact a4 (jc (A3 rfl c2) rfl) (fin "on" (by decide +kernel) (by unfold Wr;rw[if_pos T5]))
  .have T6:nz q (j7 b c)=false:=by cases z:nz q (j7 b c)with|true=>exact absurd z T5|false=>rfl
   rw[T6]at c2;have he:=C9 Wd T6;have hw:=MW hq he;obtain⟨_,_,m1,m2⟩:=FK hw.f0 hw.f1 hw.w0 hw.w1;have fl:=Ht (f:=shr q (j7 b c)) m1 m2;have cs:aP gP 2 (aa (ae 4) (aa (bC (aa (g2 bw (ae 2) (ax 1)) (aa (g2 bw (ae 2) (ax 2)) ag))) ag)) [some (a9 a),eU n,sL (bZ q (j7 b c)),some (.str (wd b)),some (bD q),sI c.1,sI c.2,none,eU "on"]=some (.str (Hq (shr q (j7 b c)))):=call_of (ds:=[bD q,dC (j7 b c)]) (cons_of rfl (cons_of rfl rfl)) rfl (Dd hq he);have es:IY 8 (Jg 2 l (g2 ao (bR "end ") (aP gP 2 (aa (ae 4) (aa (bC (aa (g2 bw (ae 2) (ax 1)) (aa (g2 bw (ae 2) (ax 2)) ag))) ag))))) (sD a l n b q c (eU "on")) ⟨s,bZ q (j7 b c)⟩=some (.nx (sD a l n b q c (some (.str ("end "++Hq (shr q (j7 b c)))))),⟨s,bZ q (j7 b c)⟩):=by
    refine AV (A3 (d:=.str ("end "++Hq (shr q (j7 b c)))) rfl (aj rfl cs (hJ ?_)));show 4+(Hq (shr q (j7 b c))).length<=100000;lia
   refine a4 (nA (A3 rfl c2) es) (fin _ ?_ (by unfold Wr;rw[if_neg T5]))
   .refine Jw λx hx=>?_;rw[app_list]at hx;rcases aaf.mp hx with hx|hx;.exact (show ∀x∈("end ":Str).cps.toList,x<128 by decide +kernel) x hx
    .grind
 .have T6:nz q c=false:=by cases z:nz q c with|true=>exact absurd z hg|false=>rfl
  rw[aaO hg,aaO hg];rw[T6]at c1;have sy:=HB (j:=0) (n:=2) (a:=a) (G:=dM) (gr:=aa (g2 ao (g2 ao (ae 3) (bR " ")) (ae 1)) ag) (ds:=[.str (wU (wd b) n)]) (δ:=(sD a l n b q c none)) (s:=⟨s,bZ q c⟩) rfl (cons_of (row _ _ _ _ _) rfl) rfl (Dc b hn h T6);have dr:wu (cP Dl.dk (λs k=>⟨k,s.so⟩) 0 a dM 2 (aa (g2 ao (g2 ao (ae 3) (bR " ")) (ae 1)) ag)) (sD a l n b q c none) ⟨s,bZ q c⟩=some (.rt (Ii "NoDraw"),⟨s,bZ q c⟩):=by
   unfold wu;rw[sy];rfl
  have tr:Pp (wu (cP Dl.dk (λs k=>⟨k,s.so⟩) 0 a dM 2 (aa (g2 ao (g2 ao (ae 3) (bR " ")) (ae 1)) ag))) (pF JK (λ_=>.bool true)) (sD a l n b q c none) ⟨s,bZ q c⟩=some (.rt (.bool true),⟨s,bZ q c⟩):=by
   unfold Pp;rw[dr];rfl
  exact Hz (a4 un (hV (nA (nD c1) (hV tr))))
def bI(b:Bool):Int:=if b=true then 1 else 0
theorem RI(b:Bool):E3 (.int (bI b))=some b:=by cases b<;>rfl
theorem HC(h0:0<=x)(h1:x<2):∃b,x=bI b:=by
 by_cases h:x=0
 .exact ⟨false,h⟩
 .exact ⟨true,by show x=1;lia⟩
noncomputable def qZ{α:Type}(f:Bool->α)(b:Bool)(v:α):Bool->α:=λd=>if d=b then v else f d
theorem kT(f:Bool->α)(b:Bool)(v:α):qZ f b v b=v:=aaq rfl
theorem q9(f:Bool->α)(v:α)(h:d≠b):qZ f b v d=f d:=aaO h
theorem bI2{α:Type}(enc:α->D)(f:Bool->α)(b:Bool):bw (.list [enc (f false),enc (f true)]) (.int (bI b))=some (enc (f b)):=by cases b<;>rfl
theorem bI3(f:Bool->Str)(z:D)(b:Bool):bw (.list [.str (f false),.str (f true),z]) (.int (bI b))=some (.str (f b)):=by cases b<;>rfl
theorem HE{α:Type}{f:α->D}(h:∀a,BZ (f a)=true)(l:List α):pj (l.map f)=true:=by
 induction l with
 |nil=>rfl
 |cons a l ih=>rw[aaw,pj,h,ih];rfl
theorem wZ(p:cA):BZ (bD p)=true:=HE (f:=dR) (λr=>HE (f:=PyData.int) (λ_=>rfl) r) p
theorem A4(p:cA)(c:Int×Int):BZ (.tuple [bD p,dC c])=true:=by
 show(BZ (bD p)&&pj [dC c])=true
 rw[wZ];rfl
theorem Dm{l:List (Str×D)}(h:∀e∈l,BZ e.2=true):pj (l.map (·.2))=true:=by
 induction l with
 |nil=>rfl
 |cons a l ih=>rw[aaw,pj,h a aan,ih λe he=>h e (aap _ he)];rfl
theorem lR(h:∀e∈l,BZ e.2=true)(hd:BZ d=true):∀e∈dJ l x d,BZ e.2=true:=by
 intro e he
 unfold dJ at he
 split at he
 .grind
 .grind
structure Iv(nm ln:Bool->Str)(p q:Bool->cA)(c:Bool->Int×Int)(k:Nat)(s:Lw):Prop where
 pk:∀b,Pk (p b)
 qk:∀b,Pk (q b)
 cm:∀b,wW (q b) (c b)
 gp:∀b,fY s.dk.pl (nm b)=some (bD (p b))
 gl:∀b,fY s.dk.lo (ln b)=some (.tuple [bD (q b),dC (c b)])
 ap:∀e∈s.dk.pl,BZ e.2=true
 al:∀e∈s.dk.lo,BZ e.2=true
 lp:s.dk.pl.length<=k
 ll:s.dk.lo.length<=k
 mi:s.mi=[bZ (q false) (c false),bZ (q true) (c true)]
theorem Iv.up(h:Iv nm ln p q c k s)(hk:k<=j):Iv nm ln p q c j s:=
 ⟨h.pk,h.qk,h.cm,h.gp,h.gl,h.ap,h.al,aaW h.lp hk,aaW h.ll hk,h.mi⟩
theorem Qk{α:Type}{f:Bool->α}(h:f false≠f true)(hb:d≠b):f d≠f b:=by
 cases b<;>cases d
 .grind
 .grind
 .exact h
 .grind
theorem M5(b:Bool)(q':cA)(c':Int×Int):m5 [bZ (q false) (c false),bZ (q true) (c true)] b (bZ q' c')=[bZ (qZ q b q' false) (qZ c b c' false),bZ (qZ q b q' true) (qZ c b c' true)]:=by cases b<;>rfl
theorem VD{q:Bool->cA}{c:Bool->Int×Int}(b:Bool):CC [bZ (q false) (c false),bZ (q true) (c true)] b=bZ (q b) (c b):=by cases b<;>rfl
theorem RJ(p:cA):wW p (0,0):=aan
theorem Iv.so(h:Iv nm ln p q c k s)(Fk:ln false≠ln true)(b:Bool)(hq:Pk q')(hc:wW q' c'):
  Iv nm ln p (qZ q b q') (qZ c b c') (k+1) ⟨⟨s.dk.pl,dJ s.dk.lo (ln b) (.tuple [bD q',dC c'])⟩,m5 s.mi b (bZ q' c')⟩ where
 pk:=h.pk
 qk:=λd=>by
  by_cases z:d=b;.rw [z,kT];exact hq
  .rw [q9 _ _ z];exact h.qk d
 cm:=λd=>by
  by_cases z:d=b;.rw [z,kT,kT];exact hc
  .rw [q9 _ _ z,q9 _ _ z];exact h.cm d
 gp:=h.gp
 gl:=λd=>by
  by_cases z:d=b;.rw [z,kT,kT];exact lO _ _ _
  .rw [q9 _ _ z,q9 _ _ z];exact(lP (Qk Fk z)).trans (h.gl d)
 ap:=h.ap
 al:=lR h.al (A4 _ _)
 lp:=Nat.le_succ_of_le h.lp
 ll:=aaW (jq _ _ _) (ae7 h.ll)
 mi:=by show m5 s.mi b _=_;rw[h.mi];exact M5 b q' c'
theorem Iv.put(h:Iv nm ln p q c k s)(Zu:nm false≠nm true)(hp:∀b,Pk (p' b)):
  Iv nm ln p' q c (k+2) ⟨⟨dJ (dJ s.dk.pl (nm false) (bD (p' false))) (nm true) (bD (p' true)),s.dk.lo⟩,s.mi⟩ where
 pk:=hp
 qk:=h.qk
 cm:=h.cm
 gp:=λb=>by
  cases b;.exact (lP Zu).trans (lO _ _ _)
  .exact lO _ _ _
 gl:=h.gl
 ap:=lR (lR h.ap (wZ _)) (wZ _)
 al:=h.al
 lp:=by have:=jq (dJ s.dk.pl (nm false) (bD (p' false))) (nm true) (bD (p' true));have:=jq s.dk.pl (nm false) (bD (p' false));have:=h.lp;show(dJ (dJ s.dk.pl (nm false) (bD (p' false))) (nm true) (bD (p' true))).length<=k+2;lia
 ll:=aaW h.ll (Nat.le_add_right _ _)
 mi:=h.mi
def sV(S:D)(nm ln:Bool->Str)(z mo:D)(p:Bool->cA)(a m:Addr)(u v w:Option D):DS:=[some S,some (.list [.str (nm false),.str (nm true),z]),some (.list [.str (ln false),.str (ln true)]),some mo,some (.list [bD (p false),bD (p true)]),some (a9 a),some (a9 m),u,v,w]
abbrev stB(a m:Addr):GD Lw:=(cw (ip (bp 8 (bb (cD c9 2 (aa (ae 7) (aa (bb (df (aa (ax 2) (aa (ax 2) (aa (ax 8) (aa (ax 2) ag)))))) ag))))))
  (cw (ip (bp 9 (g2 bw (ae 8) (ax 0))))
  (cw (mz (yd (gB (g2 gT (g2 bw (ae 8) (ax 2)) (ax 1)))) (cw (Ax 6 m (ae 9) (aa (g2 bw (ae 4) (g2 bw (ae 8) (ax 3))) (aa (ax 0) (aa (ax 0) ag))))
  (mz (dB (d2 zL (cP Lw.dk (λs k=>⟨k,s.mi⟩) 5 a bg 2 (aa (g2 ao (g2 ao (g2 ao (bR "lot ") (g2 bw (ae 2) (ae 9))) (bR " ")) (g2 bw (ae 1) (g2 bw (ae 8) (ax 3)))) ag)) (bR "ok"))) (ip (bo (gC (.bool false)))) d6)) (mz (yd (gB (g2 gT (g2 bw (ae 8) (ax 2)) (ax 2)))) (cw (ip (bp 4 (bb (df (aa (g2 bw (ae 4) (ax 1)) (aa (g2 bw (ae 4) (ax 0)) ag))))))
  (mz (mZ (dB (zd Lw.dk (λs k=>⟨k,s.mi⟩) a dX 3 (aa (ae 5) (aa (ae 1) (aa (ae 4) ag)))))) (ip (bo (gC (.bool false)))) d6)) (mz (mZ (dB (Ay 5 6 a m fO (g2 bw (ae 2) (ae 9)) (ae 9) (g2 bw (bb (df (aa (bR "bad") (aa (bR "good") ag)))) (g2 bw (ae 8) (ax 1)))))) (ip (bo (gC (.bool false)))) d6)))
  (mz (mZ (dB (qS 5 6 a m fN (ae 2)))) (ip (bo (gC (.bool false)))) d6))))
theorem A5(hj:δ[j]?=some (some (a9 a)))(hg:gr δ=some ds)(hn:ds.length+1=n)(h:G a (a9 a::ds) s.dk=some (d,k)):cP Lw.dk (λs k=>⟨k,s.mi⟩) j a G n gr δ s=some (d,⟨k,s.mi⟩):=
 dN (get:=Lw.dk) (set:=λs k=>(⟨k,s.mi⟩:Lw)) hj hg hn h
theorem xa(hn:Nm n)(hm:Nm m){g1 g2':be}(h1:g1 δ=eU n)(h2:g2' δ=eU m):g2 ao (g2 ao (g2 ao (bR "lot ") g1) (bR " ")) g2' δ=some (.str (Vr n m)):=by
 have l1:=hn.len.2
 have l2:=hm.len.2
 rw[jo]at l1 l2
 have a:("lot ":Str).length=4:=by decide +kernel
 have e1:("lot "++n:Str).length=4+n.length:=by rw[<-jo,app_list,aaB,jo,jo,a]
 exact VA (aj rfl h1 (hJ (by lia))) h2 AN (by lia) (by lia)
theorem Ql(h:Iv nm ln p q c k s)(hl:∀b,Nm (ln b)):qS 5 6 a m fN (ae 2) (sV S nm ln z mo p a m u v w) s=some (.bool true,s):=by
 refine E2 rfl ?_
 have e:=M0 (a:=a) (hl false) (hl true) (h.qk false) (h.qk true) (h.cm false) (h.cm true) (h.gl false) (h.gl true)
 have e2:fN a [a9 a,.list [.str (ln false),.str (ln true)],.list (s.mi.map .list)] s.dk=some (.bool true,s.dk):=by rw[h.mi];exact e
 show(fN a [a9 a,.list [.str (ln false),.str (ln true)],.list (s.mi.map .list)] s.dk).bind _=_
 rw[e2]
 exact aaq ⟨rfl,Dm h.ap,Dm h.al⟩
theorem VF(x:Int):∃(b0 b1 b3:Bool) (d:Int),c9 [.int x,.list [.int 2,.int 2,.int 8,.int 2]]=some [.int (bI b0),.int (bI b1),.int d,.int (bI b3)]:=by
 obtain⟨_,e,l,rfl,hl,hb⟩:=yi x [2,2,8,2] (λb hb=>by simp at hb;lia) (by decide)
 obtain⟨l0,l1,l2,l3,rfl⟩:∃l0 l1 l2 l3,l=[l0,l1,l2,l3]:=by
  match l,hl with
  |[l0,l1,l2,l3],_=>exact⟨l0,l1,l2,l3,rfl⟩
 have h0:=hb 0 2 l0 rfl rfl
 have h1:=hb 1 2 l1 rfl rfl
 have h3:=hb 3 2 l3 rfl rfl
 obtain⟨b0,rfl⟩:=HC h0.1 h0.2
 obtain⟨b1,rfl⟩:=HC h1.1 h1.2
 obtain⟨b3,rfl⟩:=HC h3.1 h3.2
 exact⟨b0,b1,b3,l2,e⟩
theorem VG(hx:Nm x)(hy:Nm y)(h0:Pk p0)(h1:Pk p1)(hs:s.pl.length<1000):
  dX a [a9 a,.list [.str x,.str y,z],.list [bD p0,bD p1]] s=some (.bool true,⟨dJ (dJ s.pl x (bD p0)) y (bD p1),s.lo⟩):=zq hx hy h0 h1 hs
theorem RK(a b:Int):gT (.int a) (.int b)=some (.bool (decide (a=b))):=rfl
def sW(S z mo:D)(nm ln:Bool->Str)(a m:Addr)(x:Int)(N:D)(b0:Bool)(p:Bool->cA):DS:=sV S nm ln z mo p a m (some (.int x)) (some N) (some (.int (bI b0)))
theorem VH(h:Iv nm ln p q c k s)(hk:k<900)(hn:∀b,Nm (nm b))(hl:∀b,Nm (ln b))(Zu:nm false≠nm true)(Fk:ln false≠ln true)(x:Int)(v w:Option D):
  ∃p' q' c' s' v' w',(∀a m:Addr,stB a m (sV S nm ln z mo p a m (some (.int x)) v w) s=some (.nx (sV S nm ln z mo p' a m (some (.int x)) v' w'),s'))/\Iv nm ln p' q' c' (k+2) s':=by
 obtain⟨b0,b1,b3,d,e⟩:=VF x
 obtain⟨N,hN⟩:∃N:D,N=.list [.int (bI b0),.int (bI b1),.int d,.int (bI b3)]:=⟨_,rfl⟩
 have Ez:∀a m:Addr,ip (S:=Lw) (bp 8 (bb (cD c9 2 (aa (ae 7) (aa (bb (df (aa (ax 2) (aa (ax 2) (aa (ax 8) (aa (ax 2) ag)))))) ag))))) (sV S nm ln z mo p a m (some (.int x)) v w) s=some (.nx (sV S nm ln z mo p a m (some (.int x)) (some N) w),s):=λa m=>by
  rw[hN];exact dD (bh (br (fZ (cons_of rfl (cons_of rfl rfl)) rfl e)))
 have jF:∀a m:Addr,ip (S:=Lw) (bp 9 (g2 bw (ae 8) (ax 0))) (sV S nm ln z mo p a m (some (.int x)) (some N) w) s=some (.nx (sW S z mo nm ln a m x N b0 p),s):=λa m=>by
  rw[hN];exact dD (bh (aj rfl rfl rfl))
 have ix2:∀(a m:Addr) (p':Bool->cA),g2 bw (ae 8) (ax 2) (sW S z mo nm ln a m x N b0 p')=some (.int d):=λa m p'=>by rw[hN];rfl
 have ix3:∀(a m:Addr) (p':Bool->cA),g2 bw (ae 8) (ax 3) (sW S z mo nm ln a m x N b0 p')=some (.int (bI b3)):=λa m p'=>by rw[hN];rfl
 have ix1:∀(a m:Addr) (p':Bool->cA),g2 bw (ae 8) (ax 1) (sW S z mo nm ln a m x N b0 p')=some (.int (bI b1)):=λa m p'=>by rw[hN];rfl
 have fin:∀(a m:Addr) (p' q':Bool->cA) (c':Bool->Int×Int) (s':Lw),Iv nm ln p' q' c' (k+2) s'->mz (mZ (dB (qS 5 6 a m fN (ae 2)))) (ip (bo (gC (.bool false)))) d6 (sW S z mo nm ln a m x N b0 p') s'=some (.nx (sW S z mo nm ln a m x N b0 p'),s'):=λa m p' q' c' s' h'=>jc (vj (qY (Ql h' hl))) rfl
 have t1:∀a m:Addr,yd (S:=Lw) (gB (g2 gT (g2 bw (ae 8) (ax 2)) (ax 1))) (sW S z mo nm ln a m x N b0 p) s=some (decide (d=1),s):=λa m=>nD (bW (aj (ix2 a m p) rfl (RK d 1)))
 have t2:∀a m:Addr,yd (S:=Lw) (gB (g2 gT (g2 bw (ae 8) (ax 2)) (ax 2))) (sW S z mo nm ln a m x N b0 p) s=some (decide (d=2),s):=λa m=>nD (bW (aj (ix2 a m p) rfl (RK d 2)))
 by_cases h1:d=1
 .simp only[aas h1]at t1;have I2:=h.so Fk b0 (h.pk b3) (RJ (p b3));have pu:∀a m:Addr,Ax 6 m (ae 9) (aa (g2 bw (ae 4) (g2 bw (ae 8) (ax 3))) (aa (ax 0) (aa (ax 0) ag))) (sW S z mo nm ln a m x N b0 p) s=some (.nx (sW S z mo nm ln a m x N b0 p),⟨s.dk,m5 s.mi b0 (bZ (p b3) (0,0))⟩):=λa m=>by
   refine E2 rfl ?_;have e4:aa (g2 bw (ae 4) (g2 bw (ae 8) (ax 3))) (aa (ax 0) (aa (ax 0) ag)) (sW S z mo nm ln a m x N b0 p)=some (bZ (p b3) (0,0)):=cons_of (aj rfl (ix3 a m p) (bI2 bD p b3)) rfl;rw[e4,aac];show(E3 (.int (bI b0))).bind _=_;rw[RI,aac];exact(aaq (c:=(bZ (p b3) (0,0)).length<=100000) (e:=none) (by show 3<=100000;decide))
  have sy2:∀a m:Addr,dB (d2 zL (cP Lw.dk (λs k=>⟨k,s.mi⟩) 5 a bg 2 (aa (g2 ao (g2 ao (g2 ao (bR "lot ") (g2 bw (ae 2) (ae 9))) (bR " ")) (g2 bw (ae 1) (g2 bw (ae 8) (ax 3)))) ag)) (bR "ok")) (sW S z mo nm ln a m x N b0 p) ⟨s.dk,m5 s.mi b0 (bZ (p b3) (0,0))⟩=some (false,⟨⟨s.dk.pl,dJ s.dk.lo (ln b0) (.tuple [bD (p b3),dC (0,0)])⟩,m5 s.mi b0 (bZ (p b3) (0,0))⟩):=λa m=>
   qY (wO (A5 rfl (cons_of (xa (hl b0) (hn b3) (aj rfl rfl (bI2 PyData.str ln b0)) (aj rfl (ix3 a m p) (bI3 nm z b3))) rfl) rfl (sX (hl b0) (hn b3) (h.gp b3) (by have:=h.ll;show s.dk.lo.length<_;lia))) rfl (Di Hy));exact⟨p,_,_,_,_,_,λa m=>a4 (Ez a m) (a4 (jF a m) (a4 (nA (t1 a m) (a4 (pu a m) (jc (sy2 a m) rfl))) (fin a m p _ _ _ (I2.up (by lia))))),I2.up (by lia)⟩
 .simp only[aa3 h1]at t1;by_cases h2:d=2
  .simp only[aas h2]at t2;obtain⟨p',Uc⟩:∃p':Bool->cA,p'=λb=>p (!b):=⟨_,rfl⟩;have I2:=h.put Zu (p':=p') (λb=>by rw[Uc];exact h.pk _);have sw:∀a m:Addr,ip (S:=Lw) (bp 4 (bb (df (aa (g2 bw (ae 4) (ax 1)) (aa (g2 bw (ae 4) (ax 0)) ag))))) (sW S z mo nm ln a m x N b0 p) s=some (.nx (sW S z mo nm ln a m x N b0 p'),s):=λa m=>by
    rw[Uc];exact dD rfl
   have pt:∀a m:Addr,zd Lw.dk (λs k=>⟨k,s.mi⟩) a dX 3 (aa (ae 5) (aa (ae 1) (aa (ae 4) ag))) (sW S z mo nm ln a m x N b0 p') s=some (.bool true,⟨⟨dJ (dJ s.dk.pl (nm false) (bD (p' false))) (nm true) (bD (p' true)),s.dk.lo⟩,s.mi⟩):=λa m=>by
    refine(aaq ⟨rfl,rfl⟩).trans ?_;unfold wj;rw[VG (hn false) (hn true) (I2.pk false) (I2.pk true) (by have:=h.lp;lia)];rfl
   exact⟨p',_,_,_,_,_,λa m=>a4 (Ez a m) (a4 (jF a m) (a4 (jc (t1 a m) (nA (t2 a m) (a4 (sw a m) (jc (vj (qY (pt a m))) rfl)))) (fin a m p' _ _ _ I2))),I2⟩
  .simp only[aa3 h2]at t2;have hlo:s.dk.lo.length<100000:=by have:=h.ll;lia
   have wx:∀a m:Addr,g2 bw (bb (df (aa (bR "bad") (aa (bR "good") ag)))) (g2 bw (ae 8) (ax 1)) (sW S z mo nm ln a m x N b0 p)=some (.str (wd (!b1))):=λa m=>aj rfl (ix1 a m p) (by cases b1<;>rfl);obtain⟨s',qr⟩:∃s':Dk,s'=if nz (q b0) (c b0)=true then⟨s.dk.pl,dJ s.dk.lo (ln b0) (.tuple [bD (q b0),dC (j7 (!b1) (c b0))])⟩else s.dk:=⟨_,rfl⟩;have dr:∀a m:Addr,Ay 5 6 a m fO (g2 bw (ae 2) (ae 9)) (ae 9) (g2 bw (bb (df (aa (bR "bad") (aa (bR "good") ag)))) (g2 bw (ae 8) (ax 1))) (sW S z mo nm ln a m x N b0 p) s=some (.bool true,⟨s',m5 s.mi b0 (bZ (q b0) (Ws (!b1) (q b0) (c b0)))⟩):=λa m=>by
    refine E2 rfl ?_;refine(aaq rfl).trans ?_;rw[show g2 bw (ae 2) (ae 9) (sW S z mo nm ln a m x N b0 p)=some (.str (ln b0))from aj rfl rfl (bI2 PyData.str ln b0),aac];show(E3 (.int (bI b0))).bind _=_;rw[RI,aac,wx a m,aac];refine As λl=>?_;have hg:CC s.mi b0=bZ (q b0) (c b0):=by rw[h.mi];exact VD b0
    rw[hg,Dj (!b1) (hl b0) (h.qk b0) (h.cm b0) (h.gl b0) hlo,<-qr];rfl
   have I2:Iv nm ln p (qZ q b0 (q b0)) (qZ c b0 (Ws (!b1) (q b0) (c b0))) (k+2) ⟨s',m5 s.mi b0 (bZ (q b0) (Ws (!b1) (q b0) (c b0)))⟩:=by
    unfold Ws;by_cases hg:nz (q b0) (c b0)=true
    .rw [aaq hg]at qr;rw[aaq hg,qr];exact(h.so Fk b0 (h.qk b0) (wX (!b1) hg)).up (by lia)
    .rw [aaO hg]at qr;rw[aaO hg,qr];have eq:qZ q b0 (q b0)=q:=by funext d;unfold qZ;split<;>simp_all
     have ec:qZ c b0 (c b0)=c:=by funext d;unfold qZ;split<;>simp_all
     have em:m5 s.mi b0 (bZ (q b0) (c b0))=s.mi:=by rw[h.mi,M5,eq,ec]
     rw[eq,ec,em];exact h.up (by lia)
   exact⟨p,_,_,_,_,_,λa m=>a4 (Ez a m) (a4 (jF a m) (a4 (jc (t1 a m) (jc (t2 a m) (jc (vj (qY (dr a m))) rfl))) (fin a m p _ _ _ I2))),I2⟩
theorem VI(hn:∀b,Nm (nm b))(hl:∀b,Nm (ln b))(Zu:nm false≠nm true)(Fk:ln false≠ln true):∀(xs:List Int) (p q:Bool->cA) (c:Bool->Int×Int) (k:Nat) (s:Lw) (u v w:Option D),Iv nm ln p q c k s->k+2*xs.length<900->
  ∃p' s' u' v' w',∀a m:Addr,j2 (aO 7) (stB a m) (xs.map .int) (sV S nm ln z mo p a m u v w) s=some (.nx (sV S nm ln z mo p' a m u' v' w'),s'):=by
 intro xs
 induction xs with
 |nil=>exact λp q c k s u v w _ _=>⟨p,s,u,v,w,λa m=>rfl⟩
 |cons x xs ih=>
   intro p q c k s u v w h hk;rw[aaR]at hk;obtain⟨p1,q1,c1,s1,v1,w1,e1,h1⟩:=VH (S:=S) (z:=z) (mo:=mo) h (by lia) hn hl Zu Fk x v w;obtain⟨p2,s2,u2,v2,w2,e2⟩:=ih p1 q1 c1 (k+2) s1 (some (.int x)) v1 w1 h1 (by lia);refine⟨p2,s2,u2,v2,w2,λa m=>?_⟩;rw[aaw];unfold j2;rw[show aO 7 (.int x) (sV S nm ln z mo p a m u v w)=some (sV S nm ln z mo p a m (some (.int x)) v w)from rfl,aac,e1 a m];exact e2 a m
noncomputable def pick{α:Type}(u v:α):Bool->α
 |false=>u
 |true=>v
theorem VJ{α:Type}(enc:α->D){l:List α}(h1:a δ=some (.list (l.map enc)))(h2:lo δ=some x)(h3:hi δ=some y):∃m:List α,bb (xX a lo hi) δ=some (.list (m.map enc))/\m.length<=l.length:=by
 refine⟨(l.drop (HT.u6 l.length 0 x)).take (HT.u6 l.length l.length y-HT.u6 l.length 0 x),br ?_,?_⟩
 .unfold xX;rw[h1,aac,h2,aac,h3,aac];show some (cutD (l.map enc) x y)=_;unfold cutD;rw[aaj,List.map_take,List.map_drop]
 .grind
theorem A6(h:g δ=some ds)(hl:ds.length<=100000):df g δ=some ds:=by
 unfold df
 rw[h,aac,aaq hl]
theorem JA(h:g δ=some (.list l)):aZ g δ=some l:=by unfold aZ;rw[h];rfl
theorem M6(h:∀a,∃s',g a (δ.set j (some (a9 a))) ⟨[],[]⟩=some (.rt d,s'))(k:R d):gZ ((Au j g δ).bind fT) R:=by
 have e:Au j g δ=some (.rt d):=As λa=>by
  obtain⟨s',e⟩:=h a;rw[e];rfl
 rw[e]
 exact .mk rfl k
theorem M7(h0:gr δ=some d0)(h1:YR δ=some d1)(hl:d0.length<=100000/\d1.length<=100000)(h:∀m,∃mi,g m (δ.set j (some (a9 m))) ⟨s,[d0,d1]⟩=some (.rt r,⟨s',mi⟩)):Av j gr YR g δ s=some (.rt r,s'):=by
 unfold Av
 rw[h0,aac,h1,aac,aaq hl]
 refine As λm=>?_
 obtain⟨mi,e⟩:=h m
 rw[e];rfl
theorem M8(ns:List Int)(h:ns.length<=63):zk [.list (ns.map .int)]=some (.bool true):=by
 refine bu ?_
 have cl:∀{i:Nat} {δ:DS},aP cV 2 (aa (ae 0) (aa (gC (.int (i:Nat))) ag)) (some (.list (ns.map .int))::δ)=some (.int (ns.getD i 0)):=λ{i δ}=>call_of (cons_of rfl (cons_of rfl rfl)) rfl (Fg ns i)
 have p30:r8 (.int 10) (.int 30)=some (.int (10^30)):=Mi (k:=30) (by decide) (by decide)
 obtain⟨x,y,z,en,N3⟩:=Dh (n:=ns.getD 2 0%10^30) (abJ _ (by decide)) (abw _ (by decide))
 obtain⟨b2,hb2⟩:=HC (x:=ns.getD 2 0%2) (abJ _ (by decide)) (abw _ (by decide))
 obtain⟨m,hm1,TV,em⟩:=Fi (ns.getD 2 0/2)
 obtain⟨_,ep0,p0,rfl,hp0,Wc,h0⟩:=wK (ns.getD 0 0) m hm1 (by lia)
 obtain⟨_,ep1,p1,rfl,hp1,BA,h1⟩:=wK (ns.getD 1 0) m hm1 (by lia)
 obtain⟨l1,VL⟩:∃l1,l1=pick y z b2:=⟨_,rfl⟩
 have UK:Nm l1:=by rw[VL];cases b2;exact N3.b;exact N3.c
 have gK:x≠l1:=by rw[VL];cases b2;exact N3.ab;exact N3.ac
 have K0:Pk p0:=⟨hp0,by lia,h0⟩
 have K1:Pk p1:=⟨hp1,by lia,h1⟩
 refine bA [sL (ns.map .int),sL ([.str x,.str y,.str z]),none,none,none,none,none,none,none,none] (bh (br (fZ (cons_of (aj (cl (i:=2)) (aj rfl rfl p30) (eO (by decide))) rfl) rfl en))) ?_
 have g2e:g2 bw (bb (df (aa (g2 bw (ae 1) (ax 1)) (aa (g2 bw (ae 1) (ax 2)) ag)))) (g2 eu (aP cV 2 (aa (ae 0) (aa (ax 2) ag))) (ax 2)) [sL (ns.map .int),sL ([.str x,.str y,.str z]),none,none,none,none,none,none,none,none]=eU l1:=by
  refine aj (x:=.list [.str y,.str z]) (y:=.int (ns.getD 2 0%2)) rfl (aj (cl (i:=2)) rfl (eO (by decide))) ?_;rw[hb2,VL];cases b2<;>rfl
 refine bA [sL (ns.map .int),sL ([.str x,.str y,.str z]),sL ([.str x,.str l1]),none,none,none,none,none,none,none] (bh (br (A6 (ds:=[.str x,.str l1]) (cons_of rfl (cons_of g2e rfl)) (by show 2<=100000;decide)))) ?_
 refine bA [sL (ns.map .int),sL ([.str x,.str y,.str z]),sL ([.str x,.str l1]),sI (m:Nat),none,none,none,none,none,none] (bh (call_of (cons_of (aj (cl (i:=2)) rfl (dd 2 (by decide) (by decide))) rfl) rfl em)) ?_
 refine bA [sL (ns.map .int),sL ([.str x,.str y,.str z]),sL ([.str x,.str l1]),sI (m:Nat),sL ([bD p0,bD p1]),none,none,none,none,none] (bh (br (A6 (ds:=[bD p0,bD p1]) (cons_of (call_of (cons_of (cl (i:=0)) (cons_of rfl rfl)) rfl ep0) (cons_of (call_of (cons_of (cl (i:=1)) (cons_of rfl rfl)) rfl ep1) rfl)) (by show 2<=100000;decide)))) ?_
 obtain⟨P,hP⟩:∃P,P=dJ (dJ [] x (bD p0)) y (bD p1):=⟨_,rfl⟩
 obtain⟨L0,Zv⟩:∃L:List (Str×D),L=dJ [] x (.tuple [bD p0,dC (0,0)]):=⟨_,rfl⟩
 obtain⟨L,hL⟩:∃L,L=dJ L0 l1 (.tuple [bD p1,dC (0,0)]):=⟨_,rfl⟩
 have iv:Iv (pick x y) (pick x l1) (pick p0 p1) (pick p0 p1) (λ_=>(0,0)) 2 ⟨⟨P,L⟩,[bZ p0 (0,0),bZ p1 (0,0)]⟩:={
  pk:=λb=>by cases b;exact K0;exact K1
  qk:=λb=>by cases b;exact K0;exact K1
  cm:=λb=>RJ _
  gp:=λb=>by
   rw[hP];cases b;.exact (lP N3.ab).trans (lO _ _ _)
   .exact lO _ _ _
  gl:=λb=>by
   rw[hL,Zv];cases b;.exact (lP gK).trans (lO _ _ _)
   .exact lO _ _ _
  ap:=by
   rw[hP];exact lR (lR (λe he=>nomatch he) (wZ _)) (wZ _)
  al:=by
   rw[hL,Zv];exact lR (lR (λe he=>nomatch he) (A4 _ _)) (A4 _ _)
  lp:=by
   show P.length<=2;rw[hP];have:=jq (dJ [] x (bD p0)) y (bD p1);have:=jq [] x (bD p0);simp only[adj]at this;lia
  ll:=by
   show L.length<=2;rw[hL,Zv];have:=jq (dJ [] x (.tuple [bD p0,dC (0,0)])) l1 (.tuple [bD p1,dC (0,0)]);have:=jq [] x (.tuple [bD p0,dC (0,0)]);simp only[adj]at this;lia
  mi:=rfl}
 obtain⟨cs,ecs,hcs⟩:=VJ PyData.int (a:=ae 0) (lo:=e9 (ax 3)) (hi:=e9 (ax 43)) (δ:=[sL (ns.map .int)]) (l:=ns) rfl rfl rfl
 obtain⟨p',s',u',v',w',lp⟩:=VI (S:=.list (ns.map .int)) (z:=.str z) (mo:=.int (m:Nat)) (nm:=pick x y) (ln:=pick x l1) (λb=>by cases b;exact N3.a;exact N3.b) (λb=>by cases b;exact N3.a;exact UK) N3.ab gK (cs++[ns.getD 3 0]) _ _ _ 2 _ none none none iv (by rw[aaB,abx];lia)
 refine M6 (d:=.bool true) (λa=>⟨s'.dk,?_⟩) rfl
 have pt:zd id (λ_ k=>k) a dX 3 (aa (ae 5) (aa (ae 1) (aa (ae 4) ag))) [sL (ns.map .int),sL ([.str x,.str y,.str z]),sL ([.str x,.str l1]),sI (m:Nat),sL ([bD p0,bD p1]),some (a9 a),none,none,none,none] ⟨[],[]⟩=some (.bool true,⟨P,[]⟩):=by
  refine(aaq ⟨rfl,rfl⟩).trans ?_;unfold wj;rw[show dX a [a9 a,.list [.str x,.str y,.str z],.list [bD p0,bD p1]] (id ⟨[],[]⟩)=some (.bool true,⟨P,[]⟩)from(zq N3.a N3.b K0 K1 (by show 0<1000;decide)).trans (by rw[hP];rfl)];rfl
 refine a4 (jc (vj (qY pt)) rfl) ?_
 refine M7 (d0:=bZ p0 (0,0)) (d1:=bZ p1 (0,0)) rfl rfl ⟨by show 3<=100000;decide,by show 3<=100000;decide⟩ λmm=>⟨s'.mi,?_⟩
 have hx:=iv.gp false
 have hy:=iv.gp true
 have y1:dB (d2 zL (cP Lw.dk (λs k=>⟨k,s.mi⟩) 5 a bg 2 (aa (g2 ao (g2 ao (g2 ao (bR "lot ") (g2 bw (ae 2) (ax 0))) (bR " ")) (g2 bw (ae 1) (ax 0))) ag)) (bR "ok")) (sV (.list (ns.map .int)) (pick x y) (pick x l1) (.str z) (.int (m:Nat)) (pick p0 p1) a mm none none none) ⟨⟨P,[]⟩,[bZ p0 (0,0),bZ p1 (0,0)]⟩=some (false,⟨⟨P,L0⟩,[bZ p0 (0,0),bZ p1 (0,0)]⟩):=by
  rw[Zv];exact qY (wO (A5 rfl (cons_of (xa N3.a N3.a rfl rfl) rfl) rfl (sX N3.a N3.a hx (by show 0<100000;decide))) rfl (Di Hy))
 have y2:dB (d2 zL (cP Lw.dk (λs k=>⟨k,s.mi⟩) 5 a bg 2 (aa (g2 ao (g2 ao (g2 ao (bR "lot ") (g2 bw (ae 2) (ax 1))) (bR " ")) (g2 bw (ae 1) (ax 1))) ag)) (bR "ok")) (sV (.list (ns.map .int)) (pick x y) (pick x l1) (.str z) (.int (m:Nat)) (pick p0 p1) a mm none none none) ⟨⟨P,L0⟩,[bZ p0 (0,0),bZ p1 (0,0)]⟩=some (false,⟨⟨P,L⟩,[bZ p0 (0,0),bZ p1 (0,0)]⟩):=by
  rw[hL];refine qY (wO (A5 rfl (cons_of (xa UK N3.b rfl rfl) rfl) rfl (sX UK N3.b hy ?_)) rfl (Di Hy));have:=jq [] x (.tuple [bD p0,dC (0,0)]);rw[<-Zv]at this;simp only[adj]at this;show L0.length<_;lia
 refine a4 (jc (Zf y1 y2) rfl) ?_
 refine a4 (A2 (ds:=(cs++[ns.getD 3 0]).map .int) ?_ (lp a mm)) (dD rfl)
 refine JA (br ?_)
 have hc:Oo B4 (bb (xX (ae 0) (e9 (ax 3)) (e9 (ax 43)))) (bb (df (aa (aP cV 2 (aa (ae 0) (aa (ax 3) ag))) ag))) (sV (.list (ns.map .int)) (pick x y) (pick x l1) (.str z) (.int (m:Nat)) (pick p0 p1) a mm none none none)=some (cs.map .int++[.int (ns.getD 3 0)]):=Mm ecs (br (A6 (ds:=[.int (ns.getD 3 0)]) (cons_of (cl (i:=3)) rfl) (by show 1<=100000;decide))) (by rw[aaj];simp;lia)
 rw[abb]
 exact hc
theorem bJ(a:sc.kind=.function:=by rfl)(b:sc.isCoroutine=false:=by rfl)(c:sc.isGenerator=false:=by rfl)(d:N.Nodup:=by decide +kernel)(e:N.take P.length=P:=by rfl)(f:∀x∈P,sc.names.lookup x=some .local\/sc.names.lookup x=some .cell:=by decide +kernel)(g:∀y∈sc.names,y.2≠.free:=by decide +kernel):aB N P sc:=⟨a,b,c,d,e,f,g⟩
abbrev FP:Stmt:=top 16
theorem A7:aB ["top","bottom","shared"] ["top","bottom"] (ah FP):=bJ
abbrev gI:Stmt:=top 23
theorem bH:aB ["one","other","rest","pair"] ["one","other"] (ah gI):=bJ
abbrev tf:Stmt:=top 27
theorem lS:aB ["thing","there","place"] ["thing"] (ah tf):=bJ
abbrev tj:Stmt:=top 28
theorem xb:aB ["plan","count","draws"] ["plan","count"] (ah tj):=bJ
abbrev oN:Stmt:=top 29
theorem lU:aB ["plan","told","draws","place"] ["plan"] (ah oN):=bJ
abbrev A8:Stmt:=top 30
theorem Qm:aB ["plan"] ["plan"] (ah A8):=bJ
abbrev lV:Stmt:=top 31
theorem j8:aB ["plan","told","draws","place"] ["plan"] (ah lV):=bJ
abbrev lW:Stmt:=top 32
theorem kn:aB ["plan","counts","there","count"] ["plan","counts"] (ah lW):=bJ
abbrev ra:Stmt:=top 34
theorem JB:aB ["place"] ["place"] (ah ra):=bJ
abbrev A9:Stmt:=top 35
theorem M9:aB ["count","sign"] ["count","sign"] (ah A9):=bJ
abbrev lX:Stmt:=top 36
theorem Dp:aB ["thing","there"] ["thing","there"] (ah lX):=bJ
abbrev pW:Stmt:=top 37
theorem Dq:aB ["thing"] ["thing"] (ah pW):=bJ
abbrev tm:Stmt:=top 47
theorem FQ:aB ["plan","count"] ["plan","count"] (ah tm):=bJ
abbrev nH:Stmt:=top 48
theorem Ba:aB ["plan","count"] ["plan","count"] (ah nH):=bJ
abbrev nI:Stmt:=top 49
theorem hZ:aB ["plan","beginning","ways","count","many","led"] ["plan","beginning"] (ah nI):=bJ
abbrev pX:Stmt:=top 69
theorem Dr:aB ["plan","end"] ["plan","end"] (ah pX):=bJ
abbrev j9:Stmt:=top 75
theorem rb:aB ["text","plan"] ["text"] (ah j9):=bJ
abbrev jr:Stmt:=top 76
theorem yj:aB ["text"] ["text"] (ah jr):=bJ
abbrev ko:Stmt:=top 77
theorem xf:aB ["word"] ["word"] (ah ko):=bJ
abbrev ka:Stmt:=top 78
theorem Bb:aB ["word"] ["word"] (ah ka):=bJ
abbrev js:Stmt:=top 83
theorem yk:aB ["count"] ["count"] (ah js):=bJ
abbrev gm:Stmt:=top 84
theorem tq:aB ["fraction"] ["fraction"] (ah gm):=bJ
abbrev pY:Stmt:=top 88
theorem nJ:aB ["row","parts","words"] ["row"] (ah pY):=bJ
abbrev jt:Stmt:=top 89
theorem pd:aB ["deed","name","words","kinds"] ["deed","name","words"] (ah jt):=bJ
abbrev nK:Stmt:=top 90
theorem Bc:aB ["word","kind"] ["word","kind"] (ah nK):=bJ
abbrev dY:Stmt:=top 93
theorem xg:aB ["is_of_a_kind"] ["is_of_a_kind"] (ah dY):=bJ
abbrev gq:Stmt:=(inClass (top 105) 0)
theorem tu:aB ["self"] ["self"] (ah gq):=bJ
abbrev lY:Stmt:=(inClass (top 105) 1)
theorem iW:aB ["self","row","read","deed","name","told"] ["self","row"] (ah lY):=bJ
abbrev gu:Stmt:=(inClass (top 105) 2)
theorem tw:aB ["self","name","plan"] ["self","name","plan"] (ah gu):=bJ
abbrev fP:Stmt:=(inClass (top 105) 3)
theorem rf:aB ["self","name","plan_name"] ["self","name","plan_name"] (ah fP):=bJ
abbrev kb:Stmt:=(inClass (top 105) 4)
theorem ju:aB ["self","name","sign","lot","plan","count"] ["self","name","sign"] (ah kb):=bJ
abbrev eZ:Stmt:=(inClass (top 105) 5)
theorem pZ:aB ["self","name"] ["self","name"] (ah eZ):=bJ
abbrev fQ:Stmt:=(inClass (top 105) 6)
theorem rh:aB ["self","name"] ["self","name"] (ah fQ):=bJ
abbrev jv:Stmt:=top 106
theorem ym:aB ["name"] ["name"] (ah jv):=bJ
abbrev tz:Stmt:=top 107
theorem FR:aB ["deed","told"] ["deed","told"] (ah tz):=bJ
abbrev p5:Stmt:=top 109
theorem Ds:aB ["_law_script","_law_k"] ["_law_script","_law_k"] (ah p5):=bJ
abbrev lZ:Stmt:=top 110
theorem iK:aB ["_law_cell_here","_law_base","_law_many","_law_row","_law_k"] ["_law_cell_here","_law_base","_law_many"] (ah lZ):=bJ
abbrev nM:Stmt:=top 111
theorem jw:aB ["_law_cell_here","_law_base","_law_many","_law_row","_law_k","_law_number"] ["_law_cell_here","_law_base","_law_many"] (ah nM):=bJ
abbrev jT:Stmt:=top 112
theorem cu:aB ["_law_cell_here","_law_most_here","_law_rest","_law_many","_law_digits_here","_law_rows","_law_come","_law_at_here","_law_row"] ["_law_cell_here","_law_most_here"] (ah jT):=bJ
abbrev p6:Stmt:=top 113
theorem Du:aB ["_law_cell_here"] ["_law_cell_here"] (ah p6):=bJ
abbrev iL:Stmt:=top 114
theorem eD:aB ["_law_cell_here","_law_bases","_law_row","_law_made","_law_base"] ["_law_cell_here","_law_bases"] (ah iL):=bJ
abbrev p8:Stmt:=top 115
theorem fk:aB ["_law_plan_here","_law_ways_here","_law_n","_law_row","_law_bad","_law_here","_law_count"] ["_law_plan_here"] (ah p8):=bJ
abbrev iM:Stmt:=top 116
theorem xh:aB ["_law_plan_here"] ["_law_plan_here"] (ah iM):=bJ
abbrev kc:Stmt:=top 117
theorem cH:aB ["_law_cell_here","_law_letters","_law_words","_law_word","_law_k","_law_at_here","_law_names_here","_law_sign"] ["_law_cell_here"] (ah kc):=bJ
abbrev nN:Stmt:=top 118
theorem ck:aB ["_law_plan_here","_law_end","_law_ways_here","_law_first","_law_many","_law_row","_law_bad","_law_here","_law_count","_law_one","_law_other"] ["_law_plan_here","_law_end"] (ah nN):=bJ
abbrev nO:Stmt:=top 119
theorem eK:aB ["_law_desk","_law_name","_law_lot","_law_word","_law_plan_here","_law_bad","_law_good","e","_law_due"] ["_law_desk","_law_name","_law_lot","_law_word"] (ah nO):=bJ
abbrev tD:Stmt:=top 120
theorem xi:aB ["_law_desk","_law_names_here","_law_plans","_law_k"] ["_law_desk","_law_names_here","_law_plans"] (ah tD):=bJ
abbrev xj:Stmt:=top 121
theorem zr:aB ["_law_desk","_law_lots","_law_mine","_law_k"] ["_law_desk","_law_lots","_law_mine"] (ah xj):=bJ
abbrev nP:Stmt:=top 122
theorem jU:aB ["_law_script","_law_names_here","_law_lots","_law_most_here","_law_plans","_law_desk","_law_mine","_law_cell_here","_law_drawn_here","_law_at_here"] ["_law_script"] (ah nP):=bJ
theorem aG(i:Nat)(hN:X.N[i]?=some x:=by rfl)(hv:Od (X.env.scope.names.lookup x)=true:=by rfl)(hd:(x==("__debug__":Str))=false:=by decide)(xM:(x==("__classdict__":Str))=false:=by decide):PE X (.Name x pos) (gz X.K O (ae i)):=Tw (pv i hN hv hd xM)
theorem b8(i:Nat)(hN:X.N[i]?=some x:=by rfl)(hv:Od (X.env.scope.names.lookup x)=true:=by rfl)(hd:(x==("__debug__":Str))=false:=by decide)(xM:(x==("__classdict__":Str))=false:=by decide)(hi:i∉O:=by decide):PE X (.Name x pos) (tE X.K O (ae i)):=Tu (pv i hN hv hd xM) hi
theorem bL:PE X (.Constant (.int i) j pos) (gz X.K O (gC (.int i))):=PE.sh (aR aU)
theorem ir(i:Nat)(hN:X.N.Nodup)(he:PE X e (tE X.K O ge))(hi:X.N[i]?=some x:=by rfl)(hx:Loc X.env.scope x:=by first|exact Or.inl rfl|exact Or.inr rfl)(hs:swapsWith e (some (.Name x pos')) pos.line X.env=pure false:=by rfl)(hf:X.fn x=true\/X.env.scope.names.lookup x=some .local:=by first|exact .inl rfl|exact .inr rfl|assumption)(ho:i∉O:=by decide):PS X (.Assign [.Name x pos'] e pos) (L2.tS X.K O fr (bp i ge)):=Em (fR hN hi hx he hs hf) ho
theorem kr(F:Dn X.prog X.w X.K X.mg X.base k x ps (kF X.K n G))(hr:de kk X.A)(ha:PA X (e::es) (vD X.K O gr))(hk:k<=kk:=by decide)(hg:Gl X x:=by rfl)(pf:(x==("__debug__":Str))=false:=by decide)(he:starEach (e::es) X.env=(false,eval e X.env)::starEach es X.env:=by rfl)(i8:(backTo pos (starEach es X.env)).any (·.1)=false:=by rfl):PE X (.Call (.Name x p) (e::es) [] pos) (tE X.K O (aP G n gr)):=Ox F hr hk ha hg pf he i8
section
variable (P:Program)(w:World)(K:ak)(mg:dO)(base:Heap)
abbrev VM:Prop:=Dn P w K mg base 1 "_law_mixes" ["_law_cell_here","_law_base","_law_many"] (KG K 3 iU)
abbrev Qn(C:Addr):Prop:=Rc P w K mg base 7 C "say" ["self","row"] (lC K C 2 bg)
abbrev VN(C:Addr):Prop:=Rc P w K mg base 1 C "lot_named" ["self","name"] (lC K C 2 cj)
abbrev VO:Prop:=Dn P w K mg base 2 "ways_from" ["plan","beginning"] (kF K 2 gO)
abbrev VP:Prop:=Dn P w K mg base 1 "check_deeds" ["is_of_a_kind"] (kF K 1 eQ)
abbrev Zw(C:Addr):Prop:=Dn P w K mg base 8 "_law_drawn" ["_law_desk","_law_name","_law_lot","_law_word"] (UB K C 4 2 fO)
abbrev Zx:Prop:=Dn P w K mg base 1 "_law_digits" ["_law_cell_here","_law_base","_law_many"] (KG K 3 g8)
abbrev Zy(C:Addr):Prop:=Dn P w K mg base 8 "_law_put" ["_law_desk","_law_names_here","_law_plans"] (lC K C 3 dX)
abbrev VQ:Prop:=Dn P w K mg base 1 "goes_on" ["plan","count"] (kF K 2 eP)
abbrev Zz(C:Addr):Prop:=Rc P w K mg base 2 C "begin_lot" ["self","name","plan_name"] (lC K C 3 eY)
abbrev Na:Prop:=Dn P w K mg base 1 "after" ["count","sign"] (kF K 2 fK)
abbrev RL:Prop:=Dn P w K mg base 2 "_law_numbers" ["_law_cell_here","_law_bases"] (KG K 2 c9)
abbrev RM(C:Addr):Prop:=Dn P w K mg base 8 "_law_at" ["_law_desk","_law_lots","_law_mine"] (lC K C 3 fN)
abbrev RN:Prop:=Dn P w K mg base 2 "_law_plan" ["_law_cell_here","_law_most_here"] (kF K 2 jS)
abbrev RO(C:Addr):Prop:=Rc P w K mg base 1 C "put_plan" ["self","name","plan"] (lC K C 3 fM)
abbrev Nb:Prop:=Dn P w K mg base 1 "led_to" ["place"] (KG K 1 eC)
abbrev RP:Prop:=Dn P w K mg base 2 "_law_share" ["_law_plan_here","_law_end"] (kF K 2 gP)
abbrev RQ:Prop:=Dn P w K mg base 1 "greatest_divisor" ["one","other"] (kF K 2 eJ)
abbrev RR(C:Addr):Prop:=Rc P w K mg base 1 C "plan_named" ["self","name"] (lC K C 2 cF)
abbrev RS(C:Addr):Prop:=Jd P w K mg base 6 C "draw" ["self","name","sign"] (kQ K mg C 3 fL)
abbrev RT:Prop:=Dn P w K mg base 2 "read_words" ["deed","name","words"] (kF K 3 c8)
abbrev RU:Prop:=Dn P w K mg base 1 "_law_cell" ["_law_script","_law_k"] (kF K 2 cV)
abbrev RV:Prop:=Dn P w K mg base 1 "_law_written" ["_law_plan_here"] (kF K 1 eR)
abbrev RW:Prop:=Dn P w K mg base 1 "show_fraction" ["fraction"] (kF K 1 gj)
abbrev RX:Prop:=Dn P w K mg base 4 "check_ends" ["plan","counts"] (kF K 2 ji)
abbrev RY:Prop:=Dn P w K mg base 1 "_law_names" ["_law_cell_here"] (KG K 1 iV)
abbrev RZ(C:Addr):Prop:=Jd P w K mg base 7 C "say" ["self","row"] (kQ K mg C 2 dM)
abbrev R5:Prop:=Dn P w K mg base 1 "_law_most" ["_law_cell_here"] (kF K 1 lL)
abbrev R6:Prop:=Dn P w K mg base 1 "_law_ways" ["_law_plan_here"] (kF K 1 iA)
abbrev R7:Prop:=Dn P w K mg base 3 "first_bad" ["plan","count"] (kF K 2 j4)
abbrev R8:Prop:=Dn P w K mg base 2 "is_place" ["thing","there"] (kF K 2 du)
abbrev R9:Prop:=Dn P w K mg base 1 "read_word" ["word","kind"] (kF K 2 fi)
abbrev Sa:Prop:=Dn P w K mg base 3 "ways_to" ["plan","count"] (kF K 2 oF)
abbrev Sb:Prop:=Dn P w K mg base 5 "share_at" ["plan","end"] (kF K 2 jR)
abbrev Sd:Prop:=Dn P w K mg base 2 "read_number" ["word"] (kF K 1 f9)
abbrev Se:Prop:=Dn P w K mg base 1 "show_count" ["count"] (kF K 1 jk)
abbrev Sf:Prop:=Dn P w K mg base 5 "plan_by" ["deed","told"] (kF K 2 oG)
abbrev Sg:Prop:=Dn P w K mg base 3 "read_place" ["text"] (kF K 1 g6)
abbrev Sh:Prop:=Dn P w K mg base 1 "check_name" ["name"] (kF K 1 g7)
abbrev Si:Prop:=Dn P w K mg base 1 "is_number" ["word"] (kF K 1 iS)
abbrev Sj:Prop:=Dn P w K mg base 4 "read_plan" ["text"] (kF K 1 iT)
abbrev Sk:Prop:=Dn P w K mg base 1 "is_whole" ["thing"] (kF K 1 gG)
abbrev Sl:Prop:=Dn P w K mg base 2 "frac" ["top","bottom"] (kF K 2 AB)
abbrev Sn:Prop:=Dn P w K mg base 1 "drawn_on" ["plan"] (KG K 1 jQ)
abbrev So:Prop:=Dn P w K mg base 3 "is_plan" ["thing"] (kF K 1 oE)
abbrev Sq:Prop:=Dn P w K mg base 3 "read_row" ["row"] (kF K 1 dW)
abbrev Sr:Prop:=Dn P w K mg base 2 "come_to" ["plan"] (KG K 1 jC)
abbrev Ss:Prop:=Dn P w K mg base 3 "ends" ["plan"] (KG K 1 AD)
end
section
variable {P:Program}{w:World}{K:ak}{mg:dO}{base:Heap}
theorem oU(F:Df K mg "greatest_divisor" gI ["one","other"])(B:Bs mg)(FT:Cn mg "LONG" (.int (4000))):RQ P w K mg base:=
 cc [] gE F bH λf cn A outer s H E hr=>(aq (ir 0 bH.nd (bx vt zQ rfl B.abs Ei (ay (aG 0) aH)))
  (aq (ir 1 bH.nd (bx vt zQ rfl B.abs Ei (ay (aG 1) aH)))
  (aq (vK aa0 (aT (mS hr) mT (aG 1) bL (ba _)) (aq (ir 2 bH.nd (au b6 aV (aG 0) (aG 1)))
  (aq (ir 0 bH.nd (b8 1))
  (aq (ir 1 bH.nd (b8 2))
  (ar (cI (aT qw cS (PE.sh (OB (aG 1))) (PE.sh (aR (oY FT))) (ba _)) (aq cW
  (aq (ir 0 bH.nd (aS (aG 3) bL))
  (ar (ir 1 bH.nd (aS (aG 3) bL))))) bK))))))
  (ar (aW (b8 0))))))
theorem Qo(F:Df K mg "frac" FP ["top","bottom"])(B:Bs mg)(gJ:RQ P w K mg base):Sl P w K mg base:=
 cc [] E8 F A7 λf cn A outer s H E hr=>(aq (cI (aT (bQ hr) imp_eq (aG 1) bL (ba _)) (ar cW) bK)
  (aq (ir 2 A7.nd (kr gJ hr (af (b8 0) (af (b8 1) ai))))
  (aq (cI (aT yH cS (aG 1) bL (ba _)) (ar (ir 2 A7.nd (El (aG 2)))) bK)
  (ar (aW (cU (af (au cb aV (aG 0) (aG 2)) (af (au cb aV (aG 1) (aG 2)) ai))))))))
theorem Dv(F:Df K mg "is_whole" pW ["thing"])(B:Bs mg):Sk P w K mg base:=
 cc [] pM F Dq λf cn A outer s H E hr=>(ar (aW (vF (zS "int" B.isinstance (aG 0) (u4 rfl B.int vB (v:=.ty "int") rfl)) (rM (KE (PE.sh (zS "bool" B.isinstance (aG 0) (u4 rfl B.bool Oj (v:=.ty "bool") rfl))))))))
theorem Dw(F:Df K mg "is_place" lX ["thing","there"])(B:Bs mg)(p9:Sk P w K mg base):R8 P w K mg base:=
 cc [] pN F Dp λf cn A outer s H E hr=>(aq (cI (PW.pt (pw (fA (eA (PE.sh (zS "tuple" B.isinstance (aG 0) (u4 rfl B.tuple kE (v:=.ty "tuple") rfl))))) (pw_or1 (aT (bQ hr) imp_eq (PE.sh (bx bG cG rfl B.len dP (ay (aG 0) aH))) bL (ba _))))) (ar (aW (ig ic))) bK)
  (aq (cI (fA (eA (PE.sh (bx (sj rfl) Ae rfl B.all EG (ay (PE.sh (PE.nE (PE.EL (cJ (ah lX) ["thing","there"] [1] ["bad","there"] ["bad"] mU (PI.c (cy (b8 0))) (λ_ _ _ _ _ _=>(aI (aQ (i:=0) (show(["bad","there"]:List Str).Nodup from by decide +kernel) rfl (Or.inl rfl)))) (λ_ _ _ _ _ _=>d9) (λ_ _ _ _ _ _=>(vF (kr p9 hr (af (b8 0) ai)) (rM (iw KR KS (aG 0) (aG 1) (by with_unfolding_all rfl))))))))) aH))))) (ar (aW (ig ic))) bK)
  (ar (aW (iw (bQ hr) imp_eq (PE.sh (PE.nE (vI qz B6 rfl B.list Gs (ay (aG 0) aH)))) (PE.sh (PE.nE (pC B.sorted B.set (aG 0)))) (ba _))))))
theorem JC(F:Df K mg "led_to" ra ["place"])(B:Bs mg):Nb P w K mg base:=
 jX [] wF F JB λf cn A outer s H E hr=>(ar (ve (pC B.sorted B.set (PE.sh (PE.nE (Ek vc vd (PE.sh (PE.nE (vI qz B6 rfl B.list Gs (ay (aG 0) aH)))) (PE.sh (PE.nE (PE.EL (cJ (ah ra) ["place"] [] ["bad"] ["bad"] mU (PI.c (cy (b8 0))) (λ_ _ _ _ _ _=>(aI (aQ (i:=0) (show(["bad"]:List Str).Nodup from by decide +kernel) rfl (Or.inl rfl)))) (λ_ _ _ _ _ _=>d9) (λ_ _ _ _ _ _=>(au aE aw (aG 0) bL))))))))))))
theorem FU(F:Df K mg "is_plan" tf ["thing"])(B:Bs mg)(ku:Cn mg "MOST_PLACES" (.int (24)))(qa:R8 P w K mg base)(kU:Nb P w K mg base):So P w K mg base:=
 cc [] sC F lS λf cn A outer s H E hr=>(aq (cI (PW.pt (pw (fA (eA (PE.sh (zS "tuple" B.isinstance (aG 0) (u4 rfl B.tuple kE (v:=.ty "tuple") rfl))))) (pw_or1 (fA (r9 BM cS BM cS bL (PE.sh (bx bG cG rfl B.len dP (ay (aG 0) aH))) (PE.sh (aR (oY ku)))))))) (ar (aW (ig ic))) bK)
  (aq (ir 1 lS.nd (PE.nE (eF (af (aR aU) ai))))
  (aq (fb aa0 rfl (cy (b8 0)) (aI (aQ (i:=2) lS.nd rfl (Or.inl rfl)))
   (aq (cI (fA (eA (PE.sh (kr qa hr (af (b8 2) (af (b8 1) ai)))))) (ar (aW (ig ic))) bK)
  (ar (ir 1 lS.nd (PE.nE (fW kU hr (by decide) (af (b8 2) ai)))))))
  (ar (aW (ig ic))))))
theorem FV(F:Df K mg "goes_on" tj ["plan","count"])(B:Bs mg):VQ P w K mg base:=
 cc [] sF F xb λf cn A outer s H E hr=>(aq (ir 2 xb.nd (au aE aw (PE.sh (aS (aG 1) bL)) (PE.sh (aS (aG 1) bL))))
  (ar (aW (vF (KP BM cS yH cS bL (aG 2) (PE.sh (bx bG cG rfl B.len dP (ay (aG 0) aH)))) (rM (iw KR KS (PE.sh (aS (aG 1) bL)) (PE.sh (aS (aG 0) (aG 2))) (by with_unfolding_all rfl)))))))
theorem FW(F:Df K mg "come_to" oN ["plan"])(B:Bs mg)(kU:Nb P w K mg base):Sr P w K mg base:=
 jX [1] sG F lU λf cn A outer s H E hr=>(aq (lq (fR (i:=1) lU.nd rfl (Or.inl rfl) (eF (af (cU (af (aR aU) (af (aR aU) ai))) ai))))
  (aq (fb aa0 rfl (Lq B.enumerate (b8 0)) (oj rfl (di (aI (aQ (i:=2) lU.nd rfl (Or.inr rfl))) (di (aI (aQ (i:=3) lU.nd rfl (Or.inl rfl))) lr)))
   (ar (yV (fw (mM ab6 adT PySem.F.type_list_extend yO (pv 1) (aY (PE.EL (cJ (ah oN) ["plan","told","draws","place"] [2] ["bad","draws"] ["bad"] mU (PI.c (cy (PE.nE (fW kU hr (by decide) (af (b8 3) ai))))) (λ_ _ _ _ _ _=>(aI (aQ (i:=0) (show(["bad","draws"]:List Str).Nodup from by decide +kernel) rfl (Or.inl rfl)))) (λ_ _ _ _ _ _=>d9) (λ_ _ _ _ _ _=>(cU (af (b8 0) (af (au k9 qA (aG 1) (aG 0)) ai)))))) b9))))))
  (ar (gL (pv 1)))))
theorem Qp(F:Df K mg "ends" A8 ["plan"])(B:Bs mg)(tF:Sr P w K mg base)(iE:VQ P w K mg base):Ss P w K mg base:=
 jX [] Fb F Qm λf cn A outer s H E hr=>(ar (ve (cJ (ah A8) ["plan"] [0] ["count","plan"] ["count"] mU (PI.c (cy (PE.nE (fW tF hr (by decide) (af (b8 0) ai))))) (λ_ _ _ _ _ _=>(aI (aQ (i:=0) (show(["count","plan"]:List Str).Nodup from by decide +kernel) rfl (Or.inl rfl)))) (λ_ _ _ _ _ _=>(Le (fA (eA (PE.sh (kr iE hr (af (b8 1) (af (b8 0) ai)))))))) (λ_ _ _ _ _ _=>(b8 0)))))
theorem Dx(F:Df K mg "drawn_on" lV ["plan"])(B:Bs mg):Sn P w K mg base:=
 jX [1] pO F j8 λf cn A outer s H E hr=>(aq (lq (fR (i:=1) j8.nd rfl (Or.inl rfl) (eF ai)))
  (aq (fb aa0 rfl (vY B.enumerate (b8 0)) (oj rfl (di (aI (aQ (i:=2) j8.nd rfl (Or.inr rfl))) (di (aI (aQ (i:=3) j8.nd rfl (Or.inl rfl))) lr)))
   (ar (yV (fw (mM ab6 adT PySem.F.type_list_extend yO (pv 1) (aY (PE.EL (cJ (ah lV) ["plan","told","draws","place"] [2] ["bad","draws"] ["bad"] mU (PI.c (cy (b8 3))) (λ_ _ _ _ _ _=>(aI (aQ (i:=0) (show(["bad","draws"]:List Str).Nodup from by decide +kernel) rfl (Or.inl rfl)))) (λ_ _ _ _ _ _=>d9) (λ_ _ _ _ _ _=>(cU (af (b8 0) (af (au k9 qA (aG 1) (aG 0)) ai)))))) b9))))))
  (ar (gL (pv 1)))))
theorem yn(F:Df K mg "check_ends" lW ["plan","counts"])(B:Bs mg)(FX:Ss P w K mg base):RX P w K mg base:=
 cc [] lG F kn λf cn A outer s H E hr=>(aq (ir 2 kn.nd (PE.nE (fW FX hr (by decide) (af (b8 0) ai))))
  (ar (fb aa0 rfl (cy (b8 1)) (aI (aQ (i:=3) kn.nd rfl (Or.inl rfl)))
   (ar (cI (aT (IJ hr) OS (aG 3) (aG 2) (by with_unfolding_all rfl)) (ar cW) bK)))))
theorem Nc(F:Df K mg "after" A9 ["count","sign"])(B:Bs mg):Na P w K mg base:=
 cc [] AE F M9 λf cn A outer s H E hr=>(aq (cI (aT (bQ hr) imp_eq (aG 1) (PE.sh (aJ aK)) (ba _)) (ar (aW (cU (af (au aE aw (PE.sh (aS (aG 0) bL)) bL) (af (aS (aG 0) bL) ai))))) bK)
  (ar (aW (cU (af (aS (aG 0) bL) (af (au aE aw (PE.sh (aS (aG 0) bL)) bL) ai))))))
theorem Bd(F:Df K mg "ways_from" nI ["plan","beginning"])(B:Bs mg)(l5:Na P w K mg base)(qb:Sn P w K mg base):VO P w K mg base:=
 cc [2] m7 F hZ λf cn A outer s H E hr=>let hu:=abl (abB (show 1<=64 by decide) _) hr.units;(aq (Ai (fR (i:=2) hZ.nd rfl (Or.inl rfl) (v5 hu (aG 1) (aR aU))))
  (aq (fb aa0 rfl (cy (PE.nE (fW qb hr (by decide) (af (b8 0) ai)))) (aI (aQ (i:=3) hZ.nd rfl (Or.inl rfl)))
   (aq (ir 4 hZ.nd (fX hu (aG 2) (aG 3) (aR aU)))
  (ar (fb aa0 rfl (cy (cU (af (kr l5 hr (af (b8 3) (af (aJ aK) ai))) (af (kr l5 hr (af (b8 3) (af (aJ aK) ai))) ai)))) (aI (aQ (i:=5) hZ.nd rfl (Or.inl rfl)))
   (ar (Ah (vb hu (pv 2) (aG 5) (au aE aw (PE.sh (fX hu (aG 2) (aG 5) (aR aU))) (aG 4)) (by rfl))))))))
  (ar (gL (pv 2)))))
theorem FY(F:Df K mg "ways_to" tm ["plan","count"])(B:Bs mg)(gQ:VO P w K mg base):Sa P w K mg base:=
 cc [] sH F FQ λf cn A outer s H E hr=>let hu:=abl (abB (show 1<=64 by decide) _) hr.units;(ar (aW (fX hu (PE.sh (kr gQ hr (af (b8 0) (af (cU (af (aR aU) (af (aR aU) ai))) ai)))) (aG 1) (aR aU))))
theorem Be(F:Df K mg "first_bad" nH ["plan","count"])(B:Bs mg)(gQ:VO P w K mg base):R7 P w K mg base:=
 cc [] m8 F Ba λf cn A outer s H E hr=>let hu:=abl (abB (show 1<=64 by decide) _) hr.units;(ar (aW (fX hu (PE.sh (kr gQ hr (af (b8 0) (af (cU (af (aR aU) (af (aR aU) ai))) ai)))) (aG 1) (aR aU))))
theorem Dy(F:Df K mg "share_at" pX ["plan","end"])(B:Bs mg)(l6:RX P w K mg base)(nQ:R7 P w K mg base)(FZ:Sl P w K mg base)(tH:Sa P w K mg base):Sb P w K mg base:=
 cc [] pP F Dr λf cn A outer s H E hr=>(aq (qD (fw (kr l6 hr (af (b8 0) (af (PE.nE (eF (af (b8 1) ai))) ai)))))
  (ar (aW (kr FZ hr (af (kr nQ hr (af (b8 0) (af (b8 1) ai))) (af (kr tH hr (af (b8 0) (af (b8 1) ai))) ai))))))
theorem Bf(F:Df K mg "is_number" ka ["word"])(B:Bs mg)(tJ:Cn mg "FIGURES" (.str "0123456789")):Si P w K mg base:=
 cc [] m9 F Bb λf cn A outer s H E hr=>(aq (cI (PW.pt (pw (aT (bQ hr) imp_eq (aG 0) (PE.sh (aJ aK)) (ba _)) (pw_or1 (fA (eA (PE.sh (bx (sj rfl) Ae rfl B.all EG (ay (PE.sh (PE.nE (PE.EL (cJ (ah ka) ["word"] [] ["sign"] ["sign"] mU (PI.c (Cp (b8 0))) (λ_ _ _ _ _ _=>(aI (aQ (i:=0) (show(["sign"]:List Str).Nodup from by decide +kernel) rfl (Or.inl rfl)))) (λ_ _ _ _ _ _=>d9) (λ_ _ _ _ _ _=>(iw yI GP (aG 0) (PE.sh (aJ (oY tJ))) (by with_unfolding_all rfl))))))) aH)))))))) (ar (aW (ig ic))) bK)
  (ar (aW (X5 (iw (bQ hr) imp_eq (aG 0) (PE.sh (aJ aK)) (ba _)) (rM (iw (mS hr) mT (PE.sh (aS (aG 0) bL)) (PE.sh (aJ aK)) (ba _)))))))
theorem xm(F:Df K mg "read_number" ko ["word"])(B:Bs mg)(fq:Cn mg "MOST_FIGURES_texts" (.int (2)))(nR:Si P w K mg base):Sd P w K mg base:=
 cc [] ki F xf λf cn A outer s H E hr=>(aq (cI (PW.pt (pw (fA (eA (PE.sh (kr nR hr (af (b8 0) ai))))) (pw_or1 (aT qw cS (PE.sh (bx bG cG rfl B.len dP (ay (aG 0) aH))) (PE.sh (aR (oY fq))) (ba _))))) (ar cW) bK)
  (ar (aW (bV IL Lv rfl B.int vB (ay (aG 0) aH)))))
theorem yo(F:Df K mg "read_place" jr ["text"])(B:Bs mg)(kx:Sd P w K mg base):Sg P w K mg base:=
 cc [] lH F yj λf cn A outer s H E hr=>(ar (aW (bV iF oi rfl B.tuple kE (ay (PE.sh (PE.nE (PE.EL (cJ (ah jr) ["text"] [] ["word"] ["word"] mU (PI.c (cy (PE.nE (wa (aG 0) (PE.sh (aJ aK)))))) (λ_ _ _ _ _ _=>(aI (aQ (i:=0) (show(["word"]:List Str).Nodup from by decide +kernel) rfl (Or.inl rfl)))) (λ_ _ _ _ _ _=>d9) (λ_ _ _ _ _ _=>(kr kx hr (af (b8 0) ai))))))) aH))))
theorem Bg(F:Df K mg "read_plan" j9 ["text"])(B:Bs mg)(tK:So P w K mg base)(l7:Sg P w K mg base):Sj P w K mg base:=
 cc [] ng F rb λf cn A outer s H E hr=>(aq (ir 1 rb.nd (bV iF oi rfl B.tuple kE (ay (PE.sh (PE.nE (PE.EL (cJ (ah j9) ["text","plan"] [] ["part"] ["part"] mU (PI.c (cy (PE.nE (wa (aG 0) (PE.sh (aJ aK)))))) (λ_ _ _ _ _ _=>(aI (aQ (i:=0) (show(["part"]:List Str).Nodup from by decide +kernel) rfl (Or.inl rfl)))) (λ_ _ _ _ _ _=>d9) (λ_ _ _ _ _ _=>(kr l7 hr (af (b8 0) ai))))))) aH)))
  (aq (cI (fA (eA (PE.sh (kr tK hr (af (b8 1) ai))))) (ar cW) bK)
  (ar (aW (b8 1)))))
theorem tL(F:Df K mg "show_fraction" gm ["fraction"])(B:Bs mg):RW P w K mg base:=
 cc [] i5 F tq λf cn A outer s H E hr=>(aq (cI (aT (bQ hr) imp_eq (PE.sh (aS (aG 0) bL)) bL (ba _)) (ar (aW (bV cZ jh rfl B.str lh (ay (PE.sh (aS (aG 0) bL)) aH)))) bK)
  (ar (aW (vf (PE.sh (aJ aK)) (PE.nE (PE.EL (cJ (ah gm) ["fraction"] [] ["number"] ["number"] mU (PI.c (cy (b8 0))) (λ_ _ _ _ _ _=>(aI (aQ (i:=0) (show(["number"]:List Str).Nodup from by decide +kernel) rfl (Or.inl rfl)))) (λ_ _ _ _ _ _=>d9) (λ_ _ _ _ _ _=>(bV cZ jh rfl B.str lh (ay (aG 0) aH))))))))))
theorem yp(F:Df K mg "show_count" js ["count"])(B:Bs mg):Se P w K mg base:=
 cc [] lI F yk λf cn A outer s H E hr=>(ar (aW (vf (PE.sh (aJ aK)) (PE.nE (PE.EL (cJ (ah js) ["count"] [] ["number"] ["number"] mU (PI.c (cy (b8 0))) (λ_ _ _ _ _ _=>(aI (aQ (i:=0) (show(["number"]:List Str).Nodup from by decide +kernel) rfl (Or.inl rfl)))) (λ_ _ _ _ _ _=>d9) (λ_ _ _ _ _ _=>(bV cZ jh rfl B.str lh (ay (aG 0) aH)))))))))
theorem xn(F:DfA K mg "check_deeds" "check" dY ["is_of_a_kind"])(B:Bs mg):VP P w K mg base:=
 PH [] kj F xg λf cn A outer s H E hr=>(ar (cI (fA (eA (aG 0))) (ar cW) bK))
theorem Bh(F:Df K mg "read_word" nK ["word","kind"])(B:Bs mg):R9 P w K mg base:=
 cc [] ni F Bc λf cn A outer s H E hr=>(aq (cI (aT (bQ hr) imp_eq (aG 1) (PE.sh (aJ aK)) (ba _)) (ar (aW (b8 0))) bK)
  (aq (cI (aT (bQ hr) imp_eq (aG 1) (PE.sh (aJ aK)) (ba _)) (ar cW) bK)
  (aq (cI (PW.pt (oh (aT (bQ hr) imp_eq (aG 1) (PE.sh (aJ aK)) (ba _)) (pw_and1 (aT (bQ hr) imp_eq (aG 0) (PE.sh (aJ aK)) (ba _))))) (ar (aW (El bL))) bK)
  (ar cW))))
theorem yq(F:Df K mg "read_words" jt ["deed","name","words"])(B:Bs mg)(FM:Pg w K mg "FORMS" Jm)(dZ:VP P w K mg base)(nU:R9 P w K mg base):RT P w K mg base:=
 cc [] lJ F pd λf cn A outer s H E hr=>(aq (qD (fw (kr dZ hr (af (Uz FM (b8 0)) ai))))
  (aq (ir 3 pd.nd (Pj FM (b8 0)))
  (aq (qD (fw (kr dZ hr (af (iw (bQ hr) imp_eq (PE.sh (bx bG cG rfl B.len dP (ay (aG 2) aH))) (PE.sh (bx bG cG rfl B.len dP (ay (aG 3) aH))) (ba _)) ai))))
  (ar (aW (cU (af (b8 0) (af (b8 1) (af (PE.nE (cJ (ah jt) ["deed","name","words","kinds"] [] ["word","kind"] ["word","kind"] Yu (PI.c (PN B.zip (b8 2) (b8 3))) (λ_ _ _ _ _ _=>(oj rfl (di (aI (aQ (i:=0) (show(["word","kind"]:List Str).Nodup from by decide +kernel) rfl (Or.inl rfl))) (di (aI (aQ (i:=1) (show(["word","kind"]:List Str).Nodup from by decide +kernel) rfl (Or.inl rfl))) lr)))) (λ_ _ _ _ _ _=>d9) (λ_ _ _ _ _ _=>(kr nU hr (af (b8 0) (af (b8 1) ai)))))) ai)))))))))
theorem Dz(F:Df K mg "read_row" pY ["row"])(B:Bs mg)(dZ:VP P w K mg base)(jx:RT P w K mg base):Sq P w K mg base:=
 cc [] pQ F nJ λf cn A outer s H E hr=>(aq (ir 1 nJ.nd (PE.nE (Jc (aG 0) (PE.sh (aJ aK)) bL)))
  (aq (cI (PW.pt (oh (aT (bQ hr) imp_eq (PE.sh (bx bG cG rfl B.len dP (ay (aG 1) aH))) bL (ba _)) (oh (aT (bQ hr) imp_eq (PE.sh (aS (aG 1) bL)) (PE.sh (aJ aK)) (ba _)) (oh (aT (mS hr) mT (PE.sh (aS (aG 1) bL)) (PE.sh (aJ aK)) (ba _)) (pw_and1 (aT (bQ hr) imp_eq (PE.sh (aS (aG 1) bL)) (PE.sh (aJ aK)) (ba _))))))) (ar (aW (cU (af (aJ aK) (af (aS (aG 1) bL) (af (PE.nE (eF (af (aS (aG 1) bL) ai))) ai)))))) bK)
  (aq (ir 2 nJ.nd (PE.nE (wa (aG 0) (PE.sh (aJ aK)))))
  (aq (qD (fw (kr dZ hr (af (vF (iw sd se (PE.sh (aJ aK)) (aG 2) (by with_unfolding_all rfl)) (rM (iw BN cS (PE.sh (bx bG cG rfl B.len dP (ay (aG 2) aH))) bL (ba _)))) ai))))
  (aq (cI (PW.pt (oh (aT (bQ hr) imp_eq (PE.sh (aS (aG 2) bL)) (PE.sh (aJ aK)) (ba _)) (pw_and1 (aT BN cS (PE.sh (bx bG cG rfl B.len dP (ay (aG 2) aH))) bL (ba _))))) (ar (aW (kr jx hr (af (au aE aw (PE.sh (aJ aK)) (PE.sh (aS (aG 2) bL))) (af (aS (aG 2) bL) (af (PE.nE (zU (aG 2) (iP bL) qB)) ai)))))) bK)
  (ar (aW (kr jx hr (af (aS (aG 2) bL) (af (aS (aG 2) bL) (af (PE.nE (zU (aG 2) (iP bL) qB)) ai)))))))))))
theorem yr(F:Df K mg "check_name" jv ["name"])(B:Bs mg)(jV:Cn mg "MOST_LETTERS" (.int (8)))(tM:Cn mg "LETTERS" (.str "abcdefghijklmnopqrstuvwxyz")):Sh P w K mg base:=
 cc [] jm F ym λf cn A outer s H E hr=>(ar (cI (PW.pt (pw (fA (r9 BM cS BM cS bL (PE.sh (bx bG cG rfl B.len dP (ay (aG 0) aH))) (PE.sh (aR (oY jV))))) (pw_or1 (fA (eA (PE.sh (bx (sj rfl) Ae rfl B.all EG (ay (PE.sh (PE.nE (PE.EL (cJ (ah jv) ["name"] [] ["sign"] ["sign"] mU (PI.c (Cp (b8 0))) (λ_ _ _ _ _ _=>(aI (aQ (i:=0) (show(["sign"]:List Str).Nodup from by decide +kernel) rfl (Or.inl rfl)))) (λ_ _ _ _ _ _=>d9) (λ_ _ _ _ _ _=>(iw yI GP (aG 0) (PE.sh (aJ (oY tM))) (by with_unfolding_all rfl))))))) aH)))))))) (ar cW) bK))
theorem F4(F:Df K mg "plan_by" tz ["deed","told"])(B:Bs mg)(nV:Sj P w K mg base):Sf P w K mg base:=
 cc [] sJ F FR λf cn A outer s H E hr=>(aq (cI (aT (bQ hr) imp_eq (aG 0) (PE.sh (aJ aK)) (ba _)) (ar cW) bK)
  (aq (cI (aT (bQ hr) imp_eq (aG 0) (PE.sh (aJ aK)) (ba _)) (ar cW) bK)
  (aq (cI (aT (bQ hr) imp_eq (aG 0) (PE.sh (aJ aK)) (ba _)) (ar cW) bK)
  (aq (cI (aT (bQ hr) imp_eq (aG 0) (PE.sh (aJ aK)) (ba _)) (ar cW) bK)
  (ar (aW (kr nV hr (af (aS (aG 1) bL) ai))))))))
theorem DA(F:Df K mg "_law_cell" p5 ["_law_script","_law_k"])(B:Bs mg):RU P w K mg base:=
 cc [] pR F Ds λf cn A outer s H E hr=>(aq (cI (aT yH cS (aG 1) (PE.sh (bx bG cG rfl B.len dP (ay (aG 0) aH))) (ba _)) (ar (aW (aS (aG 0) (aG 1)))) bK)
  (ar (aW (aR aU))))
theorem yt(F:Df K mg "_law_digits" lZ ["_law_cell_here","_law_base","_law_many"])(B:Bs mg):Zx P w K mg base:=
 jX [3] lK F iK λf cn A outer s H E hr=>(aq (lq (fR (i:=3) iK.nd rfl (Or.inl rfl) (eF ai)))
  (aq (fb aa0 rfl (gM B.range (af (b8 2) ai)) (aI (aQ (i:=4) iK.nd rfl (Or.inl rfl)))
   (aq (kH (fw (mM ab6 ab9 acv kD (pv 3) (aY (au b6 aV (aG 0) (aG 1)) b9))))
  (ar (ir 0 iK.nd (au cb aV (aG 0) (aG 1))))))
  (ar (gL (pv 3)))))
theorem Bj(F:Df K mg "_law_mixes" nM ["_law_cell_here","_law_base","_law_many"])(B:Bs mg):VM P w K mg base:=
 jX [3] nj F jw λf cn A outer s H E hr=>(aq (lq (fR (i:=3) jw.nd rfl (Or.inl rfl) (eF ai)))
  (aq (fb aa0 rfl (gM B.range (af (b8 2) ai)) (aI (aQ (i:=4) jw.nd rfl (Or.inl rfl)))
   (aq (ir 5 jw.nd (au b6 aV (PE.sh (au aE aw (PE.sh (au aE aw (PE.sh (au je aV (PE.sh (au b6 aV (aG 0) bL)) bL)) (PE.sh (au je aV (PE.sh (au je aV (aG 4) (aG 4))) bL)))) (PE.sh (au je aV (aG 4) bL)))) bL))
  (ar (kH (fw (mM ab6 ab9 acv kD (pv 3) (aY (au b6 aV (PE.sh (au cb aV (PE.sh (au b6 aV (PE.sh (au aE aw (PE.sh (au je aV (aG 5) bL)) (aG 0))) bL)) bL)) (aG 1)) b9)))))))
  (ar (gL (pv 3)))))
theorem DB(F:Df K mg "_law_plan" jT ["_law_cell_here","_law_most_here"])(B:Bs mg)(l8:Zx P w K mg base)(gR:VM P w K mg base):RN P w K mg base:=
 cc [5] pT F cu λf cn A outer s H E hr=>(aq (ir 2 cu.nd (au cb aV (aG 0) bL))
  (aq (ir 3 cu.nd (au aE aw bL (PE.sh (au je aV bL (PE.sh (bV rR zR rfl B.int vB (ay (PE.sh (iw qw cS (aG 1) bL (ba _))) aH)))))))
  (aq (ir 4 cu.nd (PE.nE (fW gR hr (by decide) (af (b8 2) (af (aR aU) (af (b8 3) ai))))))
  (aq (cI (aT BN cS (PE.sh (bx vt zQ rfl B.abs Ei (ay (aG 0) aH))) (PE.sh (au zy aV bL bL)) (ba _)) (ar (ir 4 cu.nd (PE.nE (fW l8 hr (by decide) (af (b8 2) (af (aR aU) (af (b8 3) ai))))))) bK)
  (aq (lq (fR (i:=5) cu.nd rfl (Or.inl rfl) (eF (af (cU (af (aR aU) ai)) ai))))
  (aq (ir 6 cu.nd (PE.nE (eF (af (aR aU) (af (aR aU) ai)))))
  (aq (ir 7 cu.nd (aR aU))
  (aq (vK aa0 (PW.pt (oh (aT yH cS (PE.sh (bx bG cG rfl B.len dP (ay (aG 5) aH))) (aG 1) (ba _)) (pw_and1 (aT qw cS (PE.sh (bx bG cG rfl B.len dP (ay (aG 6) aH))) bL (ba _))))) (aq (Em (PS.nE (Lj (i:=8) (ah jT) ["_law_cell_here","_law_most_here","_law_rest","_law_many","_law_digits_here","_law_rows","_law_come","_law_at_here","_law_row"] [4,3,7] ["_law_k","_law_bad","_law_digits_here","_law_many","_law_at_here"] ["_law_k","_law_bad"] cu.nd rfl rfl Yu (PI.c (zW B.enumerate (b8 6))) (λ_ _ _ _ _ _=>(oj rfl (di (aI (aQ (i:=0) (show(["_law_k","_law_bad","_law_digits_here","_law_many","_law_at_here"]:List Str).Nodup from by decide +kernel) rfl (Or.inl rfl))) (di (aI (aQ (i:=1) (show(["_law_k","_law_bad","_law_digits_here","_law_many","_law_at_here"]:List Str).Nodup from by decide +kernel) rfl (Or.inl rfl))) lr)))) (λ_ _ _ _ _ _=>(Le (aT qw cS (PE.sh (aS (aG 2) (PE.sh (au b6 aV (PE.sh (au aE aw (aG 4) (aG 0))) (aG 3))))) bL (ba _)))) (λ_ _ _ _ _ _=>(b8 1)))))
  (aq (ir 7 cu.nd (au aE aw (aG 7) (PE.sh (bx bG cG rfl B.len dP (ay (aG 6) aH)))))
  (aq (cI (aT qw cS (PE.sh (au b6 aV (aG 0) bL)) bL (ba _)) (ar (ir 8 cu.nd (PE.nE (zU (aG 6) (iP (PE.sh (aS (aG 4) (PE.sh (au b6 aV (aG 7) (aG 3)))))) (iP (PE.sh (bx (HR rfl) Oy rfl B.max To (ay bL (ay (PE.sh (au k9 qA (PE.sh (bx bG cG rfl B.len dP (ay (aG 6) aH))) (PE.sh (aS (aG 4) (PE.sh (au b6 aV (PE.sh (au aE aw (aG 7) bL)) (aG 3))))))) aH))))))))) bK)
  (aq (ir 6 cu.nd (PE.nE (pC B.sorted B.set (PE.sh (PE.nE (Ek vc vd (aG 8) (PE.sh (PE.nE (PE.EL (cJ (ah jT) ["_law_cell_here","_law_most_here","_law_rest","_law_many","_law_digits_here","_law_rows","_law_come","_law_at_here","_law_row"] [] ["_law_bad"] ["_law_bad"] mU (PI.c (cy (b8 8))) (λ_ _ _ _ _ _=>(aI (aQ (i:=0) (show(["_law_bad"]:List Str).Nodup from by decide +kernel) rfl (Or.inl rfl)))) (λ_ _ _ _ _ _=>d9) (λ_ _ _ _ _ _=>(au aE aw (aG 0) bL))))))))))))
  (ar (cI (aT qw cS (PE.sh (bx bG cG rfl B.len dP (ay (aG 8) aH))) bL (ba _)) (ar (kH (fw (mM ab6 ab9 acv kD (pv 5) (aY (bV iF oi rfl B.tuple kE (ay (aG 8) aH)) b9))))) bK)))))))
  (ar (aW (bV iF oi rfl B.tuple kE (ay (aG 5) aH))))))))))))
theorem DC(F:Df K mg "_law_most" p6 ["_law_cell_here"])(B:Bs mg):R5 P w K mg base:=
 cc [] pU F Du λf cn A outer s H E hr=>(aq (cI (aT (bQ hr) imp_eq (PE.sh (au b6 aV (PE.sh (au cb aV (aG 0) bL)) bL)) bL (ba _)) (ar (aW (au aE aw bL (PE.sh (au b6 aV (PE.sh (au cb aV (aG 0) bL)) bL))))) bK)
  (ar (aW (au aE aw bL (PE.sh (au b6 aV (aG 0) bL))))))
theorem xp(F:Df K mg "_law_numbers" iL ["_law_cell_here","_law_bases"])(B:Bs mg)(gR:VM P w K mg base):RL P w K mg base:=
 jX [3] kl F eD λf cn A outer s H E hr=>(aq (cI (r9 yH cS yH cS (PE.sh (El (PE.sh (au zy aV bL bL)))) (aG 0) (PE.sh (au zy aV bL bL))) (aq (ir 2 eD.nd (PE.nE (fW gR hr (by decide) (af (b8 0) (af (aR aU) (af (bx bG cG rfl B.len dP (ay (aG 1) aH)) ai))))))
  (ar (ve (PE.EL (cJ (ah iL) ["_law_cell_here","_law_bases","_law_row","_law_made","_law_base"] [2,1] ["_law_k","_law_row","_law_bases"] ["_law_k"] mU (PI.c (gM B.range (af (bx bG cG rfl B.len dP (ay (aG 1) aH)) ai))) (λ_ _ _ _ _ _=>(aI (aQ (i:=0) (show(["_law_k","_law_row","_law_bases"]:List Str).Nodup from by decide +kernel) rfl (Or.inl rfl)))) (λ_ _ _ _ _ _=>d9) (λ_ _ _ _ _ _=>(au b6 aV (PE.sh (aS (aG 1) (aG 0))) (PE.sh (aS (aG 2) (aG 0)))))))))) bK)
  (aq (lq (fR (i:=3) eD.nd rfl (Or.inl rfl) (eF ai)))
  (aq (ir 0 eD.nd (au cb aV (aG 0) bL))
  (aq (fb aa0 rfl (cy (b8 1)) (aI (aQ (i:=4) eD.nd rfl (Or.inl rfl)))
   (aq (kH (fw (mM ab6 ab9 acv kD (pv 3) (aY (au b6 aV (aG 0) (aG 4)) b9))))
  (ar (ir 0 eD.nd (au cb aV (aG 0) (aG 4))))))
  (ar (gL (pv 3)))))))
theorem DD(F:Df K mg "_law_ways" p8 ["_law_plan_here"])(B:Bs mg):R6 P w K mg base:=
 cc [1] pV F fk λf cn A outer s H E hr=>let hu:=abl (abB (show 1<=64 by decide) _) hr.units;(aq (Ai (fR (i:=1) fk.nd rfl (Or.inl rfl) (v5 hu (PE.sh (cU (af (aR aU) (af (aR aU) ai)))) (aR aU))))
  (aq (fb aa0 rfl (vY B.enumerate (b8 0)) (oj rfl (di (aI (aQ (i:=2) fk.nd rfl (Or.inl rfl))) (di (aI (aQ (i:=3) fk.nd rfl (Or.inl rfl))) lr)))
   (ar (fb aa0 rfl (cy (b8 3)) (aI (aQ (i:=4) fk.nd rfl (Or.inl rfl)))
   (aq (ir 5 fk.nd (GK hu (aG 1) (PE.sh (cU (af (b8 4) (af (au k9 qA (aG 2) (aG 4)) ai))))))
  (ar (fb aa0 rfl (cy (cU (af (cU (af (au aE aw (aG 4) bL) (af (au k9 qA (aG 2) (aG 4)) ai))) (af (cU (af (b8 4) (af (au aE aw (PE.sh (au k9 qA (aG 2) (aG 4))) bL) ai))) ai)))) (aI (aQ (i:=6) fk.nd rfl (Or.inl rfl)))
   (ar (Ah (vb hu (pv 1) (aG 6) (au aE aw (PE.sh (fX hu (aG 1) (aG 6) (aR aU))) (aG 5)) (by rfl))))))))))
  (ar (gL (pv 1)))))
theorem xq(F:Df K mg "_law_written" iM ["_law_plan_here"])(B:Bs mg):RV P w K mg base:=
 cc [] km F xh λf cn A outer s H E hr=>(ar (aW (vf (PE.sh (aJ aK)) (PE.nE (PE.EL (cJ (ah iM) ["_law_plan_here"] [] ["_law_row"] ["_law_row"] mU (PI.c (cy (b8 0))) (λ_ _ _ _ _ _=>(aI (aQ (i:=0) (show(["_law_row"]:List Str).Nodup from by decide +kernel) rfl (Or.inl rfl)))) (λ_ _ _ _ _ _=>d9) (λ_ _ _ _ _ _=>(vf (PE.sh (aJ aK)) (PE.nE (PE.EL (cJ {kind:=.function,names:=[(".0",.local),("_law_row",.local)],isGenerator:=false,isCoroutine:=false} ["_law_row"] [] ["_law_bad"] ["_law_bad"] mU (PI.c (cy (b8 0))) (λ_ _ _ _ _ _=>(aI (aQ (i:=0) (show(["_law_bad"]:List Str).Nodup from by decide +kernel) rfl (Or.inl rfl)))) (λ_ _ _ _ _ _=>d9) (λ_ _ _ _ _ _=>(bV cZ jh rfl B.str lh (ay (aG 0) aH))))))))))))))
theorem Bk(F:Df K mg "_law_names" kc ["_law_cell_here"])(B:Bs mg):RY P w K mg base:=
 jX [6] nk F cH λf cn A outer s H E hr=>(aq (ir 1 cH.nd (aJ aK))
  (aq (cI (aT (bQ hr) imp_eq (PE.sh (au b6 aV (aG 0) bL)) bL (ba _)) (by refine aq ?_ ?_;(refine Em ?_;refine fR ?_ ?_ ?_ ?_ ?_ ?_;exact cH.nd;rfl;exact(Or.inr rfl);refine PE.nE ?_;refine eF ?_;refine Cs ?_;kernel_rfl;exact IX;exact .inl rfl);exact(ar (ve (PE.EL (cJ (ah kc) ["_law_cell_here","_law_letters","_law_words","_law_word","_law_k","_law_at_here","_law_names_here","_law_sign"] [2,0] ["_law_k","_law_words","_law_cell_here"] ["_law_k"] mU (PI.c (gM B.range (af (aR aU) ai))) (λ_ _ _ _ _ _=>(aI (aQ (i:=0) (show(["_law_k","_law_words","_law_cell_here"]:List Str).Nodup from by decide +kernel) rfl (Or.inl rfl)))) (λ_ _ _ _ _ _=>d9) (λ_ _ _ _ _ _=>(aS (aG 1) (PE.sh (au b6 aV (PE.sh (au aE aw (PE.sh (au cb aV (aG 2) bL)) (PE.sh (au je aV bL (aG 0))))) bL))))))))) bK)
  (aq (ir 3 cH.nd (aJ aK))
  (aq (fb aa0 rfl (gM B.range (af (au aE aw bL (PE.sh (au b6 aV (PE.sh (au cb aV (aG 0) bL)) bL))) ai)) (aI (aQ (i:=4) cH.nd rfl (Or.inl rfl)))
   (ar (ir 3 cH.nd (au aE aw (aG 3) (PE.sh (aS (aG 1) (PE.sh (au b6 aV (PE.sh (au aE aw (PE.sh (au cb aV (aG 0) bL)) (PE.sh (au je aV (aG 4) (PE.sh (au cb aV (aG 0) bL)))))) bL))))))))
  (aq (ir 5 cH.nd (au b6 aV (PE.sh (au cb aV (aG 0) bL)) (PE.sh (bx bG cG rfl B.len dP (ay (aG 3) aH)))))
  (aq (lq (fR (i:=6) cH.nd rfl (Or.inl rfl) (eF ai)))
  (aq (fb aa0 rfl (gM B.range (af (aR aU) ai)) (aI (aQ (i:=4) cH.nd rfl (Or.inl rfl)))
   (aq (ir 7 cH.nd (aS (aG 1) (PE.sh (au b6 aV (PE.sh (au aE aw (PE.sh (au cb aV (aG 0) bL)) (PE.sh (au je aV bL (aG 4))))) bL))))
  (ar (kH (fw (mM ab6 ab9 acv kD (pv 6) (aY (au aE aw (PE.sh (au aE aw (PE.sh (Ly (aG 3) qB (iP (aG 5)))) (aG 7))) (PE.sh (Ly (aG 3) (iP (PE.sh (au aE aw (aG 5) bL))) qB))) b9)))))))
  (ar (gL (pv 6))))))))))
theorem Bl(F:Df K mg "_law_share" nN ["_law_plan_here","_law_end"])(B:Bs mg)(qd:R6 P w K mg base):RP P w K mg base:=
 cc [3] nr F ck λf cn A outer s H E hr=>let hu:=abl (abB (show 1<=64 by decide) _) hr.units;(aq (ir 2 ck.nd (GK hu (PE.sh (kr qd hr (af (b8 0) ai))) (aG 1)))
  (aq (Ai (fR (i:=3) ck.nd rfl (Or.inl rfl) (v5 hu (PE.sh (cU (af (aR aU) (af (aR aU) ai)))) (aR aU))))
  (aq (fb aa0 rfl (vY B.enumerate (b8 0)) (oj rfl (di (aI (aQ (i:=4) ck.nd rfl (Or.inl rfl))) (di (aI (aQ (i:=5) ck.nd rfl (Or.inl rfl))) lr)))
   (ar (fb aa0 rfl (cy (b8 5)) (aI (aQ (i:=6) ck.nd rfl (Or.inl rfl)))
   (aq (ir 7 ck.nd (fX hu (aG 3) (PE.sh (cU (af (b8 6) (af (au k9 qA (aG 4) (aG 6)) ai)))) (aR aU)))
  (ar (fb aa0 rfl (cy (cU (af (cU (af (au aE aw (aG 6) bL) (af (au k9 qA (aG 4) (aG 6)) ai))) (af (cU (af (b8 6) (af (au aE aw (PE.sh (au k9 qA (aG 4) (aG 6))) bL) ai))) ai)))) (aI (aQ (i:=8) ck.nd rfl (Or.inl rfl)))
   (ar (cI (aT qw cS (aG 4) bL (ba _)) (ar (Ah (vb hu (pv 3) (aG 8) (au aE aw (PE.sh (fX hu (aG 3) (aG 8) (aR aU))) (aG 7)) (by rfl)))) bK))))))))
  (aq (ir 9 ck.nd (fX hu (aG 3) (aG 1) (aR aU)))
  (aq (ir 10 ck.nd (b8 2))
  (aq (vK aa0 (aT qw cS (aG 10) bL (ba _)) (ar (TL (SO (i:=9) (j:=10) rfl ck.nd rfl rfl (by decide) rfl rfl (af (b8 10) (af (au b6 aV (aG 9) (aG 10)) ai)) rfl))))
  (aq (cI (aT (bQ hr) imp_eq (aG 9) (aG 2) (ba _)) (ar (aW (bV cZ jh rfl B.str lh (ay (PE.sh (au cb aV (PE.sh (fX hu (aG 3) (aG 1) (aR aU))) (aG 9))) aH)))) bK)
  (ar (aW (au aE aw (PE.sh (au aE aw (PE.sh (bV cZ jh rfl B.str lh (ay (PE.sh (au cb aV (PE.sh (fX hu (aG 3) (aG 1) (aR aU))) (aG 9))) aH))) (PE.sh (aJ aK)))) (PE.sh (bV cZ jh rfl B.str lh (ay (PE.sh (au cb aV (aG 2) (aG 9))) aH)))))))))))))
variable {C:Addr}
theorem Nd(F:xR K "__init__" "Desk.__init__" gq f fd)(c:rV K C)(n1:et K C "plans")(n2:et K C "lots"):la P w K mg base xQ 1 f fd ["self"] (Ar K C):=
 F.ok tu (λvs H Q E h=>by obtain⟨x,dx,rfl,_⟩:=h;rfl) (λcn A outer s H vs Q E hr h=>⟨_,mH (J9 (pv 0) Cy rfl) (zw (J9 (pv 0) Cy rfl)),LQ c n1 n2 h⟩)
theorem oV(F:xR K "plan_named" "Desk.plan_named" eZ f fd)(M:mn K C "plan_named" f)(Bi:Binds K fd ["self","name"] [])(B:Bs mg)(c:rV K C)(n1:et K C "plans"):RR P w K mg base C:=by
 exact qQ [] g9 F M Bi pZ λa dx p q f cn A outer s H E hr=>let hu:=abl (abB (show 1<=64 by decide) _) hr.units;(bf (eG (GX true rfl c n1 hu (pv 0) (b8 1)) (bq (dq cW)) dH)
  (bq (oy (GW true rfl c n1 hu (pv 0) (b8 1)))))
theorem qf(F:xR K "begin_lot" "Desk.begin_lot" fP f fd)(M:mn K C "begin_lot" f)(Bi:Binds K fd ["self","name","plan_name"] [])(B:Bs mg)(c:rV K C)(n2:et K C "lots")(l9:RR P w K mg base C):Zz P w K mg base C:=by
 exact qQ [] iB F M Bi rf λa dx p q f cn A outer s H E hr=>let hu:=abl (abB (show 1<=64 by decide) _) hr.units;(bf (Ap false rfl c n2 hu (pv 0) (b8 1) (LP (fe o7 l9 c hr (by decide) (pv 0) (af (b8 2) ai)) (cU (af (aR aU) (af (aR aU) ai)))))
  (bq (dq (aW (aJ aK)))))
theorem qg(F:xR K "lot_named" "Desk.lot_named" fQ f fd)(M:mn K C "lot_named" f)(Bi:Binds K fd ["self","name"] [])(B:Bs mg)(c:rV K C)(n2:et K C "lots"):VN P w K mg base C:=by
 exact qQ [] iC F M Bi rh λa dx p q f cn A outer s H E hr=>let hu:=abl (abB (show 1<=64 by decide) _) hr.units;(bf (eG (GX false rfl c n2 hu (pv 0) (b8 1)) (bq (dq cW)) dH)
  (bq (oy (GW false rfl c n2 hu (pv 0) (b8 1)))))
theorem xr(F:xR K "draw" "Desk.draw" kb f fd)(M:mn K C "draw" f)(Bi:Binds K fd ["self","name","sign"] [])(B:Bs mg)(c:rV K C)(n2:et K C "lots")(gS:VN P w K mg base C)(l5:Na P w K mg base)(iE:VQ P w K mg base)(qh:Sb P w K mg base)(i7:RW P w K mg base)(nW:∃C tl,YD K mg "NoDraw" C VE tl "ValueError.__new__"):RS P w K mg base C:=by
 obtain⟨_,_,nW⟩:=nW;exact zg [] lM F M Bi ju λa dx p q f cn A outer s H E hr=>let hu:=abl (abB (show 1<=64 by decide) _) hr.units;(bf (Cu (fR (i:=3) ju.nd rfl (Or.inl rfl) (fe o7 gS c hr (by decide) (pv 0) (af (b8 1) ai))))
  (bf (dq (ir 4 ju.nd (aS (aG 3) bL)))
  (bf (dq (cI (fA (eA (PE.sh (kr iE hr (af (b8 4) (af (aS (aG 3) bL) ai)))))) (ar (LF nW PySem.F.excBase_ValueError (by decide) PySem.F.excBase_ValueError aK)) bK))
  (bf (dq (ir 5 ju.nd (kr l5 hr (af (aS (aG 3) bL) (af (b8 2) ai)))))
  (bf (Ap false rfl c n2 hu (pv 0) (b8 1) (LL (cU (af (b8 4) (af (b8 5) ai)))))
  (bf (dq (cI (eA (PE.sh (kr iE hr (af (b8 4) (af (b8 5) ai))))) (ar (aW (aJ aK))) bK))
  (bq (dq (aW (au aE aw (PE.sh (aJ aK)) (PE.sh (kr i7 hr (af (kr qh hr (af (b8 4) (af (b8 5) ai))) ai)))))))))))))
theorem rj(F:xR K "put_plan" "Desk.put_plan" gu f fd)(M:mn K C "put_plan" f)(Bi:Binds K fd ["self","name","plan"] [])(B:Bs mg)(c:rV K C)(n1:et K C "plans"):RO P w K mg base C:=by
 exact qQ [] i6 F M Bi tw λa dx p q f cn A outer s H E hr=>let hu:=abl (abB (show 1<=64 by decide) _) hr.units;(bf (Ap true rfl c n1 hu (pv 0) (b8 1) (LL (b8 2)))
  (bq (dq (aW (aJ aK)))))
theorem yu(F:xR K "say" "Desk.say" lY f fd)(M:mn K C "say" f)(Bi:Binds K fd ["self","row"] [])(B:Bs mg)(c:rV K C)(nX:Zz P w K mg base C)(rk:RS P w K mg base C)(gS:VN P w K mg base C)(qi:RO P w K mg base C)(ma:Sh P w K mg base)(tO:Sf P w K mg base)(qj:Sq P w K mg base)(md:Se P w K mg base):RZ P w K mg base C:=by
 exact zg [] nu F M Bi iW λa dx p q f cn A outer s H E hr=>(bf (dq (ir 2 iW.nd (kr qj hr (af (b8 1) ai))))
  (bf (dq (ir 3 iW.nd (aS (aG 2) bL)))
  (bf (dq (ir 4 iW.nd (aS (aG 2) bL)))
  (bf (dq (ir 5 iW.nd (aS (aG 2) bL)))
  (bf (dq (qD (fw (kr ma hr (af (b8 4) ai)))))
  (bf (eG (mX (eA (PE.sh (IQ (aG 3) (PE.sh (aJ aK)))))) (bq (oy (fe o7 qi c hr (by decide) (pv 0) (af (b8 4) (af (kr tO hr (af (b8 3) (af (b8 5) ai))) ai))))) dH)
  (bf (eG (mX (aT (bQ hr) imp_eq (aG 3) (PE.sh (aJ aK)) (ba _))) (bq (oy (fe o7 nX c hr (by decide) (pv 0) (af (b8 4) (af (aS (aG 5) bL) ai))))) dH)
  (bf (eG (mX (aT (bQ hr) imp_eq (aG 3) (PE.sh (aJ aK)) (ba _))) (bq (oy (Ja md hr (by decide) (Uy (fe o7 gS c hr (by decide) (pv 0) (af (b8 4) ai)) bL)))) dH)
  (bf (eG (mX (aT (bQ hr) imp_eq (aG 3) (PE.sh (aJ aK)) (ba _))) (bq (Cz o7 (rN (wt rk c hr (by decide) Lz (pv 0) (af (b8 4) (af (aJ aK) ai)))))) dH)
  (bf (eG (mX (aT (bQ hr) imp_eq (aG 3) (PE.sh (aJ aK)) (ba _))) (bq (Cz o7 (rN (wt rk c hr (by decide) Lz (pv 0) (af (b8 4) (af (aJ aK) ai)))))) dH)
  (bq (dq cW))))))))))))
theorem F5(F:Df K mg "_law_at" xj ["_law_desk","_law_lots","_law_mine"])(B:Bs mg)(c:rV K C)(ke:Qn P w K mg base C):RM P w K mg base C:=by
 exact GV [] wG F zr λa dx p q f cn A outer s H E hr=>(bf (wg aa0 rfl (gM B.range (af (aR aU) ai)) (aI (aQ (i:=3) zr.nd rfl (Or.inl rfl)))
   (bq (eG (mY (mS hr) mT (fe o7 ke c hr (by decide) (pv 0) (af (au aE aw (PE.sh (aJ aK)) (PE.sh (aS (aG 1) (aG 3)))) ai)) (PE.sh (au aE aw (PE.sh (au aE aw (PE.sh (bV cZ jh rfl B.str lh (ay (PE.sh (aS (PE.sh (aS (aG 2) (aG 3))) bL)) aH))) (PE.sh (aJ aK)))) (PE.sh (bV cZ jh rfl B.str lh (ay (PE.sh (aS (PE.sh (aS (aG 2) (aG 3))) bL)) aH))))) rfl) (bq (dq (aW (ig ic)))) dH)))
  (bq (dq (aW (ig ic)))))
theorem yw(F:Df K mg "_law_drawn" nO ["_law_desk","_law_name","_law_lot","_law_word"])(B:Bs mg)(c:rV K C)(ke:Qn P w K mg base C)(Bm:RZ P w K mg base C)(nY:RP P w K mg base)(CT:O7 K mg JK TSX)(zVE:mg "ValueError"=none)(kVE:Z9 K JK "ValueError" (.type "ValueError"))(CE:YH K mg cL JK)(mL:mg "LotError"=some (.ref cL)):Zw P w K mg base C:=by
 exact L6 [] nv F eK λa dx p q l f cn A outer s H E hr=>(bf (Pz rfl (pv 2) (di (aI (aQ (i:=4) eK.nd rfl (Or.inl rfl))) (di (aI (aQ (i:=5) eK.nd rfl (Or.inl rfl))) (di (aI (aQ (i:=6) eK.nd rfl (Or.inl rfl))) lr))))
  (bf (eG (mX (PW.pt (pw (aT BN cS (PE.sh (au aE aw (aG 5) (aG 6))) (PE.sh (bx bG cG rfl B.len dP (ay (aG 4) aH))) (ba _)) (pw_or1 (aT sd se (aG 5) (PE.sh (aS (aG 4) (PE.sh (au aE aw (aG 5) (aG 6))))) (by with_unfolding_all rfl)))))) (bf (Pq (i:=7) (gs:=uu) (hand:=pF JK (λ_=>.bool true)) (λkM E=>(bq (Je Ri (fw (wt Bm c hr (by decide) O0 (pv 0) (af (au aE aw (PE.sh (au aE aw (aG 3) (PE.sh (aJ aK)))) (aG 1)) ai)))))) (λa=>(ar (aW (vF (O8 JK TSX CT (.head _) B.isinstance (aG 7)) (rM (KE (PE.sh (LJ JK TSX CT (.tail _ (.head _)) (.tail _ (.tail _ (.head _))) (.tail _ (.tail _ (.tail _ (.head _)))) B.isinstance (aG 7))))))))) (λc d h=>CE c (ET h)) AH mL eK.nd)
  (bq (dq (aW (ig ic))))) dH)
  (bf (G0 (j:=2) (zx (au aE aw (aG 5) (PE.sh (bV rR zR rfl B.int vB (ay (PE.sh (iw (bQ hr) imp_eq (aG 3) (PE.sh (aJ aK)) (ba _))) aH)))) (DV (pv 2) bL set_list)))
  (bf (G0 (j:=2) (zx (au aE aw (aG 6) (PE.sh (bV rR zR rfl B.int vB (ay (PE.sh (iw (bQ hr) imp_eq (aG 3) (PE.sh (aJ aK)) (ba _))) aH)))) (DV (pv 2) bL set_list)))
  (bf (dq (ir 8 eK.nd (aJ aK)))
  (bf (eG (Px (j:=2) (PW.pt (pw (aT BN cS (PE.sh (au aE aw (PE.sh (aS (aG 2) bL)) (PE.sh (aS (aG 2) bL)))) (PE.sh (bx bG cG rfl B.len dP (ay (aG 4) aH))) (ba _)) (pw_or1 (aT sd se (PE.sh (aS (aG 2) bL)) (PE.sh (aS (aG 4) (PE.sh (au aE aw (PE.sh (aS (aG 2) bL)) (PE.sh (aS (aG 2) bL)))))) (by with_unfolding_all rfl)))))) (bq (Cu (fR (i:=8) eK.nd rfl (Or.inl rfl) (Pw (j:=2) (au aE aw (PE.sh (aJ aK)) (PE.sh (kr nY hr (af (b8 4) (af (cU (af (aS (aG 2) bL) (af (aS (aG 2) bL) ai))) ai))))))))) dH)
  (bq (oy (Pd (bQ hr) imp_eq (fe Ri ke c hr (by decide) (pv 0) (af (au aE aw (PE.sh (au aE aw (aG 3) (PE.sh (aJ aK)))) (aG 1)) ai)) (aG 8) rfl)))))))))
theorem DE(F:Df K mg "_law_put" tD ["_law_desk","_law_names_here","_law_plans"])(B:Bs mg)(c:rV K C)(ke:Qn P w K mg base C)(ky:RV P w K mg base):Zy P w K mg base C:=by
 exact GV [] sM F xi λa dx p q f cn A outer s H E hr=>(bf (wg aa0 rfl (gM B.range (af (aR aU) ai)) (aI (aQ (i:=3) xi.nd rfl (Or.inl rfl)))
   (bq (eG (mY (mS hr) mT (fe o7 ke c hr (by decide) (pv 0) (af (au aE aw (PE.sh (au aE aw (PE.sh (au aE aw (PE.sh (aJ aK)) (PE.sh (aS (aG 1) (aG 3))))) (PE.sh (aJ aK)))) (PE.sh (kr ky hr (af (aS (aG 2) (aG 3)) ai)))) ai)) (PE.sh (aJ aK)) rfl) (bq (dq (aW (ig ic)))) dH)))
  (bq (dq (aW (ig ic)))))
theorem VR(F:xR K "law" "law" nP f fd)(B:Bs mg)(c:rV K C)(MK:Mk K C fI)(FI:la P w K mg base xQ 1 fI fdI ["self"] (Ar K C))(mC:mg "Desk"=some (.ref C))(BI:Binds K fdI ["self"] [])(ke:Qn P w K mg base C)(xt:RM P w K mg base C)(fu:RU P w K mg base)(nZ:Zw P w K mg base C)(ql:R5 P w K mg base)(n5:RY P w K mg base)(kz:RL P w K mg base)(me:RN P w K mg base)(oO:Zy P w K mg base C):la P w K mg base xQ 9 f fd ["_law_script"] (kF K 1 zk):=by
 exact QY [] Ml F jU λf cn A outer s H E hr=>(aq (ir 1 jU.nd (PE.nE (fW n5 hr (by decide) (af (au b6 aV (PE.sh (kr fu hr (af (b8 0) (af (aR aU) ai)))) (PE.sh (au zy aV bL bL))) ai))))
  (aq (ir 2 jU.nd (PE.nE (eF (af (aS (aG 1) bL) (af (aS (PE.sh (PE.nE (eF (af (aS (aG 1) bL) (af (aS (aG 1) bL) ai))))) (PE.sh (au b6 aV (PE.sh (kr fu hr (af (b8 0) (af (aR aU) ai)))) bL))) ai)))))
  (aq (ir 3 jU.nd (kr ql hr (af (au cb aV (PE.sh (kr fu hr (af (b8 0) (af (aR aU) ai)))) bL) ai)))
  (aq (ir 4 jU.nd (PE.nE (eF (af (kr me hr (af (kr fu hr (af (b8 0) (af (aR aU) ai))) (af (b8 3) ai))) (af (kr me hr (af (kr fu hr (af (b8 0) (af (aR aU) ai))) (af (b8 3) ai))) ai)))))
  (LU (j:=5) MK FI hr (by decide) mC BI jU.nd rfl (Or.inl rfl) λa dx p q=>(bf (eG (qP (oz (Cv o7 oO hr (by decide) (af (b8 5) (af (b8 1) (af (b8 4) ai)))))) (bq (dq (aW (ig ic)))) dH)
  (L8 (j:=6) (af (aS (aG 4) bL) (af (aR aU) (af (aR aU) ai))) (af (aS (aG 4) bL) (af (aR aU) (af (aR aU) ai))) jU.nd rfl (Or.inl rfl) λm=>(bf (eG (PW.pt (Pe (mY (mS hr) mT (fe G1 ke c hr (by decide) (pv 5) (af (au aE aw (PE.sh (au aE aw (PE.sh (au aE aw (PE.sh (aJ aK)) (PE.sh (aS (aG 2) bL)))) (PE.sh (aJ aK)))) (PE.sh (aS (aG 1) bL))) ai)) (PE.sh (aJ aK)) rfl) (pw_or1 (mY (mS hr) mT (fe G1 ke c hr (by decide) (pv 5) (af (au aE aw (PE.sh (au aE aw (PE.sh (au aE aw (PE.sh (aJ aK)) (PE.sh (aS (aG 2) bL)))) (PE.sh (aJ aK)))) (PE.sh (aS (aG 1) bL))) ai)) (PE.sh (aJ aK)) rfl)))) (bq (dq (aW (ig ic)))) dH)
  (bf (wg aa0 rfl (cy (PE.nE (Ek vc vd (PE.sh (PE.nE (zU (aG 0) (iP bL) (iP bL)))) (PE.sh (PE.nE (eF (af (kr fu hr (af (b8 0) (af (aR aU) ai))) ai))))))) (aI (aQ (i:=7) jU.nd rfl (Or.inl rfl)))
   (bf (dq (ir 8 jU.nd (PE.nE (fW kz hr (by decide) (af (b8 7) (af (PE.nE (eF (af (aR aU) (af (aR aU) (af (aR aU) (af (aR aU) ai)))))) ai))))))
  (bf (dq (ir 9 jU.nd (aS (aG 8) bL)))
  (bf (eG (mX (aT (bQ hr) imp_eq (PE.sh (aS (aG 8) bL)) bL (ba _))) (bf (L9 (j:=6) (zx (vv (af (aS (aG 4) (PE.sh (aS (aG 8) bL))) (af (aR aU) (af (aR aU) ai)))) (DV (pv 6) (aG 9) set_list)))
  (bq (eG (mY (mS hr) mT (fe G1 ke c hr (by decide) (pv 5) (af (au aE aw (PE.sh (au aE aw (PE.sh (au aE aw (PE.sh (aJ aK)) (PE.sh (aS (aG 2) (aG 9))))) (PE.sh (aJ aK)))) (PE.sh (aS (aG 1) (PE.sh (aS (aG 8) bL))))) ai)) (PE.sh (aJ aK)) rfl) (bq (dq (aW (ig ic)))) dH))) (bq (eG (mX (aT (bQ hr) imp_eq (PE.sh (aS (aG 8) bL)) bL (ba _))) (bf (dq (ir 4 jU.nd (PE.nE (eF (af (aS (aG 4) bL) (af (aS (aG 4) bL) ai))))))
  (bq (eG (qP (oz (Cv G1 oO hr (by decide) (af (b8 5) (af (b8 1) (af (b8 4) ai)))))) (bq (dq (aW (ig ic)))) dH))) (bq (eG (qP (oz (Ma nZ hr (by decide) (pv 5) (aS (aG 2) (aG 9)) (pv 6) (aG 9) (aS (PE.sh (PE.nE (eF (af (aJ aK) (af (aJ aK) ai))))) (PE.sh (aS (aG 8) bL)))))) (bq (dq (aW (ig ic)))) dH)))))
  (bq (eG (qP (oz (Ji xt hr (by decide) (pv 5) (b8 2) (pv 6)))) (bq (dq (aW (ig ic)))) dH))))))
  (bq (dq (aW (ig ic)))))))))))))
end
structure QF(K:ak)(n:Str)(st:Stmt)(f:Addr)(od an:Option Addr)(sl:Array (Option Value))(oc kV dc pm cd ct:Value):Prop where
 a:PySem.W.nsIn K mainGlobals n=some (some (.ref f))
 l:K.lookup f=some ⟨oc,od,.func (PySem.W.fnOf n n (d8 st) (bP st) (ah st) .none kV dc pm an cd ct),sl⟩
 c:PySem.W.codeIn K cd n=true
 k:PySem.W.keepIn K (.ref f)=true
theorem Nf{us:bU}(h:us.length=n+1):∃a r,us=a::r/\r.length=n:=by cases us with|nil=>cases h|cons a r=>exact⟨a,r,rfl,Nat.succ.inj h⟩
theorem len_1(us:bU)(h:us.length=1):∃a0,us=[a0]:=by obtain⟨a,r,rfl,g⟩:=Nf h;rw[acy.mp g];exact⟨a,rfl⟩
theorem len_2(us:bU)(h:us.length=2):∃a0 a1,us=[a0,a1]:=by obtain⟨a,r,rfl,g⟩:=Nf h;obtain⟨a0,rfl⟩:=len_1 r g;exact⟨a,a0,rfl⟩
theorem len_3(us:bU)(h:us.length=3):∃a0 a1 a2,us=[a0,a1,a2]:=by obtain⟨a,r,rfl,g⟩:=Nf h;obtain⟨a0,a1,rfl⟩:=len_2 r g;exact⟨a,a0,a1,rfl⟩
section
variable {K:ak}{mg:dO}{f:Addr}{fd:FuncData}
theorem VS(F:xR K "law" "law" nP f fd)(m:mg "law"=some (.ref f)):Df K mg "law" nP ["_law_script"]:=⟨f,fd,F,m,F.binds λ_ _ _ _ _ _ us hl=>by obtain⟨a0,rfl⟩:=len_1 us hl;rfl⟩
end
def QE(K:ak)(n:Str)(st:Stmt):Prop:=∃f od an sl oc kV dc pm cd ct,QF K n st f od an sl oc kV dc pm cd ct
theorem BD(CK:j1 K)(X:K.In h)(G:h.Ns mainGlobals mg)(q:QE K x st)(b:∀kV doc pm an cd ct u0,bindArgs (PySem.W.fnOf x x (d8 st) (bP st) (ah st) .none kV doc pm an cd ct) ⟨[u0],[]⟩=pure ([a0].zip [u0]):=by intros;rfl):Df (bS K) mg x st [a0]:=by
 obtain⟨_,_,_,_,_,_,_,_,_,_,q⟩:=q
 exact⟨_,_,CK.func (eS (st:=st) q.l q.c q.k),abu X G q.a,(CK.func (eS (st:=st) q.l q.c q.k)).binds λ_ _ _ _ _ _ us hl=>match us,hl with|[u0],_=>b ..⟩
theorem DR(CK:j1 K)(X:K.In h)(G:h.Ns mainGlobals mg)(q:QE K x st)(b:∀kV doc pm an cd ct u0 u1,bindArgs (PySem.W.fnOf x x (d8 st) (bP st) (ah st) .none kV doc pm an cd ct) ⟨[u0,u1],[]⟩=pure ([a0,a1].zip [u0,u1]):=by intros;rfl):Df (bS K) mg x st [a0,a1]:=by
 obtain⟨_,_,_,_,_,_,_,_,_,_,q⟩:=q
 exact⟨_,_,CK.func (eS (st:=st) q.l q.c q.k),abu X G q.a,(CK.func (eS (st:=st) q.l q.c q.k)).binds λ_ _ _ _ _ _ us hl=>match us,hl with|[u0,u1],_=>b ..⟩
theorem ZA(CK:j1 K)(X:K.In h)(G:h.Ns mainGlobals mg)(q:QE K x st)(b:∀kV doc pm an cd ct u0 u1 u2,bindArgs (PySem.W.fnOf x x (d8 st) (bP st) (ah st) .none kV doc pm an cd ct) ⟨[u0,u1,u2],[]⟩=pure ([a0,a1,a2].zip [u0,u1,u2]):=by intros;rfl):Df (bS K) mg x st [a0,a1,a2]:=by
 obtain⟨_,_,_,_,_,_,_,_,_,_,q⟩:=q
 exact⟨_,_,CK.func (eS (st:=st) q.l q.c q.k),abu X G q.a,(CK.func (eS (st:=st) q.l q.c q.k)).binds λ_ _ _ _ _ _ us hl=>match us,hl with|[u0,u1,u2],_=>b ..⟩
theorem df4(CK:j1 K)(X:K.In h)(G:h.Ns mainGlobals mg)(q:QE K x st)(b:∀kV doc pm an cd ct u0 u1 u2 u3,bindArgs (PySem.W.fnOf x x (d8 st) (bP st) (ah st) .none kV doc pm an cd ct) ⟨[u0,u1,u2,u3],[]⟩=pure ([a0,a1,a2,a3].zip [u0,u1,u2,u3]):=by intros;rfl):Df (bS K) mg x st [a0,a1,a2,a3]:=by
 obtain⟨_,_,_,_,_,_,_,_,_,_,q⟩:=q
 exact⟨_,_,CK.func (eS (st:=st) q.l q.c q.k),abu X G q.a,(CK.func (eS (st:=st) q.l q.c q.k)).binds λ_ _ _ _ _ _ us hl=>match us,hl with|[u0,u1,u2,u3],_=>b ..⟩
def QM(K:ak)(C f:Addr)(m q:Str)(st:Stmt):Prop:=∃od an sl oc kV dc pm cd ct,K.lookup f=some ⟨oc,od,.func (PySem.W.fnOf m q (d8 st) (bP st) (ah st) .none kV dc pm an cd ct),sl⟩/\PySem.W.codeIn K cd q=true/\PySem.W.keepIn K (.ref f)=true/\PySem.W.findIn (bS K) (.ref C) m=some (some (.ref f))/\PySem.W.isFn (bS K) (.ref f)=true/\PySem.W.keepIn (bS K) (.ref f)=true
noncomputable def zN:List Str:=["len","range","isinstance","max","min","int","bool","tuple","list","abs","str","sum","sorted","reversed","enumerate","set","all","zip","any"]
def zP(K:ak)(x:Str):Bool:=match PySem.W.nsIn K mainGlobals x with|some none=>true|_=>false
theorem zal(h:zN.all (zP K)=true)(m:x∈zN):PySem.W.nsIn K mainGlobals x=some none:=by
 have z:=abv.mp h x m
 unfold zP at z
 split at z
 .grind
 .grind
theorem all_mk{l:PySem.W.OpenLaw}{w:World}{K:ak}{h:Heap}{mg:dO}{fa:Addr}(X:K.In h)(G:h.Ns mainGlobals mg)(hfa:mg "law"=some (.ref fa))
  {f90:Addr}{acO ZC:Option Addr}{acP:Array (Option Value)}{acQ ZD ZE ZF ZG ZH:Value}
  (q1:QE K "frac" FP)
  (q8:QE K "greatest_divisor" gI)
  (q10:QE K "is_plan" tf)
  (q11:QE K "goes_on" tj)
  (q12:QE K "come_to" oN)
  (q13:QE K "ends" A8)
  (q14:QE K "drawn_on" lV)
  (q15:QE K "check_ends" lW)
  (q17:QE K "led_to" ra)
  (q18:QE K "after" A9)
  (q19:QE K "is_place" lX)
  (q20:QE K "is_whole" pW)
  (q27:QE K "ways_to" tm)
  (q28:QE K "first_bad" nH)
  (q29:QE K "ways_from" nI)
  (q44:QE K "share_at" pX)
  (q47:QE K "read_plan" j9)
  (q48:QE K "read_place" jr)
  (q49:QE K "read_number" ko)
  (q50:QE K "is_number" ka)
  (q54:QE K "show_count" js)
  (q55:QE K "show_fraction" gm)
  (q56:QE K "read_row" pY)
  (q57:QE K "read_words" jt)
  (q58:QE K "read_word" nK)
  (q75:QE K "check_name" jv)
  (q76:QE K "plan_by" tz)
  (q77:QE K "_law_cell" p5)
  (q78:QE K "_law_digits" lZ)
  (q79:QE K "_law_mixes" nM)
  (q80:QE K "_law_plan" jT)
  (q81:QE K "_law_most" p6)
  (q82:QE K "_law_numbers" iL)
  (q83:QE K "_law_ways" p8)
  (q84:QE K "_law_written" iM)
  (q85:QE K "_law_names" kc)
  (q86:QE K "_law_share" nN)
  (q87:QE K "_law_drawn" nO)
  (q88:QE K "_law_put" tD)
  (q89:QE K "_law_at" xj)
  (Su:QF K "law" nP f90 acO ZC acP acQ ZD ZE ZF ZG ZH)
  {ZI:Tok}(ZJ:PySem.W.nsIn K mainGlobals "LONG"=some (some (.int 4000 ZI)))
  {Bo:Tok}(Bp:PySem.W.nsIn K mainGlobals "MOST_PLACES"=some (some (.int 24 Bo)))
  {Ng:Tok}(Nh:PySem.W.nsIn K mainGlobals "FIGURES"=some (some (.str "0123456789" Ng)))
  {oW:Tok}(oX:PySem.W.nsIn K mainGlobals "MOST_FIGURES_texts"=some (some (.int 2 oW)))
  {Ni:Tok}(Nj:PySem.W.nsIn K mainGlobals "LETTERS"=some (some (.str "abcdefghijklmnopqrstuvwxyz" Ni)))
  {yx:Tok}(yy:PySem.W.nsIn K mainGlobals "MOST_LETTERS"=some (some (.int 8 yx)))
  (zz:zN.all (zP K)=true)
  (aF:PySem.W.nsIn K mainGlobals "FORMS"=some (some (.ref 493)))
  (lF:(bS K).lookup 493=some (LW w.params Jm 16))
  (lT:fmK.map (λe=>K.lookup e.1)=fmK.map λe=>some (tkO e.2))
  {kA:Addr}{xu xw:Option Addr}{xx:Array (Option Value)}{xy xA xB xC n6 xD:Value}(yz:PySem.W.nsIn K mainGlobals "check_deeds"=some (some (.ref kA)))
  (yA:K.lookup kA=some ⟨xy,xu,.func (PySem.W.fnOf "check" "check" (d8 dY) (bP dY) (ah dY) .none xA xB xC xw n6 xD),xx⟩)
  (yB:PySem.W.codeIn K n6 "check"=true)
  (yC:PySem.W.keepIn K (.ref kA)=true)
  (aD:PySem.W.nsIn K mainGlobals "Desk"=some (some (.ref 643)))
  (y0:PySem.W.plainGet (bS K) 643 Str.empty=true)
  (y1:PySem.W.hasDictIn (bS K) 643=true)
  (y2:PySem.W.plainOver (bS K) 643=true)
  (y3:PySem.W.findIn (bS K) (.ref 643) "__setattr__"=some (some (.builtin "object.__setattr__")))
  (y4:PySem.W.findIn (bS K) (.ref 643) "plans"=some none)
  (y5:PySem.W.findIn (bS K) (.ref 643) "lots"=some none)
  (y6:PySem.W.makesIn (bS K) 643=true)
  (y7:PySem.W.keepIn (bS K) (.ref 643)=true)
  (uM:QM K 643 598 "__init__" "Desk.__init__" gq)
  (F6:QM K 643 605 "say" "Desk.say" lY)
  (uN:QM K 643 612 "put_plan" "Desk.put_plan" gu)
  (tP:QM K 643 619 "begin_lot" "Desk.begin_lot" fP)
  (DF:QM K 643 626 "draw" "Desk.draw" kb)
  (rm:QM K 643 633 "plan_named" "Desk.plan_named" eZ)
  (tQ:QM K 643 640 "lot_named" "Desk.lot_named" fQ)
  (ct:dQ=tkV fmK)
  {HF:Addr}(Qq:PySem.W.nsIn K mainGlobals "NoDraw"=some (some (.ref HF)))
  (Nk:PySem.W.excIn (bS K) HF VE "ValueError.__new__"=true)
  {cL:Addr}(aL:PySem.W.nsIn K mainGlobals "LotError"=some (some (.ref cL)))
  (zE:PySem.W.nsIn K mainGlobals "ValueError"=some none)
  (qc:EU (bS K) cL JK TSX=true)
  :j1 K/\∃fd:FuncData,(∀(s:Shared) (v:Value),BindsTo s fd ⟨[v],[]⟩ [("_law_script",v)])/\∀base:Heap,(bS K).In base->base.Ns mainGlobals mg->la l.prog w (bS K) mg base xQ 9 fa fd ["_law_script"] (kF (bS K) 1 zk):=by
 obtain⟨_,_,_,_,_,_,_,_,_,uO,uP,uQ,uR,uS,JM⟩:=uM
 obtain⟨_,_,_,_,_,_,_,_,_,F7,F8,F9,Ga,Gb,Gc⟩:=F6
 obtain⟨_,_,_,_,_,_,_,_,_,uT,uU,uV,uW,uX,uY⟩:=uN
 obtain⟨_,_,_,_,_,_,_,_,_,tR,tU,tV,tW,tX,tY⟩:=tP
 obtain⟨_,_,_,_,_,_,_,_,_,DG,DH,DI,DJ,DL,DM⟩:=DF
 obtain⟨_,_,_,_,_,_,_,_,_,rn,rp,rq,rA,rB,rC⟩:=rm
 obtain⟨_,_,_,_,_,_,_,_,_,tZ,t5,t6,t7,t8,t9⟩:=tQ
 have e:=hfa.symm.trans (abu X G Su.a)
 cases e
 have C:j1 K:=UL ct (by decide +kernel) lT (by decide +kernel)
 have aeu:Df (bS K) mg "law" nP ["_law_script"]:=VS (C.func (eS (st:=nP) Su.l Su.c Su.k)) (abu X G Su.a)
 have FT:Cn mg "LONG" (.int 4000):=⟨_,abu X G ZJ,⟨_,rfl⟩⟩
 have ku:Cn mg "MOST_PLACES" (.int 24):=⟨_,abu X G Bp,⟨_,rfl⟩⟩
 have tJ:Cn mg "FIGURES" (.str "0123456789"):=⟨_,abu X G Nh,⟨_,rfl⟩⟩
 have fq:Cn mg "MOST_FIGURES_texts" (.int 2):=⟨_,abu X G oX,⟨_,rfl⟩⟩
 have tM:Cn mg "LETTERS" (.str "abcdefghijklmnopqrstuvwxyz"):=⟨_,abu X G Nj,⟨_,rfl⟩⟩
 have jV:Cn mg "MOST_LETTERS" (.int 8):=⟨_,abu X G yy,⟨_,rfl⟩⟩
 have B:Bs mg:=by constructor<;>exact PySem.W.mg_none_of X G (zal zz (by decide))
 have FM:Pg w (bS K) mg "FORMS" Jm:=⟨⟨493,16,abu X G aF,rfl,lF⟩,YW ct rfl,by decide +kernel⟩
 have pe:=C.func (eS (x:="check") (qual:="check") (st:=dY) yA yB yC)
 have yD:DfA (bS K) mg "check_deeds" "check" dY ["is_of_a_kind"]:=⟨_,_,pe,abu X G yz,pe.binds λ_ _ _ _ _ _ us hl=>by obtain⟨a0,rfl⟩:=len_1 us hl;rfl⟩
 have c:rV (bS K) 643:=⟨y0,y1,y2,y3⟩
 have n1:et (bS K) 643 "plans":=y4
 have n2:et (bS K) 643 "lots":=y5
 have mC:=abu X G aD
 have mh:=C.func (eS (x:="__init__") (qual:="Desk.__init__") (st:=gq) uO uP uQ)
 have MK:Mk (bS K) 643 598:=⟨y6,uR,uS,y7⟩
 have BI:Binds (bS K) _ ["self"] []:=mh.binds λ_ _ _ _ _ _ us hl=>by obtain⟨a0,rfl⟩:=len_1 us hl;rfl
 have xE:=C.func (eS (x:="say") (qual:="Desk.say") (st:=lY) F7 F8 F9)
 have DN:mn (bS K) 643 "say" 605:=⟨Ga,Gb,Gc⟩
 have DO:Binds (bS K) _ ["self","row"] []:=xE.binds λ_ _ _ _ _ _ us hl=>by obtain⟨a0,a1,rfl⟩:=len_2 us hl;rfl
 have mj:=C.func (eS (x:="put_plan") (qual:="Desk.put_plan") (st:=gu) uT uU uV)
 have ua:mn (bS K) 643 "put_plan" 612:=⟨uW,uX,uY⟩
 have ub:Binds (bS K) _ ["self","name","plan"] []:=mj.binds λ_ _ _ _ _ _ us hl=>by obtain⟨a0,a1,a2,rfl⟩:=len_3 us hl;rfl
 have kW:=C.func (eS (x:="begin_lot") (qual:="Desk.begin_lot") (st:=fP) tR tU tV)
 have rD:mn (bS K) 643 "begin_lot" 619:=⟨tW,tX,tY⟩
 have rE:Binds (bS K) _ ["self","name","plan_name"] []:=kW.binds λ_ _ _ _ _ _ us hl=>by obtain⟨a0,a1,a2,rfl⟩:=len_3 us hl;rfl
 have uy:=C.func (eS (x:="draw") (qual:="Desk.draw") (st:=kb) DG DH DI)
 have Bq:mn (bS K) 643 "draw" 626:=⟨DJ,DL,DM⟩
 have Br:Binds (bS K) _ ["self","name","sign"] []:=uy.binds λ_ _ _ _ _ _ us hl=>by obtain⟨a0,a1,a2,rfl⟩:=len_3 us hl;rfl
 have kf:=C.func (eS (x:="plan_named") (qual:="Desk.plan_named") (st:=eZ) rn rp rq)
 have qo:mn (bS K) 643 "plan_named" 633:=⟨rA,rB,rC⟩
 have qp:Binds (bS K) _ ["self","name"] []:=kf.binds λ_ _ _ _ _ _ us hl=>by obtain⟨a0,a1,rfl⟩:=len_2 us hl;rfl
 have kX:=C.func (eS (x:="lot_named") (qual:="Desk.lot_named") (st:=fQ) tZ t5 t6)
 have rF:mn (bS K) 643 "lot_named" 640:=⟨t7,t8,t9⟩
 have rG:Binds (bS K) _ ["self","name"] []:=kX.binds λ_ _ _ _ _ _ us hl=>by obtain⟨a0,a1,rfl⟩:=len_2 us hl;rfl
 have nW:∃C tl,YD (bS K) mg "NoDraw" C VE tl "ValueError.__new__":=⟨_,Us (abu X G Qq) Nk⟩
 have mL:=abu X G aL
 have zVE:=PySem.W.mg_none_of X G zE
 have CT:=Pa (GS X) G qc
 have kVE:=Pb qc
 have CE:=Pc (GS X) G qc
 refine⟨C,PySem.W.fnOf "law" "law" (d8 nP) (bP nP) (ah nP) .none ZD ZE ZF ZC ZG ZH,λs v=>.of_eq rfl,λbase _ _=>?_⟩
 have gJ:=oU (P:=l.prog) (w:=w) (base:=base) (DR C X G q8) B FT
 have FZ:=Qo (DR C X G q1) B gJ
 have p9:=Dv (P:=l.prog) (w:=w) (base:=base) (BD C X G q20) B
 have qa:=Dw (DR C X G q19) B p9
 have kU:=JC (P:=l.prog) (w:=w) (base:=base) (BD C X G q17) B
 have tK:=FU (BD C X G q10) B ku qa kU
 have iE:=FV (P:=l.prog) (w:=w) (base:=base) (DR C X G q11) B
 have tF:=FW (BD C X G q12) B kU
 have FX:=Qp (BD C X G q13) B tF iE
 have qb:=Dx (P:=l.prog) (w:=w) (base:=base) (BD C X G q14) B
 have l6:=yn (DR C X G q15) B FX
 have l5:=Nc (P:=l.prog) (w:=w) (base:=base) (DR C X G q18) B
 have gQ:=Bd (DR C X G q29) B l5 qb
 have tH:=FY (DR C X G q27) B gQ
 have nQ:=Be (DR C X G q28) B gQ
 have qh:=Dy (DR C X G q44) B l6 nQ FZ tH
 have nR:=Bf (P:=l.prog) (w:=w) (base:=base) (BD C X G q50) B tJ
 have kx:=xm (BD C X G q49) B fq nR
 have l7:=yo (BD C X G q48) B kx
 have nV:=Bg (BD C X G q47) B tK l7
 have i7:=tL (P:=l.prog) (w:=w) (base:=base) (BD C X G q55) B
 have md:=yp (P:=l.prog) (w:=w) (base:=base) (BD C X G q54) B
 have dZ:=xn (P:=l.prog) (w:=w) (base:=base) yD B
 have nU:=Bh (P:=l.prog) (w:=w) (base:=base) (DR C X G q58) B
 have jx:=yq (ZA C X G q57) B FM dZ nU
 have qj:=Dz (BD C X G q56) B dZ jx
 have ma:=yr (P:=l.prog) (w:=w) (base:=base) (BD C X G q75) B jV tM
 have tO:=F4 (DR C X G q76) B nV
 have fu:=DA (P:=l.prog) (w:=w) (base:=base) (DR C X G q77) B
 have l8:=yt (P:=l.prog) (w:=w) (base:=base) (ZA C X G q78) B
 have gR:=Bj (P:=l.prog) (w:=w) (base:=base) (ZA C X G q79) B
 have me:=DB (DR C X G q80) B l8 gR
 have ql:=DC (P:=l.prog) (w:=w) (base:=base) (BD C X G q81) B
 have kz:=xp (DR C X G q82) B gR
 have qd:=DD (P:=l.prog) (w:=w) (base:=base) (BD C X G q83) B
 have ky:=xq (P:=l.prog) (w:=w) (base:=base) (BD C X G q84) B
 have n5:=Bk (P:=l.prog) (w:=w) (base:=base) (BD C X G q85) B
 have nY:=Bl (DR C X G q86) B qd
 have FI:=Nd (P:=l.prog) (w:=w) (base:=base) (mg:=mg) mh c n1 n2
 have l9:=oV (P:=l.prog) (w:=w) (base:=base) kf qo qp B c n1
 have nX:=qf kW rD rE B c n2 l9
 have gS:=qg (P:=l.prog) (w:=w) (base:=base) kX rF rG B c n2
 have rk:=xr uy Bq Br B c n2 gS l5 iE qh i7 nW
 have acR:=rk.no
 have qi:=rj (P:=l.prog) (w:=w) (base:=base) mj ua ub B c n1
 have Bm:=yu xE DN DO B c nX rk gS qi ma tO qj md
 have ke:=Bm.no
 have xt:=F5 (ZA C X G q89) B c ke
 have nZ:=yw (df4 C X G q87) B c ke Bm nY CT zVE kVE CE mL
 have oO:=DE (ZA C X G q88) B c ke ky
 exact VR (P:=l.prog) (w:=w) (base:=base) (C.func (eS (st:=nP) Su.l Su.c Su.k)) B c MK FI mC BI ke xt fu nZ ql n5 kz me oO
theorem walk{l:PySem.W.OpenLaw}{K:Params->ak}(hn:l.most=some 63)(XS:d.params.defaults=[])
  (hY:∀(w:World) (h:Heap),YP w h->(K w.params).In h)
  (F:∀(w:World) (mg:dO) (fa:Addr) (h:Heap),(K w.params).In h->h.Ns mainGlobals mg->mg d.name=some (.ref fa)->
   j1 (K w.params)/\∃fd:FuncData,(∀(s:Shared) (u:Value),BindsTo s fd ⟨[u],[]⟩ [("_law_script",u)])/\∀base:Heap,(bS (K w.params)).In base->base.Ns mainGlobals mg->la l.prog w (bS (K w.params)) mg base xQ 9 fa fd ["_law_script"] (kF (bS (K w.params)) 1 zk)):
  PySem.W.WalkO q loose XP YP l.row.toRowW d [] (λf vs=>PySem.call f vs):=
 L2.Lr (n:=63) (k:=9) (x:="_law_script") (CX:=λ_=>xQ) (sp:=λw=>kF (bS (K w.params)) 1 zk) hn (by decide) XS ⟨rfl,by decide,by decide⟩ hY F (λ_ _ a ns hl hS hT=>⟨rfl,[],[.list (ns.map PyData.int)],.bool true,⟨λ_ z=>by simp at z,hT⟩,by rw[Kt];exact .cons (.lst hS (cC.ints ns)) .nil,M8 ns hl,λv H' _ h=>by cases h;rfl⟩) λ_ _ _ _ _ z=>z
end aC
open PySem PySem.W PyProof.Rows
set_option tactic.hygienic true
set_option maxRecDepth 100000 in
set_option maxHeartbeats 0 in
theorem PySem.Challenge.cw_lotdraw_k59_lots_under_way_holds : PySem.Challenge.rw_lotdraw_k59_lots_under_way.Holds := by
 w_on; refine PySem.W.holds_law wS1 λsaid=>?_
 refine PySem.W.holds_open (q:=aC.qt) (loose:=["FORMS","check_deeds","check_words"]) (Xt:=aC.hpX) (XP:=XL aC.qt []) (Yf:=Hook.obs (kHook aC.W2 aC.W3 aC.JP)) (Ya:=Hook.val (kHook aC.W2 aC.W3 aC.JP)) (YP:=Hook.says (kHook aC.W2 aC.W3 aC.JP)) (N:=11620) (Hd.JO ?h1 rfl (λ_=>rfl) aC.DT aC.W7 aC.NO aC.NP) (Hook.of _) (Hook.keeps _) (λs e=>xl_of s (Bool.and_eq_true_iff.mp e).1) XL.keeps (by rfl) (by rfl) (by rfl) (λs e=>recFacts_of (Bool.and_eq_true_iff.mp e).2) rfl (by first | assumption | decide +kernel) (by decide +kernel) ⟨rfl,rfl,rfl,rfl,rfl,by decide +kernel⟩ ?hw ?hc
 case h1=>kernel_rfl
 case hw=>w_witness2
 k_fill
 refine aC.walk (l:=PySem.Challenge.rw_lotdraw_k59_lots_under_way) rfl rfl (λw h Y=>PySem.W.kIn_of Y) ?F
 case F=>
  intro w mg fa h KX G XT
  refine' aC.all_mk KX G XT ?_ ?_ ?_ ?_ ?_ ?_ ?_ ?_ ?_ ?_ ?_ ?_ ?_ ?_ ?_ ?_ ?_ ?_ ?_ ?_ ?_ ?_ ?_ ?_ ?_ ?_ ?_ ?_ ?_ ?_ ?_ ?_ ?_ ?_ ?_ ?_ ?_ ?_ ?_ ?_ ?_ ?_ ?_ ?_ ?_ ?_ ?_ ?_ ?_ ?_ ?_ ?_ ?_ ?_ ?_ ?_ ?_ ?_ ?_ ?_ ?_ ?_ ?_ ?_ ?_ ?_ ?_ ?_ ?_ ?_ ?_ ?ct ?_ ?_ ?_ ?_ ?_
  all_goals try first | (with_reducible rfl) | exact ⟨_,_,_,_,_,_,_,_,_,by k_is,by k_is,by k_is,by kernel_rfl,by kernel_rfl,by kernel_rfl⟩ | (refine' ⟨?x,?y,?z,?t⟩; (case x=>k_is); (case y=>k_is); (case z=>k_is); (case t=>k_is)) | exact ⟨_,_,_,_,_,_,_,_,_,_,by k_is,by k_is,by k_is,by k_is⟩ | k_is
  all_goals kernel_rfl
end
