import PyProof.Rows.All
import Wide.All
import OpenK.AllK
import Wide.FinOn
import Lean
import PyProof.EqAt
import PyProof.EqKinds
import PyProof.TupleCall
import PySem.Challenge.RW_lotdraw_k58_desk_plans
set_option Elab.async false
set_option linter.all false
set_option maxRecDepth 100000
set_option tactic.hygienic false
set_option hygiene false
local macro_rules
| `(fun 3=>$t)=>`(λE σ H hh=>hh.e λH0 U A0 δ r R F ed P=>$t)
| `(fun 4=>$t)=>`(λσ H Q hh=>hh.e λU A0 δ ds R ed q=>$t)
| `(fun 0=>$t)=>`(λσ H Q hh=>hh.e λU A0 δ d R ed q=>$t)
| `(fun 6=>$t)=>`(λbase f c' cl A outer s H E hr=>$t)
| `(fun 2=>$t)=>`(λf de A outer s H E hr=>$t)
| `(fun 5=>$t)=>`(λ_ _ _ _ _ _ us hl=>$t)
| `(fun 1=>$t)=>`(λ_ _ _ _ _ _=>$t)
| `(fun 7=>$t)=>`(λσ H Q=>$t)
| `(fun 8=>$t)=>`(λx hx=>$t)
| `(fun 9=>$t)=>`(λb hb=>$t)
| `(⋯)=>`(by decide +kernel)
| `(⇑0)=>`((by decide))
| `(⇑1)=>`(Inv X pins σ H s)
| `(⇑2)=>`((by lia))
| `(⇑3)=>`((model X.prog X.w))
| `(⇑4)=>`((cons_of rfl rfl))
| `(⇑5)=>`((x==("__debug__":Str))=false)
| `(⇑6)=>`((cA X scope N' cl C s2 H2 fp pins))
| `(⇑7)=>`((backTo pos (starEach es X.env)).any (·.1)=false)
| `(⇑8)=>`((aa (ae 0) ag))
| `(⇑9)=>`((PE.sh (aK aM)))
| `(⇑10)=>`((model prog w))
| `(⇑11)=>`((by simp))
| `(⇑12)=>`({cls:=.type "tuple_iterator",data:=.fields #[.ref l,.int 0 0]})
| `(⇑13)=>`((Or.inl rfl))
| `(⇑14)=>`((gy (iD (fG (aS dN 2 (aa (ae 2) (aa (ae 1) ag))))) (bh (gC (.bool false))) bu))
| `(⇑15)=>`((.ListComp elt [⟨tg,iter,ifs,0⟩] scope pos))
| `(⇑16)=>`((.mk rfl rfl))
| `(⇑17)=>`((PE.sh (aR (aB 1) br)))
| `(⇑18)=>`((false,eval e X.env))
| `(⇑19)=>`({cls:=.type "list",data:=.seq its.toArray n})
| `(⇑20)=>`((.Call (.Name x p) (e::es) [] pos))
| `(⇑21)=>`((aQ (bC hr) imp_eq (aB 1) ⇑9 (aJ _)))
| `(⇑22)=>`((PE.sh (aY a9 bE rfl B.len cn (aq (aB 0) aw))))
| `(⇑23)=>`((g2 bN (ae 1) (ay 0)))
| `(⇑24)=>`((s.heap.objs.size+1))
| `(⇑25)=>`((.ref s.heap.objs.size))
| `(⇑26)=>`({cls:=.type "range",data:=.fields #[.int lo t,.int hi u,.int 1 v]})
| `(⇑27)=>`((aa (ae 2) ag))
| `(⇑28)=>`((some (.int ((pos:Nat)+(dE.map PyData.int).length))))
| `(⇑29)=>`(∀n,(n,NameKind.free)∈scope.names->∃c,cl.lookup n=some c)
| `(⇑30)=>`((List.replicate k none++eR ix δ))
| `(⇑31)=>`((bh (cj (aa (g2 aA (g2 aA (ae 3) (cD " ")) (jm (cD " ") (aX (cb (aU (ae 5)) [] (cQ j2 ⇑8))))) (aa (aS bW 2 (aa (ae 3) (aa (ae 5) ag))) ag)))))
| `(⇑32)=>`((cj (aa (cj (aa (g2 aA (ae 4) (ay 1)) (aa (g2 eZ (ae 2) (ae 4)) ag))) (aa (cj (aa (ae 4) (aa (g2 aA (g2 eZ (ae 2) (ae 4)) (ay 1)) ag))) ag))))
| `(⇑33)=>`((aj rfl rfl (cM ⋯ ⋯ ⋯)))
| `(⇑34)=>`((aQ (bC hr) imp_eq (aB 0) ⇑9 (aJ _)))
| `(⇑35)=>`(∀x,foldedSetIterable iter X.env x=pure x)
| `(⇑36)=>`((sZ c m many (some (.list (dg.map .int))) (some (.list (([0]::q).map dR))) (some (.list (dE.map .int))) ⇑28 (some (.list (r1.map .int)))))
| `(⇑37)=>`(∀b∈ch,(b∈X.ex\/X.ip.heap.objs.size<=b)/\b≠X.env.locals/\(∀x c,X.env.cells.lookup x=some c->c≠b)/\∀p∈X.pn++pins,p.1≠b)
| `(⇑38)=>`((A.deeper (PySem.W.envX qual scope s.heap.objs.size f (.ref c') cl)))
| `(⇑39)=>`(∀n c,cl.lookup n=some c->X.env.cells.lookup n=some c)
| `(⇑40)=>`({cls:=.type "tuple",data:=.seq (ys.map λp:Nat=>rawInt p).toArray})
| `(⇑41)=>`((λz=>nomatch z))
| `(⇑42)=>`((some (.list (r.map .int))))
| `(⇑43)=>`(((X.mg (Str.ofString "__name__")).getD .none))
| `(⇑44)=>`((sU (.list (ns.map .int)) [.str x,.str y,.str z] a m none none none none none none))
| `(⇑$f:ident)=>`($f P w K mg base)
local macro_rules
| `(tactic|intro 8)=>`(tactic|intro value slice pins s σ H x y v u Q I rx ry h hs)
| `(tactic|intro 0)=>`(tactic|intro X hP hw hK hc i pins s σ H E I hf st hg)
| `(tactic|intro 7)=>`(tactic|intro pins s σ H x vs v us Q I rx rv h)
| `(tactic|intro 2)=>`(tactic|intro pins s σ H x y v u Q I rx ry h)
| `(tactic|intro 4)=>`(tactic|intro A H x y dx dy d Q al hx hy e q)
| `(tactic|intro 3)=>`(tactic|intro pins s σ H xs us Q I r h)
| `(tactic|intro 5)=>`(tactic|intro A H vs ds d Q al h e q)
| `(tactic|intro 1)=>`(tactic|intro pins s σ H Q I h)
| `(tactic|intro 6)=>`(tactic|intro pins s σ H D I h)
| `(tactic|intro 9)=>`(tactic|intro pins s σ H R I h)
set_option hygiene true
set_option maxHeartbeats 0
theorem aE.ws0:PySem.Challenge.rw_lotdraw_k58_desk_plans.row.wellSaid=true:=by kernel_rfl
theorem aE.ws1:PySem.Challenge.rw_lotdraw_k58_desk_plans.wellSaid=true:=by
 iterate 18 refine PySem.W.look_both ?_ (by kernel_rfl)
 exact aE.ws0
abbrev ao:=PySem.W.Frag
abbrev eQ:=PySem.Str->Option PySem.Value
abbrev cz:=List (PySem.Addr×PySem.Obj)
abbrev eJ:=PySem.Value->PySem.Shared->Prop
abbrev dz:=List (List Int)
abbrev bZ:=List PySem.Value
noncomputable section
def aaa:=@PySem.Heap.get?_push_of_some
def aab:=@PySem.wpAny_bind
def aac:=@List.length_map
def aad:=@Option.bind_some
def aae:=@PySem.Heap.get?_push_size
def aaf:=@List.mem_append_right
def aag:=@PySem.wpAny_pure
def aah:=@Nat.le_refl
def aai:=@PySem.Heap.lt_size
def aaj:=@List.mem_cons
def aak:=@List.length_append
def aal:=@List.getElem?_eq_getElem
def aam:=@Nat.lt_of_lt_of_le
def aan:=@List.mem_cons_self
def aap:=@List.mem_append
def aaq:=@decide_eq_true
def aar:=@List.getElem?_eq_some_iff
def aas:=@List.getElem?_map
def aat:=@List.mem_cons_of_mem
def aau:=@List.mem_of_getElem?
def aav:=@if_pos
def aaw:=@List.map_cons
def aax:=@List.mem_append_left
def aay:=@Nat.ne_of_lt
def aaz:=@List.length_cons
def aaA:=@List.size_toArray
def aaB:=@if_neg
def aaC:=@List.getD_eq_getElem?_getD
def aaD:=@Array.length_toList
def aaG:=@decide_eq_false
def aaH:=@List.mem_map
def aaT:=@List.getElem?_set_ne
def aaV:=@Bool.false_ne_true
def aaW:=@List.length_singleton
def aaX:=@Bool.and_eq_true
def aa3:=@PySem.PassesOwn.never
def aa4:=@decide_eq_true_eq
def aa6:=@Nat.le_trans
def aa8:=@beq_eq_false_iff_ne
def aba:=@PySem.W.mg_of
def abg:=@PySem.F.slot_list_append
def abi:=@PySem.F.plainAttrs_list
def abj:=@List.map_append
def abl:=@List.getElem?_set_self
def abr:=@List.append_nil
def abt:=@List.append_assoc
def abu:=@PySem.wpAny_mono
def abv:=@PySem.mem_of_lookup
def abx:=@PySem.F.type_list_append
def abz:=@PySem.Heap.get?_update_self
def abA:=@List.mem_singleton
def abF:=@Nat.lt_irrefl
def abH:=@Option.some.inj
def abI:=@List.getElem?_append_right
def abJ:=@Nat.lt_of_le_of_lt
def abN:=@Int.emod_lt_of_pos
def abO:=@Nat.zero_le
def abP:=@PySem.Heap.SameBut.update
def abQ:=@PySem.W.kia_one
def abR:=@congrArg
def abS:=@PySem.Heap.size_push
def abT:=@PySem.wpAny_callSpecial?_slot
def abU:=@List.all_eq_true
def abV:=@Int.toNat_natCast
def abW:=@Array.getElem?_eq_getElem
def abY:=@PySem.wpAny_Call_Name_kw
def ab1:=@PySem.Obj.data_mapFields
def aca:=@List.length_set
def acb:=@List.length_take
def acf:=@PySem.wpAny_call_entry
def acg:=@Array.toList_append
def ach:=@PySem.wpAny_truthy_bool
def aci:=@PyProof.Rows.callWith_type1
def acj:=@List.pairwise_cons
def aco:=@Int.emod_nonneg
def acu:=@Option.map_eq_some_iff
def acw:=@Ne.symm
def acx:=@Nat.lt_succ_self
def acz:=@PySem.Heap.get?_update_other
def acA:=@List.not_mem_nil
def acB:=@List.drop_eq_getElem_cons
def acH:=@List.getElem?_append_left
def acI:=@List.getElem?_eq_none
def adL:=@PySem.F.called_set
def adM:=@List.length_eq_zero_iff
def adN:=@Nat.le_of_lt
def adO:=@PySem.codeAny_mono
def adP:=@PySem.F.slot_tuple_iterator_next
def adV:=@List.take_add_one
def adW:=@Nat.add_le_add_left
def adX:=@PySem.Calls.spliced_cons
def adY:=@List.take_length
def adZ:=@PySem.wpAny_holding
def ad0:=@List.map_map
def ad1:=@Bool.true_and
def ad2:=@List.mem_range
def ad3:=@PySem.Value.type.inj
def ad4:=@PySem.wpAny_newObj_type
def ad5:=@Option.map_some
def ad6:=@List.forIn_cons
def ad7:=@List.nil_append
def ad8:=@PySem.F.slot_str_split
def ad9:=@PySem.StrLaws.joinFits
def aea:=@Nat.le_of_not_lt
def aeb:=@PySem.wpAny_setField
def aec:=@PySem.Obj.isFreed_of_fields
def aed:=@PySem.wpAny_passesOwn
def aee:=@PySem.codeAny_builtin
def aef:=@PySem.wpAny_pyIter_enum
def aeg:=@List.getElem?_zipIdx
def aeh:=@PySem.wpAny_setState_of
def aei:=@Nat.lt_succ_of_lt
def aej:=@PySem.F.called_enumerate
def aek:=@List.cons.inj
def ael:=@List.getElem_of_mem
def aem:=@PySem.wpAny_setEntries_of
def aen:=@List.lookup_cons
def aeo:=@List.drop_length
def aep:=@PySem.wpAny_askSetting
def aeq:=@List.cons_append
def aer:=@Nat.ne_of_gt
def aes:=@PySem.W.callWith_K
def aet:=@PySem.F.plainAttrs_str
def aeu:=@PySem.Calls.spliced_nil
def aev:=@List.length_range
def aew:=@List.foldl_append
def aey:=@Bool.false_and
def aez:=@PySem.wpAny_letOwnedTupleGo_enum
def aeA:=@PySem.Around.under_plainId
def aeB:=@Array.getElem?_eq_some_iff
def aeC:=@List.drop_eq_nil_iff
def aeD:=@List.length_drop
def aeE:=@List.getElem_mem
def aeF:=@Array.toList_inj
def aeG:=@PySem.F.slot_dict_getitem
def aeH:=@PyProof.Rows.F.entry_set_update_loop
def aeI:=@PyProof.Rows.F.plain_set_update_loop
def aeJ:=@PySem.W.codeHd_of_K
def aeK:=@PySem.Heap.get?_update_ne
def aeL:=@List.map_congr_left
def aeM:=@List.filter_sublist
def aeN:=@PySem.F.args_tuple_add_2
def aeO:=@List.all_cons
def aeP:=@List.any_cons
def aeQ:=@PySem.wpAny_attempt
def aeR:=@PySem.F.args_str_split_2
def aeS:=@PySem.Str.ext'
def aeT:=@List.nodup_cons
def aeU:=@List.of_mem_zip
def aeV:=@Bool.eq_iff_iff
def aeW:=@List.length_nil
def aeX:=@PySem.tupleKind_room_in1
def aeY:=@PySem.F.args_tuple_iterator_next_1
def aeZ:=@List.getElem?_drop
def ae0:=@List.length_zipIdx
def ae1:=@Nat.le_succ
def ae2:=@PySem.F.entry_tuple_add
def ae3:=@PySem.F.entry_str_split
def ae4:=@PySem.F.entry_tuple_iterator_next
def ae5:=@PySem.F.slot_tuple_add
def ae6:=@PySem.F.slot_list_extend
def ae7:=@PySem.Obj.cls_mapFields
def ae8:=@Array.toList_push
def ae9:=@PySem.isSubtype_type
def afa:=@Array.getElem?_eq_none
def afb:=@of_decide_eq_true
def afc:=@PySem.F.slot_dict_get
def afd:=@List.take_append_drop
def afe:=@List.singleton_append
def aff:=@List.length_filter_le
def afg:=@PySem.wpAny_execs_cons
def afh:=@beq_iff_eq
def afi:=@PySem.wpAny_call
def afj:=@Nat.succ_le_succ
def afk:=@List.range'_succ
def afl:=@beq_self_eq_true
def afm:=@PySem.wpAny_standAt
def afn:=@PySem.plainId_quiet
def afp:=@PySem.Around.frames_deeper
def afq:=@PySem.codeAny_call_builtin
def afr:=@PySem.wpAny_newFunctionEnv
def afs:=@List.mem_of_mem_take
def aft:=@PySem.wpAny_execs_nil
def afu:=@Nat.le_antisymm
def afv:=@PySem.F.slot_zip_next
def afw:=@List.zipIdx_map
def afx:=@PySem.W.plainGet_of
def afy:=@ne_true_of_eq_false
def afz:=@List.getElem?_range
def afB:=@Nat.zero_add
def afD:=@List.mem_filterMap
def afE:=@PySem.typeIs_str
def afF:=@PySem.call_meets
def afG:=@Bool.and_false
def afI:=@Array.append_empty
def afJ:=@PySem.wpAny_seqItems
def afL:=@PySem.wpAny_rule
def afM:=@or_false
def afN:=@PySem.wpAny_fieldsOf
def afP:=@List.zip_cons_cons
def afQ:=@List.take_zero
def afR:=@PySem.Str.cps_append
def afX:=@PySem.W.kitx_list
def afY:=@Option.isSome_map
def af0:=@PySem.wpAny_of_eq
def af2:=@Bool.not_eq_true'
def af3:=@Option.some.injEq
def agc:=@Nat.succ_ne_self
def agg:=@decide_eq_decide
def agj:=@List.map_nil
def agm:=@List.any_map
def agq:=@Nat.sub_self
def agt:=@List.map_id'
namespace L2
open PySem
noncomputable def inClass(s:Stmt)(j:Nat):Stmt:=match s with
 |.ClassDef _ _ _ body _ _ _ _ _ _ _=>body.getD j (.Pass ⟨0,0,0,0⟩)
 |_=>.Pass ⟨0,0,0,0⟩
def dZ(s:Stmt):Arguments:=match s with
 |.FunctionDef _ a _ _ _ _ _ _ _ _=>a
 |_=>{posonlyargs:=[],args:=[],vararg:=none,kwonlyargs:=[],kw_defaults:=[],kwarg:=none,defaults:=[]}
def cf(s:Stmt):List Stmt:=match s with
 |.FunctionDef _ _ b _ _ _ _ _ _ _=>b
 |_=>[]
noncomputable def ah(s:Stmt):Scope:=match s with
 |.FunctionDef _ _ _ _ _ _ sc _ _ _=>sc
 |_=>{kind:=.function,names:=[],isGenerator:=false,isCoroutine:=false}
end L2
namespace Hd
open PySem PySem.W
noncomputable def xU(tb:String->Option Builtin)(p:Program)(w:World)(m:Nat)(ann:Option Value):Nat->SharedT->Thread->Option SharedT
 |0,_,_=>none
 |n+1,s,t=>match through t with
   |true=>some s
   |false=>match stepOk m ann t with
     |false=>none
     |true=>match stepT (denote tb) p w s t with
       |some (s',t')=>xU tb p w m ann n s' t'
       |none=>none
theorem F9:∀{n:Nat} {s s':SharedT} {t:Thread},xU tb p w m ann n s t=some s'->topRun tb p w m ann n s.abs t=some s'.abs
 |0,_,_,_,h=>by cases h
 |n+1,s,s',t,h=>by
   unfold xU at h;unfold topRun;cases he:through t with
   |true=>rw[he]at h;cases h;rfl
   |false=>
     rw[he]at h;cases hk:stepOk m ann t with
     |false=>rw[hk]at h;cases h
     |true=>
       rw[hk]at h;cases hs:stepT (denote tb) p w s t with
       |none=>rw[hs]at h;cases h
       |some r=>obtain⟨s2,t2⟩:=r;rw[hs]at h;rw[stepT_spec hs];exact F9 h
def QA(P:Params):BT:=(.node (boot_o_0 P) (.node (boot_o_1 P) (.node (boot_o_3 P) (.node (boot_o_7 P) .nil .nil) .nil) (.node (boot_o_5 P) (.node (boot_o_9 P) .nil .nil) .nil)) (.node (boot_o_2 P) (.node (boot_o_4 P) (.node (boot_o_8 P) .nil .nil) .nil) (.node (boot_o_6 P) (.node (boot_o_10 P) .nil .nil) .nil)))
theorem boot_abs(P:Params):boot_heap P=absHeap (QA P) 11 (boot_heap P).life:=by kernel_rfl
def ui(w:World)(os:OsState):SharedT:=⟨QA w.params,11,(boot_heap w.params).life,Array.mk [],boot_drawn,boot_toks,os⟩
theorem NU(w:World)(os:OsState):(ui w os).abs=⟨boot_heap w.params,Array.mk [],boot_drawn,boot_toks,os⟩:=rfl
theorem HJ(P:Params):((boot_heap P).isNs mainGlobals,(boot_heap P).objs.size,(boot_heap P).nsMap mainGlobals "__annotations__")=(true,11,some (.ref 6)):=by kernel_rfl
theorem HK{Ya:World->α}(e:opening p=plainProg p.main.scope.names)(hN:Nat.ble 600 N=true)(f:∀s,fenceModules? p s=some s)
  (one:∀(w:World) (os:OsState),(xU treeTable p w 11 (some (.ref 6)) N (ui w os) (topStub p)).map (λs=>((staticsOk (importedModules p.main.body) (boot_heap w.params) s.abs.heap&&namesBound p s.abs.heap&&gensDone s.abs&&laidKept (boot_heap w.params) s.abs.heap),Yf s.abs))=some (true,Ya w))
  (two:∀(w:World) (os:OsState),(xU treeTable p w 11 (some (.ref 6)) N (ui w os) (topStub p)).map (λs=>openSeen q loose (importedModules p.main.body) Xt true s.abs)=some (openGood q loose)):
  LeftO p q loose Xt Yf Ya N:=λw=>by
 obtain⟨⟨h,gs,d,k,os⟩,e1,e2⟩:=acu.mp (boot_open e hN f w)
 obtain⟨rfl,rfl,rfl,rfl⟩:h=boot_heap w.params/\gs=Array.mk []/\d=boot_drawn/\k=boot_toks:=by simpa using e2
 obtain⟨s,r,l⟩:=acu.mp (one w os)
 obtain⟨l1,l3⟩:_/\_:=by simpa only[Prod.mk.injEq]using l
 have l2:openSeen q loose (importedModules p.main.body) Xt true s.abs=openGood q loose:=by grind
 obtain⟨z1,z2,z3⟩:_/\_/\_:=by simpa only[Prod.mk.injEq]using HJ w.params
 have r':=F9 r
 rw[NU]at r'
 have t:topFrom treeTable p w N ⟨boot_heap w.params,Array.mk [],boot_drawn,boot_toks,os⟩=some s.abs:=by
  unfold topFrom;rw[z1,z2,z3,r'];show(match staticsOk (importedModules p.main.body) (boot_heap w.params) s.abs.heap&&namesBound p s.abs.heap&&gensDone s.abs&&laidKept (boot_heap w.params) s.abs.heap with|true=>_|false=>_)=_;rw[l1]
 unfold openEnds
 rw[e1]
 show(topFrom treeTable p w N ⟨boot_heap w.params,Array.mk [],boot_drawn,boot_toks,os⟩).map _=_
 rw[t,ad5,l2,l3]
noncomputable def SG:List Obj->List Obj
 |[]=>[]
 |[a]=>[a]
 |a::_::l=>a::SG l
def J8:Nat->List Obj->BT
 |0,_=>.nil
 |_+1,[]=>.nil
 |n+1,o::l=>.node o (J8 n (SG l)) (J8 n (SG l.tail))
noncomputable abbrev QB(f:FuncData):FuncData:={f with globals:=0}
def litS(n:Nat)(l:List Obj)(life:Life)(toks:Nat)(os:OsState):SharedT:=⟨J8 12 l,n,life,Array.mk [],boot_drawn,toks,os⟩
theorem ext3{A B C D:Type}{f g:A×B×C×D}(h1:f.1=g.1)(h2:(f.2.1,f.2.2.1)=(g.2.1,g.2.2.1))(h3:f.2.2.2=g.2.2.2):f=g:=by lia
theorem J9{Ya:World->α}(e:opening p=plainProg p.main.scope.names)(hN:Nat.ble 600 N=true)(f:∀s,fenceModules? p s=some s)(E:World->OsState->SharedT)
  (run:∀(w:World) (os:OsState),xU treeTable p w 11 (some (.ref 6)) N (ui w os) (topStub p)=some (E w os))
  (one:∀(w:World) (os:OsState),((staticsOk (importedModules p.main.body) (boot_heap w.params) (E w os).abs.heap&&namesBound p (E w os).abs.heap&&gensDone (E w os).abs&&laidKept (boot_heap w.params) (E w os).abs.heap),Yf (E w os).abs)=(true,Ya w))
  (two:∀(w:World) (os:OsState),openSeen q loose (importedModules p.main.body) Xt true (E w os).abs=openGood q loose):LeftO p q loose Xt Yf Ya N:=
 HK e hN f (λw os=>(abR (Option.map _) (run w os)).trans (abR some (one w os))) (λw os=>(abR (Option.map _) (run w os)).trans (abR some (two w os)))
end Hd
namespace aE
open PySem PySem.W L2
noncomputable def top (i:Nat):Stmt:=PySem.Challenge.pw_lotdraw_k58_desk_plans.main.body.getD i (.Pass ⟨0,0,0,0⟩)
def q0:Program:={ PySem.Challenge.pw_lotdraw_k58_desk_plans with main:={ PySem.Challenge.pw_lotdraw_k58_desk_plans.main with body:=[top 1,top 2,top 3,top 4,top 5,top 6,top 7,top 8,top 9,top 10,top 11,top 13,top 14,top 15,top 16,top 17,top 18,top 19,top 20,top 21,top 22,top 23,top 24,top 26,top 27,top 28,top 29,top 30,top 31,top 32,top 33,top 34,top 35,top 36,top 37,top 39,top 40,top 41,top 42,top 43,top 44,top 45,top 47,top 48,top 49,top 51,top 52,top 53,top 54,top 56,top 57,top 59,top 60,top 61,top 62,top 63,top 64,top 65,top 66,top 67,top 69,top 71,top 72,top 73,top 74,top 75,top 76,top 77,top 78,top 80,top 81,top 82,top 83,top 84,top 86,top 87,top 88,top 89,top 90,top 91,top 92,top 94,top 96,top 97,top 98,top 99,top 100,top 101,top 103,top 104,top 105,top 106,top 107,top 109,top 110,top 111,top 112,top 113,top 114,top 115,top 116,top 117,top 118,top 119,top 120,top 121,top 122,top 123,top 124,top 125] } }
noncomputable abbrev eT:Obj:=⟨(.type "tuple"),none,(.seq #[] 0),#[]⟩
abbrev nT:Obj:=⟨.none,none,(.fields #[]),#[]⟩
noncomputable def vT(t:Nat)(ns:List Str):Obj:=⟨.type "tuple",none,.seq ((ns.zipIdx t).map λx=>.str x.1 x.2).toArray 0,#[]⟩
def tT(c:Int)(l:List (Int×Addr)):Obj:=⟨.none,none,.fields (l.flatMap λx=>[.int x.1 0,.int c 0,.ref x.2]).toArray,#[]⟩
abbrev gF(n q:Str)(s:Stmt):Obj:=⟨.none,none,.func (Hd.QB (fnOf n q (dZ s) (cf s) (ah s) .none .none .none .none none .none .none)),#[]⟩
noncomputable abbrev cO(n q:Str)(t l a b:Nat)(x y:Value)(g e:Nat):Obj:=⟨.type "code",none,.fields #[.str n t,.str q (t+1),.str "/claim/cut.py" (t+2),.int l 0,.int a 0,.int 0 0,.int 0 0,.int 3 0,.ref b,.bool true,.int 181 0,.ref (b+1),.none,x,y,.ref g,.int e 0,.int l 0,.str "/claim/cut.py" (e+1)],#[]⟩
abbrev c7(n q:Str)(t l a b v:Nat):Obj:=cO n q t l a b (.ref (b+2)) (.ref (b+3)) (b+4) (t+3+v)
abbrev c5(n q:Str)(t l a b:Nat):Obj:=cO n q t l a b .none .none (b+2) (t+3)
abbrev fF(n q:Str)(s:Stmt)(m:Str×Nat)(c:Nat):Obj:=⟨.type "function",none,.func (fnOf n q (dZ s) (cf s) (ah s) .none .none .none (.str m.1 m.2) none (.ref c) .none),#[]⟩
def b7(n q:Str)(s:Stmt)(t l a b:Nat)(m:Str×Nat)(vs:List Str):List Obj:=[eT,nT,vT (t+3) vs,eT,gF n q s,c7 n q t l a b vs.length,fF n q s m (b+5)]
def b5(n q:Str)(s:Stmt)(t l a b:Nat)(m:Str×Nat):List Obj:=[eT,nT,gF n q s,c5 n q t l a b,fF n q s m (b+3)]
def d7(n:Str)(i t l a b:Nat)(m:Str×Nat)(vs:List Str):=b7 n n (top i) t l a b m vs
def d5(n:Str)(i t l a b:Nat)(m:Str×Nat):=b5 n n (top i) t l a b m
abbrev e7(n:Str)(t l a b v:Nat):=c7 n n t l a b v
abbrev e5(n:Str)(t l a b:Nat):=c5 n n t l a b
abbrev f7(n:Str)(i:Nat)(m:Str×Nat)(c:Nat):=fF n n (top i) m c
abbrev w0:Str×Nat:=("lotdraw.fracs",367)
abbrev w1:Str×Nat:=("lotdraw.plans",464)
abbrev w2:Str×Nat:=("lotdraw.polys",547)
abbrev w3:Str×Nat:=("lotdraw.ways",604)
abbrev w4:Str×Nat:=("lotdraw.odds",634)
abbrev w5:Str×Nat:=("lotdraw.only",664)
abbrev w6:Str×Nat:=("lotdraw.rules",681)
abbrev w7:Str×Nat:=("lotdraw.tellings",763)
abbrev w8:Str×Nat:=("lotdraw.texts",773)
abbrev w9:Str×Nat:=("lotdraw.answers",816)
abbrev Ka:Str×Nat:=("lotdraw.deeds",852)
abbrev w11:Str×Nat:=("lotdraw.words",960)
abbrev BA:Str×Nat:=("lotdraw.desk",1019)
abbrev p0:Str×Nat:=("law_lotdraw_k58_desk_plans",1126)
noncomputable abbrev ent(P:Params)(k:Str)(n:Nat)(v:Value):DictEntry:=⟨PyData.keyHash P k,.str k n,v⟩
noncomputable abbrev HL(P:Params):=λx0 x1 x2 x3 x4 x5 x6 x7 x8=>(⟨(.type "code"),none,(.fields #[(.str x0 x1),(.str x0 x2),(.str "/claim/cut.py" x3),(.int x4 0),(.int 0 0),(.int 0 0),(.int 0 0),(.int 0 0),(.ref x5),(.bool false),(.int 181 0),(.ref x6),.none,.none,.none,.none,(.int x7 0),(.int x4 0),(.str "/claim/cut.py" x8)]),#[]⟩:Obj)
noncomputable abbrev y8(P:Params):=λx0 x1 x2 x3=>(⟨(.type "frame"),none,.plain,#[(some (.ref x0)),(some (.ref 3)),(some (.ref x1)),none,(some (.str x2 x3)),none,(some (.ref 0))]⟩:Obj)
abbrev q8(P:Params):=λx0 x1 x2 x3 x4 x5 x6 x7 x8=>(⟨(.type "dict"),none,(.dict #[(ent P "__module__" x0 (.str "lotdraw.errors" 187)),(ent P "__qualname__" x1 (.str x2 x3)),(ent P "__firstlineno__" x4 (.int x5 x6)),(ent P "__static_attributes__" x7 (.ref x8))] 4),#[]⟩:Obj)
noncomputable abbrev JV(P:Params):=λx0=>(⟨(.type "super"),none,(.fields #[(.ref x0),(.ref x0),(.ref x0)]),#[]⟩:Obj)
noncomputable abbrev JW(P:Params):=λx0=>(⟨(.type "builtin_function_or_method"),none,(.fields #[(.builtin "object.__init_subclass__"),(.ref x0)]),#[]⟩:Obj)
abbrev Nv(P:Params):=λx0 x1 x2 x3 x4 x5 x6=>(⟨(.type "dict"),none,(.dict #[(ent P "__module__" x0 (.str "lotdraw.errors" 187)),(ent P "__firstlineno__" x1 (.int x2 x3)),(ent P "__static_attributes__" x4 (.ref x5)),(ent P "__doc__" x6 .none)] 2),#[]⟩:Obj)
noncomputable abbrev Nw(P:Params):=λx0 x1 x2 x3 x4 x5=>(⟨(.type "type"),none,(.cls ⟨x0,[(.ref 24)],[(.ref x1),(.ref 24),(.type "ValueError"),(.type "Exception"),(.type "BaseException"),(.type "object")],x2,x0,true,[],[],false,none,false⟩),#[(some (.ref x3)),none,(some (.str x0 x4)),(some (.str x0 x5)),(some (.builtin "ValueError.__new__")),(some (.bool true))]⟩:Obj)
noncomputable abbrev VS(P:Params):=λx0 x1=>(⟨(.type "tuple"),none,(.seq #[(.str x0 x1)] 0),#[]⟩:Obj)
noncomputable abbrev SH(P:Params):=λx0 x1 x2 x3=>(⟨(.type "tuple"),none,(.seq #[(.str x0 x1),(.str x2 x3)] 0),#[]⟩:Obj)
noncomputable abbrev ZT(P:Params):=λx0 x1 x2 x3 x4 x5 x6 x7 x8 x9=>(⟨(.type "tuple"),none,(.seq #[(.str x0 x1),(.str x2 x3),(.str x4 x5),(.str x6 x7),(.str x8 x9)] 0),#[]⟩:Obj)
abbrev Kb(P:Params):=λx0 x1=>(⟨.none,none,.func (Hd.QB (fnOf x0 x0 (dZ (top x1)) (cf (top x1)) (ah (top x1)) .none .none .none .none none .none .none)),#[]⟩:Obj)
noncomputable abbrev Kc(P:Params):=λx0 x1 x2 x3 x4 x5 x6 x7 x8 x9 x10 x11 x12=>(⟨(.type "code"),none,(.fields #[(.str x0 x1),(.str x0 x2),(.str "/claim/cut.py" x3),(.int x4 0),(.int x5 0),(.int 0 0),(.int 0 0),(.int 3 0),(.ref x6),(.bool true),(.int 181 0),(.ref x7),.none,(.ref x8),(.ref x9),(.ref x10),(.int x11 0),(.int x4 0),(.str "/claim/cut.py" x12)]),#[]⟩:Obj)
abbrev Kd(P:Params):=λx0 x1 x2 x3 x4=>(⟨(.type "function"),none,.func (fnOf x0 x0 (dZ (top x1)) (cf (top x1)) (ah (top x1)) .none .none .none (.str x2 x3) none (.ref x4) .none),#[]⟩:Obj)
noncomputable abbrev JX(P:Params):Obj:=⟨(.type "builtin_function_or_method"),none,(.fields #[(.builtin "type.__prepare__"),(.type "type")]),#[]⟩
noncomputable abbrev Ny(P:Params):Obj:=⟨(.type "tuple"),none,(.seq #[(.ref 24)] 0),#[]⟩
noncomputable abbrev k2(P:Params):Obj:=⟨.none,none,(.dict #[] 0),#[]⟩
abbrev k3(P:Params):Obj:=⟨(.type "dict"),none,(.dict #[(ent P "__name__" 165 (.str "law_lotdraw_k58_desk_plans" 1126)),(ent P "__doc__" 166 .none),(ent P "__package__" 167 .none),(ent P "__loader__" 168 (.builtin "__main__.__loader__#opaque")),(ent P "__spec__" 169 .none),(ent P "__annotations__" 170 (.ref 6)),(ent P "__builtins__" 171 (.ref 4)),(ent P "__file__" 173 (.str "/claim/cut.py" 172)),(ent P "__cached__" 174 .none),(ent P "LotError" 206 (.ref 24)),(ent P "NoNumber" 222 (.ref 37)),(ent P "NoPlan" 238 (.ref 49)),(ent P "TooLong" 254 (.ref 61)),(ent P "NoText" 270 (.ref 73)),(ent P "NoEnd" 286 (.ref 85)),(ent P "NoTelling" 302 (.ref 97)),(ent P "NoShares" 318 (.ref 109)),(ent P "NoDeed" 334 (.ref 121)),(ent P "NoName" 350 (.ref 133)),(ent P "NoDraw" 366 (.ref 145)),(ent P "LONG" 370 (.int 4000 369)),(ent P "WINDOW" 372 (.int 240 371)),(ent P "SHED" 374 (.int 120 373)),(ent P "frac" 383 (.ref 154)),(ent P "plus" 395 (.ref 161)),(ent P "minus" 403 (.ref 168)),(ent P "times" 413 (.ref 175)),(ent P "over" 421 (.ref 182)),(ent P "power" 432 (.ref 189)),(ent P "under" 440 (.ref 196)),(ent P "greatest_divisor" 450 (.ref 203)),(ent P "leap" 463 (.ref 210)),(ent P "MOST_PLACES" 467 (.int 24 466)),(ent P "is_plan" 476 (.ref 217)),(ent P "goes_on" 485 (.ref 224)),(ent P "come_to" 491 (.ref 229)),(ent P "ends" 497 (.ref 234)),(ent P "drawn_on" 503 (.ref 239)),(ent P "check_ends" 513 (.ref 246)),(ent P "plan_while" 519 (.ref 251)),(ent P "led_to" 525 (.ref 256)),(ent P "after" 533 (.ref 263)),(ent P "is_place" 539 (.ref 268)),(ent P "is_whole" 546 (.ref 275)),(ent P "NOUGHT" 551 (.ref 276)),(ent P "scaled" 557 (.ref 281)),(ent P "worth" 569 (.ref 288)),(ent P "of_count" 580 (.ref 295)),(ent P "trimmed" 588 (.ref 302)),(ent P "common_bottom" 597 (.ref 309)),(ent P "tops_over" 603 (.ref 314)),(ent P "ways_to" 613 (.ref 321)),(ent P "first_bad" 621 (.ref 328)),(ent P "ways_from" 633 (.ref 335)),(ent P "odds" 643 (.ref 342)),(ent P "mean_of" 649 (.ref 347)),(ent P "mean_draws" 655 (.ref 352)),(ent P "check_telling" 663 (.ref 359)),(ent P "stretches" 674 (.ref 366)),(ent P "is_side_by_side" 680 (.ref 371)),(ent P "WHOLE" 685 (.ref 372)),(ent P "ratio" 694 (.ref 379)),(ent P "rule_by_ratio" 708 (.ref 386)),(ent P "check_shares" 716 (.ref 393)),(ent P "check_most" 723 (.ref 400)),(ent P "often" 733 (.ref 407)),(ent P "by_falling_ratio" 739 (.ref 412)),(ent P "taken" 755 (.ref 419)),(ent P "in_order" 762 (.ref 426)),(ent P "share_at" 772 (.ref 433)),(ent P "FIGURES" 776 (.str "0123456789" 775)),(ent P "MOST_FIGURES_texts" 778 (.int 2 777)),(ent P "show_plan" 784 (.ref 438)),(ent P "show_place" 790 (.ref 443)),(ent P "read_plan" 796 (.ref 448)),(ent P "read_place" 802 (.ref 453)),(ent P "read_number" 809 (.ref 460)),(ent P "is_number" 815 (.ref 465)),(ent P "answer_of" 827 (.ref 472)),(ent P "show_rule" 833 (.ref 477)),(ent P "show_counts" 839 (.ref 482)),(ent P "show_count" 845 (.ref 487)),(ent P "show_fraction" 851 (.ref 492)),(ent P "MOST_FIGURES_deeds" 855 (.int 30 854)),(ent P "FORMS" 912 (.ref 493)),(ent P "read_row" 921 (.ref 516)),(ent P "read_words" 927 (.ref 521)),(ent P "read_word" 935 (.ref 528)),(ent P "read_whole" 942 (.ref 535)),(ent P "read_fraction" 951 (.ref 542)),(ent P "check" 958 (.ref 584)),(ent P "check_deeds" 959 (.ref 549)),(ent P "so_many" 969 (.ref 556)),(ent P "till" 979 (.ref 563)),(ent P "two_steps" 994 (.ref 570)),(ent P "between" 1010 (.ref 577)),(ent P "check_words" 1018 (.ref 584)),(ent P "LETTERS" 1022 (.str "abcdefghijklmnopqrstuvwxyz" 1021)),(ent P "MOST_LETTERS" 1024 (.int 8 1023)),(ent P "Desk" 1111 (.ref 643)),(ent P "check_name" 1117 (.ref 652)),(ent P "plan_by" 1125 (.ref 659)),(ent P "_law_cell" 1135 (.ref 666)),(ent P "_law_digits" 1146 (.ref 673)),(ent P "_law_mixes" 1158 (.ref 680)),(ent P "_law_plan" 1164 (.ref 685)),(ent P "_law_most" 1171 (.ref 692)),(ent P "_law_numbers" 1177 (.ref 697)),(ent P "_law_ends" 1183 (.ref 702)),(ent P "_law_ways" 1196 (.ref 709)),(ent P "_law_written" 1202 (.ref 714)),(ent P "_law_show_ends" 1208 (.ref 719)),(ent P "_law_names" 1214 (.ref 724)),(ent P "_law_walk" 1220 (.ref 729)),(ent P "_law_by_words" 1229 (.ref 736)),(ent P "_law_judge" 1237 (.ref 743)),(ent P "_law_told" 1250 (.ref 750)),(ent P "_law_made" 1256 (.ref 755)),(ent P "law" 1272 (.ref 762))] 119),#[]⟩
abbrev k23(P:Params):Obj:=⟨(.type "dict"),none,(.dict #[(ent P "__module__" 196 (.str "lotdraw.errors" 187)),(ent P "__firstlineno__" 200 (.int 2 199)),(ent P "__static_attributes__" 201 (.ref 22)),(ent P "__weakref__" 203 (.ref 25)),(ent P "__doc__" 204 .none)] 3),#[]⟩
noncomputable abbrev k24(P:Params):Obj:=⟨(.type "type"),none,(.cls ⟨"LotError",[(.type "ValueError")],[(.ref 24),(.type "ValueError"),(.type "Exception"),(.type "BaseException"),(.type "object")],23,"LotError",true,[],[(.ref 37),(.ref 49),(.ref 61),(.ref 73),(.ref 85),(.ref 97),(.ref 109),(.ref 121),(.ref 133),(.ref 145)],false,none,false⟩),#[(some (.ref 15)),none,(some (.str "LotError" 189)),(some (.str "LotError" 197)),(some (.builtin "ValueError.__new__")),(some (.bool true))]⟩
noncomputable abbrev k25(P:Params):Obj:=⟨(.type "getset_descriptor"),none,(.fields #[(.str "__weakref__" 202),(.ref 24),(.builtin "ExceptionGroup.__weakref__"),.none]),#[]⟩
abbrev k36(P:Params):Obj:=Nv P 214 218 4 217 219 35 220
abbrev k37(P:Params):Obj:=Nw P "NoNumber" 37 36 28 207 215
abbrev k48(P:Params):Obj:=Nv P 230 234 6 233 235 47 236
abbrev k49(P:Params):Obj:=Nw P "NoPlan" 49 48 40 223 231
abbrev k60(P:Params):Obj:=Nv P 246 250 8 249 251 59 252
abbrev k61(P:Params):Obj:=Nw P "TooLong" 61 60 52 239 247
abbrev k72(P:Params):Obj:=Nv P 262 266 10 265 267 71 268
abbrev k73(P:Params):Obj:=Nw P "NoText" 73 72 64 255 263
abbrev k84(P:Params):Obj:=Nv P 278 282 12 281 283 83 284
abbrev k85(P:Params):Obj:=Nw P "NoEnd" 85 84 76 271 279
abbrev k96(P:Params):Obj:=Nv P 294 298 14 297 299 95 300
abbrev k97(P:Params):Obj:=Nw P "NoTelling" 97 96 88 287 295
abbrev Wj(P:Params):Obj:=Nv P 310 314 16 313 315 107 316
abbrev Wk(P:Params):Obj:=Nw P "NoShares" 109 108 100 303 311
abbrev Wl(P:Params):Obj:=Nv P 326 330 18 329 331 119 332
abbrev Wm(P:Params):Obj:=Nw P "NoDeed" 121 120 112 319 327
abbrev Wn(P:Params):Obj:=Nv P 342 346 20 345 347 131 348
abbrev Wp(P:Params):Obj:=Nw P "NoName" 133 132 124 335 343
abbrev Wq(P:Params):Obj:=Nv P 358 362 22 361 363 143 364
abbrev Wr(P:Params):Obj:=Nw P "NoDraw" 145 144 136 351 359
noncomputable abbrev Ws(P:Params):Obj:=⟨(.type "tuple"),none,(.seq #[(.int 0 549),(.int 1 550)] 0),#[]⟩
noncomputable abbrev Wt(P:Params):Obj:=⟨(.type "tuple"),none,(.seq #[(.int 1 683),(.int 1 684)] 0),#[]⟩
abbrev Wu(P:Params):Obj:=⟨(.type "dict"),none,(.dict #[(ent P "plan many" 856 (.ref 494)),(ent P "plan till" 859 (.ref 495)),(ent P "plan steps" 863 (.ref 496)),(ent P "plan between" 869 (.ref 497)),(ent P "show" 876 (.ref 498)),(ent P "ends" 878 (.ref 499)),(ent P "ways" 880 (.ref 500)),(ent P "odds" 884 (.ref 501)),(ent P "mean" 889 (.ref 502)),(ent P "share" 892 (.ref 503)),(ent P "judge" 896 (.ref 504)),(ent P "rule" 898 (.ref 505)),(ent P "lot" 903 (.ref 506)),(ent P "bad" 906 (.ref 507)),(ent P "good" 908 (.ref 508)),(ent P "at" 910 (.ref 509))] 16),#[]⟩
abbrev Wv(P:Params):Obj:=VS P "number" 857
abbrev Ww(P:Params):Obj:=SH P "number" 860 "number" 861
noncomputable abbrev Wx(P:Params):Obj:=⟨(.type "tuple"),none,(.seq #[(.str "number" 864),(.str "number or -1" 865),(.str "number" 866),(.str "number" 867)] 0),#[]⟩
abbrev Wy(P:Params):Obj:=ZT P "number" 870 "number" 871 "number" 872 "number" 873 "number" 874
abbrev Wz(P:Params):Obj:=eT
abbrev WA(P:Params):Obj:=eT
abbrev WB(P:Params):Obj:=SH P "number" 881 "number" 882
noncomputable abbrev WC(P:Params):Obj:=⟨(.type "tuple"),none,(.seq #[(.str "number" 885),(.str "number" 886),(.str "fraction" 887)] 0),#[]⟩
abbrev WD(P:Params):Obj:=VS P "fraction" 890
abbrev WE(P:Params):Obj:=SH P "number" 893 "number" 894
abbrev WG(P:Params):Obj:=eT
noncomputable abbrev WH(P:Params):Obj:=⟨(.type "tuple"),none,(.seq #[(.str "fraction" 899),(.str "fraction" 900),(.str "fraction" 901)] 0),#[]⟩
abbrev WI(P:Params):Obj:=VS P "name" 904
abbrev WJ(P:Params):Obj:=eT
abbrev WK(P:Params):Obj:=eT
abbrev WL(P:Params):Obj:=eT
abbrev WM(P:Params):Obj:=Kc P "so_many" 962 963 964 352 1 550 551 552 553 554 967 968
abbrev WN(P:Params):Obj:=Kd P "so_many" 96 "lotdraw.words" 960 555
abbrev WO(P:Params):Obj:=Kc P "till" 970 971 972 355 2 557 558 559 560 561 977 978
abbrev WQ(P:Params):Obj:=Kd P "till" 97 "lotdraw.words" 960 562
abbrev WR(P:Params):Obj:=Kc P "two_steps" 980 981 982 358 4 564 565 566 567 568 992 993
abbrev WS(P:Params):Obj:=Kd P "two_steps" 98 "lotdraw.words" 960 569
abbrev WT(P:Params):Obj:=Kc P "between" 995 996 997 367 5 571 572 573 574 575 1008 1009
abbrev WU(P:Params):Obj:=Kd P "between" 99 "lotdraw.words" 960 576
abbrev WV(P:Params):Obj:=⟨(.type "dict"),none,(.dict #[(ent P "__module__" 1032 (.str "lotdraw.desk" 1019)),(ent P "__firstlineno__" 1036 (.int 378 1035)),(ent P "__init__" 1043 (.ref 598)),(ent P "say" 1055 (.ref 605)),(ent P "put_plan" 1064 (.ref 612)),(ent P "begin_lot" 1073 (.ref 619)),(ent P "draw" 1085 (.ref 626)),(ent P "plan_named" 1093 (.ref 633)),(ent P "lot_named" 1101 (.ref 640)),(ent P "__static_attributes__" 1104 (.ref 641)),(ent P "__dict__" 1106 (.ref 644)),(ent P "__weakref__" 1108 (.ref 645)),(ent P "__doc__" 1109 .none)] 4),#[]⟩
noncomputable abbrev WX(P:Params):Obj:=⟨(.type "type"),none,(.cls ⟨"Desk",[(.type "object")],[(.ref 643),(.type "object")],642,"Desk",true,[],[],false,none,false⟩),#[none,none,(some (.str "Desk" 1025)),(some (.str "Desk" 1033)),(some (.builtin "object.__new__")),(some (.bool true))]⟩
noncomputable abbrev WY(P:Params):Obj:=⟨(.type "getset_descriptor"),none,(.fields #[(.str "__dict__" 1105),(.ref 643),(.builtin "function.__dict__"),(.builtin "function.__dict__#set")]),#[]⟩
noncomputable abbrev WZ(P:Params):Obj:=⟨(.type "getset_descriptor"),none,(.fields #[(.str "__weakref__" 1107),(.ref 643),(.builtin "ExceptionGroup.__weakref__"),.none]),#[]⟩
abbrev W0(P:Params):Obj:=Kc P "_law_by_words" 1221 1222 1223 536 2 730 731 732 733 734 1227 1228
abbrev W1(P:Params):Obj:=Kd P "_law_by_words" 121 "law_lotdraw_k58_desk_plans" 1126 735
def W2:Params->Frag:=λP=>(nat_lit 2,k2 P)::(nat_lit 3,k3 P)::(nat_lit 23,k23 P)::(nat_lit 24,k24 P)::(nat_lit 25,k25 P)::(nat_lit 36,k36 P)::(nat_lit 37,k37 P)::(nat_lit 48,k48 P)::(nat_lit 49,k49 P)::(nat_lit 60,k60 P)::(nat_lit 61,k61 P)::(nat_lit 72,k72 P)::(nat_lit 73,k73 P)::(nat_lit 84,k84 P)::(nat_lit 85,k85 P)::(nat_lit 96,k96 P)::(nat_lit 97,k97 P)::(nat_lit 108,Wj P)::(nat_lit 109,Wk P)::(nat_lit 120,Wl P)::(nat_lit 121,Wm P)::(nat_lit 132,Wn P)::(nat_lit 133,Wp P)::(nat_lit 144,Wq P)::(nat_lit 145,Wr P)::(nat_lit 216,e7 "is_plan" 468 82 1 211 3)::(nat_lit 217,f7 "is_plan" 27 w1 216)::(nat_lit 223,e7 "goes_on" 477 91 2 218 3)::(nat_lit 224,f7 "goes_on" 28 w1 223)::(nat_lit 228,e5 "come_to" 486 94 1 225)::(nat_lit 229,f7 "come_to" 29 w1 228)::(nat_lit 233,e5 "ends" 492 99 1 230)::(nat_lit 234,f7 "ends" 30 w1 233)::(nat_lit 238,e5 "drawn_on" 498 101 1 235)::(nat_lit 239,f7 "drawn_on" 31 w1 238)::(nat_lit 250,e5 "plan_while" 514 111 1 247)::(nat_lit 251,f7 "plan_while" 33 w1 250)::(nat_lit 255,e5 "led_to" 520 123 1 252)::(nat_lit 256,f7 "led_to" 34 w1 255)::(nat_lit 262,e7 "after" 526 125 2 257 2)::(nat_lit 263,f7 "after" 35 w1 262)::(nat_lit 267,e5 "is_place" 534 129 2 264)::(nat_lit 268,f7 "is_place" 36 w1 267)::(nat_lit 274,e7 "is_whole" 540 135 1 269 1)::(nat_lit 275,f7 "is_whole" 37 w1 274)::(nat_lit 276,Ws P)::(nat_lit 320,e7 "ways_to" 606 169 2 315 2)::(nat_lit 321,f7 "ways_to" 47 w3 320)::(nat_lit 334,e7 "ways_from" 622 173 2 329 6)::(nat_lit 335,f7 "ways_from" 49 w3 334)::(nat_lit 365,e7 "stretches" 666 199 1 360 3)::(nat_lit 366,f7 "stretches" 56 w5 365)::(nat_lit 370,e5 "is_side_by_side" 675 207 1 367)::(nat_lit 371,f7 "is_side_by_side" 57 w5 370)::(nat_lit 372,Wt P)::(nat_lit 437,e5 "show_plan" 779 259 1 434)::(nat_lit 438,f7 "show_plan" 73 w8 437)::(nat_lit 442,e5 "show_place" 785 261 1 439)::(nat_lit 443,f7 "show_place" 74 w8 442)::(nat_lit 447,e5 "read_plan" 791 263 1 444)::(nat_lit 448,f7 "read_plan" 75 w8 447)::(nat_lit 452,e5 "read_place" 797 268 1 449)::(nat_lit 453,f7 "read_place" 76 w8 452)::(nat_lit 459,e7 "read_number" 803 270 1 454 1)::(nat_lit 460,f7 "read_number" 77 w8 459)::(nat_lit 464,e5 "is_number" 810 274 1 461)::(nat_lit 465,f7 "is_number" 78 w8 464)::(nat_lit 471,e7 "answer_of" 818 279 3 466 4)::(nat_lit 472,f7 "answer_of" 80 w9 471)::(nat_lit 481,e5 "show_counts" 834 301 1 478)::(nat_lit 482,f7 "show_counts" 82 w9 481)::(nat_lit 486,e5 "show_count" 840 303 1 483)::(nat_lit 487,f7 "show_count" 83 w9 486)::(nat_lit 493,Wu P)::(nat_lit 494,Wv P)::(nat_lit 495,Ww P)::(nat_lit 496,Wx P)::(nat_lit 497,Wy P)::(nat_lit 498,Wz P)::(nat_lit 499,WA P)::(nat_lit 500,WB P)::(nat_lit 501,WC P)::(nat_lit 502,WD P)::(nat_lit 503,WE P)::(nat_lit 504,WG P)::(nat_lit 505,WH P)::(nat_lit 506,WI P)::(nat_lit 507,WJ P)::(nat_lit 508,WK P)::(nat_lit 509,WL P)::(nat_lit 515,e7 "read_row" 913 312 1 510 3)::(nat_lit 516,f7 "read_row" 88 Ka 515)::(nat_lit 520,e5 "read_words" 922 321 3 517)::(nat_lit 521,f7 "read_words" 89 Ka 520)::(nat_lit 527,e7 "read_word" 928 326 2 522 2)::(nat_lit 528,f7 "read_word" 90 Ka 527)::(nat_lit 534,e7 "read_whole" 936 334 1 529 1)::(nat_lit 535,f7 "read_whole" 91 Ka 534)::(nat_lit 548,e7 "check" 952 347 1 543 1)::(nat_lit 549,f7 "check" 93 Ka 548)::(nat_lit 555,WM P)::(nat_lit 556,WN P)::(nat_lit 562,WO P)::(nat_lit 563,WQ P)::(nat_lit 569,WR P)::(nat_lit 570,WS P)::(nat_lit 576,WT P)::(nat_lit 577,WU P)::(nat_lit 583,e7 "check" 1011 371 1 578 1)::(nat_lit 584,f7 "check" 100 w11 583)::(nat_lit 597,c7 "__init__" "Desk.__init__" 1037 380 1 592 1)::(nat_lit 598,fF "__init__" "Desk.__init__" (inClass (top 105) 0) BA 597)::(nat_lit 604,c7 "say" "Desk.say" 1044 384 2 599 6)::(nat_lit 605,fF "say" "Desk.say" (inClass (top 105) 1) BA 604)::(nat_lit 611,c7 "put_plan" "Desk.put_plan" 1056 402 3 606 3)::(nat_lit 612,fF "put_plan" "Desk.put_plan" (inClass (top 105) 2) BA 611)::(nat_lit 618,c7 "begin_lot" "Desk.begin_lot" 1065 406 3 613 3)::(nat_lit 619,fF "begin_lot" "Desk.begin_lot" (inClass (top 105) 3) BA 618)::(nat_lit 625,c7 "draw" "Desk.draw" 1074 410 3 620 6)::(nat_lit 626,fF "draw" "Desk.draw" (inClass (top 105) 4) BA 625)::(nat_lit 632,c7 "plan_named" "Desk.plan_named" 1086 421 2 627 2)::(nat_lit 633,fF "plan_named" "Desk.plan_named" (inClass (top 105) 5) BA 632)::(nat_lit 639,c7 "lot_named" "Desk.lot_named" 1094 426 2 634 2)::(nat_lit 640,fF "lot_named" "Desk.lot_named" (inClass (top 105) 6) BA 639)::(nat_lit 642,WV P)::(nat_lit 643,WX P)::(nat_lit 644,WY P)::(nat_lit 645,WZ P)::(nat_lit 651,e5 "check_name" 1112 430 1 648)::(nat_lit 652,f7 "check_name" 106 BA 651)::(nat_lit 658,e7 "plan_by" 1118 433 2 653 2)::(nat_lit 659,f7 "plan_by" 107 BA 658)::(nat_lit 665,e7 "_law_cell" 1128 444 2 660 2)::(nat_lit 666,f7 "_law_cell" 109 p0 665)::(nat_lit 672,e7 "_law_digits" 1136 448 3 667 5)::(nat_lit 673,f7 "_law_digits" 110 p0 672)::(nat_lit 679,e7 "_law_mixes" 1147 454 3 674 6)::(nat_lit 680,f7 "_law_mixes" 111 p0 679)::(nat_lit 684,e5 "_law_plan" 1159 460 2 681)::(nat_lit 685,f7 "_law_plan" 112 p0 684)::(nat_lit 696,e5 "_law_numbers" 1172 482 2 693)::(nat_lit 697,f7 "_law_numbers" 114 p0 696)::(nat_lit 701,e5 "_law_ends" 1178 492 1 698)::(nat_lit 702,f7 "_law_ends" 115 p0 701)::(nat_lit 708,e7 "_law_ways" 1184 501 1 703 7)::(nat_lit 709,f7 "_law_ways" 116 p0 708)::(nat_lit 713,e5 "_law_written" 1197 509 1 710)::(nat_lit 714,f7 "_law_written" 117 p0 713)::(nat_lit 718,e5 "_law_show_ends" 1203 511 1 715)::(nat_lit 719,f7 "_law_show_ends" 118 p0 718)::(nat_lit 723,e5 "_law_names" 1209 513 1 720)::(nat_lit 724,f7 "_law_names" 119 p0 723)::(nat_lit 728,e5 "_law_walk" 1215 527 2 725)::(nat_lit 729,f7 "_law_walk" 120 p0 728)::(nat_lit 735,W0 P)::(nat_lit 736,W1 P)::(nat_lit 742,e7 "_law_judge" 1230 544 1 737 2)::(nat_lit 743,f7 "_law_judge" 122 p0 742)::(nat_lit 749,e7 "_law_told" 1238 549 4 744 7)::(nat_lit 750,f7 "_law_told" 123 p0 749)::(nat_lit 754,e5 "_law_made" 1251 558 1 751)::(nat_lit 755,f7 "_law_made" 124 p0 754)::(nat_lit 761,e7 "law" 1257 572 1 756 10)::(nat_lit 762,f7 "law" 125 p0 761)::[]
def hpF:Params->List Obj:=λP=>boot_o_0 P::boot_o_1 P::k2 P::k3 P::boot_o_4 P::boot_o_5 P::⟨(.type "dict"),none,(.dict #[] 0),#[]⟩::boot_o_7 P::boot_o_8 P::boot_o_9 P::boot_o_10 P::eT::tT 0 [(2,20),(4,33),(6,45),(8,57),(10,69),(12,81),(14,93),(16,105),(18,117),(20,129),(22,141),(28,153),(35,160),(41,167),(43,174),(47,181),(49,188),(56,195),(58,202),(70,209),(82,216),(91,223),(94,228),(99,233),(101,238),(106,245),(111,250),(123,255),(125,262),(129,267),(135,274),(139,280),(141,287),(149,294),(156,301),(161,308),(166,313),(169,320),(171,327),(173,334),(181,341),(184,346),(193,351),(195,358),(199,365),(207,370),(211,378),(214,385),(223,392),(226,399),(229,406),(233,411),(238,418),(250,425),(253,432),(259,437),(261,442),(263,447),(268,452),(270,459),(274,464),(279,471),(296,476),(301,481),(303,486),(305,491),(312,515),(321,520),(326,527),(334,534),(337,541),(347,548),(352,555),(355,562),(358,569),(367,576),(371,583),(378,590),(430,651),(433,658),(444,665),(448,672),(454,679),(460,684),(478,691),(482,696),(492,701),(501,708),(509,713),(511,718),(513,723),(527,728),(536,735),(544,742),(549,749),(558,754),(572,761)]::HL P "<module>" 182 183 184 1 11 12 185 186::y8 P 13 3 "__main__" 164::⟨(.type "tuple"),none,(.seq #[(.type "ValueError")] 0),#[]⟩::JX P::q8 P 196 198 "LotError" 197 200 2 199 201 22::eT::nT::HL P "LotError" 191 192 193 2 18 19 194 195::y8 P 20 17 "lotdraw.errors" 187::eT::k23 P::k24 P::k25 P::JV P 24::JW P 24::Ny P::JX P::q8 P 214 216 "NoNumber" 215 218 4 217 219 35::eT::nT::HL P "NoNumber" 209 210 211 4 31 32 212 213::y8 P 33 30 "lotdraw.errors" 187::eT::k36 P::k37 P::JV P 37::JW P 37::Ny P::JX P::q8 P 230 232 "NoPlan" 231 234 6 233 235 47::eT::nT::HL P "NoPlan" 225 226 227 6 43 44 228 229::y8 P 45 42 "lotdraw.errors" 187::eT::k48 P::k49 P::JV P 49::JW P 49::Ny P::JX P::q8 P 246 248 "TooLong" 247 250 8 249 251 59::eT::nT::HL P "TooLong" 241 242 243 8 55 56 244 245::y8 P 57 54 "lotdraw.errors" 187::eT::k60 P::k61 P::JV P 61::JW P 61::Ny P::JX P::q8 P 262 264 "NoText" 263 266 10 265 267 71::eT::nT::HL P "NoText" 257 258 259 10 67 68 260 261::y8 P 69 66 "lotdraw.errors" 187::eT::k72 P::k73 P::JV P 73::JW P 73::Ny P::JX P::q8 P 278 280 "NoEnd" 279 282 12 281 283 83::eT::nT::HL P "NoEnd" 273 274 275 12 79 80 276 277::y8 P 81 78 "lotdraw.errors" 187::eT::k84 P::k85 P::JV P 85::JW P 85::Ny P::JX P::q8 P 294 296 "NoTelling" 295 298 14 297 299 95::eT::nT::HL P "NoTelling" 289 290 291 14 91 92 292 293::y8 P 93 90 "lotdraw.errors" 187::eT::k96 P::k97 P::JV P 97::JW P 97::Ny P::JX P::q8 P 310 312 "NoShares" 311 314 16 313 315 107::eT::nT::HL P "NoShares" 305 306 307 16 103 104 308 309::y8 P 105 102 "lotdraw.errors" 187::eT::Wj P::Wk P::JV P 109::JW P 109::Ny P::JX P::q8 P 326 328 "NoDeed" 327 330 18 329 331 119::eT::nT::HL P "NoDeed" 321 322 323 18 115 116 324 325::y8 P 117 114 "lotdraw.errors" 187::eT::Wl P::Wm P::JV P 121::JW P 121::Ny P::JX P::q8 P 342 344 "NoName" 343 346 20 345 347 131::eT::nT::HL P "NoName" 337 338 339 20 127 128 340 341::y8 P 129 126 "lotdraw.errors" 187::eT::Wn P::Wp P::JV P 133::JW P 133::Ny P::JX P::q8 P 358 360 "NoDraw" 359 362 22 361 363 143::eT::nT::HL P "NoDraw" 353 354 355 22 139 140 356 357::y8 P 141 138 "lotdraw.errors" 187::eT::Wq P::Wr P::JV P 145::JW P 145::(d7 "frac" 16 375 28 2 148 w0 ["top","bottom","shared"]) ++
 (d7 "plus" 17 384 35 2 155 w0 ["one","other","shared","one_part","other_part","rest"]) ++
 (d7 "minus" 18 396 41 2 162 w0 ["one","other"]) ++
 (d7 "times" 19 404 43 2 169 w0 ["one","other","left","right"]) ++
 (d7 "over" 20 414 47 2 176 w0 ["one","other"]) ++
 (d7 "power" 21 422 49 2 183 w0 ["one","many","top","bottom","turn"]) ++
 (d7 "under" 22 433 56 2 190 w0 ["one","other"]) ++
 (d7 "greatest_divisor" 23 441 58 2 197 w0 ["one","other","rest","pair"]) ++
 (d7 "leap" 24 451 70 2 204 w0 ["one","other","cut","upper","lower","many","rest"]) ++
 (d7 "is_plan" 27 468 82 1 211 w1 ["thing","there","place"]) ++
 (d7 "goes_on" 28 477 91 2 218 w1 ["plan","count","draws"]) ++
 (d5 "come_to" 29 486 94 1 225 w1) ++
 (d5 "ends" 30 492 99 1 230 w1) ++
 (d5 "drawn_on" 31 498 101 1 235 w1) ++
 (d7 "check_ends" 32 504 106 2 240 w1 ["plan","counts","there","count"]) ++
 (d5 "plan_while" 33 514 111 1 247 w1) ++
 (d5 "led_to" 34 520 123 1 252 w1) ++
 (d7 "after" 35 526 125 2 257 w1 ["count","sign"]) ++
 (d5 "is_place" 36 534 129 2 264 w1) ++
 (d7 "is_whole" 37 540 135 1 269 w1 ["thing"]) ++
 Ws P::(d5 "scaled" 40 552 139 2 277 w2) ++
 (d7 "worth" 41 558 141 2 282 w2 ["one","share","bottom","total","carried","top"]) ++
 (d7 "of_count" 42 570 149 2 289 w2 ["bad","good","told","top","place"]) ++
 (d7 "trimmed" 43 581 156 1 296 w2 ["fractions","kept"]) ++
 (d7 "common_bottom" 44 589 161 1 303 w2 ["fractions","common","fraction"]) ++
 (d5 "tops_over" 45 598 166 2 310 w2) ++
 (d7 "ways_to" 47 606 169 2 315 w3 ["plan","count"]) ++
 (d7 "first_bad" 48 614 171 2 322 w3 ["plan","count"]) ++
 (d7 "ways_from" 49 622 173 2 329 w3 ["plan","beginning","ways","count","many","led"]) ++
 (d7 "odds" 51 636 181 2 336 w4 ["plan","end"]) ++
 (d5 "mean_of" 52 644 184 2 343 w4) ++
 (d5 "mean_draws" 53 650 193 1 348 w4) ++
 (d7 "check_telling" 54 656 195 2 353 w4 ["plan","numbers"]) ++
 (d7 "stretches" 56 666 199 1 360 w5 ["row","told","number"]) ++
 (d5 "is_side_by_side" 57 675 207 1 367 w5) ++
 Wt P::(d7 "ratio" 60 686 211 3 373 w6 ["count","low","high"]) ++
 (d7 "rule_by_ratio" 61 695 214 4 380 w6 ["plan","low","high","most","ways","choice","end","many"]) ++
 (d7 "check_shares" 62 709 223 2 387 w6 ["low","high"]) ++
 (d7 "check_most" 63 717 226 1 394 w6 ["most"]) ++
 (d7 "often" 64 724 229 2 401 w6 ["count","share","bad_part","good_part"]) ++
 (d5 "by_falling_ratio" 65 734 233 1 408 w6) ++
 (d7 "taken" 66 740 238 2 413 w6 ["choice","most","rule","wrong","caught","end","end_ratio","end_wrong","end_caught","more"]) ++
 (d7 "in_order" 67 756 250 1 420 w6 ["rule"]) ++
 (d7 "share_at" 69 765 253 2 427 w7 ["plan","end"]) ++
 (d5 "show_plan" 73 779 259 1 434 w8) ++
 (d5 "show_place" 74 785 261 1 439 w8) ++
 (d5 "read_plan" 75 791 263 1 444 w8) ++
 (d5 "read_place" 76 797 268 1 449 w8) ++
 (d7 "read_number" 77 803 270 1 454 w8 ["word"]) ++
 (d5 "is_number" 78 810 274 1 461 w8) ++
 (d7 "answer_of" 80 818 279 3 466 w9 ["plan","deed","told","count"]) ++
 (d5 "show_rule" 81 828 296 1 473 w9) ++
 (d5 "show_counts" 82 834 301 1 478 w9) ++
 (d5 "show_count" 83 840 303 1 483 w9) ++
 (d5 "show_fraction" 84 846 305 1 488 w9) ++
 Wu P::Wv P::Ww P::Wx P::Wy P::Wz P::WA P::WB P::WC P::WD P::WE P::WG P::WH P::WI P::WJ P::WK P::WL P::(d7 "read_row" 88 913 312 1 510 Ka ["row","parts","words"]) ++
 (d5 "read_words" 89 922 321 3 517 Ka) ++
 (d7 "read_word" 90 928 326 2 522 Ka ["word","kind"]) ++
 (d7 "read_whole" 91 936 334 1 529 Ka ["word"]) ++
 (d7 "read_fraction" 92 943 337 1 536 Ka ["word","parts","fraction"]) ++
 (d7 "check" 93 952 347 1 543 Ka ["is_of_a_kind"]) ++
 eT::nT::VS P "draws" 965::VS P "draws" 966::Kb P "so_many" 96::WM P::WN P::eT::nT::SH P "bad" 973 "draws" 974::SH P "bad" 975 "draws" 976::Kb P "till" 97::WO P::WQ P::eT::nT::ZT P "first" 983 "low" 984 "high" 985 "second" 986 "draws_on" 987::⟨(.type "tuple"),none,(.seq #[(.str "first" 988),(.str "low" 989),(.str "high" 990),(.str "second" 991)] 0),#[]⟩::Kb P "two_steps" 98::WR P::WS P::eT::nT::ZT P "rise" 998 "run" 999 "below" 1000 "above" 1001 "draws" 1002::ZT P "rise" 1003 "run" 1004 "below" 1005 "above" 1006 "draws" 1007::Kb P "between" 99::WT P::WU P::(d7 "check" 100 1011 371 1 578 w11 ["is_within_bounds"]) ++
 eT::JX P::⟨(.type "dict"),none,(.dict #[(ent P "__module__" 1032 (.str "lotdraw.desk" 1019)),(ent P "__qualname__" 1034 (.str "Desk" 1033)),(ent P "__firstlineno__" 1036 (.int 378 1035)),(ent P "__init__" 1043 (.ref 598)),(ent P "say" 1055 (.ref 605)),(ent P "put_plan" 1064 (.ref 612)),(ent P "begin_lot" 1073 (.ref 619)),(ent P "draw" 1085 (.ref 626)),(ent P "plan_named" 1093 (.ref 633)),(ent P "lot_named" 1101 (.ref 640)),(ent P "__static_attributes__" 1104 (.ref 641))] 11),#[]⟩::eT::tT 4 [(380,597),(384,604),(402,611),(406,618),(410,625),(421,632),(426,639)]::HL P "Desk" 1027 1028 1029 378 588 589 1030 1031::y8 P 590 587 "lotdraw.desk" 1019::(b7 "__init__" "Desk.__init__" (inClass (top 105) 0) 1037 380 1 592 BA ["self"]) ++
 (b7 "say" "Desk.say" (inClass (top 105) 1) 1044 384 2 599 BA ["self","row","read","deed","name","told"]) ++
 (b7 "put_plan" "Desk.put_plan" (inClass (top 105) 2) 1056 402 3 606 BA ["self","name","plan"]) ++
 (b7 "begin_lot" "Desk.begin_lot" (inClass (top 105) 3) 1065 406 3 613 BA ["self","name","plan_name"]) ++
 (b7 "draw" "Desk.draw" (inClass (top 105) 4) 1074 410 3 620 BA ["self","name","sign","lot","plan","count"]) ++
 (b7 "plan_named" "Desk.plan_named" (inClass (top 105) 5) 1086 421 2 627 BA ["self","name"]) ++
 (b7 "lot_named" "Desk.lot_named" (inClass (top 105) 6) 1094 426 2 634 BA ["self","name"]) ++
 SH P "lots" 1102 "plans" 1103::WV P::WX P::WY P::WZ P::JV P 643::JW P 643::(d5 "check_name" 106 1112 430 1 648 BA) ++
 (d7 "plan_by" 107 1118 433 2 653 BA ["deed","told"]) ++
 (d7 "_law_cell" 109 1128 444 2 660 p0 ["_law_script","_law_k"]) ++
 (d7 "_law_digits" 110 1136 448 3 667 p0 ["_law_cell_here","_law_base","_law_many","_law_row","_law_k"]) ++
 (d7 "_law_mixes" 111 1147 454 3 674 p0 ["_law_cell_here","_law_base","_law_many","_law_row","_law_k","_law_number"]) ++
 (d5 "_law_plan" 112 1159 460 2 681 p0) ++
 (d7 "_law_most" 113 1165 478 1 686 p0 ["_law_cell_here"]) ++
 (d5 "_law_numbers" 114 1172 482 2 693 p0) ++
 (d5 "_law_ends" 115 1178 492 1 698 p0) ++
 (d7 "_law_ways" 116 1184 501 1 703 p0 ["_law_plan_here","_law_ways_here","_law_n","_law_row","_law_bad","_law_here","_law_count"]) ++
 (d5 "_law_written" 117 1197 509 1 710 p0) ++
 (d5 "_law_show_ends" 118 1203 511 1 715 p0) ++
 (d5 "_law_names" 119 1209 513 1 720 p0) ++
 (d5 "_law_walk" 120 1215 527 2 725 p0) ++
 eT::nT::SH P "_law_kind" 1224 "_law_row" 1225::VS P "_law_row" 1226::Kb P "_law_by_words" 121::W0 P::W1 P::(d7 "_law_judge" 122 1230 544 1 737 p0 ["_law_plan_here","_law_row"]) ++
 (d7 "_law_told" 123 1238 549 4 744 p0 ["_law_desk","_law_name","_law_plan_here","_law_number","_law_many","_law_bad","_law_due"]) ++
 (d5 "_law_made" 124 1251 558 1 751 p0) ++
 (d7 "law" 125 1257 572 1 756 p0 ["_law_script","_law_names_here","_law_desk","_law_kept","_law_k","_law_cell_here","_law_text","_law_plan_here","_law_name","_law_other"]) ++
 []
def DJ(w:World)(os:OsState):SharedT:=Hd.litS 763 (hpF w.params) (boot_heap w.params).life 1273 os
noncomputable def W3:List Addr:=[2,3,23,24,25,36,37,48,49,60,61,72,73,84,85,96,97,108,109,120,121,132,133,144,145,216,217,223,224,228,229,233,234,238,239,250,251,255,256,262,263,267,268,274,275,276,320,321,334,335,365,366,370,371,372,437,438,442,443,447,448,452,453,459,460,464,465,471,472,481,482,486,487,493,494,495,496,497,498,499,500,501,502,503,504,505,506,507,508,509,515,516,520,521,527,528,534,535,548,549,555,556,562,563,569,570,576,577,583,584,597,598,604,605,611,612,618,619,625,626,632,633,639,640,642,643,644,645,651,652,658,659,665,666,672,673,679,680,684,685,696,697,701,702,708,709,713,714,718,719,723,724,728,729,735,736,742,743,749,750,754,755,761,762]
noncomputable def W4:List Addr:=[731,572,565,558,551,421,409]
set_option maxHeartbeats 0
theorem Ke(P:Params):W3=(W2 P).map (·.1):=by kernel_rfl
abbrev hpX:Shared->Bool:=λs=>xlAt q0 [] s && recOk (RowW.records (OpenRow.toRowW (OpenLaw.row PySem.Challenge.rw_lotdraw_k58_desk_plans))) s
theorem W5 (w:World) (os:OsState):(Hd.xU treeTable PySem.Challenge.pw_lotdraw_k58_desk_plans (w.withFollow "special-get-raises" true) 11 (some (.ref 6)) 11740 (Hd.ui (w.withFollow "special-get-raises" true) os) (topStub PySem.Challenge.pw_lotdraw_k58_desk_plans))=some (DJ (w.withFollow "special-get-raises" true) os):=by kernel_rfl
theorem W6 (w:World) (os:OsState):(Hd.xU treeTable PySem.Challenge.pw_lotdraw_k58_desk_plans (w.withFollow "special-get-raises" false) 11 (some (.ref 6)) 11740 (Hd.ui (w.withFollow "special-get-raises" false) os) (topStub PySem.Challenge.pw_lotdraw_k58_desk_plans))=some (DJ (w.withFollow "special-get-raises" false) os):=by kernel_rfl
theorem W7 (b:Bool) (w:World) (os:OsState):(Hd.xU treeTable PySem.Challenge.pw_lotdraw_k58_desk_plans (w.withFollow "special-get-raises" b) 11 (some (.ref 6)) 11740 (Hd.ui (w.withFollow "special-get-raises" b) os) (topStub PySem.Challenge.pw_lotdraw_k58_desk_plans))=some (DJ (w.withFollow "special-get-raises" b) os):=by cases b; exact W6 w os; exact W5 w os
theorem W8 (w:World) (os:OsState):(Hd.xU treeTable PySem.Challenge.pw_lotdraw_k58_desk_plans w 11 (some (.ref 6)) 11740 (Hd.ui w os) (topStub PySem.Challenge.pw_lotdraw_k58_desk_plans))=some (DJ w os):=by have:=W7 (w.params.followText "special-get-raises") w os; rwa [World.withFollow_self] at this
theorem NV (w:World) (os:OsState):(staticsOk (importedModules PySem.Challenge.pw_lotdraw_k58_desk_plans.main.body) (boot_heap w.params) (DJ w os).abs.heap && namesBound PySem.Challenge.pw_lotdraw_k58_desk_plans (DJ w os).abs.heap && gensDone (DJ w os).abs && laidKept (boot_heap w.params) (DJ w os).abs.heap,(W3.map (DJ w os).abs.heap.get?,W4.map (DJ w os).abs.heap.get?))=(true,((W2 w.params).map λp=>some p.2,W4.map λ_=>some (tabObj #[]))):=by kernel_rfl
abbrev W9 (s:SharedT):=openSeen q0 ["FORMS","check_deeds","check_words"] (importedModules PySem.Challenge.pw_lotdraw_k58_desk_plans.main.body) hpX true s.abs
theorem Xa(w:World)(os:OsState):(W9 (DJ w os)).1=(openGood q0 ["FORMS","check_deeds","check_words"]).1:=by kernel_rfl
theorem Xb(w:World)(os:OsState):((W9 (DJ w os)).2.1,(W9 (DJ w os)).2.2.1)=((openGood q0 ["FORMS","check_deeds","check_words"]).2.1,(openGood q0 ["FORMS","check_deeds","check_words"]).2.2.1):=by kernel_rfl
theorem Xc(w:World)(os:OsState):(W9 (DJ w os)).2.2.2=(openGood q0 ["FORMS","check_deeds","check_words"]).2.2.2:=by kernel_rfl
theorem NW(w:World)(os:OsState):W9 (DJ w os)=openGood q0 ["FORMS","check_deeds","check_words"]:=Hd.ext3 (Xa w os) (Xb w os) (Xc w os)
end aE
set_option maxHeartbeats 4000000
namespace L2
open PySem PySem.Spec PyProof.Rows
abbrev Key:=Sum Int Str
noncomputable def y9:Key->Value->Bool
 |.inl k,v=>Value.isInt k v
 |.inr x,v=>Value.isStrOf x v
def aaE(w:World):Key->Int
 |.inl k=>hashInt k
 |.inr x=>hashStr w x
theorem dF:∀{k:Key} {v:Value},y9 k v=true->(∃i t,k=Sum.inl i/\v=Value.int i t)\/(∃x t,k=Sum.inr x/\v=Value.str x t)
 |.inl i,v,h=>by
   obtain⟨t,e⟩:=Value.isInt_shape (k:=i) (v:=v) h;exact .inl ⟨i,t,rfl,e⟩
 |.inr x,v,h=>by
   obtain⟨t,e⟩:=Value.isStrOf_shape (x:=x) (v:=v) h;exact .inr ⟨x,t,rfl,e⟩
theorem HM(i:Int)(t:Tok):y9 (.inl i) (.int i t)=true:=by simp[y9,Value.isInt]
theorem sr(x:Str)(t:Tok):y9 (.inr x) (.str x t)=true:=by simp[y9,Value.isStrOf]
theorem SI(a b:Int):decide ((Sum.inl a:Key)=Sum.inl b)=(a==b):=by lia
theorem SJ(a b:Str):decide ((Sum.inr a:Key)=Sum.inr b)=decide (a=b):=by simp
theorem SK(a:Int)(b:Str):decide ((Sum.inl a:Key)=Sum.inr b)=false:=rfl
theorem SM(a:Str)(b:Int):decide ((Sum.inr a:Key)=Sum.inl b)=false:=rfl
def cZ(prog:Program)(w:World):PySem.KeyKind prog w Key where
 is:=y9
 hash:=aaE w
 inj:=λv a b ha hb=>by
  rcases dF ha with⟨i,t,rfl,rfl⟩|⟨x,t,rfl,rfl⟩
  .rcases dF hb with⟨j,u,rfl,e⟩|⟨y,u,rfl,e⟩;.injection e with e1 _;rw[e1]
   .exact nomatch e
  .rcases dF hb with⟨j,u,rfl,e⟩|⟨y,u,rfl,e⟩;.exact nomatch e
   .injection e with e1 _;rw[e1]
 byValue:=λk v h=>by
  rcases dF h with⟨i,t,rfl,rfl⟩|⟨x,t,rfl,rfl⟩<;>rfl
 pyHash:=λhv h=>by
  rcases dF hv with⟨i,t,rfl,rfl⟩|⟨x,t,rfl,rfl⟩;.exact wpAny_pyHash_int h
  .exact wpAny_pyHash_str h
 eqBool:=λhu hv h=>by
  rcases dF hu with⟨i,t,rfl,rfl⟩|⟨x,t,rfl,rfl⟩
  .rcases dF hv with⟨j,u,rfl,rfl⟩|⟨y,u,rfl,rfl⟩;.rw [SI]at h;exact wpAny_eqBool_int h
   .rw [SK]at h;exact SeqAt.EqAt.int_str i t y u _ _ _ _ h
  .rcases dF hv with⟨j,u,rfl,rfl⟩|⟨y,u,rfl,rfl⟩;.rw [SM]at h;exact SeqAt.EqAt.str_int x t j u _ _ _ _ h
   .rw [SJ]at h;exact wpAny_eqBool_str h
 «strs»:=λk x t v h=>by
  rcases dF h with⟨i,u,rfl,e⟩|⟨y,u,rfl,e⟩;.exact nomatch e
  .injection e with e1 _;subst e1;cases v<;>rfl
theorem BG(prog:Program)(w:World)(i:Int)(t:Tok):(cZ prog w).is (.inl i) (.int i t)=true:=HM i t
theorem BH(prog:Program)(w:World)(x:Str)(t:Tok):(cZ prog w).is (.inr x) (.str x t)=true:=sr x t
inductive V where
 |iu|bl (b:Bool)|int (i:Int)|str (x:Str)|VT (b:Array UInt8)|JY (b:UInt64)|ref (a:Addr)|ty (n:String)
 deriving DecidableEq
def RelV:V->Value->Prop
 |.iu,u=>u=Value.none
 |.bl b,u=>u=Value.bool b
 |.int i,u=>∃t,u=Value.int i t
 |.str x,u=>∃t,u=Value.str x t
 |.VT b,u=>∃t,u=Value.bytes b t
 |.JY b,u=>∃t,u=Value.float b t
 |.ref a,u=>u=Value.ref a
 |.ty n,u=>u=Value.type n
abbrev bA:List V->List Value->Prop:=Paired RelV
theorem bA.length(r:bA xs us):xs.length=us.length:=Paired.length r
theorem bA.get:∀{xs:List V} {us:bZ} {i:Nat} {x:V},bA xs us->xs[i]?=some x->∃u,us[i]?=some u/\RelV x u
 |_,_,_,_,.nil,e=>by simp at e
 |_,_,0,_,.cons r _,e=>by simp at e;subst e;exact⟨_,rfl,r⟩
 |_,_,i+1,x,.cons _ t,e=>by
   obtain⟨u,h1,h2⟩:=bA.get (i:=i) (x:=x) t (by simpa using e);exact⟨u,by simpa using h1,h2⟩
theorem bA.set(r:RelV x u):∀{xs:List V} {us:bZ} (i:Nat),bA xs us->bA (xs.set i x) (us.set i u)
 |_,_,_,.nil=>.nil
 |_,_,0,.cons _ t=>.cons r t
 |_,_,i+1,.cons q t=>.cons q (bA.set r i t)
theorem bA.append:∀{xs ys:List V} {us ws:bZ},bA xs us->bA ys ws->bA (xs++ys) (us++ws)
 |_,_,_,_,.nil,s=>s
 |_,_,_,_,.cons r t,s=>.cons r (bA.append t s)
theorem bA.take:∀{xs:List V} {us:bZ} (n:Nat),bA xs us->bA (xs.take n) (us.take n)
 |_,_,0,_=>.nil
 |_,_,_+1,.nil=>.nil
 |_,_,n+1,.cons r t=>.cons r (bA.take n t)
theorem bA.drop:∀{xs:List V} {us:bZ} (n:Nat),bA xs us->bA (xs.drop n) (us.drop n)
 |_,_,0,r=>r
 |_,_,_+1,.nil=>.nil
 |_,_,n+1,.cons _ t=>bA.drop n t
def lS:Option V->Option Value->Prop
 |some v,some u=>RelV v u
 |none,none=>True
 |_,_=>False
def KV{κ:Type}:List (κ×V)->List (κ×Value)->Prop:=Paired λ(p:κ×V) (q:κ×Value)=>p.1=q.1/\RelV p.2 q.2
noncomputable def kV:Key->V
 |.inl i=>.int i
 |.inr x=>.str x
inductive HO where
  |lst (xs:List V)
  |tup (xs:List V)
  |dK (bb:List (Key×V))|dT (bb:List (List Key×V))
  |set (S:Int->Bool)(n:Nat)
  |ins (C dx:Addr)(fs:List (Str×V))
  |own (x:Addr)
  |xd (fs:List (Str×V))
  |met (f x:Addr)
  |xP (lo hi:Int)
  |xV (o:Obj)(u:HO)
  |SN (ps:Array Value)
 |lam (p:List Pos)(q:Str)|code (q:Str)
   |ext (φ:Heap->Prop)
abbrev Hp:=Addr->Option HO
def upd(H:Hp)(a:Addr)(o:HO):Hp:=λb=>if b=a then some o else H b
theorem aL:upd H a o a=some o:=by unfold upd;rw[if_pos rfl]
theorem av(h:b≠a):upd H a o b=H b:=by unfold upd;rw[if_neg h]
theorem aZ{H:Hp}(h:H a=some o)(h':H b=none):a≠b:=by lia
def fD(H:Hp)(b:Addr)(xs:List V):Prop:=H b=some (.tup xs)\/∃ob,H b=some (.xV ob (.tup xs))
theorem fD.ne(t:fD H b xs)(n:b≠a):fD (upd H a o) b xs:=by
 rcases t with t|⟨ob,t⟩
 .exact .inl (by rw[av n];exact t)
 .exact .inr ⟨ob,by rw[av n];exact t⟩
theorem fD.new(t:fD H b xs)(n:H a=none):fD (upd H a o) b xs:=t.ne λz=>by
 subst z
 rcases t with t|⟨ob,t⟩<;>rw[n]at t<;>cases t
theorem fD.dT{H:Hp}{a b:Addr}{o:HO}{xs:List V}{bb:List (List Key×V)}(t:fD H b xs)(e:H a=some (.dT bb)):fD (upd H a o) b xs:=t.ne λz=>by
 subst z
 rcases t with t|⟨ob,t⟩<;>rw[e]at t<;>cases t
section
variable (P:Program)(w:World)
def cP(H:Hp)(h:Heap)(a:Addr):HO->Prop
 |.lst xs=>xs.length<=sizeLine/\∃(its:bZ) (n:Nat),bA xs its/\h.get? a=some ⇑19
 |.tup xs=>xs.length<=sizeLine/\∃its:bZ,bA xs its/\IsTup h a its.toArray
 |.dK bb=>bb.length<=sizeLine/\(a==sysModules)=false/\∃vs,KV bb vs/\h.DictOf (cZ P w) a vs
 |.dT bb=>bb.length<=sizeLine/\(a==sysModules)=false/\∃xs:List (List Key×Addr×Value),
   Paired (λ(p:List Key×V) (q:List Key×Addr×Value)=>p.1=q.1/\fD H q.2.1 (p.1.map kV)/\RelV p.2 q.2.2) bb xs/\
   ∃o es ep,h.get? a=some o/\o.ExactDict/\o.data=.dict es ep/\es.toList=xs.map (entryOfKey (tupleKind (cZ P w)))/\(xs.map (·.1)).Nodup
 |.set S n=>h.SetOf (intKind P w) a S n
 |.ins C dx fs=>H dx=some (.own a)/\fs.length<=1000/\dx≠a/\h.get? a=some (PySem.W.instObj C dx)/\
   ∃mA,h.Ns1 dx mA/\(∀f,lS (fs.lookup f) (mA f))/\PySem.Within mA (fs.map (·.1))
 |.own _=>∃o,h.get? a=some o
 |.xd fs=>∃mA,h.Ns1 a mA/\∀f,lS (fs.lookup f) (mA f)
 |.xP lo hi=>∃t u v,h.get? a=some ⇑26
 |.xV o u=>h.get? a=some o/\cP H h a u
 |.SN ps=>h.get? a=some {cls:=.none,data:=.fields ps}
 |.lam p q=>∃ps:Array Value,h.get? a=some (PySem.W.tabObj ps)/\TriplesOk ps.toList/\∀y∈p,codeAmong y ps.toList=none\/∃c,codeAmong y ps.toList=some (.ref c)/\H c=some (.code q)
 |.code q=>h.CodeRec (.ref a) q
 |.met f x=>h.get? a=some (PySem.W.methodObj (.ref f) (.ref x))
 |.ext φ=>φ h/\(∃o,h.get? a=some o)/\∀h1 h2:Heap,φ h1->(∀o,h1.get? a=some o->h2.get? a=some o)->φ h2
def pJ(H:Hp)(h:Heap):Prop:=∀a o,H a=some o->cP P w H h a o
end
section
variable {P:Program}{w:World}{H H':Hp}{h h':Heap}{a:Addr}{o:HO}
theorem cP.lt(x:cP P w H h a o):a<h.objs.size:=by
 cases o with
 |lst xs=>obtain⟨_,_,_,_,e⟩:=x;exact aai e
 |tup xs=>obtain⟨_,_,_,p⟩:=x;exact p.lt
 |dK bb=>obtain⟨_,_,_,_,o,_,_,e,_⟩:=x;exact aai e
 |dT bb=>obtain⟨_,_,_,_,o,_,_,e,_⟩:=x;exact aai e
 |set S n=>obtain⟨o,_,_,_,e,_⟩:=x;exact aai e
 |ins C dx fs=>obtain⟨_,_,_,e,_⟩:=x;exact aai e
 |own y=>obtain⟨_,e⟩:=x;exact aai e
 |xd fs=>obtain⟨_,⟨_,_,_,e,_⟩,_⟩:=x;exact aai e
 |xP lo hi=>obtain⟨_,_,_,e⟩:=x;exact aai e
 |xV ob u=>obtain⟨e,_⟩:=x;exact aai e
 |SN ps=>exact aai (show h.get? a=some _ from x)
 |lam p q=>obtain⟨_,e,_⟩:=x;exact aai e
 |code q=>obtain⟨_,_,_,_,z,e,_⟩:=x;cases z;exact aai e
 |met f y=>exact aai (show h.get? a=some _ from x)
 |ext φ=>obtain⟨_,⟨_,e⟩,_⟩:=x;exact aai e
theorem Paired.SO:∀{Xd:List α} {l₂:List β},Paired F Xd l₂->(∀a b,F a b->G a b)->Paired G Xd l₂
 |_,_,.nil,_=>.nil
 |_,_,.cons r t,f=>.cons (f _ _ r) (Paired.SO t f)
theorem cP.vE(x:cP P w H h a o)(k:∀b u,(b=a\/H b=some (.own a))->h.get? b=some u->h'.get? b=some u)
  (ho:∀b,H b=some (.own a)->H' b=some (.own a))(ht:∀b xs,fD H b xs->fD H' b xs)(hc:∀b q,H b=some (.code q)->H' b=some (.code q):=by first|exact λ_ _ z=>z|(intro c y z;rw[av (aZ z (by assumption))];exact z)):cP P w H' h' a o:=by
 induction o with
 |lst xs=>obtain⟨z,its,n,r,e⟩:=x;exact⟨z,its,n,r,k _ _ (.inl rfl) e⟩
 |tup xs=>obtain⟨z,its,r,ob,e,c⟩:=x;exact⟨z,its,r,ob,k _ _ (.inl rfl) e,c⟩
 |dK bb=>obtain⟨z,y,vs,r,ob,es,ep,e,c⟩:=x;exact⟨z,y,vs,r,ob,es,ep,k _ _ (.inl rfl) e,c⟩
 |dT bb=>
   obtain⟨z,y,xs,r,ob,es,ep,e,c⟩:=x;exact⟨z,y,xs,Paired.SO r λp q z=>⟨z.1,ht _ _ z.2.1,z.2.2⟩,ob,es,ep,k _ _ (.inl rfl) e,c⟩
 |set S n=>obtain⟨ob,es,ep,t,e,c⟩:=x;exact⟨ob,es,ep,t,k _ _ (.inl rfl) e,c⟩
 |ins C dx fs=>
   obtain⟨d,z,ne,e,mA,⟨od,es,ep,e2,c⟩,r⟩:=x;exact⟨ho _ d,z,ne,k _ _ (.inl rfl) e,mA,⟨od,es,ep,k _ _ (.inr d) e2,c⟩,r⟩
 |own y=>obtain⟨ob,e⟩:=x;exact⟨ob,k _ _ (.inl rfl) e⟩
 |xd fs=>obtain⟨mA,⟨od,es,ep,e,c⟩,r⟩:=x;exact⟨mA,⟨od,es,ep,k _ _ (.inl rfl) e,c⟩,r⟩
 |xP lo hi=>obtain⟨t,u,v,e⟩:=x;exact⟨t,u,v,k _ _ (.inl rfl) e⟩
 |xV ob u ih=>obtain⟨e,q⟩:=x;exact⟨k _ _ (.inl rfl) e,ih q⟩
 |lam p q=>obtain⟨ps,e,t,r⟩:=x;exact⟨ps,k _ _ (.inl rfl) e,t,λy hy=>(r y hy).imp id λ⟨c,e1,e2⟩=>⟨c,e1,hc c q e2⟩⟩
 |code q=>obtain⟨c,o,vs,t,z,e,r⟩:=x;cases z;exact⟨_,o,vs,t,rfl,k _ _ (.inl rfl) e,r⟩
 |SN ps=>
   have e:=x;exact k a _ (.inl rfl) e
 |met f y=>
   have e:=x;exact k a _ (.inl rfl) e
 |ext φ=>obtain⟨p,⟨o,e⟩,st⟩:=x;exact⟨st _ _ p λo q=>k _ _ (.inl rfl) q,⟨o,k _ _ (.inl rfl) e⟩,st⟩
theorem pJ.lt(x:pJ P w H h)(e:H a=some o):a<h.objs.size:=(x a o e).lt
theorem pJ.fresh(x:pJ P w H h)(e:h.objs.size<=a):H a=none:=by
 cases q:H a with
 |none=>rfl
 |some u=>exact absurd (aam (x.lt q) e) (abF _)
theorem pJ.kept(x:pJ P w H h)(k:∀b u,h.get? b=some u->h'.get? b=some u):pJ P w H h':=λa o e=>
 (x a o e).vE (λb u _ q=>k b u q) (λ_ q=>q) (λ_ _ q=>q) λ_ _ q=>q
theorem pJ.laid(x:pJ P w H h)(k:∀b u,h.get? b=some u->h'.get? b=some u)(hp:h.objs.size<=a)(new:cP P w (upd H a o) h' a o):pJ P w (upd H a o) h':=λb u e=>by
 have hn:=x.fresh hp
 by_cases hb:b=a
 .subst hb;rw[aL]at e;cases e;exact new
 .rw [av hb]at e;exact(x b u e).vE (λc v _ q=>k c v q) (λc q=>by rw[av (aZ q hn)];exact q) (λc xs q=>q.new hn) λc _ q=>by rw[av (aZ q hn)];exact q
end
def Rd(H:Hp)(a:Addr)(u:HO):Prop:=H a=some u\/∃o,H a=some (.xV o u)
theorem Rd.ok(r:Rd H a u)(x:pJ P w H h):cP P w H h a u:=by
 rcases r with r|⟨o,r⟩
 .exact x a u r
 .obtain ⟨_,q⟩:=x a _ r;exact q
def Xe:Option HO->Prop
 |some (.lst _)=>True
 |some (.dK _)=>True
 |some (.dT _)=>True
 |some (.set _ _)=>True
 |some (.ins _ _ _)=>True
 |some (.ext _)=>True
 |_=>False
section
variable {P:Program}{w:World}{H:Hp}{h h':Heap}{x e:Addr}{o':HO}
theorem pJ.write(ok:pJ P w H h)(mu:Xe (H x))(he:e=x\/H e=some (.own x))(k:∀b u,b≠e->h.get? b=some u->h'.get? b=some u)(Kf:∃u,h'.get? e=some u)
  (new:cP P w (upd H x o') h' x o'):pJ P w (upd H x o') h':=λb u q=>by
 have aaF:∀c y,H c=some (.own y)->c≠x:=λc y r z=>by subst z;rw[r]at mu;exact mu
 by_cases hb:b=x
 .subst hb;rw[aL]at q;cases q;exact new
 .rw [av hb]at q;by_cases hbe:b=e
  .have q':H b=some (.own x):=by
    rcases he with z|z;.grind
    .grind
   rw[q]at q';cases q';obtain⟨v,hv⟩:=Kf;exact⟨v,by rw[hbe];exact hv⟩
  .refine (ok b u q).vE (λc v hc r=>k c v ?_ r) (λc r=>by rw[av (aaF c b r)];exact r) (λc xs r=>r.ne λz=>by
    subst z;rcases r with r|⟨ob,r⟩<;>rw[r]at mu<;>exact mu) λc y r=>by rw[av λz=>by subst z;rw[r]at mu;exact mu];exact r
   rcases hc with rfl|hc;.grind
   .grind
end
structure Un(fs ex:List Addr)(H H':Hp)(h h':Heap):Prop where
 keep:∀b o,h.get? b=some o->H b=none->b∉fs->b∉ex->h'.get? b=some o
 slot:∀b o,h.get? b=some o->H b=none->b∈fs->b∉ex->∃sl,h'.get? b=some {o with slots:=sl}
 free:∀b o,h.get? b=some o->H b=none->b∉ex->H' b=none
 there:∀b o,h.get? b=some o->b∉ex->∃o',h'.get? b=some o'
 xW:∀b xs,H b=some (.tup xs)->H' b=some (.tup xs)
 xX:∀b o u,H b=some (.xV o u)->H' b=some (.xV o u)
 zX:∀b ps,H b=some (.SN ps)->∃more,H' b=some (.SN (ps++more))
section
variable {fs ex:List Addr}{H H1:Hp}{h h1 h':Heap}{a x e:Addr}{o:HO}
theorem Un.any(u:Un fs ex H H1 h h1)(q:h.get? b=some ob)(n:H b=none)(hx:b∉ex):∃sl,h1.get? b=some {ob with slots:=sl}:=by
 by_cases hb:b∈fs
 .exact u.slot b ob q n hb hx
 .exact ⟨ob.slots,u.keep b ob q n hb hx⟩
theorem Un.kept(k:∀b u,h.get? b=some u->h'.get? b=some u):Un fs ex H H h h':=
 ⟨λb ob q _ _ _=>k b ob q,λb ob q _ _ _=>⟨ob.slots,k b ob q⟩,λ_ _ _ n _=>n,λb ob q _=>⟨ob,k b ob q⟩,λ_ _ q=>q,λ_ _ _ q=>q,λ_ ps q=>⟨#[],by rw[q];simp⟩⟩
theorem Un.refl:Un fs ex H H h h:=Un.kept λ_ _ q=>q
theorem Un.laid(k:∀b u,h.get? b=some u->h'.get? b=some u)(hp:h.objs.size<=a)(hn:H a=none):Un fs ex H (upd H a o) h h' where
 keep:=λb u q _ _ _=>k b u q
 slot:=λb u q _ _ _=>⟨u.slots,k b u q⟩
 free:=λb u q n _=>by rw[av (aay (aam (aai q) hp))];exact n
 there:=λb u q _=>⟨u,k b u q⟩
 xW:=λb xs q=>by rw[av (aZ q hn)];exact q
 xX:=λb u xs q=>by rw[av (aZ q hn)];exact q
 zX:=λb ps q=>⟨#[],by rw[av (aZ q hn),q];simp⟩
theorem Un.write(mu:Xe (H x))(he:e=x\/H e=some (.own x))(k:∀b u,b≠e->h.get? b=some u->h'.get? b=some u)(Kf:∃u,h'.get? e=some u):Un fs ex H (upd H x o) h h':=by
 have hx:∀b,H b=none->b≠x:=λb n z=>by subst z;rw[n]at mu;exact mu
 have hb:∀b,H b=none->b≠e:=λb n z=>by grind
 have hm:∀b u,H b=some u->¬Xe (some u)->b≠x:=λb u q nm z=>by subst z;rw[q]at mu;exact nm mu
 refine⟨λb u q n _ _=>k b u (hb b n) q,λb u q n _ _=>⟨u.slots,k b u (hb b n) q⟩,λb u q n _=>by rw[av (hx b n)];exact n,λb u q _=>?_,
  λb xs q=>by rw[av (hm b _ q λz=>z)];exact q,λb u xs q=>by rw[av (hm b _ q λz=>z)];exact q,λb ps q=>⟨#[],by rw[av (hm b _ q λz=>z),q];simp⟩⟩
 by_cases hbe:b=e
 .grind
 .grind
end
def ZU(h:Heap)(H:Hp):List Addr:=(List.range h.objs.size).filter λa=>(H a).isSome
def xY(h:Heap)(H:Hp):Heap:=PySem.W.hideAll h (ZU h H)
theorem za(h:Heap)(H:Hp):(xY h H).objs.size=h.objs.size:=PySem.W.hideAll_size _ _
theorem q9(e:h.get? b=some o)(n:H b=none):(xY h H).get? b=some o:=
 PySem.W.hideAll_get _ e λhm=>by
  have q:=(List.mem_filter.mp hm).2;rw[n]at q;simp at q
theorem Ga(e:(xY h H).get? b=some o):h.get? b=some o/\H b=none:=by
 have e':=PySem.W.of_hideAll (ZU h H) e
 refine⟨e',?_⟩
 cases q:H b with
 |none=>rfl
 |some x=>
   have hm:b∈ZU h H:=List.mem_filter.mpr ⟨ad2.mpr (aai e'),by simp[q]⟩;have z:(xY h H).get? b=none:=PySem.W.hideAll_none (ZU h H) hm;rw[z]at e;cases e
noncomputable def NX(g h:Heap)(L:Addr):cz:=(List.range h.objs.size).filterMap λa=>if a=L\/(g.get? a).isSome=true then none else(h.get? a).map λo=>(a,o)
def rest(g h:Heap)(L d:Addr):cz:=(NX g h L).filter λp=>decide (p.1≠d)
structure Mod(K:ao)(mg:eQ)(base:Heap):Prop where
 Kg:K.In base
 glob:base.Ns mainGlobals mg
 blt:∃mb,base.Ns builtinsNs mb/\∀x:Str,x≠"__name__"->mb x=bootBuiltins x
 nolimit:base.NoLimit
structure Cx where
 prog:Program
 w:World
 K:ao
 mg:eQ
 base:Heap
 A:Around
 N:List Str
 ip:Shared
 HN:Hp
 env:Env
 outer:List Env
 stack:List Env
 ex:List Addr
 fn:Str->Bool
 calm:Bool
 pn:cz
 xe:eJ
def qY(l:List Env):List Addr:=l.filterMap (·.frame)
abbrev Cx.fs(X:Cx):List Addr:=qY X.outer
def VU(sc:Scope)(x:Str):Prop:=sc.names.lookup x=some .local\/sc.names.lookup x=some .cell\/sc.names.lookup x=some .free
def Loc(sc:Scope)(x:Str):Prop:=sc.names.lookup x=some .local\/sc.names.lookup x=some .cell
def Look(env:Env)(h:Heap)(m:eQ)(x:Str)(u:Value):Prop:=
 (env.kindOf x=some .local/\m x=some u)\/((env.kindOf x=some .cell\/env.kindOf x=some .free)/\∃c,env.cells.lookup x=some c/\h.IsCell c (some u))
structure Cx.Ok(X:Cx):Prop where
 mod:Mod X.K X.mg X.base
 kind:X.env.scope.kind=.function
 glob:X.env.globals=mainGlobals
 blt:X.env.builtins=builtinsNs
 above:X.ip.heap.objs.size<=X.env.locals
 inj:∀x y c,X.env.cells.lookup x=some c->X.env.cells.lookup y=some c->x=y
 has:∀x,(X.env.kindOf x=some .cell\/X.env.kindOf x=some .free)->∃c,X.env.cells.lookup x=some c
 NY:∀x c,X.fn x=true->X.env.cells.lookup x=some c->X.ip.heap.objs.size<=c
 hd:X.calm=true->X.A.handled=none
 frames:X.A.frames=some X.stack
 VW:X.stack=X.outer\/(X.stack=X.env::X.outer/\X.env.frame=some X.env.locals)
 exf:∀b∈X.ex,b≠X.env.locals/\∀x c,X.env.cells.lookup x=some c->c≠b
 bs:∀b o,X.base.get? b=some o->X.ip.heap.get? b=some o/\X.HN b=none
 Kh:X.base.objs.size<=X.ip.heap.objs.size
 HP:∀b o,X.base.get? b=some o->b∉X.ex
 Ki:∀b∈X.ex,b∉X.fs
 m9:X.ip.heap.FunFrames X.base X.outer
 Nz:∀b∈X.fs,X.HN b=none
structure Inv(X:Cx)(pins:cz)(σ:List (Option V))(H:Hp)(s:Shared):Prop where
 ok:X.Ok
 os:s.os=X.ip.os
 bare:AllBare s.gens
 base:Un X.fs X.ex X.HN H X.ip.heap s.heap
 loc:∃m,s.heap.Ns X.env.locals m/\∀(i:Nat) (x:Str) (v:V),X.N[i]?=some x->σ[i]?=some (some v)->VU X.env.scope x->∃u,RelV v u/\Look X.env s.heap m x u
 cell:∀x c,X.env.cells.lookup x=some c->∃v,s.heap.IsCell c v
 free:H X.env.locals=none
 ji:∀x c,X.env.cells.lookup x=some c->H c=none
 pin:∀p∈X.pn++pins,s.heap.get? p.1=some p.2/\H p.1=none/\p.1≠X.env.locals/\p.1∉X.fs/\∀v,p.2.data≠.cell v
 bU:pJ X.prog X.w H s.heap
 len:σ.length=X.N.length
section
variable {X:Cx}{pins:cz}{σ:List (Option V)}{H H':Hp}{s:Shared}{h':Heap}
theorem Cx.Ok.DR(ok:X.Ok)(e:X.base.get? b=some o):b∉X.fs:=λhb=>by
 have:=(ok.m9.mem hb).1
 rw[e]at this;cases this
theorem Inv.bs(I:⇑1):∀b o,X.base.get? b=some o->s.heap.get? b=some o/\H b=none:=λb o e=>
 ⟨I.base.keep b o (I.ok.bs b o e).1 (I.ok.bs b o e).2 (I.ok.DR e) (I.ok.HP b o e),I.base.free b o (I.ok.bs b o e).1 (I.ok.bs b o e).2 (I.ok.HP b o e)⟩
theorem Inv.bk(I:⇑1):∀b o,X.base.get? b=some o->s.heap.get? b=some o:=λb o e=>(I.bs b o e).1
theorem Inv.mod(I:⇑1):Mod X.K X.mg X.base:=I.ok.mod
theorem Inv.mV(I:⇑1):X.K.In s.heap:=I.ok.mod.Kg.keeps I.bk
theorem Inv.lt(I:⇑1):X.env.locals<s.heap.objs.size:=let⟨_,hn,_⟩:=I.loc;hn.lt
theorem Inv.sz(I:⇑1):X.ip.heap.objs.size<=s.heap.objs.size:=aa6 I.ok.above (adN I.lt)
theorem Inv.Xf(I:⇑1)(h:s.heap.objs.size<=a):a∉X.fs:=λhb=>by
 obtain⟨_,o,ho,_⟩:=I.ok.m9.mem hb
 exact absurd (aam (aai ho) (aa6 I.sz h)) (abF _)
theorem Inv.NA(I:⇑1):∀x c,X.env.cells.lookup x=some c->c≠X.env.locals:=λx c e z=>by
 obtain⟨v,o,ho,hd⟩:=I.cell x c e
 obtain⟨m,⟨o',es,ep,DT,u9,_⟩,_⟩:=I.loc
 rw[z,DT]at ho;cases ho;rw[u9]at hd;cases hd
theorem Inv.m9(I:⇑1):s.heap.FunFrames X.base X.outer:=by
 have all:∀(l:List Env),(∀b∈qY l,b∈X.fs)->X.ip.heap.FunFrames X.base l->s.heap.FunFrames X.base l:=by
  intro l;induction l with
  |nil=>intro _ _;trivial
  |cons env r ih=>
    intro hs hl;obtain⟨hk,⟨L,o,hf,hn,ho,hd⟩,hr⟩:=hl;have hL:=hs L (by unfold qY;rw[List.filterMap_cons,hf];exact List.mem_cons_self);obtain⟨sl,e⟩:=I.base.slot L o ho (I.ok.Nz L hL) hL λz=>I.ok.Ki L z hL;exact⟨hk,⟨L,_,hf,hn,e,hd⟩,ih (λ9=>hs b (by unfold qY;rw[List.filterMap_cons,hf];exact List.mem_cons_of_mem _ hb)) hr⟩
 exact all X.outer (λ_ hb=>hb) I.ok.m9
theorem Inv.stack(I:⇑1):s.heap.FunFrames X.base X.stack:=by
 rcases I.ok.VW with e|⟨e,hf⟩
 .rw [e];exact I.m9
 .rw [e];obtain⟨m,hn,_⟩:=I.loc;refine .cons (by rw[I.ok.kind];decide) hf hn ?_ I.m9;exact Heap.get?_none_of_le (aa6 I.ok.Kh I.ok.above)
theorem Inv.lU(I:⇑1):∀b∈qY X.stack,b∈X.env.locals::X.fs:=λ9=>by
 rcases I.ok.VW with e|⟨e,hf⟩
 .grind
 .rw [e]at hb;unfold qY at hb;rw[List.filterMap_cons,hf]at hb;exact hb
theorem Inv.zY(I:⇑1):∀b∈qY X.stack,H b=none:=λ9=>by
 rcases aaj.mp (I.lU b hb)with e|hb
 .rw [e];exact I.free
 .obtain ⟨_,o,ho,_⟩:=I.ok.m9.mem hb;exact I.base.free b o ho (I.ok.Nz b hb) λz=>I.ok.Ki b z hb
theorem Inv.step{ch:List Addr}(I:⇑1)
  (NB:⇑37)
  (keep:∀b o,b≠X.env.locals->b∉X.fs->b∉ch->s.heap.get? b=some o->H b=none->h'.get? b=some o)
  (slot:∀b o,b≠X.env.locals->b∈X.fs->b∉ch->s.heap.get? b=some o->H b=none->∃sl,h'.get? b=some {o with slots:=sl})(free:∀b o,b∉ch->s.heap.get? b=some o->H b=none->H' b=none)
  (there:∀b o,b∉ch->s.heap.get? b=some o->∃o',h'.get? b=some o')
  (xW:∀b xs,H b=some (.tup xs)->H' b=some (.tup xs))(xX:∀b o u,H b=some (.xV o u)->H' b=some (.xV o u))(zX:∀b ps,H b=some (.SN ps)->∃more,H' b=some (.SN (ps++more)))
  (ns:∀m,s.heap.Ns X.env.locals m->h'.Ns X.env.locals m)(bU:pJ X.prog X.w H' h')(hg:AllBare g'):
  Inv X pins σ H' {s with heap:=h',gens:=g',drawn:=d',toks:=t'}:=by
 have neL:∀b o,X.ip.heap.get? b=some o->b≠X.env.locals:=λb o e=>aay (aam (aai e) I.ok.above)
 have ZV:∀b o,X.ip.heap.get? b=some o->b∉X.ex->b∉ch:=λb o e hx hb=>by
  rcases(NB b hb).1 with z|z;.grind
  .exact absurd (aam (aai e) z) (abF _)
 have cellK:∀x c,X.env.cells.lookup x=some c->∀v,s.heap.IsCell c v->h'.IsCell c v:=λx c e v ⟨o,ho,hd⟩=>by
  have Xg:=λz=>(NB c z).2.2.1 x c e rfl;by_cases hc:c∈X.fs;.obtain ⟨sl,q⟩:=slot c o (I.NA x c e) hc Xg ho (I.ji x c e);exact⟨_,q,hd⟩
  .exact ⟨o,keep c o (I.NA x c e) hc Xg ho (I.ji x c e),hd⟩
 refine⟨I.ok,I.os,hg,⟨λb o e n hb hx=>?_,λb o e n hb hx=>?_,λb o e n hx=>?_,λb o e hx=>?_,λb xs e=>xW b xs (I.base.xW b xs e),λb o xs e=>xX b o xs (I.base.xX b o xs e),λb ps e=>?_⟩,?_,λx c e=>?_,?_,λx c e=>?_,λp hp=>?_,bU,I.len⟩
 .exact keep b o (neL b o e) hb (ZV b o e hx) (I.base.keep b o e n hb hx) (I.base.free b o e n hx)
 .obtain ⟨sl,e1⟩:=I.base.slot b o e n hb hx;obtain⟨sl',e2⟩:=slot b _ (neL b o e) hb (ZV b o e hx) e1 (I.base.free b o e n hx);exact⟨sl',e2⟩
 .obtain ⟨o',e1⟩:=I.base.there b o e hx;exact free b o' (ZV b o e hx) e1 (I.base.free b o e n hx)
 .obtain ⟨o',e1⟩:=I.base.there b o e hx;exact there b o' (ZV b o e hx) e1
 .obtain ⟨m1,e1⟩:=I.base.zX b ps e;obtain⟨m2,e2⟩:=zX b _ e1;exact⟨m1++m2,by rw[e2,Array.append_assoc]⟩
 .obtain ⟨m,hn,hl⟩:=I.loc;refine⟨m,ns m hn,λi x v e1 e2 e3=>?_⟩;obtain⟨u,r,l⟩:=hl i x v e1 e2 e3;refine⟨u,r,?_⟩;rcases l with l|⟨k,c,e,z⟩;.exact .inl l
  .exact .inr ⟨k,c,e,cellK x c e _ z⟩
 .obtain ⟨v,z⟩:=I.cell x c e;exact⟨v,cellK x c e v z⟩
 .obtain ⟨m,⟨o,_,_,ho,_⟩,_⟩:=I.loc;exact free _ o (λz=>(NB _ z).2.1 rfl) ho I.free
 .obtain ⟨v,o,ho,hd⟩:=I.cell x c e;exact free c o (λz=>(NB c z).2.2.1 x c e rfl) ho (I.ji x c e)
 .obtain ⟨e,n,ne,nf,d⟩:=I.pin p hp;have Xg:p.1∉ch:=λz=>(NB p.1 z).2.2.2 p hp rfl;exact⟨keep p.1 p.2 ne nf Xg e n,free p.1 p.2 Xg e n,ne,nf,d⟩
theorem Inv.un(I:⇑1)(u:Un X.fs [] H H' s.heap h')(bU:pJ X.prog X.w H' h'):Inv X pins σ H' {s with heap:=h',toks:=t'}:=by
 obtain⟨m,⟨o,es,ep,ho,r⟩,_⟩:=id I.loc
 obtain⟨sl,hL⟩:=u.any ho I.free ⇑11
 exact I.step (g':=s.gens) (d':=s.drawn) (ch:=[]) (λ_ z=>nomatch z) (λb o _ hb _ e n=>u.keep b o e n hb ⇑11) (λb o _ hb _ e n=>u.slot b o e n hb ⇑11) (λb o _ e n=>u.free b o e n ⇑11) (λb o _ e=>u.there b o e ⇑11) u.xW u.xX u.zX (λm' hm=>by
  obtain⟨o',BJ,ep',DT,r'⟩:=hm;rw[ho]at DT;cases DT;exact⟨_,BJ,ep',hL,r'⟩) bU I.bare
theorem Inv.call(I:⇑1)(u:Un (qY X.stack) ch H H' s.heap h')(bU:pJ X.prog X.w H' h')(hg:AllBare g')
  (NB:⇑37):
  Inv X pins σ H' {s with heap:=h',gens:=g',drawn:=d',toks:=t'}:=by
 obtain⟨m,⟨o,es,ep,ho,r⟩,_⟩:=id I.loc
 obtain⟨sl,hL⟩:=u.any ho I.free λz=>(NB _ z).2.1 rfl
 exact I.step (ch:=ch) NB (λb o hL hb hc e n=>u.keep b o e n (λz=>(aaj.mp (I.lU b z)).elim hL hb) hc) (λb o _ _ hc e n=>u.any e n hc) (λb o hc e n=>u.free b o e n hc) (λb o hc e=>u.there b o e hc) u.xW u.xX u.zX (λm' hm=>by
  obtain⟨o',BJ,ep',DT,r'⟩:=hm;rw[ho]at DT;cases DT;exact⟨_,BJ,ep',hL,r'⟩) bU hg
theorem Inv.turned(I:⇑1)(k:∀b o,b≠it->s.heap.get? b=some o->h'.get? b=some o)(hn:H it=none)(hL:it≠X.env.locals)
  (h1:it∈X.ex\/X.ip.heap.objs.size<=it)(h2:∀x c,X.env.cells.lookup x=some c->c≠it)(h3:∀p∈X.pn++pins,p.1≠it):Inv X pins σ H {s with heap:=h',toks:=t'}:=by
 refine I.step (g':=s.gens) (d':=s.drawn) (ch:=[it]) (λ9=>?_) (λb o _ _ hc e _=>k b o (λz=>hc (by simp[z])) e) (λb o _ _ hc e _=>⟨o.slots,k b o (λz=>hc (by simp[z])) e⟩) (λ_ _ _ _ n=>n)
  (λb o hc e=>⟨o,k b o (λz=>hc (by simp[z])) e⟩) (λ_ _ e=>e) (λ_ _ _ e=>e) (λb ps e=>⟨#[],by rw[e];simp⟩) (λm hm=>?_) (λb u e=>?_) I.bare
 .grind
 .obtain ⟨o,es,ep,ho,r⟩:=hm;exact⟨o,es,ep,k _ o (acw hL) ho,r⟩
 .refine (I.bU b u e).vE (λc v hc q=>k c v ?_ q) (λ_ q=>q) (λ_ _ q=>q) λ_ _ q=>q;rcases hc with z|z;.grind
  .grind
theorem Inv.tok(I:⇑1)(t:Nat):Inv X pins σ H {s with toks:=t}:=I.un (h':=s.heap) (t':=t) Un.refl I.bU
theorem Inv.kept(I:⇑1)(k:∀b u,s.heap.get? b=some u->h'.get? b=some u):Inv X pins σ H {s with heap:=h',toks:=t'}:=I.un (Un.kept k) (I.bU.kept k)
theorem Inv.laid(I:⇑1)(k:∀b u,s.heap.get? b=some u->h'.get? b=some u)(hp:s.heap.objs.size<=a)(new:cP X.prog X.w (upd H a o) h' a o):
  Inv X pins σ (upd H a o) {s with heap:=h',toks:=t'}:=I.un (Un.laid k hp (I.bU.fresh hp)) (I.bU.laid k hp new)
theorem Inv.write(I:⇑1)(mu:Xe (H x))(he:e=x\/H e=some (.own x))(k:∀b u,b≠e->s.heap.get? b=some u->h'.get? b=some u)(Kf:∃u,h'.get? e=some u)
  (new:cP X.prog X.w (upd H x o) h' x o):Inv X pins σ (upd H x o) {s with heap:=h',toks:=t'}:=I.un (Un.write mu he k Kf) (I.bU.write mu he k Kf new)
theorem Inv.oZ(I:⇑1)(h:∀p∈pins',s.heap.get? p.1=some p.2/\H p.1=none/\p.1≠X.env.locals/\p.1∉X.fs/\∀v,p.2.data≠.cell v):Inv X pins' σ H s:=
 ⟨I.ok,I.os,I.bare,I.base,I.loc,I.cell,I.free,I.ji,λp hp=>(aap.mp hp).elim (λz=>I.pin p (aax _ z)) (h p),I.bU,I.len⟩
theorem BK{N:List Str}(hN:N.Nodup){i j:Nat}(a:N[i]?=some x)(b:N[j]?=some x):i=j:=by
 obtain⟨h1,e1⟩:=aar.mp a
 obtain⟨h2,e2⟩:=aar.mp b
 exact(List.getElem_inj hN).mp (e1.trans e2.symm)
theorem zb(I:⇑1)(hN:X.N.Nodup)(hi:X.N[i]?=some x)(hx:Loc X.env.scope x)(r:RelV v u)
  (h:∀s',Inv X pins (σ.set i (some v)) H s'->(∃a,Heap.SameBut a s.heap s'.heap/\(a=X.env.locals\/X.env.cells.lookup x=some a))->Q () s')(hf:X.fn x=true\/X.env.scope.names.lookup x=some .local):wpAny M A (storeName X.env x u) Q E s:=by
 obtain⟨m,hn,hl⟩:=id I.loc
 have aaI:(X.env.scope.kind==.class||(X.env.scope.kind==.module&&X.env.locals !=X.env.globals))=false:=by rw[I.ok.kind];rfl
 have Xh:i<σ.length:=by rw[I.len];exact(aar.mp hi).1
 have NA:=I.NA
 have tracked:∀{a:Addr} {h':Heap},(∃o,s.heap.get? a=some o/\H a=none)->Heap.SameBut a s.heap h'->pJ X.prog X.w H h':=λ{a h'} ha hs b ob e=>by
  refine(I.bU b ob e).vE (λc w' hc q=>(hs.2 c ?_).trans q) (λ_ q=>q) (λ_ _ q=>q) λ_ _ q=>q;rcases hc with rfl|hc;.grind
  .grind
 rcases hx with hk|hk
 .refine wpAny_storeName_local hk hn (λh' hn' hs=>?_) aaI;obtain⟨oL,_,_,Xi,_⟩:=id hn;refine h _ ⟨I.ok,I.os,I.bare,⟨λb o e n hb hx=>?_,λb o e n hb hx=>?_,I.base.free,λb o e hx=>?_,I.base.xW,I.base.xX,I.base.zX⟩,⟨_,hn',λj y v' e1 e2 e3=>?_⟩,λy c e=>?_,I.free,I.ji,λp hp=>?_,tracked ⟨oL,Xi,I.free⟩ hs,by simpa using I.len⟩ ⟨_,hs,.inl rfl⟩;.exact (hs.2 b (aay (aam (aai e) I.ok.above))).trans (I.base.keep b o e n hb hx)
  .obtain ⟨sl,e1⟩:=I.base.slot b o e n hb hx;exact⟨sl,(hs.2 b (aay (aam (aai e) I.ok.above))).trans e1⟩
  .obtain ⟨o',e1⟩:=I.base.there b o e hx;exact⟨o',(hs.2 b (aay (aam (aai e) I.ok.above))).trans e1⟩
  .by_cases hj:j=i
   .subst hj;rw[hi]at e1;cases e1;rw[abl Xh]at e2;cases e2;exact⟨u,r,.inl ⟨hk,by simp⟩⟩
   .rw [aaT (acw hj)]at e2;obtain⟨u',r',q⟩:=hl j y v' e1 e2 e3;refine⟨u',r',?_⟩;rcases q with⟨k,e⟩|⟨k,c,e,z⟩
    .refine .inl ⟨k,?_⟩;have:y≠x:=λe=>hj (BK hN e1 (e ▸ hi));simp[this,e]
    .exact .inr ⟨k,c,e,z.sameBut hs (NA y c e)⟩
  .obtain ⟨w',z⟩:=I.cell y c e;exact⟨w',z.sameBut hs (NA y c e)⟩
  .obtain ⟨e,n,ne,nf,d⟩:=I.pin p hp;exact⟨(hs.2 p.1 ne).trans e,n,ne,nf,d⟩
 .have DU:X.fn x=true:=by
   rcases hf with z|z;.exact z
   .grind
  obtain⟨c,hc⟩:=I.ok.has x (.inl hk);obtain⟨w',z⟩:=I.cell x c hc;refine wpAny_storeName_cell I.ok.kind hk hc z (λh' NC hs=>?_);obtain⟨oc,hoc,aaJ⟩:=id z;refine h {s with heap:=h'} ⟨I.ok,I.os,I.bare,⟨λb o e n hb hx=>?_,λb o e n hb hx=>?_,I.base.free,λb o e hx=>?_,I.base.xW,I.base.xX,I.base.zX⟩,⟨m,hn.sameBut hs (Ne.symm (NA x c hc)),λj y v' e1 e2 e3=>?_⟩,λy c' e=>?_,I.free,I.ji,λp hp=>?_,tracked ⟨oc,hoc,I.ji x c hc⟩ hs,by simpa using I.len⟩ ⟨c,hs,.inr hc⟩;.exact (hs.2 b (aay (aam (aai e) (I.ok.NY x c DU hc)))).trans (I.base.keep b o e n hb hx)
  .obtain ⟨sl,e1⟩:=I.base.slot b o e n hb hx;exact⟨sl,(hs.2 b (aay (aam (aai e) (I.ok.NY x c DU hc)))).trans e1⟩
  .obtain ⟨o',e1⟩:=I.base.there b o e hx;exact⟨o',(hs.2 b (aay (aam (aai e) (I.ok.NY x c DU hc)))).trans e1⟩
  .by_cases hj:j=i
   .subst hj;rw[hi]at e1;cases e1;rw[abl Xh]at e2;cases e2;exact⟨u,r,.inr ⟨.inl hk,c,hc,NC⟩⟩
   .rw [aaT (acw hj)]at e2;obtain⟨u',r',q⟩:=hl j y v' e1 e2 e3;refine⟨u',r',?_⟩;rcases q with q|⟨k,c',e,z'⟩;.exact .inl q
    .refine .inr ⟨k,c',e,z'.sameBut hs ?_⟩;rintro rfl;exact hj (BK hN e1 (I.ok.inj _ _ _ e hc ▸ hi))
  .by_cases Xj:c'=c;.grind
   .obtain ⟨w2,z2⟩:=I.cell y c' e;exact⟨w2,z2.sameBut hs Xj⟩
  .obtain ⟨e,n,ne,nf,d⟩:=I.pin p hp;refine⟨(hs.2 p.1 ?_).trans e,n,ne,nf,d⟩;intro q;rw[q,hoc]at e;have q':=abH e;exact d w' (by rw[<-q'];exact aaJ)
theorem vF(I:⇑1)(hN:X.N.Nodup)(hi:X.N[i]?=some x)(hx:Loc X.env.scope x)(r:RelV v u)
  (h:∀s',Inv X pins (σ.set i (some v)) H s'->Q () s')(hf:X.fn x=true\/X.env.scope.names.lookup x=some .local):wpAny M A (storeName X.env x u) Q E s:=
 zb I hN hi hx r (λs' I' _=>h s' I') hf
theorem Inv.Xk(I:⇑1)(ho:s'.os=s.os)(u:Un (qY X.stack) ch H H' s.heap s'.heap)(bU:pJ X.prog X.w H' s'.heap)(hg:AllBare s'.gens)
  (NB:⇑37):Inv X pins σ H' s':=by
 obtain⟨h',g',d',t',o'⟩:=s'
 have e:=ho
 subst e
 exact I.call (g':=g') (t':=t') (d':=d') u bU hg NB
end
abbrev XK:=Value->Option Addr->Hp->Prop
abbrev St:=List (Option V)
abbrev VK:=V->Hp->Prop
abbrev TE:=St->Hp->VK->Prop
abbrev TT:=St->Hp->(Bool->Hp->Prop)->Prop
abbrev TA:=St->Hp->(List V->Hp->Prop)->Prop
structure Ends where
 nx:St->Hp->Prop
 rt:VK
 bk:St->Hp->Prop:=λ_ _=>False
 ct:St->Hp->Prop:=λ_ _=>False
abbrev TS:=Ends->St->Hp->Prop
def EP(X:Cx)(pins:cz)(σ:St)(Q:VK)(u:Value)(s':Shared):Prop:=∃v H',Inv X pins σ H' s'/\RelV v u/\Q v H'
def TP(X:Cx)(pins:cz)(σ:St)(Q:Bool->Hp->Prop)(b:Bool)(s':Shared):Prop:=∃H',Inv X pins σ H' s'/\Q b H'
def AP(X:Cx)(pins:cz)(σ:St)(Q:List V->Hp->Prop)(us:bZ)(s':Shared):Prop:=∃vs H',Inv X pins σ H' s'/\bA vs us/\Q vs H'
def SP(X:Cx)(pins:cz)(D:Ends)(f:Flow)(s':Shared):Prop:=
 match f with
 |.next=>∃ck H',Inv X pins ck H' s'/\D.nx ck H'
 |.brk=>∃ck H',Inv X pins ck H' s'/\D.bk ck H'
 |.cont=>∃ck H',Inv X pins ck H' s'/\D.ct ck H'
 |.ret u=>∃v ck H',Inv X pins ck H' s'/\RelV v u/\D.rt v H'
def PE(X:Cx)(e:Expr)(t:TE):Prop:=
 ∀(pins:cz) (s:Shared) (σ:St) (H:Hp) (Q:VK),Inv X pins σ H s->t σ H Q->wpAny ⇑3 X.A (eval e X.env) (EP X pins σ Q) X.xe s
def PT(X:Cx)(e:Expr)(t:TT):Prop:=
 ∀(pins:cz) (s:Shared) (σ:St) (H:Hp) (Q:Bool->Hp->Prop),Inv X pins σ H s->t σ H Q->wpAny ⇑3 X.A (isTrue e X.env (eval e X.env)) (TP X pins σ Q) X.xe s
def PW(X:Cx)(e:Expr)(t:TT):Prop:=
 ∀(whole:Sem Value) (pins:cz) (s:Shared) (σ:St) (H:Hp) (Q:Bool->Hp->Prop),Inv X pins σ H s->t σ H Q->wpAny ⇑3 X.A (isTrue e X.env whole) (TP X pins σ Q) X.xe s
theorem PW.pt{X:Cx}{e:Expr}{t:TT}(h:PW X e t):PT X e t:=h _
def PA(X:Cx)(es:List Expr)(t:TA):Prop:=
 ∀(pos:Pos) (pins:cz) (s:Shared) (σ:St) (H:Hp) (Q:List V->Hp->Prop),Inv X pins σ H s->t σ H Q->wpAny ⇑3 X.A (spliced (backTo pos (starEach es X.env))) (AP X pins σ Q) X.xe s
def PS(X:Cx)(st:Stmt)(t:TS):Prop:=
 ∀(pins:cz) (s:Shared) (σ:St) (H:Hp) (D:Ends),Inv X pins σ H s->t D σ H->wpAny ⇑3 X.A (exec st X.env) (SP X pins D) X.xe s
def iP(X:Cx)(st:List Stmt)(t:TS):Prop:=
 ∀(pins:cz) (s:Shared) (σ:St) (H:Hp) (D:Ends),Inv X pins σ H s->t D σ H->wpAny ⇑3 X.A (execs st X.env) (SP X pins D) X.xe s
theorem dq(h:wpAny M A t Q E s)(hQ:∀a s,Q a s->Q' a s):wpAny M A t Q' E s:=abu h hQ λ_ _ x=>x
section
variable {X:Cx}
def kU(i:Nat):TE:=λ7=>∃v,σ[i]?=some (some v)/\Q v H
def tC(v:V):TE:=λ_ H Q=>Q v H
theorem DV(hN:X.N[i]?=some x)(hv:VU X.env.scope x)(hd:⇑5:=by decide)(vb:(x==("__classdict__":Str))=false:=by decide):PE X (.Name x pos) (kU i):=by
 intro 1
 obtain⟨v,e,h⟩:=h
 obtain⟨m,hn,hl⟩:=I.loc
 obtain⟨u,r,l⟩:=hl i x v hN e hv
 have fin:EP X pins σ Q u s:=⟨v,H,I,r,h⟩
 rcases l with⟨hk,hm⟩|⟨hk,c,hc,zc⟩
 .exact wpAny_Name (wpAny_loadName_local I.ok.kind hk hn hm fin) hd
 .rcases hk with hk|hk;.exact wpAny_Name (wpAny_loadName_cell I.ok.kind hk hc zc fin) hd
  .exact wpAny_Name (wpAny_loadName_free I.ok.kind hk hc zc fin vb) hd
theorem bH:PE X (.Constant (.int i) j pos) (tC (.int i)):=λ_ _ _ H _ I h=>wpAny_Constant_int ⟨.int i,H,I.tok _,⟨_,rfl⟩,h⟩
theorem lD:PE X (.Constant (.bool b) j pos) (tC (.bl b)):=λ_ _ _ H _ I h=>Constant_bool ⟨.bl b,H,I,rfl,h⟩
theorem aM:PE X (.Constant (.str x) j pos) (tC (.str x)):=λ_ _ _ H _ I h=>Calls.Constant_str ⟨.str x,H,I.tok _,⟨_,rfl⟩,h⟩
def Gl(X:Cx)(x:Str):Prop:=X.env.kindOf x=some .globalImplicit
theorem ky(I:⇑1)(hg:Gl X x)(hm:X.mg x=some u)(h:Q u s)
  (hd:⇑5:=by decide):wpAny ⇑3 X.A (eval (.Name x pos) X.env) Q E s:=
 Calls.Name_function_global I.ok.kind hg (Calls.loadGlobal_global (by rw[I.ok.glob];exact I.mod.glob.keeps I.bk) hm h) hd
theorem lV(I:⇑1)(hg:Gl X x)(hm:X.mg x=none)(hv:bootBuiltins x=some u)(h:Q u s)
  (hn:x≠"__name__":=by decide)(hd:⇑5:=by decide):wpAny ⇑3 X.A (eval (.Name x pos) X.env) Q E s:=by
 obtain⟨mb,h1,h2⟩:=I.mod.blt
 exact Calls.Name_function_global I.ok.kind hg (Calls.loadGlobal_builtin (by rw[I.ok.glob];exact I.mod.glob.keeps I.bk) hm (by rw[I.ok.blt];exact h1.keeps I.bk) ((h2 x hn).trans hv) h) hd
theorem NZ(hg:Gl X x)(hm:X.mg x=some u)(r:RelV v u)(hd:⇑5:=by decide):PE X (.Name x pos) (tC v):=
 λ_ _ _ H _ I h=>ky I hg hm ⟨v,H,I,r,h⟩ hd
theorem vc(hg:Gl X x)(hm:X.mg x=none)(hv:bootBuiltins x=some u)(r:RelV v u)(hn:x≠"__name__":=by decide)(hd:⇑5:=by decide):PE X (.Name x pos) (tC v):=
 λ_ _ _ H _ I h=>lV I hg hm hv ⟨v,H,I,r,h⟩ hn hd
variable {a b:Expr}{ta tb:TE}{pos:Pos}
def PC(X:Cx)(op:CmpOp)(a b:Expr)(t:TE):Prop:=
 ∀(pins:cz) (s:Shared) (σ:St) (H:Hp) (Q:VK),Inv X pins σ H s->t σ H Q->
   wpAny ⇑3 X.A (eval a X.env) (λv bV=>wpAny ⇑3 X.A (eval b X.env) (λu nk=>wpAny ⇑3 X.A (compareOp op v u) (EP X pins σ Q) X.xe nk) X.xe bV) X.xe s
theorem BL(b:Expr)(h:op≠.In)(h2:op≠.NotIn):behindInMarks op b=false:=by
 have e1:(op==CmpOp.In)=false:=by cases op<;>first|rfl|exact absurd rfl h
 have e2:(op==CmpOp.NotIn)=false:=by cases op<;>first|rfl|exact absurd rfl h2
 cases b<;>simp[behindInMarks,e1,e2]
def tB(t:TE):TT:=λ7=>t σ H λx H1=>∃c,x=.bl c/\Q c H1
theorem SQ(h:PC X op a b t)(h1:behindInMarks op b=false:=by first|exact BL _ ⇑0 (by decide)|rfl):PE X (.Compare a [op] [b] pos) t:=λpins s σ H Q I hw=>wpAny_Compare1 (h pins s σ H Q I hw) h1
theorem SR(h:PC X op a b t)(h1:behindInMarks op b=false:=by first|exact BL _ ⇑0 (by decide)|rfl):PT X (.Compare a [op] [b] pos) (tB t):=by
 intro pins s σ H Q I hw
 refine wpAny_isTrue_Compare1 (dq (h pins s σ H _ I hw) λv s1 h1=>dq h1 λu s2 h2=>dq h2 λc s3 ⟨x,H1,I1,r1,q1⟩=>?_) h1
 obtain⟨d,rfl,q⟩:=q1
 cases r1
 exact ach ⟨H1,I1,q⟩
variable {tA ZW:TT}{rest:List Expr}
def aaK(t u:TT):TT:=λ7=>t σ H λc H1=>if c=true then u σ H1 Q else Q false H1
def tOr(t u:TT):TT:=λ7=>t σ H λc H1=>if c=true then Q true H1 else u σ H1 Q
def aaL(t:TT):TT:=λ7=>t σ H λc H1=>Q (!c) H1
theorem pw_and1(ha:PT X a tA):PW X (.BoolOp .And [a] pos) tA:=by
 intro wh pins s σ H Q I h
 refine isTrue_and (dq (ha pins s σ H Q I h) λc s1 e=>?_)
 cases c with
 |true=>exact isTrue_and_nil e
 |false=>exact e
theorem pw_or1(ha:PT X a tA):PW X (.BoolOp .Or [a] pos) tA:=by
 intro wh pins s σ H Q I h
 refine isTrue_or (dq (ha pins s σ H Q I h) λc s1 e=>?_)
 cases c with
 |false=>exact isTrue_or_nil e
 |true=>exact e
theorem pw_and(ha:PT X a tA)(hb:PW X (.BoolOp .And (b::rest) pos) ZW):PW X (.BoolOp .And (a::b::rest) pos) (aaK tA ZW):=by
 intro wh pins s σ H Q I h
 refine isTrue_and (dq (ha pins s σ H _ I h) λc s1 ⟨H1,I1,q1⟩=>?_)
 cases c with
 |true=>exact hb wh pins s1 σ H1 Q I1 q1
 |false=>exact⟨H1,I1,q1⟩
theorem pw_or(ha:PT X a tA)(hb:PW X (.BoolOp .Or (b::rest) pos) ZW):PW X (.BoolOp .Or (a::b::rest) pos) (tOr tA ZW):=by
 intro wh pins s σ H Q I h
 refine isTrue_or (dq (ha pins s σ H _ I h) λc s1 ⟨H1,I1,q1⟩=>?_)
 cases c with
 |true=>exact⟨H1,I1,q1⟩
 |false=>exact hb wh pins s1 σ H1 Q I1 q1
theorem Kj(ha:PT X a tA):PT X (.UnaryOp .Not a pos) (aaL tA):=by
 intro 1
 exact isTrue_not (ha pins s σ H (λc H1=>Q (!c) H1) I h)
def Xl(ta tb:TE):TE:=λ7=>ta σ H λx H1=>∃c,x=.bl c/\if c=true then tb σ H1 Q else Q (.bl false) H1
def aaM(ta tb:TE):TE:=λ7=>ta σ H λx H1=>∃c,x=.bl c/\if c=true then Q (.bl true) H1 else tb σ H1 Q
def Xm(ta:TE):TE:=λ7=>ta σ H λx H1=>∃c,x=.bl c/\Q (.bl (!c)) H1
theorem iC(h:PE X a t):PE X (.BoolOp op [a] pos) t:=λpins s σ H Q I hw=>BoolOp_one (h pins s σ H Q I hw)
theorem SS(ha:PE X a ta)(hb:PE X (.BoolOp .And (b::rest) pos) tb):PE X (.BoolOp .And (a::b::rest) pos) (Xl ta tb):=by
 intro 1
 refine BoolOp_and (dq (ha pins s σ H _ I h) λv s1 ⟨x,H1,I1,r1,q1⟩=>?_)
 obtain⟨c,rfl,q1⟩:=q1
 cases r1
 refine ach ?_
 cases c with
 |true=>exact hb pins s1 σ H1 Q I1 q1
 |false=>exact⟨.bl false,H1,I1,rfl,q1⟩
theorem Xn(ha:PE X a ta)(hb:PE X (.BoolOp .Or (b::rest) pos) tb):PE X (.BoolOp .Or (a::b::rest) pos) (aaM ta tb):=by
 intro 1
 refine BoolOp_or (dq (ha pins s σ H _ I h) λv s1 ⟨x,H1,I1,r1,q1⟩=>?_)
 obtain⟨c,rfl,q1⟩:=q1
 cases r1
 refine ach ?_
 cases c with
 |false=>exact hb pins s1 σ H1 Q I1 q1
 |true=>exact⟨.bl true,H1,I1,rfl,q1⟩
theorem SU(ha:PE X a ta):PE X (.UnaryOp .Not a pos) (Xm ta):=by
 intro 1
 refine UnaryOp_ (dq (ha pins s σ H _ I h) λv s1 ⟨x,H1,I1,r1,q1⟩=>?_)
 obtain⟨c,rfl,q1⟩:=q1
 cases r1
 exact not_of (ach ⟨.bl (!c),H1,I1,rfl,q1⟩)
def tIf(t:TT)(ta tb:TE):TE:=λ7=>t σ H λc H1=>if c=true then ta σ H1 Q else tb σ H1 Q
theorem Kk(hc:PT X c tA)(ha:PE X a ta)(hb:PE X b tb):PE X (.IfExp c a b pos) (tIf tA ta tb):=by
 intro 1
 refine wpAny_IfExp (dq (hc pins s σ H _ I h) λd s1 ⟨H1,I1,q1⟩=>?_)
 cases d with
 |true=>exact ha pins s1 σ H1 Q I1 q1
 |false=>exact hb pins s1 σ H1 Q I1 q1
end
def lQ(K:ao)(H:Hp)(a:Addr)(xs:List V):Prop:=
 Rd H a (.lst xs)\/
  ∃(o:Obj) (its:Array Value) (n:Nat),K.lookup a=some o/\o.cls=.type "list"/\o.dict=none/\o.data=.seq its n/\its.size<=sizeLine/\bA xs its.toList
def kz(K:ao)(H:Hp)(a:Addr)(xs:List V):Prop:=
 Rd H a (.tup xs)\/
  ∃(o:Obj) (its:Array Value) (n:Nat),K.lookup a=some o/\o.cls=.type "tuple"/\o.data=.seq its n/\its.size<=sizeLine/\bA xs its.toList
noncomputable def aaN:Value->Option V
 |.none=>some .iu
 |.bool b=>some (.bl b)
 |.int i _=>some (.int i)
 |.str x _=>some (.str x)
 |.bytes b _=>some (.VT b)
 |.float b _=>some (.JY b)
 |.ref a=>some (.ref a)
 |.type n=>some (.ty n)
 |_=>none
theorem RelV.abs(r:RelV x u):aaN u=some x:=by
 cases x with
 |iu=>cases r;rfl
 |bl _=>cases r;rfl
 |int _=>obtain⟨t,rfl⟩:=r;rfl
 |str _=>obtain⟨t,rfl⟩:=r;rfl
 |VT _=>obtain⟨t,rfl⟩:=r;rfl
 |JY _=>obtain⟨t,rfl⟩:=r;rfl
 |ref _=>cases r;rfl
 |ty _=>cases r;rfl
theorem RelV.inj(r:RelV x u)(q:RelV y u):x=y:=abH (r.abs.symm.trans q.abs)
theorem bA.inj:∀{xs ys:List V} {us:bZ},bA xs us->bA ys us->xs=ys
 |_,_,_,.nil,.nil=>rfl
 |_,_,_,.cons r t,.cons r' t'=>by rw[r.inj r',bA.inj t t']
section
variable {X:Cx}{pins:cz}{σ:St}{H:Hp}{s:Shared}{a:Addr}{xs ys:List V}
theorem lQ.of{K:ao}(h:H a=some (.lst xs)):lQ K H a xs:=.inl (.inl h)
theorem Inv.list(I:⇑1)(h:lQ X.K H a xs):∃its:bZ,bA xs its/\PlainL s.heap a its.toArray/\xs.length<=sizeLine:=by
 rcases h with h|⟨o,its,n,hk,hc,hd,hs,hz,r⟩
 .obtain ⟨z,its,n,r,e⟩:=h.ok I.bU;exact⟨its,r,⟨_,n,e,rfl,rfl,rfl⟩,z⟩
 .refine ⟨its.toList,r,⟨o,n,I.mV a o hk,hc,hd,by simpa using hs⟩,?_⟩;have e:=r.length;simp only[aaD]at e;lia
theorem Inv.tuple(I:⇑1)(h:kz X.K H a xs):∃its:bZ,bA xs its/\IsTup s.heap a its.toArray/\xs.length<=sizeLine:=by
 rcases h with h|⟨o,its,n,hk,hc,hs,hz,r⟩
 .obtain ⟨z,its,r,p⟩:=h.ok I.bU;exact⟨its,r,p,z⟩
 .refine ⟨its.toList,r,⟨o,I.mV a o hk,hc,n,by simpa using hs⟩,?_⟩;have e:=r.length;simp only[aaD]at e;lia
theorem Inv.vG(I:⇑1)(h:lQ X.K H a xs)(h':lQ X.K H a ys):xs=ys:=by
 obtain⟨its,r,⟨o,n,e,_,_,d⟩,_⟩:=I.list h
 obtain⟨its',r',⟨o',n',e',_,_,d'⟩,_⟩:=I.list h'
 rw[e]at e';cases e'
 rw[d]at d'
 injection d' with d1 _
 have:its=its':=by simpa using congrArg Array.toList d1
 subst this
 exact r.inj r'
theorem Inv.o6(I:⇑1)(h:kz X.K H a xs)(h':kz X.K H a ys):xs=ys:=by
 obtain⟨its,r,⟨o,e,_,n,d⟩,_⟩:=I.tuple h
 obtain⟨its',r',⟨o',e',_,n',d'⟩,_⟩:=I.tuple h'
 rw[e]at e';cases e'
 rw[d]at d'
 injection d' with d1 _
 have:its=its':=by simpa using congrArg Array.toList d1
 subst this
 exact r.inj r'
end
abbrev Cx.xZ(X:Cx)(E:eJ):Cx:={X with xe:=E}
abbrev Cx.BM(X:Cx):Cx:=X.xZ λ_ _=>False
theorem Cx.Ok.xZ{X:Cx}(ok:X.Ok)(E:eJ):(X.xZ E).Ok:=
 ⟨ok.mod,ok.kind,ok.glob,ok.blt,ok.above,ok.inj,ok.has,ok.NY,ok.hd,ok.frames,ok.VW,ok.exf,ok.bs,ok.Kh,ok.HP,ok.Ki,ok.m9,ok.Nz⟩
theorem Cx.Ok.nr{X:Cx}(ok:(X.xZ E).Ok):X.Ok:=
 ⟨ok.mod,ok.kind,ok.glob,ok.blt,ok.above,ok.inj,ok.has,ok.NY,ok.hd,ok.frames,ok.VW,ok.exf,ok.bs,ok.Kh,ok.HP,ok.Ki,ok.m9,ok.Nz⟩
section
variable {X:Cx}{pins:cz}{σ:St}{H:Hp}{s:Shared}{E:eJ}
theorem Inv.xZ(I:⇑1)(E:eJ):Inv (X.xZ E) pins σ H s:=⟨I.ok.xZ E,I.os,I.bare,I.base,I.loc,I.cell,I.free,I.ji,I.pin,I.bU,I.len⟩
theorem Inv.nr(I:Inv (X.xZ E) pins σ H s):Inv X pins σ H s:=⟨I.ok.nr,I.os,I.bare,I.base,I.loc,I.cell,I.free,I.ji,I.pin,I.bU,I.len⟩
theorem SP.nr(h:SP (X.xZ E) pins D f s'):SP X pins D f s':=by
 cases f with
 |next=>obtain⟨ck,H',I,q⟩:=h;exact⟨ck,H',I.nr,q⟩
 |brk=>obtain⟨ck,H',I,q⟩:=h;exact⟨ck,H',I.nr,q⟩
 |cont=>obtain⟨ck,H',I,q⟩:=h;exact⟨ck,H',I.nr,q⟩
 |ret u=>obtain⟨v,ck,H',I,r,q⟩:=h;exact⟨v,ck,H',I.nr,r,q⟩
theorem iP.BM{st:List Stmt}(h:iP X.BM st t):iP X st t:=λpins s σ H D I hw=>
 abu (h pins s σ H D (I.xZ _) hw) (λ_ _ q=>q.nr) λ_ _ z=>False.elim z
end
section
variable {X:Cx}{st:Stmt}{rest:List Stmt}{t u:TS}{e:Expr}{te:TE}{pos:Pos}
def Xo:TS:=λD σ H=>D.nx σ H
def aaO(t u:TS):TS:=λD σ H=>t {D with nx:=u D} σ H
theorem Gb:iP X [] Xo:=λ_ _ σ H _ I h=>aft ⟨σ,H,I,h⟩
theorem lE(h1:PS X st t)(h2:iP X rest u):iP X (st::rest) (aaO t u):=by
 intro 6
 refine afg (dq (h1 pins s σ H {D with nx:=u D} I h) λf s1 q=>?_)
 cases f with
 |next=>
   obtain⟨ck,H',I',q⟩:=q;exact h2 pins s1 ck H' D I' q
 |ret v=>exact q
 |brk=>exact q
 |cont=>exact q
theorem zZ(h1:PS X st t):iP X [st] t:=by
 intro 6
 refine afg (dq (h1 pins s σ H D I h) λf s1 q=>?_)
 cases f with
 |next=>exact aft q
 |ret v=>exact q
 |brk=>exact q
 |cont=>exact q
theorem Inv.quiet(I:⇑1):interactive X.env=false:=by simp[interactive,I.ok.kind]
def Gc(te:TE):TS:=λD σ H=>te σ H λ_ H1=>D.nx σ H1
theorem cw(he:PE X e te)(hs:swapsWith e none pos.line X.env=pure false:=by rfl):PS X (.Expr e pos) (Gc te):=by
 intro 6
 exact wpAny_Expr_any (dq (he pins s σ H _ I h) λv s1 ⟨x,H1,I1,r1,q1⟩=>⟨σ,H1,I1,q1⟩) I.quiet hs
def aaP(te:TE):TS:=λD σ H=>te σ H D.rt
theorem z0(he:PE X e te):PS X (.Return (some e) pos) (aaP te):=by
 intro 6
 exact wpAny_Return_some (dq (he pins s σ H _ I h) λv s1 ⟨x,H1,I1,r1,q1⟩=>⟨x,σ,H1,I1,r1,q1⟩)
def aaQ(c:TT)(t u:TS):TS:=λD σ H=>c σ H λb H1=>if b=true then t D σ H1 else u D σ H1
theorem QC(hc:PT X c tc)(ha:iP X a t)(hb:iP X b u):PS X (.If c a b pos) (aaQ tc t u):=by
 intro 6
 refine wpAny_If (dq (hc pins s σ H _ I h) λd s1 ⟨H1,I1,q1⟩=>?_)
 cases d with
 |true=>exact ha pins s1 σ H1 D I1 q1
 |false=>exact hb pins s1 σ H1 D I1 q1
def SV:TS:=λ_ _ _=>False
theorem Kl:PS X st SV:=λ_ _ _ _ _ _ h=>h.elim
end
abbrev TG:=V->St->Hp->(St->Hp->Prop)->Prop
abbrev VX:=List V->St->Hp->(St->Hp->Prop)->Prop
def PG(X:Cx)(target:Expr)(t:TG):Prop:=
 ∀(pins:cz) (s:Shared) (σ:St) (H:Hp) (v:V) (u:Value) (Q:St->Hp->Prop),Inv X pins σ H s->RelV v u->t v σ H Q->
   wpAny ⇑3 X.A (assign target X.env u) (λ_ s'=>∃ck H',Inv X pins ck H' s'/\Q ck H') X.xe s
def Km(X:Cx)(ts:List Expr)(t:VX):Prop:=
 ∀(pins:cz) (s:Shared) (σ:St) (H:Hp) (vs:List V) (us:bZ) (Q:St->Hp->Prop),Inv X pins σ H s->bA vs us->t vs σ H Q->
   wpAny ⇑3 X.A (assignInOrder ((assignEach ts X.env).map (·.2)) us) (λ_ s'=>∃ck H',Inv X pins ck H' s'/\Q ck H') X.xe s
abbrev Xp:=V->V->V->Hp->(Hp->Prop)->Prop
def Xq(X:Cx)(t:Xp):Prop:=
 ∀(pins:cz) (s:Shared) (σ:St) (H:Hp) (o i v:V) (ov iv u:Value) (Q:Hp->Prop),Inv X pins σ H s->RelV o ov->RelV i iv->RelV v u->t o i v H Q->
   wpAny ⇑3 X.A (setItem ov iv u) (λ_ s'=>∃H',Inv X pins σ H' s'/\Q H') X.xe s
section
variable {X:Cx}{pos:Pos}
def mW(i:Nat):TG:=λv σ H Q=>Q (σ.set i (some v)) H
theorem aO(hN:X.N.Nodup)(hi:X.N[i]?=some x)(hx:Loc X.env.scope x)(hf:X.fn x=true\/X.env.scope.names.lookup x=some .local:=by first|exact .inl rfl|exact .inr rfl|assumption):PG X (.Name x pos) (mW i):=by
 intro pins s σ H v u Q I r h
 exact wpAny_assign_Name (vF I hN hi hx r (λs' I'=>⟨_,H,I',h⟩) hf)
def aaR:VX:=λvs σ H Q=>vs=[]/\Q σ H
def Xr(t:TG)(u:VX):VX:=λvs σ H Q=>∃v r,vs=v::r/\t v σ H λck H'=>u r ck H' Q
theorem N0:Km X [] aaR:=by
 intro pins s σ H vs us Q I r h
 obtain⟨e,h⟩:=h
 exact assignInOrder_nil ⟨σ,H,I,h⟩
theorem Kn(h1:PG X e t)(h2:Km X es u)
  (hs:(assignEach (e::es) X.env).map (·.2)=assign e X.env::(assignEach es X.env).map (·.2):=by rfl):Km X (e::es) (Xr t u):=by
 intro pins s σ H vs us Q I r h
 obtain⟨v,vr,e1,h⟩:=h
 subst e1
 cases r with
 |cons r rr=>
   rw[hs];refine assignInOrder_cons (dq (h1 pins s σ H _ _ _ I r h) λ_ s1 ⟨BC,H1,I1,q1⟩=>?_);exact h2 pins s1 BC H1 _ _ Q I1 rr q1
def aaS(K:ao)(n:Nat)(t:VX):TG:=λv σ H Q=>∃a xs,v=.ref a/\kz K H a xs/\xs.length=n/\t xs σ H Q
theorem SW(hc:X.calm=true)(h:Km X es t)
  (hn:(assignEach es X.env).length=n:=by rfl)(N1:(assignEach es X.env).findIdx? (·.1)=none:=by rfl):PG X (.Tuple es k pos) (aaS X.K n t):=by
 intro pins s σ H v u Q I r hw
 obtain⟨a,xs,e1,hq,hl,hw⟩:=hw
 subst e1
 cases r
 obtain⟨its,rv,ht,hz⟩:=I.tuple hq
 refine assign_Tuple_tuple (I.ok.hd hc) ht (by simp[hn,<-hl,rv.length]) N1 λh' hx=>?_
 have I1:=I.kept (t':=s.toks) λb o e=>hx b o (aay (aai e)) e
 exact h pins _ σ H xs _ Q I1 (by simpa using rv) hw
def Xs(to ti:TE)(t:Xp):TG:=λv σ H Q=>to σ H λo H1=>ti σ H1 λi H2=>t o i v H2 λH3=>Q σ H3
theorem SX(ho:PE X o to)(hi:PE X i ti)(hs:Xq X t)
  (ha:∀v,assign (.Subscript o i pos) X.env v=(do
   let ov <-holding [v] (eval o X.env)
   let iv <-holding [v,ov] (eval i X.env)
   standAt pos
   holding [v,ov,iv] (setItem ov iv v)
   release [v,ov,iv] []):=by intro _;rfl):PG X (.Subscript o i pos) (Xs to ti t):=by
 intro pins s σ H v u Q I r h
 refine aab (adZ (dq (ho pins s σ H _ I h) λov s1 ⟨x,H1,I1,r1,q1⟩=>?_))
 refine aab (adZ (dq (hi pins s1 σ H1 _ I1 q1) λiv s2 ⟨y,H2,I2,r2,q2⟩=>?_))
 refine aab (afm (aab (adZ (dq (hs pins s2 σ H2 x y v ov iv u _ I2 r1 r2 r q2) λ_ s3 ⟨H3,I3,q3⟩=>?_))))
 exact wpAny_release ⟨σ,H3,I3,q3⟩
def su(te:TE)(g:TG):TS:=λD σ H=>te σ H λx H1=>g x σ H1 D.nx
theorem Ko(he:PE X e te)(hg:PG X tg g)(hs:swapsWithSole [tg] e pos.line X.env=pure false:=by rfl)(hw:swappedStores [tg] e X.env=pure none:=by rfl)
  (h1:(assignEach [tg] X.env).map (·.2)=[assign tg X.env]:=by rfl):PS X (.Assign [tg] e pos) (su te g):=by
 intro 6
 refine wpAny_Assign_stores (dq (he pins s σ H _ I h) λv s1 ⟨x,H1,I1,r1,q1⟩=>?_) hs hw
 rw[h1]
 exact dq (hg pins s1 σ H1 x v _ I1 r1 q1) λ_ s2 q=>q
theorem eY(hN:X.N.Nodup)(hi:X.N[i]?=some x)(hx:Loc X.env.scope x)(he:PE X e te)(hs:swapsWith e (some (.Name x pos')) pos.line X.env=pure false:=by rfl)(hf:X.fn x=true\/X.env.scope.names.lookup x=some .local:=by first|exact .inl rfl|exact .inr rfl|assumption):
  PS X (.Assign [.Name x pos'] e pos) (su te (mW i)):=by
 intro 6
 refine wpAny_Assign_Name (dq (he pins s σ H _ I h) λv s1 ⟨y,H1,I1,r1,q1⟩=>?_) hs
 exact vF I1 hN hi hx r1 (λs2 I2=>⟨_,H1,I2,q1⟩) hf
end
section
variable {X:Cx}{pos:Pos}
def SY(c:TT)(tb:TS):TS:=λD σ H=>∃W:Nat->St->Hp->Prop,(∃m,W m σ H)/\∀m σ H,W m σ H->
 c σ H λb H1=>if b=true then ∃N:St->Hp->Prop,(∀ck H',N ck H'->∃m',m'<m/\W m' ck H')/\tb {D with nx:=N,ct:=N,bk:=D.nx} σ H1 else D.nx σ H1
theorem Kq(hp:PassesOwn ⇑3 X.A X.env X.xe)(hc:PT X c tc)(hb:iP X body tb):PS X (.While c body [] pos) (SY tc tb):=by
 intro 6
 obtain⟨W,⟨m0,w0⟩,turn⟩:=h
 refine wpAny_While (codeAny_whileLoop (λn s'=>∃ck H',Inv X pins ck H' s'/\W n ck H') ?_ m0 ⟨σ,H,I,w0⟩)
 rintro n s1 ⟨BC,H1,I1,w1⟩
 refine aed hp (dq (hc pins s1 BC H1 _ I1 (turn n BC H1 w1)) λb s2 ⟨H2,I2,q2⟩=>?_)
 cases b with
 |true=>
   obtain⟨N,hN,q2⟩:=q2;refine aed hp (dq (hb pins s2 BC H2 _ I2 q2) λf s3 q3=>?_);cases f with
   |next=>
     obtain⟨Kr,H3,I3,n3⟩:=q3;obtain⟨m',hm,w3⟩:=hN Kr H3 n3;exact⟨m',hm,Kr,H3,I3,w3⟩
   |cont=>
     obtain⟨Kr,H3,I3,n3⟩:=q3;obtain⟨m',hm,w3⟩:=hN Kr H3 n3;exact⟨m',hm,Kr,H3,I3,w3⟩
   |brk=>exact q3
   |ret v=>exact q3
 |false=>
   exact aft ⟨BC,H2,I2,q2⟩
end
structure It where
 go:Nat->Hp->Prop
 Xu:Nat->Hp->V->Hp->Prop
 stop:Nat->Hp->Prop
def uE(X:Cx)(pins:cz)(H:Hp)(b:Addr):Prop:=
 H b=none/\b≠X.env.locals/\b∉X.fs/\(b∈X.ex\/X.ip.heap.objs.size<=b)/\(∀x c,X.env.cells.lookup x=some c->c≠b)/\∀p∈X.pn++pins,p.1≠b
theorem Inv.sv(I:⇑1)(hb:s.heap.objs.size<=b)(hn:H' b=none):uE X pins H' b:=by
 refine⟨hn,aer (aam I.lt hb),I.Xf hb,.inr (aa6 I.sz hb),λx c e z=>?_,λp hp z=>?_⟩
 .obtain ⟨v,q⟩:=I.cell x c e;exact absurd (aam q.lt (by rw[z];exact hb)) (abF _)
 .exact absurd (aam (aai (I.pin p hp).1) (by rw[z];exact hb)) (abF _)
abbrev zd(X:Cx):Prop:=X.calm=true
structure Ks(gd:Cx->Prop)(P:Program)(w:World)(K:ao)(tg:Expr)(J:It)(fp:List Addr)(it:Addr)(tn:Nat->Heap->Prop):Prop where
 mem:it∈fp
 obj:∀i h,tn i h->∀b∈fp,∃o,h.get? b=some o/\∀v,o.data≠.cell v
 keep:∀i h h',tn i h->(∀b∈fp,∀o,h.get? b=some o->h'.get? b=some o)->tn i h'
 item:∀(X:Cx),X.prog=P->X.w=w->X.K=K->gd X->∀(i:Nat) (pins:cz) (s:Shared) (σ:St) (H:Hp) (E:eJ),Inv X pins σ H s->(∀b∈fp,uE X pins H b)->tn i s.heap->J.go i H->
  wpAny (model P w) X.A (pyNext (.ref it)) (λr s1=>∃u,r=some u/\
   wpAny (model P w) X.A (letOwnedTupleGo tg (.ref it) u) (λ_ s2=>∃x H',Inv X pins σ H' s2/\RelV x u/\J.Xu i H x H'/\tn (i+1) s2.heap/\∀b∈fp,H' b=none) E s1) E s
 done:∀(X:Cx),X.prog=P->X.w=w->X.K=K->gd X->∀(i:Nat) (pins:cz) (s:Shared) (σ:St) (H:Hp) (E:eJ),Inv X pins σ H s->(∀b∈fp,uE X pins H b)->tn i s.heap->J.stop i H->
  wpAny (model P w) X.A (pyNext (.ref it)) (λr s1=>r=none/\Inv X pins σ H s1) E s
 self:∀(A:Around) (i:Nat) (s:Shared) (Q:eJ) (E:eJ),tn i s.heap->Q (.ref it) s->wpAny (model P w) A (pyIter (.ref it)) Q E s
abbrev Turn:=Ks zd
abbrev TI:=St->Hp->(It->Hp->Prop)->Prop
def N2(gd:Cx->Prop)(X:Cx)(pins:cz)(σ:St)(tg:Expr)(R:It->Hp->Prop)(QD:Value)(s2:Shared):Prop:=
 ∃(it:Addr) (fp:List Addr) (tn:Nat->Heap->Prop) (J:It) (H':Hp),QD=.ref it/\Inv X pins σ H' s2/\Ks gd X.prog X.w X.K tg J fp it tn/\tn 0 s2.heap/\(∀b∈fp,uE X pins H' b)/\R J H'
abbrev PIE:=N2 zd
def PIG(gd:Cx->Prop)(X:Cx)(tg iter:Expr)(wi:TI):Prop:=
 ∀(pins:cz) (s:Shared) (σ:St) (H:Hp) (R:It->Hp->Prop),Inv X pins σ H s->wi σ H R->
   wpAny ⇑3 X.A (eval iter X.env) (λv s1=>wpAny ⇑3 X.A (pyIter v) (N2 gd X pins σ tg R) X.xe s1) X.xe s
abbrev PI:=PIG zd
theorem BN(ho:s.heap.get? it=some o)(hc:o.cls=.type n)(hd:o.data=.fields vs)
  (hn:["enumerate","zip","dict_itemiterator","dict_reverseitemiterator","odict_iterator","itertools.zip_longest","itertools.pairwise"].contains n=false)(hQ:Q () s):wpAny M A (letOwnedTupleGo tg (.ref it) u) Q E s:=by
 cases tg<;>first
  |exact aag hQ
  |(cases u<;>first
    |exact aag hQ
    | (refine aab (wpAny_load ho ?_);rw[hc,hd];show wpAny M A (if(["enumerate","zip","dict_itemiterator","dict_reverseitemiterator","odict_iterator","itertools.zip_longest","itertools.pairwise"].contains n&&vs[0]?==some (rawInt _))=true then _ else _) Q E s;rw[aaB (by intro h;rw[hn,aey]at h;cases h)];exact aag hQ))
def Itl(K:ao)(a:Addr):It:=
 ⟨λi H=>∃xs x,lQ K H a xs/\xs[i]?=some x,λi H x H'=>H'=H/\∀xs,lQ K H a xs->xs[i]?=some x,λi H=>∃xs,lQ K H a xs/\xs.length<=i⟩
def Itt(K:ao)(a:Addr):It:=
 ⟨λi H=>∃xs x,kz K H a xs/\xs[i]?=some x,λi H x H'=>H'=H/\∀xs,kz K H a xs->xs[i]?=some x,λi H=>∃xs,kz K H a xs/\xs.length<=i⟩
def Xv(lo:Int)(n:Nat):It:=⟨λi _=>i<n,λi H x H'=>H'=H/\x=.int (lo+i),λi _=>n<=i⟩
theorem HQ{K:ao}(a it:Addr):Turn P w K tg (Itl K a) [it] it (λi h=>h.IsListIter it a i) where
 mem:=by simp
 obj:=λi h st b hb=>by
  have e:b=it:=by simpa using hb
  subst e;obtain⟨o,e,c,d⟩:=st;exact⟨o,e,λv z=>by rw[d]at z;cases z⟩
 keep:=λi h h' st k=>st.at λo e=>k it ⇑11 o e
 item:=by
  intro 0;subst hP hw hK;obtain⟨xs,x,hq,hx⟩:=hg;obtain⟨its,rv,p,hz⟩:=I.list hq;obtain⟨u,hu,ru⟩:=rv.get hx;obtain⟨f0,f1,f2,f3,f4,f5⟩:=hf it ⇑11;refine wpAny_pyNext_list_item st p.isList (x:=u) (by simpa using hu) λh' DL sb=>?_;have I1:=I.turned (t':=s.toks) (λb o hb e=>(sb.2 b hb).trans e) f0 f1 f3 f4 f5;obtain⟨o,e,c,d⟩:=id DL;exact⟨u,rfl,BN (s:={s with heap:=h'}) e c d ⇑0 ⟨x,H,I1,ru,⟨rfl,λys hy=>by rw[I.vG hy hq];exact hx⟩,DL,λ9=>(hf b hb).1⟩⟩
 done:=by
  intro 0;subst hP hw hK;obtain⟨xs,hq,hx⟩:=hg;obtain⟨its,rv,p,hz⟩:=I.list hq;obtain⟨f0,f1,f2,f3,f4,f5⟩:=hf it ⇑11;have hl:=rv.length;exact wpAny_pyNext_list_end (I.ok.hd hc) st p.isList (by simp;lia) λh' eb=>⟨rfl,I.turned (t':=s.toks) (λb o hb e=>eb b o hb e) f0 f1 f3 f4 f5⟩
 self:=λ_ _ _ _ _ st h=>wpAny_pyIter_listiter st h
theorem DW{K:ao}(a it:Addr):Turn P w K tg (Itt K a) [it] it (λi h=>h.IsTupleIter it a i) where
 mem:=by simp
 obj:=λi h st b hb=>by
  have e:b=it:=by simpa using hb
  subst e;obtain⟨o,e,c,d⟩:=st;exact⟨o,e,λv z=>by rw[d]at z;cases z⟩
 keep:=λi h h' st k=>st.at λo e=>k it ⇑11 o e
 item:=by
  intro 0;subst hP hw hK;obtain⟨xs,x,hq,hx⟩:=hg;obtain⟨its,rv,p,hz⟩:=I.tuple hq;obtain⟨u,hu,ru⟩:=rv.get hx;obtain⟨f0,f1,f2,f3,f4,f5⟩:=hf it ⇑11;refine wpAny_pyNext_tuple_item st (show s.heap.IsTuple a its.toArray from p) (x:=u) (by simpa using hu) λh' DL sb=>?_;have I1:=I.turned (t':=s.toks) (λb o hb e=>(sb.2 b hb).trans e) f0 f1 f3 f4 f5;obtain⟨o,e,c,d⟩:=id DL;exact⟨u,rfl,BN (s:={s with heap:=h'}) e c d ⇑0 ⟨x,H,I1,ru,⟨rfl,λys hy=>by rw[I.o6 hy hq];exact hx⟩,DL,λ9=>(hf b hb).1⟩⟩
 done:=by
  intro 0;subst hP hw hK;obtain⟨xs,hq,hx⟩:=hg;obtain⟨its,rv,p,hz⟩:=I.tuple hq;obtain⟨f0,f1,f2,f3,f4,f5⟩:=hf it ⇑11;have hl:=rv.length;exact wpAny_pyNext_tuple_end (I.ok.hd hc) st (show s.heap.IsTuple a its.toArray from p) (by simp;lia) λh' eb=>⟨rfl,I.turned (t':=s.toks) (λb o hb e=>eb b o hb e) f0 f1 f3 f4 f5⟩
 self:=λ_ _ _ _ _ st h=>wpAny_pyIter_tupleiter st h
theorem DX{w:World}{K:ao}(it:Addr)(lo:Int)(n:Nat):Turn P w K tg (Xv lo n) [it] it (λi h=>IsRangeIter h it (lo+(i:Nat)*1) ((n:Int)-(i:Nat)) 1) where
 mem:=by simp
 obj:=λi h st b hb=>by grind
 keep:=λi h h' st k=>k it ⇑11 _ st
 item:=by
  intro 0;subst hP hw hK;obtain⟨f0,f1,f2,f3,f4,f5⟩:=hf it ⇑11;have W:=Walks.range (prog:=X.prog) (w:=X.w) (I.ok.hd hc) it lo 1 n;refine W.item i s _ _ hg st λv h' tk hv DL kk=>?_;obtain⟨t,rfl⟩:=hv;have I1:Inv X pins σ H {s with heap:=h',toks:=tk}:=I.turned (λb o hb e=>kk b o (by simpa using hb) e) f0 f1 f3 f4 f5;refine⟨_,rfl,BN (s:={s with heap:=h',toks:=tk}) (n:="range_iterator") DL rfl rfl ⇑0 ⟨.int (lo+i),H,I1,⟨t,?_⟩,⟨rfl,rfl⟩,DL,λ9=>(hf b hb).1⟩⟩;rw[Int.mul_one]
 done:=by
  intro 0;obtain⟨f0,f1,f2,f3,f4,f5⟩:=hf it ⇑11;exact wpAny_pyNext_range_end (I.ok.hd hc) st (by have:n<=i:=hg;lia) λh' eb=>⟨rfl,I.turned (t':=s.toks) (λb o hb e=>eb b o hb e) f0 f1 f3 f4 f5⟩
 self:=λ_ _ _ _ _ st h=>wpAny_pyIter_rangeiter st h
section
variable {X:Cx}{tg:Expr}
theorem BO{lo hi:Int}(I:⇑1)(h1:-(2^62)<=lo)(h2:lo<2^62)(h3:-(2^62)<=hi)(h4:hi<2^62)
  (q:R (Xv lo (hi-lo).toNat) H):wpAny ⇑3 X.A (pyIter ⇑25) (PIE X pins σ tg R) E {s with heap:=s.heap.push ⇑26,toks:=tk}:=by
 refine wpAny_pyIter_range (IsRange.new ..) (small_one h1 h2 h3 h4) ?_
 have I1:Inv X pins σ H {s with heap:=s.heap.push ⇑26,toks:=tk}:=I.kept λb o e=>aaa _ e
 refine⟨(s.heap.push ⇑26).objs.size,[(s.heap.push ⇑26).objs.size],_,_,H,rfl,
  I1.kept (t':=tk) λb o e=>aaa _ e,DX _ lo (hi-lo).toNat,?_,λ9=>?_,q⟩
 .have e1:lo+((0:Nat):Int)*1=lo:=by simp
  have e2:(((hi-lo).toNat:Nat):Int)-((0:Nat):Int)=Builtin.Range.rangeSize lo hi 1:=by rw[rangeSize_one];split<;>lia
  rw[e1,e2];exact aae _ rfl
 .have e:b=(s.heap.push ⇑26).objs.size:=by simpa using hb
  subst e;exact I1.sv (aah _) (I1.bU.fresh (aah _))
def Xw(ta:TA):TI:=λσ H R=>ta σ H λvs H1=>∃j:Int,vs=[.int j]/\-(2^62)<=j/\j<2^62/\R (Xv 0 j.toNat) H1
def Xx(ta:TA):TI:=λσ H R=>ta σ H λvs H1=>∃i j:Int,vs=[.int i,.int j]/\(-(2^62)<=i/\i<2^62/\-(2^62)<=j/\j<2^62)/\R (Xv i (j-i).toNat) H1
theorem HR(hg:Gl X "range")(hm:X.mg "range"=none)(ha:PA X [a] ta)(hs:starEach [a] X.env=[(false,eval a X.env)]:=by rfl):PI X tg (.Call (.Name "range" p) [a] [] pos) (Xw ta):=by
 intro 9
 refine Call_ (lV I hg hm boot_range (aci (dq (ha pos pins s σ H _ I h) λus s1 ⟨vs,H1,I1,r1,q1⟩=>?_) hs rfl))
 obtain⟨j,e,q1,q2,q⟩:=q1
 subst e
 cases r1 with
 |cons r rr=>
   cases rr;obtain⟨t,rfl⟩:=r;exact call_range_1 (BO I1 ⇑2 ⇑2 q1 q2 (by simpa using q))
theorem HS(hg:Gl X "range")(hm:X.mg "range"=none)(ha:PA X [a,b] ta)(hs:starEach [a,b] X.env=[(false,eval a X.env),(false,eval b X.env)]:=by rfl)(ra:starEach [b] X.env=[(false,eval b X.env)]:=by rfl):
  PI X tg (.Call (.Name "range" p) [a,b] [] pos) (Xx ta):=by
 intro 9
 refine Call_ (lV I hg hm boot_range (aci (dq (ha pos pins s σ H _ I h) λus s1 ⟨vs,H1,I1,r1,q1⟩=>?_) (by rw[hs,ra]) (by rw[ra];rfl)))
 obtain⟨i,j,e,⟨q1,q2,q3,q4⟩,q⟩:=q1
 subst e
 cases r1 with
 |cons r rr=>
   cases rr with
   |cons r' rr=>
     cases rr;obtain⟨t,rfl⟩:=r;obtain⟨t',rfl⟩:=r';exact call_range_2 (BO I1 q1 q2 q3 q4 q)
def aaU(wi:TI)(g:TG)(tb:TS):TS:=λD σ H=>wi σ H λJ H1=>∃W:Nat->Nat->St->Hp->Prop,(∃m,W 0 m σ H1)/\∀i m σ H,W i m σ H->
 (J.stop i H/\D.nx σ H)\/(J.go i H/\∃N:St->Hp->Prop,(∀ck H',N ck H'->∃m',m'<m/\W (i+1) m' ck H')/\∀x H',J.Xu i H x H'->g x σ H' λσ2 H2=>tb {D with nx:=N,ct:=N,bk:=D.nx} σ2 H2)
def sy(fp:List Addr)(h:Heap):cz:=fp.filterMap λb=>(h.get? b).map λo=>(b,o)
theorem jO(hb:b∈fp)(e:h.get? b=some o):(b,o)∈sy fp h:=afD.mpr ⟨b,hb,by rw[e];rfl⟩
theorem ze(hp:p∈sy fp h):p.1∈fp/\h.get? p.1=some p.2:=by
 obtain⟨b,hb,e⟩:=afD.mp hp
 cases q:h.get? b with
 |none=>rw[q]at e;cases e
 |some o=>grind
theorem Inv.pinned(I:⇑1)(hf:∀b∈fp,uE X pins H b)(ho:∀b∈fp,∃o,s.heap.get? b=some o/\∀v,o.data≠.cell v):Inv X (pins++sy fp s.heap) σ H s:=
 I.oZ λp hp=>(aap.mp hp).elim (λz=>I.pin p (aaf _ z)) λz=>by
  obtain⟨hb,e⟩:=ze z;obtain⟨f0,f1,f2,_⟩:=hf p.1 hb;obtain⟨o,e',d⟩:=ho p.1 hb;rw[e]at e';cases e';exact⟨e,f0,f1,f2,d⟩
theorem Inv.vH(I:Inv X (pins++pl) σ H s):Inv X pins σ H s:=I.oZ λp hp=>I.pin p (aaf _ (aax _ hp))
theorem DY(hp:PassesOwn ⇑3 X.A X.env X.xe)(hc:X.calm=true)(hi:PI X tg iter wi)(hg:PG X tg g)(hb:iP X body tb)
  (hs:⇑35:=by intro _;rfl):PS X (.For tg iter body [] pos) (aaU wi g tb):=by
 intro 6
 refine wpAny_For (dq (hi pins s σ H _ I h) λv s1 h1=>dq h1 λQD s2 h2=>?_) hs
 obtain⟨it,fp,tn,J,H2,e,I2,T,lG,f2,W,⟨m0,w0⟩,turn⟩:=h2
 subst e
 have DZ:∀{H':Hp},(∀b∈fp,H' b=none)->∀b∈fp,uE X pins H' b:=λhn b hb=>⟨hn b hb,(f2 b hb).2⟩
 refine codeAny_forLoop_any (λn s'=>∃i ck H',Inv X pins ck H' s'/\tn i s'.heap/\(∀b∈fp,H' b=none)/\W i n ck H') ?_ m0 ⟨0,σ,H2,I2,lG,λ9=>(f2 b hb).1,w0⟩
 rintro n s3 ⟨i,Kr,H3,I3,ND,fr3,w3⟩
 rcases turn i n Kr H3 w3 with⟨stop,qn⟩|⟨go,N,hN,step⟩
 .refine aed hp (dq (T.done X rfl rfl rfl hc i pins s3 Kr H3 X.xe I3 (DZ fr3) ND stop) λr s4 ⟨hr,I4⟩=>?_);subst hr;exact aft ⟨Kr,H3,I4,qn⟩
 .refine aed hp (dq (T.item X rfl rfl rfl hc i pins s3 Kr H3 X.xe I3 (DZ fr3) ND go) λr s4 ⟨u,hr,h4⟩=>?_);subst hr;refine aed hp (dq h4 λ_ s5 ⟨x,H5,I5,r5,y5,QG,fr5⟩=>?_);have I5':=I5.pinned (DZ fr5) (T.obj _ _ QG);refine aed hp (dq (hg _ s5 Kr H5 x u _ I5' r5 (step x H5 y5)) λ_ s6 ⟨σ6,H6,I6,q6⟩=>?_);refine aed hp (dq (hb _ s6 σ6 H6 _ I6 q6) λf s7 q7=>?_);have again:∀{Kt:St} {H7:Hp},Inv X (pins++sy fp s5.heap) Kt H7 s7->N Kt H7->∃m,m<n/\∃i ck H',Inv X pins ck H' s7/\tn i s7.heap/\(∀b∈fp,H' b=none)/\W i m ck H':=λ{Kt H7} I7 n7=>by
   obtain⟨m',hm,w7⟩:=hN Kt H7 n7;refine⟨m',hm,i+1,Kt,H7,I7.vH,T.keep _ _ _ QG λb hb o e=>(I7.pin (b,o) (aaf _ (aaf _ (jO hb e)))).1,λ9=>?_,w7⟩;obtain⟨o,e,d⟩:=T.obj _ _ QG b hb;exact(I7.pin (b,o) (aaf _ (aaf _ (jO hb e)))).2.1
  cases f with
  |next=>obtain⟨Kt,H7,I7,n7⟩:=q7;exact again I7 n7
  |cont=>obtain⟨Kt,H7,I7,n7⟩:=q7;exact again I7 n7
  |brk=>obtain⟨Kt,H7,I7,q7⟩:=q7;exact⟨Kt,H7,I7.vH,q7⟩
  |ret v=>obtain⟨x7,Kt,H7,I7,r7,q7⟩:=q7;exact⟨x7,Kt,H7,I7.vH,r7,q7⟩
end
abbrev R2:=V->V->Hp->VK->Prop
def jP(X:Cx)(f:Value->Value->Sem Value)(r:R2):Prop:=
 ∀(pins:cz) (s:Shared) (σ:St) (H:Hp) (x y:V) (v u:Value) (Q:VK),Inv X pins σ H s->RelV x v->RelV y u->r x y H Q->
   wpAny ⇑3 X.A (f v u) (EP X pins σ Q) X.xe s
def UnR(X:Cx)(f:Value->Sem Value)(r:V->Hp->VK->Prop):Prop:=
 ∀(pins:cz) (s:Shared) (σ:St) (H:Hp) (x:V) (v:Value) (Q:VK),Inv X pins σ H s->RelV x v->r x H Q->
   wpAny ⇑3 X.A (f v) (EP X pins σ Q) X.xe s
def fH(X:Cx)(f:Value)(r:List V->Hp->VK->Prop):Prop:=
 ∀(pins:cz) (s:Shared) (σ:St) (H:Hp) (xs:List V) (us:bZ) (Q:VK),Inv X pins σ H s->bA xs us->r xs H Q->
   wpAny ⇑3 X.A (call f us) (EP X pins σ Q) X.xe s
def aaY(X:Cx)(r:V->Hp->(Bool->Hp->Prop)->Prop):Prop:=
 ∀(pins:cz) (s:Shared) (σ:St) (H:Hp) (x:V) (v:Value) (Q:Bool->Hp->Prop),Inv X pins σ H s->RelV x v->r x H Q->
   wpAny ⇑3 X.A (truthy v) (TP X pins σ Q) X.xe s
def S0(r:R2)(ta tb:TE):TE:=λ7=>ta σ H λx H1=>tb σ H1 λy H2=>r x y H2 Q
def tUn(r:V->Hp->VK->Prop)(ta:TE):TE:=λ7=>ta σ H λx H1=>r x H1 Q
def rI(C:Int->Int->Prop)(g:Int->Int->V):R2:=λx y H Q=>∃i j,x=.int i/\y=.int j/\C i j/\Q (g i j) H
def Ku(g:Int->Int->V):R2:=λx y H Q=>∃i j,x=.int i/\y=.int j/\Q (g i j) H
def rU(g:Int->V):V->Hp->VK->Prop:=λx H Q=>∃i,x=.int i/\Q (g i) H
section
variable {X:Cx}{a b:Expr}{ta tb:TE}{pos:Pos}
theorem S4(ha:PE X a ta)(hb:PE X b tb){R:V->V->Hp->Prop}(I:⇑1)
  (h:ta σ H λx H1=>tb σ H1 λy H2=>R x y H2){f:Value->Value->Sem Value}
  (hf:∀v u s2 x y H2,Inv X pins σ H2 s2->RelV x v->RelV y u->R x y H2->wpAny ⇑3 X.A (f v u) Q X.xe s2):
  wpAny ⇑3 X.A (eval a X.env) (λv bV=>wpAny ⇑3 X.A (eval b X.env) (λu nk=>wpAny ⇑3 X.A (f v u) Q X.xe nk) X.xe bV) X.xe s:=by
 refine dq (ha pins s σ H _ I h) λv s1 ⟨x,H1,I1,r1,q1⟩=>?_
 refine dq (hb pins s1 σ H1 _ I1 q1) λu s2 ⟨y,H2,I2,r2,q2⟩=>?_
 exact hf v u s2 x y H2 I2 r1 r2 q2
theorem QH(ho:jP X (binaryOp op) r)(ha:PE X a ta)(hb:PE X b tb):PE X (.BinOp a op b pos) (S0 r ta tb):=by
 intro 1
 exact wpAny_BinOp (S4 ha hb I h λv u s2 x y H2 I2 rx ry q=>ho pins s2 σ H2 x y v u Q I2 rx ry q)
theorem Xy(ho:UnR X (unaryOp op) r)(ha:PE X a ta):PE X (.UnaryOp op a pos) (tUn r ta):=by
 intro 1
 exact UnaryOp_ (dq (ha pins s σ H _ I h) λv s1 ⟨x,H1,I1,r1,q1⟩=>ho pins s1 σ H1 x v Q I1 r1 q1)
theorem ZX{g:Int->Int->Int}
  (rule:∀(i j:Int) (t u:Tok) (s:Shared) (Q:eJ) (E:eJ),C i j->Q (.int (g i j) s.toks) {s with toks:=s.toks+1}->wpAny ⇑3 X.A (f (.int i t) (.int j u)) Q E s):
  jP X f (rI C λi j=>.int (g i j)):=by
 intro 2
 obtain⟨i,j,rfl,rfl,hc,q⟩:=h
 obtain⟨t,rfl⟩:=rx
 obtain⟨t',rfl⟩:=ry
 exact rule i j t t' s _ _ hc ⟨.int (g i j),H,I.tok _,⟨_,rfl⟩,q⟩
theorem Xz{g:Int->Int->Int}
  (rule:∀(i j:Int) (t u:Tok) (s:Shared) (Q:eJ) (E:eJ),Q (.int (g i j) s.toks) {s with toks:=s.toks+1}->wpAny ⇑3 X.A (f (.int i t) (.int j u)) Q E s):
  jP X f (Ku λi j=>.int (g i j)):=by
 intro 2
 obtain⟨i,j,rfl,rfl,q⟩:=h
 obtain⟨t,rfl⟩:=rx
 obtain⟨t',rfl⟩:=ry
 exact rule i j t t' s _ _ ⟨.int (g i j),H,I.tok _,⟨_,rfl⟩,q⟩
theorem N4{g:Int->Int->Bool}
  (rule:∀(i j:Int) (t u:Tok) (s:Shared) (Q:eJ) (E:eJ),Q (.bool (g i j)) s->wpAny ⇑3 X.A (f (.int i t) (.int j u)) Q E s):
  jP X f (Ku λi j=>.bl (g i j)):=by
 intro 2
 obtain⟨i,j,rfl,rfl,q⟩:=h
 obtain⟨t,rfl⟩:=rx
 obtain⟨t',rfl⟩:=ry
 exact rule i j t t' s _ _ ⟨.bl (g i j),H,I,rfl,q⟩
def S5(i j:Int):Prop:=0<=j/\j<=1000000/\i.natAbs<2^64
theorem S6:jP X (binaryOp .Add) (Ku λi j=>.int (i+j)):=Xz λ_ _ _ _ _ _ _ q=>add_int q
theorem fO:jP X (binaryOp .Sub) (Ku λi j=>.int (i-j)):=Xz λ_ _ _ _ _ _ _ q=>sub_int q
theorem cF:jP X (binaryOp .Mod) (rI (λ_ j=>j≠0) λi j=>.int (i.fmod j)):=ZX λ_ _ _ _ _ _ _ hc q=>mod_int' hc q
theorem vI:jP X (binaryOp .Pow) (rI S5 λi j=>.int (i^j.toNat)):=ZX λ_ _ _ _ _ _ _ hc q=>pow_int_small hc.1 hc.2.1 hc.2.2 q
theorem unI{g:Int->Int}
  (rule:∀(i:Int) (t:Tok) (s:Shared) (Q:eJ) (E:eJ),Q (.int (g i) s.toks) {s with toks:=s.toks+1}->wpAny ⇑3 X.A (f (.int i t)) Q E s):
  UnR X f (rU λi=>.int (g i)):=by
 intro pins s σ H x v Q I rx h
 obtain⟨i,rfl,q⟩:=h
 obtain⟨t,rfl⟩:=rx
 exact rule i t s _ _ ⟨.int (g i),H,I.tok _,⟨_,rfl⟩,q⟩
theorem S7:UnR X (unaryOp .USub) (rU λi=>.int (-i)):=unI λ_ _ _ _ _ q=>neg_int q
end
section
variable {X:Cx}{a b c:Expr}{ta tb tc:TE}{pos:Pos}
theorem S8(I:⇑1)(q:Q (.bl k) H)(e:k=k'):EP X pins σ Q (.bool k') s:=by
 subst e
 exact⟨.bl k,H,I,rfl,q⟩
theorem gD:jP X (compareOp .Lt) (Ku λi j=>.bl (decide (i<j))):=N4 λ_ _ _ _ _ _ _ q=>lt_int q
theorem jQ:jP X (compareOp .LtE) (Ku λi j=>.bl (decide (i<=j))):=N4 λ_ _ _ _ _ _ _ q=>le_int q
theorem pT:jP X (compareOp .Gt) (Ku λi j=>.bl (decide (j<i))):=N4 λ_ _ _ _ _ _ _ q=>gt_int q
theorem pU:jP X (compareOp .GtE) (Ku λi j=>.bl (decide (j<=i))):=N4 λ_ _ _ _ _ _ _ q=>ge_int q
theorem zf:jP X (compareOp .In) (λx y H Q=>∃i j,x=.str i/\y=.str j/\Q (.bl (!(Builtin.Str.occurrences j i 0 j.length 1).isEmpty)) H):=by
 intro 2
 obtain⟨i,j,rfl,rfl,q⟩:=h
 obtain⟨t,rfl⟩:=rx
 obtain⟨t',rfl⟩:=ry
 exact in_str (S8 I q rfl)
theorem jP.or(h:jP X f r)(h':jP X f r'):jP X f (λx y H Q=>r x y H Q\/r' x y H Q):=by
 intro pins s σ H x y v u Q I rx ry q
 rcases q with q|q
 .exact h pins s σ H x y v u Q I rx ry q
 .exact h' pins s σ H x y v u Q I rx ry q
theorem aJ(b:Expr)(h:op≠.In:=by decide)(h2:op≠.NotIn:=by decide):behindInMarks op b=false:=by
 have e1:(op==CmpOp.In)=false:=by cases op<;>first|rfl|exact absurd rfl h
 have e2:(op==CmpOp.NotIn)=false:=by cases op<;>first|rfl|exact absurd rfl h2
 cases b<;>simp[behindInMarks,e1,e2]
theorem Gd(ho:jP X (compareOp op) r)(ha:PE X a ta)(hb:PE X b tb)(hm:behindInMarks op b=false):PE X (.Compare a [op] [b] pos) (S0 r ta tb):=by
 intro 1
 exact wpAny_Compare1 (S4 ha hb I h λv u s2 x y H2 I2 rx ry q=>ho pins s2 σ H2 x y v u Q I2 rx ry q) hm
def QI(t:TE):TT:=λ7=>t σ H λx H'=>∃k,x=.bl k/\Q k H'
theorem Ge(ho:jP X (compareOp op) r)(ha:PE X a ta)(hb:PE X b tb)(hm:behindInMarks op b=false):PT X (.Compare a [op] [b] pos) (QI (S0 r ta tb)):=by
 intro 1
 refine wpAny_isTrue_Compare1 (dq (ha pins s σ H _ I h) λv s1 ⟨x,H1,I1,r1,q1⟩=>dq (hb pins s1 σ H1 _ I1 q1) λu s2 ⟨y,H2,I2,r2,q2⟩=>
  dq (ho pins s2 σ H2 x y v u _ I2 r1 r2 q2) λc s3 ⟨z,H3,I3,r3,k,e,q3⟩=>?_) hm
 subst e
 cases r3
 exact ach ⟨H3,I3,q3⟩
def D0(r r':R2)(ta tb tc:TE):TE:=λ7=>ta σ H λx H1=>tb σ H1 λy H2=>r x y H2 λz H3=>∃k,z=.bl k/\
 (if k=true then tc σ H3 λw' H4=>r' y w' H4 Q else Q (.bl false) H3)
theorem Kv(ho:jP X (compareOp op) r)(DT:jP X (compareOp op') r')(ha:PE X a ta)(hb:PE X b tb)(hc:PE X c tc)
  (hm:lastMarks [op,op'] [b,c]=false:=by with_unfolding_all rfl):PE X (.Compare a [op,op'] [b,c] pos) (D0 r r' ta tb tc):=by
 intro 1
 refine Compare_chain (dq (ha pins s σ H _ I h) λv s1 ⟨x,H1,I1,r1,q1⟩=>chain_link (dq (hb pins s1 σ H1 _ I1 q1) λu s2 ⟨y,H2,I2,r2,q2⟩=>
  dq (ho pins s2 σ H2 x y v u _ I2 r1 r2 q2) λd s3 ⟨z,H3,I3,r3,k,e,q3⟩=>?_)) hm
 subst e
 cases r3
 refine ach ?_
 cases k with
 |false=>exact ite_ff ⟨.bl false,H3,I3,rfl,q3⟩
 |true=>exact ite_tt (chain_last (dq (hc pins s3 σ H3 _ I3 q3) λw' s4 ⟨z',H4,I4,r4,q4⟩=>DT pins s4 σ H4 y z' u w' Q I4 r2 r4 q4))
theorem Kw(ho:jP X (compareOp op) r)(DT:jP X (compareOp op') r')(ha:PE X a ta)(hb:PE X b tb)(hc:PE X c tc)
  (hm:lastMarks [op,op'] [b,c]=false:=by with_unfolding_all rfl):PT X (.Compare a [op,op'] [b,c] pos) (QI (D0 r r' ta tb tc)):=by
 intro 1
 refine isTrue_chain (dq (ha pins s σ H _ I h) λv s1 ⟨x,H1,I1,r1,q1⟩=>test_link (dq (hb pins s1 σ H1 _ I1 q1) λu s2 ⟨y,H2,I2,r2,q2⟩=>
  dq (ho pins s2 σ H2 x y v u _ I2 r1 r2 q2) λd s3 ⟨z,H3,I3,r3,k,e,q3⟩=>?_)) hm
 subst e
 cases r3
 refine ach ?_
 cases k with
 |false=>
   obtain⟨k',e',q'⟩:=q3;cases e';exact ite_ff ⟨H3,I3,q'⟩
 |true=>
   refine ite_tt (test_last (dq (hc pins s3 σ H3 _ I3 q3) λw' s4 ⟨z',H4,I4,r4,q4⟩=>dq (DT pins s4 σ H4 y z' u w' _ I4 r2 r4 q4) λd' s5 ⟨z2,H5,I5,r5,k2,e2,q5⟩=>?_));subst e2;cases r5;exact ach ⟨H5,I5,q5⟩
def XA(K:ao)(x:V)(H:Hp)(k:Bool):Prop:=
 match x with
 |.iu=>k=false
 |.bl b=>k=b
 |.int i=>k=(i !=0)
 |.str y=>y.length<=sizeLine/\k=((y.length:Int)!=0)
 |.VT y=>y.size<=sizeLine/\k=((y.size:Int)!=0)
 |.ref p=>(∃xs,lQ K H p xs/\k= !xs.isEmpty)\/(∃xs,kz K H p xs/\k= !xs.isEmpty)\/∃bb,H p=some (.dK bb)/\k= !bb.isEmpty
 |_=>False
theorem D3(r:KV bb vs):(!vs.isEmpty)= !bb.isEmpty:=by
 cases r<;>rfl
theorem vJ(r:bA xs its):(!its.toArray.isEmpty)= !xs.isEmpty:=by
 cases r<;>simp
theorem p3:(sizeLine:Nat)<2^63:=by rw[sizeLine_eq];decide
theorem S9:aaY X (λx H Q=>∃k,XA X.K x H k/\Q k H):=by
 intro pins s σ H x v Q I rx h
 obtain⟨k,e,q⟩:=h
 have hl:=p3
 have hs:sizeLine=16777216:=sizeLine_eq
 cases x with
 |iu=>
   cases rx;have e':k=false:=e;subst e';exact truthy_none ⟨H,I,q⟩
 |bl b=>
   cases rx;have e':k=b:=e;subst e';exact ach ⟨H,I,q⟩
 |int i=>
   obtain⟨t,rfl⟩:=rx;have e':k=(i !=0):=e;subst e';exact PySem.P.truthy_int ⟨H,I,q⟩
 |str y=>
   obtain⟨t,rfl⟩:=rx;obtain⟨hy,e'⟩:y.length<=sizeLine/\k=((y.length:Int)!=0):=e;subst e';exact PySem.P.truthy_str ⇑2 ⟨H,I.tok _,q⟩
 |VT y=>
   obtain⟨t,rfl⟩:=rx;obtain⟨hy,e'⟩:y.size<=sizeLine/\k=((y.size:Int)!=0):=e;subst e';exact PySem.W.truthy_bytes ⇑2 ⟨H,I.tok _,q⟩
 |ref p=>
   cases rx;have e':(∃xs,lQ X.K H p xs/\k= !xs.isEmpty)\/(∃xs,kz X.K H p xs/\k= !xs.isEmpty)\/∃bb,H p=some (.dK bb)/\k= !bb.isEmpty:=e;rcases e' with⟨xs,hx,e'⟩|⟨xs,hx,e'⟩|⟨bb,hx,e'⟩;.subst e';obtain⟨its,r,pl,hz⟩:=I.list hx;have hlen:=r.length;exact wpAny_truthy_list pl.isList (by simp only[aaA];lia) ⟨H,I.tok _,by rw[vJ r];exact q⟩
   .subst e';obtain⟨its,r,pl,hz⟩:=I.tuple hx;have hlen:=r.length;exact truthy_tuple pl (by simp only[aaA];lia) ⟨H,I.tok _,by rw[vJ r];exact q⟩
   .subst e';obtain⟨hz,hS,vs,r,m⟩:bb.length<=sizeLine/\(p==sysModules)=false/\∃vs,KV bb vs/\s.heap.DictOf (cZ X.prog X.w) p vs:=I.bU p _ hx;have hlen:bb.length=vs.length:=Paired.length r;exact wpAny_truthy_dict hS m ⇑2 ⟨H,I.tok _,by rw[D3 r];exact q⟩
 |_=>exact(show False from e).elim
theorem BP(ha:PE X a ta)(he:∀whole,isTrue a X.env whole=(do let v <-whole;standAt a.pos;holding [v] (truthy v))):
  PT X a (λ7=>ta σ H λx H'=>∃k,XA X.K x H' k/\Q k H'):=by
 intro 1
 exact isTrue_plain (dq (ha pins s σ H _ I h) λv s1 ⟨x,H1,I1,r1,q1⟩=>S9 pins s1 σ H1 x v Q I1 r1 q1) (he _)
theorem D4:jP X (binaryOp .Add) (λx y H Q=>∃i j,x=.str i/\y=.str j/\i.length+j.length<=sizeLine/\Q (.str (i++j)) H):=by
 intro 2
 obtain⟨i,j,rfl,rfl,hz,q⟩:=h
 obtain⟨t,rfl⟩:=rx
 obtain⟨t',rfl⟩:=ry
 exact add_str (λt' tk=>⟨.str (i++j),H,I.tok _,⟨_,rfl⟩,q⟩) hz
theorem vals1(r:bA [x] us):∃u,us=[u]/\RelV x u:=by
 cases r with
 |cons r1 r2=>cases r2;exact⟨_,rfl,r1⟩
theorem vals2(r:bA [x,y] us):∃u w',us=[u,w']/\RelV x u/\RelV y w':=by
 cases r with
 |cons r1 r2=>
   cases r2 with
   |cons r3 r4=>cases r4;exact⟨_,_,rfl,r1,r3⟩
theorem Kx:fH X (.builtin "abs") (λxs H Q=>∃i,xs=[.int i]/\Q (.int (if i<0 then -i else i)) H):=by
 intro 3
 obtain⟨i,rfl,q⟩:=h
 obtain⟨u,rfl,t,rfl⟩:=vals1 r
 exact call_abs_int λu tk=>⟨.int (if i<0 then -i else i),H,I.tok _,⟨_,rfl⟩,q⟩
theorem HU(hc:X.calm=true):fH X (.builtin "max") (λxs H Q=>∃i j,xs=[.int i,.int j]/\Q (.int (if j>i then j else i)) H):=by
 intro 3
 obtain⟨i,j,rfl,q⟩:=h
 obtain⟨u,w',rfl,⟨t,rfl⟩,⟨t',rfl⟩⟩:=vals2 r
 refine max_two_ints (I.ok.hd hc) λh' tk k=>⟨_,H,I.kept k,?_,q⟩
 by_cases hj:j>i
 .rw [aav hj,aav hj];exact⟨_,rfl⟩
 .rw [aaB hj,aaB hj];exact⟨_,rfl⟩
theorem HV(hc:X.calm=true):fH X (.builtin "min") (λxs H Q=>∃i j,xs=[.int i,.int j]/\Q (.int (if j<i then j else i)) H):=by
 intro 3
 obtain⟨i,j,rfl,q⟩:=h
 obtain⟨u,w',rfl,⟨t,rfl⟩,⟨t',rfl⟩⟩:=vals2 r
 refine min_two_ints (I.ok.hd hc) λh' tk k=>⟨_,H,I.kept k,?_,q⟩
 by_cases hj:j<i
 .rw [aav hj,aav hj];exact⟨_,rfl⟩
 .rw [aaB hj,aaB hj];exact⟨_,rfl⟩
theorem HW:fH X (.type "int") (λxs H Q=>(∃i,xs=[.int i]/\Q (.int i) H)\/∃k,xs=[.bl k]/\Q (.int (if k then 1 else 0)) H):=by
 intro 3
 rcases h with⟨i,rfl,q⟩|⟨k,rfl,q⟩
 .obtain ⟨u,rfl,t,rfl⟩:=vals1 r;exact call_int_int ⟨.int i,H,I,⟨_,rfl⟩,q⟩
 .obtain ⟨u,rfl,r1⟩:=vals1 r;cases r1;exact call_int_bool ⟨.int (if k then 1 else 0),H,I.tok _,⟨_,rfl⟩,q⟩
theorem c6:fH X (.type "str") (λxs H Q=>∃i,xs=[.int i]/\i.natAbs.log2<1920/\Q (.str (toString i)) H):=by
 intro 3
 obtain⟨i,rfl,hz,q⟩:=h
 obtain⟨u,rfl,t,rfl⟩:=vals1 r
 exact PySem.P.str_of_int hz ⟨.str _,H,I.tok _,⟨_,rfl⟩,q⟩
end
structure D5(h:Heap)(x dx C:Addr)(mA:eQ):Prop where
 obj:h.get? x=some (PySem.W.instObj C dx)
 ns:h.Ns1 dx mA
 ne:dx≠x
set_option tactic.hygienic true in
theorem HX{h:Heap}(n:h.Ns1 dx mA):∃od,h.get? dx=some od/\∀name,PySem.W.lookIn name od=some (mA name):=by
 obtain⟨o,es,ep,ho,hd,hk,_,hm⟩:=n
 refine⟨o,ho,λname=>?_⟩
 have e:=hm name
 unfold nsFind findBy at e
 rw[<-Array.find?_toList]at e
 unfold PySem.W.lookIn
 rw[hd]
 dsimp only
 split
 .grind
 .rename_i q;rw[q]at e;have a:es.toList.any (·.refKey)=false:=by
   rw[List.any_eq_false];intro y hy;obtain⟨z,t,aaZ⟩:=hk y (Array.mem_toList_iff.mp hy);simp[DictEntry.refKey,aaZ]
  have a':¬es.toList.any (·.refKey)=true:=by rw[a];exact aaV
  rw[aaB a'];exact abR some e
theorem D5.look(I:D5 h x dx C mA):∃od,PySem.W.InstAt h x (PySem.W.instObj C dx) C (some od)/\∀name,PySem.W.lookIn name od=some (mA name):=
 let⟨od,ho,hl⟩:=HX I.ns
 ⟨od,⟨I.obj,rfl,rfl,ho⟩,hl⟩
section
variable {prog:Program}{w:World}{A:Around}{E:eJ}{s:Shared}{K:ao}{x dx C f:Addr}{mA:eQ}{name:Str}{v:Value}
theorem get_map(X:K.In s.heap)(I:D5 s.heap x dx C mA)(hg:PySem.W.plainGet K C name=true)(hh:PySem.W.hasDictIn K C=true)
  (ha:PySem.W.findIn K (.ref C) name=some none)(hv:mA name=some v)(JZ:PySem.W.handedIn v=true)(h:Q v {s with toks:=s.toks+1}):
  wpAny ⇑10 A (getAttr (.ref x) name expr) Q E s:=by
 obtain⟨od,J,hl⟩:=I.look
 exact PySem.W.get_value X J (afx hg).1 (PySem.W.findObj_own hh ha rfl (by rw[hl,hv])) JZ h
theorem Ky(X:K.In s.heap)(I:D5 s.heap x dx C mA)(hg:PySem.W.plainGet K C name=true)
  (hf:PySem.W.findIn K (.ref C) name=some (some (.ref f)))(ht:PySem.W.isFn K (.ref f)=true)(hv:mA name=none)(h:Q (.ref f,[.ref x]) s):
  wpAny ⇑10 A (getMethod (.ref x) name pl) Q E s:=by
 obtain⟨od,J,hl⟩:=I.look
 exact PySem.W.method_fn X J (afx hg).1 (afx hg).2 hf (afh.mp ht) (by show(PySem.W.lookIn name od).map (·.isSome)=some false;rw[hl,hv];rfl) h
theorem N5(X:K.In s.heap)(I:D5 s.heap x dx C mA)
  (hs:PySem.W.findIn K (.ref C) "__setattr__"=some (some (.builtin "object.__setattr__")))(hp:PySem.W.plainOver K C=true)(ht:PySem.W.takerIn K C name=some none)(hh:PySem.W.hasDictIn K C=true)
  (hw:PySem.Within mA ns)(hsz:ns.length<=sizeLine)
  (h:∀h',D5 h' x dx C (λy=>if y=name then some v else mA y)->Heap.SameBut dx s.heap h'->Q () {s with heap:=h',toks:=s.toks+2}):
  wpAny ⇑10 A (setAttr (.ref x) name v) Q E s:=by
 obtain⟨od,J,hl⟩:=I.look
 refine PySem.W.set_plain X J hs (PySem.W.osa_open (s:={s with toks:=s.toks+1}) (r:=none) X J hp ht λb=>?_)
 obtain⟨cd,hc,u9⟩:=PySem.W.any_some hh
 have hx:=I.obj
 refine aab (aag (aab (aab (wpAny_loadPart hx (aab (PySem.W.Looks.here (s:={s with toks:=s.toks+1}) (PySem.W.looks_clsIn X hc) ?_))))))
 rw[u9]
 refine aag (a:=some dx) (aab (aag (aab ?_)))
 refine wpAny_nsSet1 (s:={s with toks:=s.toks+1}) I.ns λh' ZY ra=>?_
 obtain⟨oD,esD,epD,hoD,hdD,hcD⟩:=ZY.count (PySem.Within.cons name v hw)
 refine aab (wpAny_lookBehind hoD (by rw[hdD];exact pastItsLine_dict (aa6 hcD (by rw[aaz];lia))) ?_)
 exact aag (h _ ⟨(ra.2 _ (acw I.ne)).trans I.obj,ZY,I.ne⟩ ra)
theorem Kz(X:K.In s.heap)(hm:PySem.W.makesIn K C=true)
  (hi:PySem.W.findIn K (.ref C) "__init__"=some (some (.ref f)))(hf:PySem.W.typeIn K (.ref f)=some (.type "function"))
  (h:codeAny ⇑10 (A.under (.builtin "type.__call__" ⟨.ref C::vs,kw⟩)) (.call (.ref f) ⟨.ref ⇑24::vs,kw⟩) (PySem.W.InitBack ⇑24 R)
   {s with heap:=(s.heap.push PySem.W.emptyDict).push (PySem.W.instObj C s.heap.objs.size)}):
  codeAny ⇑10 A (.call (.ref C) ⟨vs,kw⟩) R s:=by
 exact PySem.W.make_core (PySem.W.makes_of X hm) (PySem.W.looks_findIn X hi) (λself=>PySem.W.bind_fn X self hf) (.inl rfl) h
end
noncomputable def lH(f:Str)(v:V):List (Str×V)->List (Str×V)
 |[]=>[(f,v)]
 |(g,x)::r=>if g=f then(g,v)::r else(g,x)::lH f v r
theorem uj(f g:Str)(v:V):∀fs:List (Str×V),(lH f v fs).lookup g=if g=f then some v else fs.lookup g
 |[]=>by
   show List.lookup g [(f,v)]=_;by_cases h:g=f;.grind
   .grind
 |(k,x)::r=>by
   have ih:=uj f g v r;rw[show lH f v ((k,x)::r)=(if k=f then(k,v)::r else(k,x)::lH f v r)from rfl];by_cases hk:k=f;.grind
   .grind
theorem sA(f:Str)(v:V):∀fs:List (Str×V),f∈(lH f v fs).map (·.1)/\∀g,g∈fs.map (·.1)->g∈(lH f v fs).map (·.1)
 |[]=>⟨by simp[lH],λg h=>by simp at h⟩
 |(k,x)::r=>by
   obtain⟨i1,i2⟩:=sA f v r;rw[show lH f v ((k,x)::r)=(if k=f then(k,v)::r else(k,x)::lH f v r)from rfl];by_cases hk:k=f;.grind
   .grind
theorem uk(f:Str)(v:V):∀fs:List (Str×V),(lH f v fs).length<=fs.length+1
 |[]=>by simp[lH]
 |(k,x)::r=>by
   have ih:=uk f v r;rw[show lH f v ((k,x)::r)=(if k=f then(k,v)::r else(k,x)::lH f v r)from rfl];by_cases hk:k=f;.grind
   .grind
theorem lS.some_of(r:lS (some v) o):∃u,o=some u/\RelV v u:=by
 cases o with
 |none=>exact(show False from r).elim
 |some u=>exact⟨u,rfl,r⟩
theorem lS.none_of(r:lS none o):o=none:=by
 cases o with
 |none=>rfl
 |some u=>exact(show False from r).elim
theorem HY(r:RelV v u):PySem.W.handedIn u=true:=by
 cases v with
 |iu=>cases(show u=Value.none from r);rfl
 |bl b=>cases(show u=Value.bool b from r);rfl
 |int i=>obtain⟨t,e⟩:=(show ∃t,u=Value.int i t from r);cases e;rfl
 |str x=>obtain⟨t,e⟩:=(show ∃t,u=Value.str x t from r);cases e;rfl
 |VT b=>obtain⟨t,e⟩:=(show ∃t,u=Value.bytes b t from r);cases e;rfl
 |JY b=>obtain⟨t,e⟩:=(show ∃t,u=Value.float b t from r);cases e;rfl
 |ref a=>cases(show u=Value.ref a from r);rfl
 |ty n=>cases(show u=Value.type n from r);rfl
section
variable {P:Program}{w:World}{H:Hp}{h:Heap}{a C dx:Addr}{fs:List (Str×V)}
theorem vd(bU:pJ P w H h)(e:H a=some (.ins C dx fs)):∃mA,D5 h a dx C mA/\(∀f,lS (fs.lookup f) (mA f))/\PySem.Within mA (fs.map (·.1))/\fs.length<=1000/\H dx=some (.own a):=by
 obtain⟨d,z,ne,ob,mA,n,r,q⟩:=(show cP P w H h a (.ins C dx fs)from bU a _ e)
 exact⟨mA,⟨ob,n,ne⟩,r,q,z,d⟩
end
structure ya(K:ao)(C:Addr):Prop where
 pg:PySem.W.plainGet K C Str.empty=true
 hd:PySem.W.hasDictIn K C=true
 po:PySem.W.plainOver K C=true
 sa:PySem.W.findIn K (.ref C) "__setattr__"=some (some (.builtin "object.__setattr__"))
theorem ya.get{K:ao}(c:ya K C)(f:Str):PySem.W.plainGet K C f=true:=c.pg
def fP(K:ao)(C:Addr)(f:Str):Prop:=PySem.W.findIn K (.ref C) f=some none
theorem fP.XB{K:ao}(n:fP K C f):PySem.W.takerIn K C f=some none:=by
 unfold PySem.W.takerIn
 rw[show PySem.W.findIn K (.ref C) f=some none from n]
 rfl
structure yb(K:ao)(C:Addr)(m:Str)(f:Addr):Prop where
 at_:PySem.W.findIn K (.ref C) m=some (some (.ref f))
 fn:PySem.W.isFn K (.ref f)=true
 kp:PySem.W.keepIn K (.ref f)=true
section
variable {X:Cx}{pins:cz}{σ:St}{H:Hp}{s:Shared}{a C dx:Addr}{fs:List (Str×V)}{f:Str}{v:V}{A:Around}{E:eJ}
theorem D6(I:⇑1)(e:H a=some (.ins C dx fs))(c:ya X.K C)(n:fP X.K C f)(l:fs.lookup f=some v)
  (h:∀u s',Inv X pins σ H s'->RelV v u->Q u s'):wpAny ⇑3 A (getAttr (.ref a) f b) Q E s:=by
 obtain⟨mA,O,r,_,_,_⟩:=vd I.bU e
 obtain⟨u,hu,ru⟩:=lS.some_of (v:=v) (o:=mA f) (by rw[<-l];exact r f)
 exact get_map I.mV O (c.get f) c.hd n hu (HY ru) (h u _ (I.tok _) ru)
theorem D7(I:⇑1)(e:H a=some (.ins C dx fs))(c:ya X.K C)(k:yb X.K C m g)(l:fs.lookup m=none)
  (h:Q (.ref g,[.ref a]) s):wpAny ⇑3 A (getMethod (.ref a) m pl) Q E s:=by
 obtain⟨mA,O,r,_,_,_⟩:=vd I.bU e
 have hn:=lS.none_of (by rw[<-l];exact r m)
 exact Ky I.mV O (c.get m) k.at_ k.fn hn h
theorem D8(I:⇑1)(e:H a=some (.ins C dx fs))(c:ya X.K C)(n:fP X.K C f)(hl:fs.length<1000)(ry:RelV y u)
  (h:∀s',Inv X pins σ (upd H a (.ins C dx (lH f y fs))) s'->Q () s'):wpAny ⇑3 A (setAttr (.ref a) f u) Q E s:=by
 obtain⟨mA,O,r,wi,_,ho⟩:=vd I.bU e
 have hz:(fs.map (·.1)).length<=sizeLine:=by rw[aac,sizeLine_eq];lia
 refine N5 I.mV O c.sa c.po n.XB c.hd wi hz λh' O' sb=>h _ ?_
 have hd:∃o,h'.get? dx=some o:=let⟨o,_,_,e',_⟩:=O'.ns;⟨o,e'⟩
 refine I.write (x:=a) (e:=dx) (by rw[e];exact True.intro) (.inr ho) (λb q hb z=>(sb.2 b hb).trans z) hd ?_
 refine⟨by rw[av O.ne];exact ho,?_,O.ne,O'.obj,_,O'.ns,λg=>?_,λg hg=>?_⟩
 .have:=uk f y fs;lia
 .show lS ((lH f y fs).lookup g) (if g=f then some u else mA g);rw[uj];by_cases q:g=f;.rw [aav q,aav q];exact ry
  .grind
 .by_cases q:g=f;.rw [q];exact(sA f y fs).1
  .refine (sA f y fs).2 g (wi g λz=>hg ?_);show(if g=f then some u else mA g)=none;rw[aaB q];exact z
theorem Inv.made(I:⇑1):Inv X pins σ (upd (upd H s.heap.objs.size (.own ⇑24)) ⇑24 (.ins C s.heap.objs.size []))
  {s with heap:=(s.heap.push PySem.W.emptyDict).push (PySem.W.instObj C s.heap.objs.size)}:=by
 have e1:(s.heap.push PySem.W.emptyDict).get? s.heap.objs.size=some PySem.W.emptyDict:=aae s.heap rfl
 have e2:((s.heap.push PySem.W.emptyDict).push (PySem.W.instObj C s.heap.objs.size)).get? ⇑24=some (PySem.W.instObj C s.heap.objs.size):=by
  have:=aae (s.heap.push PySem.W.emptyDict) (o:=PySem.W.instObj C s.heap.objs.size) rfl;rwa [abS]at this
 have e3:(s.heap.push PySem.W.emptyDict).Ns s.heap.objs.size (λ_=>none):=⟨PySem.W.emptyDict,#[],_,e1,rfl,(λe he=>absurd he ⇑11),λ_=>rfl⟩
 have I1:=I.laid (a:=s.heap.objs.size) (o:=.own ⇑24) (h':=s.heap.push PySem.W.emptyDict) (t':=s.toks) (λb u q=>aaa _ q) (aah _) ⟨_,e1⟩
 refine I1.laid (a:=s.heap.objs.size+1) (o:=.ins C s.heap.objs.size []) (t':=s.toks) (λb u q=>aaa _ q) (Nat.le_of_eq (abS _ _)) ?_
 have ne:s.heap.objs.size≠s.heap.objs.size+1:=aay (acx _)
 refine⟨by rw[av ne,aL],abO _,ne,e2,λ_=>none,(Heap.Ns1.of_empty e3).at λo q=>aaa _ q,λ_=>True.intro,λy hy=>absurd rfl hy⟩
theorem N6(hb:attributeBase e f env (eval e env)=eval e env)
  (h:wpAny ⇑10 A (eval e env) (λo bV=>wpAny ⇑10 A (getAttr o f true) Q E bV) E s):wpAny ⇑10 A (eval (.Attribute e f pos) env) Q E s:=
 Attribute_any_ h (by rw[arm_eval_Attribute,hb])
end
def aa0(K:ao)(ta:TE)(f:Str):TE:=λ7=>ta σ H λx H1=>∃a C dx fs v,x=.ref a/\H1 a=some (.ins C dx fs)/\ya K C/\fP K C f/\fs.lookup f=some v/\Q v H1
def Ta(K:ao)(ta tv:TE)(f:Str):TS:=λD σ H=>tv σ H λy H1=>ta σ H1 λx H2=>∃a C dx fs,x=.ref a/\H2 a=some (.ins C dx fs)/\ya K C/\fP K C f/\fs.length<1000/\
 D.nx σ (upd H2 a (.ins C dx (lH f y fs)))
section
variable {X:Cx}{o e value:Expr}{f:Str}{pos pos':Pos}{ta tv:TE}
theorem D9(he:PE X e ta)(hb:attributeBase e f X.env (eval e X.env)=eval e X.env):PE X (.Attribute e f pos) (aa0 X.K ta f):=by
 intro 1
 refine N6 hb (dq (he pins s σ H _ I h) λu s1 ⟨x,H1,I1,rx,a,C,dx,fs,v,ex,ea,c,n,l,q⟩=>?_)
 subst ex
 obtain rfl:u=Value.ref a:=rx
 exact D6 I1 ea c n l λu' s2 I2 ru=>⟨v,H1,I2,ru,q⟩
theorem KA(ha:PE X o ta)(hv:PE X value tv)(hs:swapsWith value (some (.Attribute o f pos')) pos.line X.env=pure false):PS X (.Assign [.Attribute o f pos'] value pos) (Ta X.K ta tv f):=by
 intro 6
 refine plainObj_wpAny_Assign_Attribute (dq (hv pins s σ H _ I h) λu s1 ⟨y,H1,I1,ry,q⟩=>dq (ha pins s1 σ H1 _ I1 q) λov s2 ⟨x,H2,I2,rx,a,C,dx,fs,ex,ea,c,n,l,q2⟩=>?_) hs
 subst ex
 obtain rfl:ov=Value.ref a:=rx
 exact D8 I2 ea c n l ry λs3 I3=>⟨σ,_,I3,q2⟩
end
section
variable {X:Cx}{pins:cz}{σ:St}{H:Hp}{s:Shared}{A:Around}{E:eJ}{Q:eJ}{c:Value}{b:Bool}
inductive sC(K:ao)(H:Hp):V->Value->Prop where
 |iu:sC K H .iu (.type "NoneType")
 |bl (x:Bool):sC K H (.bl x) (.type "bool")
 |int (i:Int):sC K H (.int i) (.type "int")
 |str (x:Str):sC K H (.str x) (.type "str")
 |JY (x:UInt64):sC K H (.JY x) (.type "float")
 |lst {a:Addr} {xs:List V} (e:H a=some (.lst xs)):sC K H (.ref a) (.type "list")
 |xV {a:Addr} {o:Obj} {xs:List V} (e:H a=some (.xV o (.lst xs))):sC K H (.ref a) (.type "list")
 |tup {a:Addr} {xs:List V} (e:H a=some (.tup xs)):sC K H (.ref a) (.type "tuple")
 |dK {a:Addr} {bb:List (Key×V)} (e:H a=some (.dK bb)):sC K H (.ref a) (.type "dict")
 |dT {a:Addr} {bb:List (List Key×V)} (e:H a=some (.dT bb)):sC K H (.ref a) (.type "dict")
 |ins {a C dx:Addr} {fs:List (Str×V)} (e:H a=some (.ins C dx fs)) (cl:ya K C) (ha:PySem.W.findIn K (.ref C) "__class__"=some (some (.builtin "object.__class__")))
   (hn:PySem.W.specialIn K (.builtin "object.__class__") "__get__"=some (some (.builtin "getset_descriptor.__get__"))) (htk:PySem.W.takesIn K (.builtin "object.__class__")=some true)
   (hm:PySem.W.mroIn K C (.type "object")=some true):sC K H (.ref a) (.ref C)
theorem HZ(I:⇑1)(rx:RelV x u)(ty:sC X.K H x t)(e:PySem.W.kitOne X.K t c=some b)(h:∀tk,Q (.bool b) {s with toks:=tk}):
  wpAny ⇑3 A (call (.builtin "isinstance") [u,c]) Q E s:=by
 cases ty with
 |iu=>cases(show u=Value.none from rx);exact abQ PySem.W.kitx_none I.mV True.intro e ⇑41 h
 |bl y=>cases(show u=Value.bool y from rx);exact abQ PySem.W.kitx_bool I.mV True.intro e ⇑41 h
 |int i=>obtain⟨t,q⟩:=(show ∃t,u=Value.int i t from rx);cases q;exact abQ PySem.W.kitx_int I.mV True.intro e ⇑41 h
 |str y=>obtain⟨t,q⟩:=(show ∃t,u=Value.str y t from rx);cases q;exact abQ PySem.W.kitx_str I.mV True.intro e ⇑41 h
 |JY y=>obtain⟨t,q⟩:=(show ∃t,u=Value.float y t from rx);cases q;exact abQ PySem.W.kitx_float I.mV True.intro e ⇑41 h
 |@lst a xs ea=>
   cases(show u=Value.ref a from rx);obtain⟨_,_,n,_,h1⟩:=(show cP X.prog X.w H s.heap a (.lst xs)from I.bU a _ ea);exact abQ afX I.mV ⟨_,h1,rfl⟩ e ⇑41 h
 |@xV a ob xs ea=>
   cases(show u=Value.ref a from rx);obtain⟨_,_,_,n,_,h1⟩:=(show cP X.prog X.w H s.heap a (.xV ob (.lst xs))from I.bU a _ ea);exact abQ afX I.mV ⟨_,h1,rfl⟩ e ⇑41 h
 |@tup a xs ea=>
   cases(show u=Value.ref a from rx);obtain⟨_,_,_,p⟩:=(show cP X.prog X.w H s.heap a (.tup xs)from I.bU a _ ea);obtain⟨o,h1,h2,_⟩:=p;exact abQ PySem.W.kitx_tuple I.mV ⟨o,h1,h2⟩ e ⇑41 h
 |@dK a bb ea=>
   cases(show u=Value.ref a from rx);obtain⟨_,_,vs,_,p⟩:=(show cP X.prog X.w H s.heap a (.dK bb)from I.bU a _ ea);obtain⟨o,es,ep,h1,h2,_⟩:=p;exact abQ PySem.W.kitx_dict I.mV ⟨o,h1,h2.1⟩ e ⇑41 h
 |@dT a bb ea=>
   cases(show u=Value.ref a from rx);obtain⟨_,_,xs,_,o,es,ep,h1,h2,_⟩:=(show cP X.prog X.w H s.heap a (.dT bb)from I.bU a _ ea);exact abQ PySem.W.kitx_dict I.mV ⟨o,h1,h2.1⟩ e ⇑41 h
 |@ins a C dx fs ea cl ha hn htk hm=>
   cases(show u=Value.ref a from rx);obtain⟨mA,O,_⟩:=vd I.bU ea;obtain⟨od,J,_⟩:=O.look;exact abQ (PySem.W.kitx_own (cl.get _) cl.hd ha hn htk hm) I.mV J e ⇑41 h
end
structure cW(k:Nat)(A:Around):Prop where
 hd:A.handled=none
 dp:A.depth+3*k+5<recursionLimit
 un:A.units+16*k+200<cLine
theorem cW.mono(r:cW k A)(h:j<=k):cW j A:=⟨r.hd,by have:=r.dp;lia,by have:=r.un;lia⟩
theorem cW.deeper(r:cW (k+1) A)(env:Env):cW k (A.deeper env):=
 ⟨r.hd,by have:=r.dp;show A.depth+1+3*k+5<_;lia,by have:=r.un;show A.units+3+16*k+200<_;lia⟩
theorem Ea{A:Around}:(A.under (.builtin "type.__call__" ⟨.ref C::us,kw⟩)).depth=A.depth+1:=rfl
theorem Eb{A:Around}:(A.under (.builtin "type.__call__" ⟨.ref C::us,kw⟩)).units=A.units+1:=rfl
theorem cW.make(r:cW (k+1) A)(C:Addr)(us:bZ)(kw:List (Str×Value)):cW k (A.under (.builtin "type.__call__" ⟨.ref C::us,kw⟩)):=
 ⟨r.hd,by have:=r.dp;rw[Ea];lia,by have:=r.un;rw[Eb];lia⟩
theorem cW.depth(r:cW k A):A.depth<recursionLimit:=by have:=r.dp;lia
theorem cW.units(r:cW k A):A.units+64<cLine:=by have:=r.un;lia
def N7:TA:=λ_ H Q=>Q [] H
def KC(ta:TE)(tr:TA):TA:=λ7=>ta σ H λx H1=>tr σ H1 λxs H2=>Q (x::xs) H2
section
variable {X:Cx}{e:Expr}{es:List Expr}{te:TE}{t:TA}{pos:Pos}
theorem cX:PA X [] N7:=λ_ _ _ _ H Q I h=>aeu ⟨[],H,I,.nil,h⟩
theorem bz(ha:PE X e te)(hr:PA X es t)(hs:starEach (e::es) X.env=⇑18::starEach es X.env:=by rfl):PA X (e::es) (KC te t):=by
 intro pos pins s σ H Q I h
 rw[hs]
 refine adX (dq (ha pins s σ H _ I h) λu s1 ⟨x,H1,I1,r1,q1⟩=>?_)
 exact dq (hr pos pins s1 σ H1 _ I1 q1) λus s2 ⟨xs,H2,I2,r2,q2⟩=>⟨x::xs,H2,I2,.cons r1 r2,q2⟩
def aa1(t:TA):TE:=λ7=>t σ H λxs H1=>xs.length<=sizeLine/\∀p,H1 p=none->Q (.ref p) (upd H1 p (.tup xs))
def aa2(t:TA):TE:=λ7=>t σ H λxs H1=>xs.length<=sizeLine/\∀p,H1 p=none->Q (.ref p) (upd H1 p (.lst xs))
theorem Tb(h:PA X es t):PE X (.Tuple es x1 pos) (aa1 t):=by
 intro pins s σ H Q I hq
 refine wpAny_Tuple_spliced (dq (h pos pins s σ H _ I hq) λus s1 ⟨xs,H1,I1,r,z,q⟩=>⟨by rw[<-r.length];exact z,?_⟩)
 have hf:=I1.bU.fresh (aah _)
 refine⟨.ref s1.heap.objs.size,upd H1 s1.heap.objs.size (.tup xs),I1.laid (t':=s1.toks) (λb u e=>aaa _ e) (aah _) ?_,rfl,q _ hf⟩
 exact⟨z,us,r,⟨_,aae _ rfl,rfl,_,rfl⟩⟩
theorem Tc(h:PA X es t):PE X (.List es pos) (aa2 t):=by
 intro pins s σ H Q I hq
 refine wpAny_List_spliced (dq (h pos pins s σ H _ I hq) λus s1 ⟨xs,H1,I1,r,z,q⟩=>⟨by rw[<-r.length];exact z,?_⟩)
 have hf:=I1.bU.fresh (aah _)
 refine⟨.ref s1.heap.objs.size,upd H1 s1.heap.objs.size (.lst xs),I1.laid (t':=s1.toks) (λb u e=>aaa _ e) (aah _) ?_,rfl,q _ hf⟩
 exact⟨z,us,0,r,aae _ rfl⟩
end
abbrev Sp:=List V->Hp->VK->XK->Prop
abbrev Td:=List Env->Hp->Shared->XK->eJ
structure BQ(P:Program)(w:World)(K:ao)(mg:eQ)(base:Heap)(A:Around)(outer:List Env)(s:Shared)(H:Hp):Prop where
 frames:A.frames=some outer
 mod:Mod K mg base
 bs:∀b o,base.get? b=some o->s.heap.get? b=some o/\H b=none
 Kh:base.objs.size<=s.heap.objs.size
 m9:s.heap.FunFrames base outer
 Nz:∀b∈qY outer,H b=none
 bU:pJ P w H s.heap
 bare:AllBare s.gens
def CE(outer:List Env)(P:Program)(w:World)(H:Hp)(s:Shared)(Q:VK)(u:Value)(s':Shared):Prop:=
 ∃v H',s'.os=s.os/\AllBare s'.gens/\Un (qY outer) [] H H' s.heap s'.heap/\pJ P w H' s'.heap/\RelV v u/\Q v H'
def CR(CX:Td)(outer:List Env)(P:Program)(w:World)(H:Hp)(s:Shared)(Q:VK)(E:XK)(r:Result)(s':Shared):Prop:=
 match r with
 |.ok (.ret u)=>CE outer P w H s Q u s'
 |.ok _=>False
 |.error e=>CX outer H s E e s'
structure jR(P:Program)(w:World)(K:ao)(mg:eQ)(base:Heap)(CX:Td)(k:Nat)(f:Addr)(fd:FuncData)(ps:List Str)(sp:Sp):Prop where
 len:∀vs H Q E,sp vs H Q E->vs.length=ps.length
 run:∀(A:Around) (outer:List Env) (s:Shared) (H:Hp) (args:Args) (us:bZ) (vs:List V) (Q:VK) (E:XK),cW k A->BQ P w K mg base A outer s H->BindsTo s fd args (ps.zip us)->bA vs us->sp vs H Q E->
  codeAny (model P w) A (.call (.ref f) args) (CR CX outer P w H s Q E) s
theorem BQ.make{K:ao}(e:BQ P w K mg base A outer s H)(C:Addr)(us:bZ)(kw:List (Str×Value)):
  BQ P w K mg base (A.under (.builtin "type.__call__" ⟨.ref C::us,kw⟩)) outer s H:=⟨by first|exact e.frames|(simpa[Around.under]using e.frames),e.mod,e.bs,e.Kh,e.m9,e.Nz,e.bU,e.bare⟩
section
variable {X:Cx}{pins:cz}{σ:St}{H:Hp}{s s':Shared}
theorem Inv.XC(I:⇑1):BQ X.prog X.w X.K X.mg X.base X.A X.stack s H:=
 ⟨I.ok.frames,I.ok.mod,I.bs,aa6 I.ok.Kh I.sz,I.stack,I.zY,I.bU,I.bare⟩
theorem Inv.after(I:⇑1)(h:CE X.stack X.prog X.w H s Q u s'):EP X pins σ Q u s':=by
 obtain⟨v,H',os,bare,un,bU,r,q⟩:=h
 obtain⟨hh,g,d,t,os'⟩:=s'
 obtain rfl:os'=s.os:=os
 exact⟨v,H',I.call (h':=hh) (g':=g) (d':=d) (t':=t) (ch:=[]) un bU bare (λb z=>absurd z ⇑11),r,q⟩
end
def QJ(sp:Sp)(BD:List V)(E:XK)(t:TA):TE:=λ7=>t σ H λvs H1=>sp (vs++BD) H1 Q E
def XD(C:Addr)(m:Str)(sp:Sp)(BD:List V)(E:XK)(ta:TE)(t:TA):TE:=λ7=>ta σ H λx H1=>∃a dx fs,x=.ref a/\H1 a=some (.ins C dx fs)/\fs.lookup m=none/\
 t σ H1 λvs H2=>sp (x::(vs++BD)) H2 Q E
def XE(C:Addr)(sp:Sp)(BD:List V)(E:XK)(t:TA):TE:=λ7=>t σ H λvs H1=>∀x dx,H1 x=none->H1 dx=none->dx≠x->
 sp (.ref x::(vs++BD)) (upd (upd H1 dx (.own x)) x (.ins C dx [])) (λv H2=>v=.iu/\Q (.ref x) H2) E
def Binds(K:ao)(fd:FuncData)(ps:List Str)(ds:bZ):Prop:=
 ∀(s:Shared) (us:bZ),K.In s.heap->(us++ds).length=ps.length->BindsTo s fd ⟨us,[]⟩ (ps.zip (us++ds))
theorem Binds.all{K:ao}(h:∀us:bZ,us.length=ps.length->bindArgs fd ⟨us,[]⟩=pure (ps.zip us)):Binds K fd ps []:=λs us _ hl=>by
 rw[abr]at hl ⊢
 exact .of_eq (h us hl)
def sD(CX:Td)(X:Cx)(E:XK):Prop:=∀(pins:cz) (σ:St) (H:Hp) (s:Shared) (e:Value) (s':Shared),Inv X pins σ H s->CX X.stack H s E e s'->X.xe e s'
section
variable {X:Cx}{CX:Td}{k:Nat}{f C:Addr}{fd:FuncData}{ps:List Str}{sp:Sp}{BD:List V}{ds:bZ}{E:XK}{x m:Str}{p pos apos:Pos}{e o:Expr}{es:List Expr}{ta:TE}{t:TA}
theorem Ec(F:jR X.prog X.w X.K X.mg X.base CX k f fd ps sp)(hr:cW k X.A)(hb:Binds X.K fd ps ds)(hd:bA BD ds)(hx:sD CX X E)
  (I:⇑1)(r:bA vs us)(h:sp (vs++BD) H Q E):wpAny ⇑3 X.A (call (.ref f) us) (EP X pins σ Q) X.xe s:=by
 have r2:=r.append hd
 have hl:(us++ds).length=ps.length:=by rw[<-r2.length];exact F.len _ _ _ _ h
 refine afi (adO (F.run X.A X.stack s H ⟨us,[]⟩ (us++ds) (vs++BD) Q E hr I.XC (hb s us I.mV hl) r2 h) λr s' hq=>?_)
 cases r with
 |error e=>exact hx pins σ H s e s' I hq
 |ok fl=>
   cases fl with
   |ret u=>exact I.after hq
   |next=>exact False.elim hq
   |brk=>exact False.elim hq
   |cont=>exact False.elim hq
theorem N8(F:jR X.prog X.w X.K X.mg X.base CX k f fd ps sp)(hr:cW k X.A)(hg:Gl X x)(hm:X.mg x=some (.ref f))(hk:PySem.W.keepIn X.K (.ref f)=true)(hb:Binds X.K fd ps ds)(hd:bA BD ds)(hx:sD CX X E)
  (ha:PA X (e::es) t)(pK:⇑5:=by decide)(he:starEach (e::es) X.env=⇑18::starEach es X.env:=by rfl)(iQ:⇑7:=by rfl):
  PE X ⇑20 (QJ sp BD E t):=by
 intro 1
 refine abY (ky I hg hm ?_ pK)
 refine aes (h₀:=X.base) I.ok.mod.Kg hk (dq (ha pos pins s σ H _ I h) λus s1 ⟨vs,H1,I1,r,q⟩=>⟨I1.mV,?_⟩) he iQ
 exact Ec F hr hb hd hx I1 r q
theorem N9{pl:Sem Bool}(he:PE X o ta)(c:ya X.K C)(hm:yb X.K C m f)(F:jR X.prog X.w X.K X.mg X.base CX k f fd ps sp)(hr:cW k X.A)(hb:Binds X.K fd ps ds)(hd:bA BD ds)(hx:sD CX X E)(ha:PA X (e::es) t)
  (N1:starEach (e::es) X.env=⇑18::starEach es X.env:=by rfl)(iQ:⇑7:=by rfl)
  (ht:eval (.Call (.Attribute o m apos) (e::es) [] pos) X.env=(do
   let ov <-eval o X.env
   standAt apos.atName
   let(f,first) <-holding [ov] (getMethod ov m pl)
   callWith pos f first (backTo pos (starEach (e::es) X.env)) (backToKw pos (keywordEach [] X.env))):=by rfl):
  PE X (.Call (.Attribute o m apos) (e::es) [] pos) (XD C m sp BD E ta t):=by
 intro 1
 refine PySem.W.methodCall_KW (pl:=pl) (dq (he pins s σ H _ I h) λu s1 ⟨x,H1,I1,rx,a,dx,fs,ex,ea,l,q⟩=>?_) ht
 subst ex
 obtain rfl:u=Value.ref a:=rx
 refine D7 I1 ea c hm l ?_
 refine aes (first:=[.ref a]) (h₀:=X.base) I.ok.mod.Kg hm.kp (dq (ha pos pins s1 σ H1 _ I1 q) λus s2 ⟨vs,H2,I2,r,q2⟩=>⟨I2.mV,?_⟩) N1 iQ
 exact Ec (us:=.ref a::us) (vs:=.ref a::vs) F hr hb hd hx I2 (.cons rfl r) q2
structure Mk(K:ao)(C f:Addr):Prop where
 makes:PySem.W.makesIn K C=true
 init:PySem.W.findIn K (.ref C) "__init__"=some (some (.ref f))
 fn:PySem.W.isFn K (.ref f)=true
 kp:PySem.W.keepIn K (.ref C)=true
theorem KD(M:Mk X.K C f)(F:jR X.prog X.w X.K X.mg X.base CX k f fd ps sp)(hr:cW (k+1) X.A)(hb:Binds X.K fd ps ds)(hd:bA BD ds)
  (hx:sD CX X E)(I:⇑1)(r:bA vs us)
  (h:∀x dx,H x=none->H dx=none->dx≠x->sp (.ref x::(vs++BD)) (upd (upd H dx (.own x)) x (.ins C dx [])) (λv H2=>v=.iu/\Q (.ref x) H2) E):
  wpAny ⇑3 X.A (call (.ref C) us) (EP X pins σ Q) X.xe s:=by
 have hq:=h ⇑24 s.heap.objs.size (I.bU.fresh (ae1 _)) (I.bU.fresh (aah _)) (aay (acx _))
 have I2:=Inv.made (C:=C) I
 have r2:bA (V.ref ⇑24::(vs++BD)) (Value.ref ⇑24::(us++ds)):=.cons rfl (r.append hd)
 have hl:(Value.ref ⇑24::us++ds).length=ps.length:=by
  have e:=r2.length;rw[F.len _ _ _ _ hq]at e;exact e.symm
 refine afi (Kz (f:=f) I.mV M.makes M.init (afh.mp M.fn) (adO (F.run _ X.stack _ _ ⟨Value.ref ⇑24::us,[]⟩ (Value.ref ⇑24::(us++ds)) _ _ E (hr.make C us [])
  (I2.XC.make C us []) (hb _ (Value.ref ⇑24::us) I2.mV hl) r2 hq) λr s' XF=>?_))
 cases r with
 |error e=>exact hx pins σ _ _ e s' I2 XF
 |ok fl=>
   cases fl with
   |ret u=>
     obtain⟨v,H',I3,rv,ev,q3⟩:=I2.after XF;subst ev;exact⟨rv,⟨V.ref ⇑24,H',I3,rfl,q3⟩⟩
   |next=>exact False.elim XF
   |brk=>exact False.elim XF
   |cont=>exact False.elim XF
theorem KE(M:Mk X.K C f)(F:jR X.prog X.w X.K X.mg X.base CX k f fd ps sp)(hr:cW (k+1) X.A)(hg:Gl X x)(hm:X.mg x=some (.ref C))(hb:Binds X.K fd ps ds)(hd:bA BD ds)(hx:sD CX X E)
  (pK:⇑5:=by decide):PE X (.Call (.Name x p) [] [] pos) (XE C sp BD E N7):=by
 intro 1
 refine abY (ky I hg hm ?_ pK)
 exact PySem.W.callWith_K0 I.mV M.kp (KD (us:=[]) M F hr hb hd hx I .nil h)
end
section
end
structure az(N P:List Str)(sc:Scope):Prop where
 kind:sc.kind=.function
 co:sc.isCoroutine=false
 gen:sc.isGenerator=false
 nd:N.Nodup
 pre:N.take P.length=P
 par:∀x∈P,sc.names.lookup x=some .local\/sc.names.lookup x=some .cell
 Te:∀y∈sc.names,y.2≠.free
theorem zg{kindOf:Str->Option NameKind}:∀{binds:List (Str×Value)} {m:eQ},(∀v,(x,v)∉binds)->bindL kindOf binds m x=m x
 |[],_,_=>rfl
 |(n,v)::r,m,h=>by
   unfold bindL;rw[zg λw hw=>h w (aat _ hw)];split
   .have:x≠n:=by rintro rfl;exact h v aan
    simp[this]
   .rfl
theorem zh{kindOf:Str->Option NameKind}:∀{binds:List (Str×Value)} {m:eQ},(∀v,(x,v)∉binds)->bindC kindOf binds m x=m x
 |[],_,_=>rfl
 |(n,v)::r,m,h=>by
   unfold bindC;rw[zh λw hw=>h w (aat _ hw)];split;.rfl
   .have:x≠n:=by rintro rfl;exact h v aan
    simp[this]
theorem zi{kindOf:Str->Option NameKind}:∀{P:List Str} {vs:bZ} {i:Nat} {m:eQ},P.Nodup->P[i]?=some x->vs[i]?=some v->kindOf x=some .local->
  bindL kindOf (P.zip vs) m x=some v
 |[],_,_,_,_,h,_,_=>by simp at h
 |_::_,[],_,_,_,_,h,_=>by simp at h
 |p::P,w::vs,0,m,nd,h1,h2,hk=>by
   simp at h1 h2;subst h1;subst h2;show bindL kindOf ((p,w)::P.zip vs) m p=_;unfold bindL;rw[zg λv hv=>(aeT.mp nd).1 (aeU hv).1,aav hk];simp
 |p::P,w::vs,i+1,m,nd,h1,h2,hk=>by
   show bindL kindOf ((p,w)::P.zip vs) m x=_;exact zi (i:=i) (List.nodup_cons.mp nd).2 (by simpa using h1) (by simpa using h2) hk
theorem zj{kindOf:Str->Option NameKind}:∀{P:List Str} {vs:bZ} {i:Nat} {m:eQ},P.Nodup->P[i]?=some x->vs[i]?=some v->kindOf x≠some .local->
  bindC kindOf (P.zip vs) m x=some v
 |[],_,_,_,_,h,_,_=>by simp at h
 |_::_,[],_,_,_,_,h,_=>by simp at h
 |p::P,w::vs,0,m,nd,h1,h2,hk=>by
   simp at h1 h2;subst h1;subst h2;show bindC kindOf ((p,w)::P.zip vs) m p=_;unfold bindC;rw[zh λv hv=>(aeT.mp nd).1 (aeU hv).1,aaB hk];simp
 |p::P,w::vs,i+1,m,nd,h1,h2,hk=>by
   show bindC kindOf ((p,w)::P.zip vs) m x=_;exact zj (i:=i) (List.nodup_cons.mp nd).2 (by simpa using h1) (by simpa using h2) hk
def start(N:List Str)(vs:List V):St:=vs.map some++List.replicate (N.length-vs.length) none
noncomputable def rb(CX:Td)(P:Program)(w:World)(K:ao)(mg:eQ)(base:Heap)(N:List Str)(qual:Str)(scope:Scope)(f:Addr)(cd:Value)(A:Around)(outer:List Env)(s:Shared)(H:Hp)(E:XK):Cx where
 prog:=P
 w:=w
 K:=K
 mg:=mg
 base:=base
 A:=A.deeper (envOfC qual scope s.heap.objs.size f cd)
 N:=N
 ip:=s
 HN:=H
 env:=envOfC qual scope s.heap.objs.size f cd
 outer:=outer
 stack:=envOfC qual scope s.heap.objs.size f cd::outer
 ex:=[]
 calm:=true
 fn:=λ_=>true
 pn:=[]
 xe:=λe s'=>wpAny (model P w) (A.deeper (envOfC qual scope s.heap.objs.size f cd)) (leaving (envOfC qual scope s.heap.objs.size f cd) e) (λ_ DM=>CX outer H s E e DM) (λe' DM=>CX outer H s E e' DM) s'
theorem BR{sc:Scope}(h:sc.names.lookup x=some .cell):∃c,(cellsFrom n sc.names []).lookup x=some c:=by
 have q:=PySem.W.cellsFrom_some sc.names n [] (.inl h)
 exact Option.isSome_iff_exists.mp q
theorem H8{K:ao} 
  (S:az N ps scope)(hd:A.handled=none)(e0:BQ P w K mg base A outer s H)(hl:vs.length=ps.length)(r:bA vs us)
  (x:InCallC s s.heap.objs.size (bindL (envOfC qual scope s.heap.objs.size f cd).kindOf (ps.zip us) λ_=>none) (cellsFrom ⇑24 scope.names []) (bindC (envOfC qual scope s.heap.objs.size f cd).kindOf (ps.zip us) λ_=>none) s1):
  Inv (rb CX P w K mg base N qual scope f cd A outer s H E) [] (start N vs) H s1:=by
 have iQ:ps.length<=N.length:=by have:=abR List.length S.pre;rw[acb]at this;lia
 obtain⟨h1,tk,rfl,hk⟩:=x.done
 have Ia:∀b:Addr,b∉(rb CX P w K mg base N qual scope f cd A outer s H E).ex:=λb z=>absurd (show b∈([]:List Addr)from z) ⇑11
 refine⟨⟨e0.mod,S.kind,rfl,rfl,aah _,λy z c h1 h2=>?_,λy hy=>?_,λy c _ h=>?_,λ_=>hd,afp e0.frames,.inr ⟨rfl,rfl⟩,λb z=>absurd z (Ia b),e0.bs,e0.Kh,λb _ _=>Ia b,λb z=>absurd z (Ia b),e0.m9,e0.Nz⟩,
  rfl,e0.bare,Un.kept hk,⟨_,x.toInCall.ns,λi y v h1 h2 h3=>?_⟩,λy c h=>⟨_,x.cell y c h⟩,e0.bU.fresh (aah _),λy c h=>?_,λp hp=>absurd (show p∈([]:cz)from hp) ⇑11,e0.bU.kept hk,?_⟩
 .exact name_of_addr x.apart (abv h1) (abv h2)
 .have hy:scope.names.lookup y=some .cell\/scope.names.lookup y=some .free:=hy;rcases hy with hy|hy;.exact BR hy
  .exact absurd rfl (S.Te _ (abv hy))
 .exact adN (x.above y c (abv h))
 .have hi:i<vs.length:=by
   unfold start at h2;by_cases hi:i<vs.length;.grind
   .grind
  have ha:vs[i]?=some v:=by
   unfold start at h2;rw[List.getElem?_append_left (by simpa using hi),List.getElem?_map]at h2;cases e:vs[i]? with
   |none=>rw[e]at h2;cases h2
   |some a=>rw[e]at h2;cases h2;rfl
  obtain⟨u,hu,rv⟩:=r.get ha;have hp:ps[i]?=some y:=by
   rw[<-S.pre,List.getElem?_take_of_lt ⇑2];exact h1
  have ndP:ps.Nodup:=by rw[<-S.pre];exact S.nd.sublist (List.take_sublist _ _)
  refine⟨u,rv,?_⟩;rcases S.par y (aau hp)with k|k;.exact .inl ⟨k,zi ndP hp hu k⟩
  .obtain ⟨c,e⟩:=BR (n:=s.heap.objs.size+1) k;refine .inr ⟨.inl k,c,e,?_⟩;have q:=x.cell y c e;rw[zj ndP hp hu (by show scope.names.lookup y≠_;rw[k];decide)]at q;exact q
 .exact e0.bU.fresh (adN (x.above y c (abv h)))
 .unfold start;show _=N.length;rw[aak,aac,List.length_replicate];lia
theorem QK{K:ao}{dV kV doc pm de ct oc:Value} 
  (lk:K.lookup f=some ⟨oc,od,.func (PySem.W.fnOf name qual params body scope dV kV doc pm an de ct),Oa⟩)(vb:PySem.W.codeIn K de qual=true)(S:az N ps scope)
  (len:∀vs H Q E,sp vs H Q E->vs.length=ps.length)
  (gE:∀(A:Around) (outer:List Env) (s:Shared) (H:Hp) (vs:List V) (Q:VK) (E:XK),cW k (A.deeper (envOfC qual scope s.heap.objs.size f de))->sp vs H Q E->
   ∃t,iP (rb CX P w K mg base N qual scope f de A outer s H E) body t/\t {nx:=λ_ H'=>Q .iu H',rt:=Q} (start N vs) H):
  jR P w K mg base CX (k+1) f (PySem.W.fnOf name qual params body scope dV kV doc pm an de ct) ps sp:=by
 refine⟨len,λA outer s H args us vs Q E hr e0 hb r xQ=>?_⟩
 have hl:=len _ _ _ _ xQ
 have KX:=e0.mod.Kg.keeps λb o e=>(e0.bs b o e).1
 have lim:=e0.mod.nolimit.keeps λb o e=>(e0.bs b o e).1
 have XG:∀y∈ps.zip us,scope.names.lookup y.1=some .local\/(scope.names.lookup y.1=some .cell/\((cellsFrom ⇑24 scope.names []).lookup y.1).isSome=true):=λ⟨n,v⟩ hy=>by
  rcases S.par n (aeU hy).1 with q|q;.grind
  .exact .inr ⟨q,PySem.W.cellsFrom_some _ _ _ (.inl q)⟩
 refine codeAny_call_function hr.depth (KX _ _ lk) rfl S.co S.gen rfl (PySem.W.codeRec_of KX vb) (hb _ _ _ _ ?_)
 refine wpAny_newFunctionEnv_cells S.kind XG λenv he s1 x=>?_
 subst he
 refine⟨lim.keeps x.toInCall.keep,codeAny_func ?_⟩
 obtain⟨t,ht,hq⟩:=gE A outer s H vs Q E (hr.deeper _) xQ
 have I:Inv (rb CX P w K mg base N qual scope f de A outer s H E) [] (start N vs) H s1:=H8 S hr.hd e0 hl r x
 refine abu (ht [] s1 (start N vs) H _ I hq) (λfl s' hs=>?_) λe s' hs=>hs
 have fin:∀{ck:St} {H':Hp} {v:V} {u:Value},Inv (rb CX P w K mg base N qual scope f de A outer s H E) [] ck H' s'->RelV v u->Q v H'->CE outer P w H s Q u s':=
  λ{ck H' v u} J rv q=>⟨v,H',J.os,J.bare,J.base,J.bU,rv,q⟩
 cases fl with
 |ret u=>
   obtain⟨v,ck,H',J,rv,q⟩:=hs;exact fin J rv q
 |next=>
   obtain⟨ck,H',J,q⟩:=hs;exact fin (v:=V.iu) (u:=Value.none) J rfl q
 |brk=>
   obtain⟨_,_,_,q⟩:=hs;exact False.elim q
 |cont=>
   obtain⟨_,_,_,q⟩:=hs;exact False.elim q
section
variable {X:Cx}{x:Str}{p pos:Pos}{e:Expr}{es:List Expr}{t:TA}{id T:String}{r:List V->Hp->VK->Prop}
def ZZ(r:List V->Hp->VK->Prop)(t:TA):TE:=λ7=>t σ H λvs H1=>r vs H1 Q
theorem vK(hc:fH X (.builtin id) r)(hg:Gl X x)(hm:X.mg x=none)(hv:bootBuiltins x=some (.builtin id))(ha:PA X (e::es) t)(hn:x≠"__name__":=by decide)(pK:⇑5:=by decide)
  (he:starEach (e::es) X.env=⇑18::starEach es X.env:=by rfl)(iQ:⇑7:=by rfl):PE X ⇑20 (ZZ r t):=by
 intro 1
 refine abY (lV I hg hm hv ?_ hn pK)
 exact PyProof.Rows.callWith_builtin1 (dq (ha pos pins s σ H _ I h) λus s1 ⟨vs,H1,I1,r1,q1⟩=>hc pins s1 σ H1 vs us Q I1 r1 q1) he iQ
theorem sE(hc:fH X (.type T) r)(hg:Gl X x)(hm:X.mg x=none)(hv:bootBuiltins x=some (.type T))(ha:PA X (e::es) t)(hn:x≠"__name__":=by decide)(pK:⇑5:=by decide)
  (he:starEach (e::es) X.env=⇑18::starEach es X.env:=by rfl)(iQ:⇑7:=by rfl):PE X ⇑20 (ZZ r t):=by
 intro 1
 refine abY (lV I hg hm hv ?_ hn pK)
 exact aci (dq (ha pos pins s σ H _ I h) λus s1 ⟨vs,H1,I1,r1,q1⟩=>hc pins s1 σ H1 vs us Q I1 r1 q1) he iQ
end
end L2
namespace HT
open PySem PyProof.Rows
section
open PySem.SeqAt
open PySem.AutoSeq1 (wpAny_loadPart')
open PySem.MeetsSeq PySem.MeetsSeq2 PySem.MeetsSeq3
end
section
variable {prog:Program}{w:World}{A:Around}{E:eJ}{s:Shared}
theorem Ob(ht:IsTup s.heap t vs.toArray)(hb:IsTup s.heap b ws.toArray)(hv:vs≠[])
  (h1:ws=[]->Q (.ref t) s)(h2:ws≠[]->Q ⇑25 {s with heap:=s.heap.push {cls:=.type "tuple",data:=.seq (vs++ws).toArray}})
  (hsz:vs.length+ws.length<=sizeLine):wpAny ⇑10 A (binaryOp .Add (.ref t) (.ref b)) Q E s:=by
 obtain⟨⟨cls,dd,data,sl⟩,ho,hc,n,hd⟩:=id ht
 obtain⟨⟨afH,dd2,data2,Z0⟩,q8,hc2,n2,hd2⟩:=id hb
 subst hc hd hc2 hd2
 have e:vs.toArray++ws.toArray=(vs++ws).toArray:=by simp
 by_cases hw:ws=[]
 .exact concat_meets ⟨_,ho,rfl⟩ ⟨_,q8,rfl⟩ noFill_tuple_add seq_tuple_add ae5 ae2 (aeN _ _)
   (tuple_addW1 t b vs.toArray ws.toArray n n2 dd dd2 sl Z0 (by simpa using hv) (by simp[hw])) ⟨ho,q8,h1 hw⟩
 .refine concat_meets ⟨_,ho,rfl⟩ ⟨_,q8,rfl⟩ noFill_tuple_add seq_tuple_add ae5 ae2 (aeN _ _)
   (tuple_addW2 t b vs.toArray ws.toArray n n2 dd dd2 sl Z0 (by simpa using hv) (by simpa using hw) (by rw[List.size_toArray,List.size_toArray];exact hsz)) ⟨ho,q8,?_⟩;rw[e];exact h2 hw
noncomputable def vL(n d:Nat):Option Int->Nat
 |none=>d
 |some v=>if v<0 then(v+(n:Int)).toNat else min v.toNat n
theorem XH(n d:Nat):vL n d none=d:=rfl
theorem Gf(n d k:Nat):vL n d (some (k:Int))=min k n:=rfl
end
end HT
namespace L2
open PySem PySem.Spec PyProof.Rows
abbrev TO:=St->Hp->(Option Int->Hp->Prop)->Prop
def PO(X:Cx)(e:Option Expr)(t:TO):Prop:=
 ∀(pins:cz) (s:Shared) (σ:St) (H:Hp) (Q:Option Int->Hp->Prop),Inv X pins σ H s->t σ H Q->
   wpAny ⇑3 X.A (evalPart e X.env) (λu s'=>∃o H',Inv X pins σ H' s'/\IsPart u o/\Q o H') X.xe s
def Oc:TO:=λ_ H Q=>Q none H
def XI(t:TE):TO:=λ7=>t σ H λx H1=>∃i,x=.int i/\Q (some i) H1
theorem intsAre_of:∀{us:bZ},bA (ns.map V.int) us->IntsAre us ns:=by
 induction ns with
 |nil=>intro us r;rw[agj]at r;cases r;exact .nil
 |cons n ns ih=>
   intro us r;cases r with
   |cons r1 r2=>
     obtain⟨t,e⟩:=r1;subst e;exact .cons n t (ih r2)
section
variable {X:Cx}{e:Expr}{te:TE}{lo hi:Option Expr}{tl th:TO}{pos p2:Pos}
theorem Od:PO X none Oc:=by
 intro 1
 exact aag ⟨none,H,I,.none,h⟩
theorem Oe(h:PE X e te):PO X (some e) (XI te):=by
 intro pins s σ H Q I hw
 refine dq (h pins s σ H _ I hw) λu s1 ⟨x,H1,I1,r1,q1⟩=>?_
 obtain⟨i,rfl,q⟩:=q1
 obtain⟨t,rfl⟩:=r1
 exact⟨some i,H1,I1,.int i t,q⟩
def SlR(X:Cx)(r:V->Option Int->Option Int->Hp->VK->Prop):Prop:=
 ∀(pins:cz) (s:Shared) (σ:St) (H:Hp) (x:V) (v vl vu:Value) (lo hi:Option Int) (sl:Addr) (Q:VK),Inv X pins σ H s->RelV x v->s.heap.IsSliceOf sl vl vu .none->IsPart vl lo->IsPart vu hi->r x lo hi H Q->
   ∃T id,typeLookup (.type T) "__getitem__"=pure (some (.builtin id))/\s.TypeIs v T/\wpAny ⇑3 X.A (getItem v (.ref sl)) (EP X pins σ Q) X.xe s
def tSl(r:V->Option Int->Option Int->Hp->VK->Prop)(te:TE)(tl th:TO):TE:=λ7=>te σ H λx H1=>tl σ H1 λl H2=>th σ H2 λu H3=>r x l u H3 Q
theorem BS(hr:SlR X r)(he:PE X e te)(hl:PO X lo tl)(hu:PO X hi th):PE X (.Subscript e (.Slice lo hi none p2) pos) (tSl r te tl th):=by
 intro 1
 refine Subscript_ (dq (he pins s σ H _ I h) λv s1 ⟨x,H1,I1,r1,q1⟩=>?_)
 refine wpAny_Slice (dq (hl pins s1 σ H1 _ I1 q1) λvl s2 ⟨l,H2,I2,pl,q2⟩=>dq (hu pins s2 σ H2 _ I2 q2) λvu s3 ⟨u,H3,I3,pu,q3⟩=>?_)
 refine aag ?_
 have I4:Inv X pins σ H3 {s3 with heap:=s3.heap.push {cls:=.type "slice",data:=.fields #[vl,vu,.none]}}:=I3.kept (t':=s3.toks) λb ob q=>aaa _ q
 obtain⟨T,id,hT,ht,hg⟩:=hr pins {s3 with heap:=s3.heap.push {cls:=.type "slice",data:=.fields #[vl,vu,.none]}} σ H3 x v vl vu l u s3.heap.objs.size Q I4 r1 (Heap.IsSliceOf.new ..) pl pu q3
 exact tail_any (ops:=[.ref s3.heap.objs.size,v]) ht hT hg (by with_unfolding_all rfl)
def KG(xs:List V)(lo hi:Option Int):List V:=(xs.drop (HT.vL xs.length 0 lo)).take (HT.vL xs.length xs.length hi-HT.vL xs.length 0 lo)
theorem BU(xs:List V)(lo hi:Option Int):(KG xs lo hi).length<=xs.length:=by
 unfold KG
 rw[acb,aeD]
 lia
def QL(K:ao):R2:=λx y H Q=>∃a b xs ys,x=.ref a/\y=.ref b/\kz K H a xs/\kz K H b ys/\xs≠[]/\xs.length+ys.length<=sizeLine/\
 (ys=[]->Q (.ref a) H)/\(ys≠[]->∀p,H p=none->Q (.ref p) (upd H p (.tup (xs++ys))))
theorem bA.ve(r:bA xs us):us=[]↔xs=[]:=by
 cases r with
 |nil=>simp
 |cons _ _=>simp
theorem Of:jP X (binaryOp .Add) (QL X.K):=by
 intro 2
 obtain⟨a,b,xs,ys,rfl,rfl,ha,hb,hx,hz,q1,q2⟩:=h
 cases rx
 cases ry
 obtain⟨its,r1,p1,_⟩:=I.tuple ha
 obtain⟨yc,r2,p2,_⟩:=I.tuple hb
 refine HT.Ob p1 p2 (λz=>hx (r1.ve.mp z)) (λz=>⟨.ref a,H,I,rfl,q1 (r2.ve.mp z)⟩) (λz=>?_) (by rw[<-r1.length,<-r2.length];exact hz)
 refine⟨.ref s.heap.objs.size,_,I.laid (t':=s.toks) (o:=.tup (xs++ys)) (λb ob q=>aaa _ q) (aah _) ?_,rfl,q2 (λw=>z (r2.ve.mpr w)) _ (I.bU.fresh (aah _))⟩
 exact⟨by rw[aak];exact hz,_,r1.append r2,IsTup.new _ _⟩
end
noncomputable def Ib(n:Nat)(i:Int):Option Nat:=if 0<=i then(if i<n then some i.toNat else none)else if -(n:Int)<=i then some (i+n).toNat else none
def so{α:Type}(xs:List α)(i:Int):Option α:=(Ib xs.length i).bind λj=>xs[j]?
theorem Gg(h:Ib n i=some j):seqIndex? i n=some j/\j<n/\-(n:Int)<=i/\i<n:=by
 unfold Ib at h
 by_cases h0:0<=i
 .rw [aav h0]at h;by_cases h1:i<n
  .rw [aav h1]at h;have e:=abH h;exact⟨by rw[seqIndex_of h0 h1,e],by lia,by lia,h1⟩
  .grind
 .rw [aaB h0]at h;by_cases h1:-(n:Int)<=i
  .rw [aav h1]at h;have e:=abH h;exact⟨by rw[seqIndex_neg ⇑2 h1,e],by lia,h1,by lia⟩
  .grind
theorem z4(h:so xs i=some v):∃j,seqIndex? i xs.length=some j/\xs[j]?=some v/\j<xs.length/\-(xs.length:Int)<=i/\i<xs.length:=by
 unfold so at h
 cases e:Ib xs.length i with
 |none=>rw[e]at h;cases h
 |some j=>
   rw[e]at h;obtain⟨h1,h2,h3,h4⟩:=Gg e;exact⟨j,h1,h,h2,h3,h4⟩
theorem fJ{j:Nat}(h:xs[j]?=some v):so xs (j:Int)=some v:=by
 have hj:=(aar.mp h).1
 have e:Ib xs.length (j:Int)=some j:=by
  unfold Ib;rw[aav ⇑2,aav ⇑2];simp
 unfold so;rw[e];exact h
def Gh(b:Expr):Prop:=∀o i,subscripted b false o i=operate [o,i] (getItem o i)
def Og(X:Cx)(r:R2):Prop:=
 ∀(value slice:Expr) (pins:cz) (s:Shared) (σ:St) (H:Hp) (x y:V) (v u:Value) (Q:VK),Inv X pins σ H s->RelV x v->RelV y u->r x y H Q->
   subscripted slice false v u=operate [v,u] (getItem v u)->wpAny ⇑3 X.A (subscriptTail value slice v u) (EP X pins σ Q) X.xe s
def VY(X:Cx)(id:String)(r:V->List V->Hp->VK->Prop):Prop:=
 ∀(pins:cz) (s:Shared) (σ:St) (H:Hp) (x:V) (xs:List V) (v:Value) (us:bZ) (Q:VK),Inv X pins σ H s->RelV x v->bA xs us->r x xs H Q->
   wpAny ⇑3 X.A (call (.builtin id) (v::us)) (EP X pins σ Q) X.xe s
section
variable {X:Cx}{a b:Expr}{ta tb:TE}{pos:Pos}
theorem Og.or(h:Og X r)(h':Og X r'):Og X (λx y H Q=>r x y H Q\/r' x y H Q):=by
 intro value slice pins s σ H x y v u Q I rx ry q hs
 rcases q with q|q
 .exact h value slice pins s σ H x y v u Q I rx ry q hs
 .exact h' value slice pins s σ H x y v u Q I rx ry q hs
theorem XJ(hr:Og X r)(ha:PE X a ta)(hb:PE X b tb)(hs:Gh b):PE X (.Subscript a b pos) (S0 r ta tb):=by
 intro 1
 exact Subscript_ (S4 ha hb I h λv u s2 x y H2 I2 rx ry q=>hr a b pins s2 σ H2 x y v u Q I2 rx ry q (hs _ _))
def XM(K:ao):R2:=λx y H Q=>∃p xs i v,x=.ref p/\y=.int i/\lQ K H p xs/\so xs i=some v/\Q v H
def XN(K:ao):R2:=λx y H Q=>∃p xs i v,x=.ref p/\y=.int i/\kz K H p xs/\so xs i=some v/\Q v H
def XO:R2:=λx y H Q=>∃z i c,x=.str z/\y=.int i/\z.length<=sizeLine/\so z.cps.toList i=some c/\Q (.str ⟨#[c]⟩) H
theorem Oh:Og X (XM X.K):=by
 intro 8
 obtain⟨p,xs,i,z,rfl,rfl,hq,he,q⟩:=h
 cases rx
 obtain⟨t,rfl⟩:=ry
 obtain⟨its,r,pl,hz⟩:=I.list hq
 obtain⟨j,h1,h2,h3,h4,h5⟩:=z4 he
 obtain⟨w,ew,Ic⟩:=r.get h2
 have hl:=r.length
 have hn:=p3
 have fin:EP X pins σ Q w s:=⟨z,H,I,Ic,q⟩
 by_cases h0:0<=i
 .have hj:i.toNat=j:=by
   rw[seqIndex_of h0 h5]at h1;exact abH h1
  exact item_listR pl.isList h0 ⇑2 (by rw[hj];simpa using ew) fin hs
 .have hj:(i+(its.toArray.size:Int)).toNat=j:=by
   rw[seqIndex_neg ⇑2 h4]at h1;rw[aaA,<-hl];exact abH h1
  exact subscriptTail_builtinR (x:=w) pl.isList.typeIs slot_list_getitem.lookup
   (wpAny_getItem_list_neg (Q:=λr s'=>r=w/\EP X pins σ Q r s') pl.isList ⇑2 (by rw[List.size_toArray]<;>lia) ⇑2 (by rw[hj];simpa using ew) ⟨rfl,fin⟩) hs
theorem Tf:Og X (XN X.K):=by
 intro 8
 obtain⟨p,xs,i,z,rfl,rfl,hq,he,q⟩:=h
 cases rx
 obtain⟨t,rfl⟩:=ry
 obtain⟨its,r,pl,hz⟩:=I.tuple hq
 obtain⟨j,h1,h2,h3,h4,h5⟩:=z4 he
 obtain⟨w,ew,Ic⟩:=r.get h2
 have hl:=r.length
 have hn:=p3
 have fin:EP X pins σ Q w s:=⟨z,H,I,Ic,q⟩
 exact subscriptTail_builtinR (x:=w) pl.typeIs slot_tuple_getitem.lookup
  (getItem_tuple (j:=j) (Q:=λr s'=>r=w/\EP X pins σ Q r s') pl ⇑2 ⇑2 (by rw[List.size_toArray,<-hl];exact h1) (by simpa using ew) ⟨rfl,fin⟩) hs
theorem Tg:Og X XO:=by
 intro 8
 obtain⟨z,i,c,rfl,rfl,hz,he,q⟩:=h
 obtain⟨t,rfl⟩:=rx
 obtain⟨t',rfl⟩:=ry
 obtain⟨j,h1,h2,h3,h4,h5⟩:=z4 he
 have hl:z.cps.toList.length=z.length:=by simp[Str.length]
 rw[hl]at h1 h4 h5
 have hn:=p3
 exact tail_any (afE s z t) slot_str_getitem.lookup (getItem_str (c:=c) (by
  have e1:decide (i< -(2^63:Int))=false:=aaG ⇑2;have e2:decide (i >=2^63)=false:=aaG ⇑2;rw[e1,e2,Bool.or_false]) (by rw[h1];simpa using h2) ⟨.str ⟨#[c]⟩,H,I.tok _,⟨_,rfl⟩,q⟩) hs
def rIx(K:ao):R2:=λx y H Q=>XM K x y H Q\/XN K x y H Q\/XO x y H Q
theorem Th:Og X (rIx X.K):=Oh.or (Tf.or Tg)
theorem Ed(its:bZ)(n j:Nat)(u:Value):Obj.mapSeq (·.setIfInBounds j u) ⇑19={cls:=.type "list",data:=.seq (its.set j u).toArray n}:=by
 simp[Obj.mapSeq]
theorem Inv.lst{pins:cz}{σ:St}{H:Hp}{s:Shared}{p:Addr}{xs:List V}(I:⇑1)(h:H p=some (.lst xs)):
  ∃(its:bZ) (n:Nat),bA xs its/\s.heap.get? p=some ⇑19/\xs.length<=sizeLine:=by
 obtain⟨z,its,n,r,e⟩:=I.bU p _ h
 exact⟨its,n,r,e,z⟩
theorem Inv.Ti{its its':bZ}(I:⇑1)(h:H p=some (.lst xs))
  (ho:s.heap.get? p=some ⇑19)(hf:f ⇑19={cls:=.type "list",data:=.seq its'.toArray n'})(r:bA ys its')(hz:ys.length<=sizeLine)(t:Nat):
  Inv X pins σ (upd H p (.lst ys)) {s with heap:=s.heap.update p f,toks:=t}:=by
 have e:(s.heap.update p f).get? p=some {cls:=.type "list",data:=.seq its'.toArray n'}:=by
  rw[abz f ho (by rw[hf]<;>rfl),hf]
 refine I.write (x:=p) (e:=p) (by rw[h];trivial) (.inl rfl) (λb u hb q=>(acz _ _ (acw hb)).trans q) ⟨_,e⟩ ?_
 exact⟨hz,its',n',r,e⟩
def QN:V->V->V->Hp->(Hp->Prop)->Prop:=λo i v H Q=>∃p xs k j,o=.ref p/\i=.int k/\H p=some (.lst xs)/\Ib xs.length k=some j/\Q (upd H p (.lst (xs.set j v)))
theorem set_list:Xq X QN:=by
 intro pins s σ H o i v ov iv u Q I ro ri rv h
 obtain⟨p,xs,k,j,rfl,rfl,hp,hj,q⟩:=h
 cases ro
 obtain⟨t,rfl⟩:=ri
 obtain⟨its,n,r,ho,hz⟩:=I.lst hp
 obtain⟨h1,h2,h3,h4⟩:=Gg hj
 have hl:=r.length
 have hn:=p3
 have I':Inv X pins σ (upd H p (.lst (xs.set j v))) {s with heap:=s.heap.update p (Obj.mapSeq (·.setIfInBounds j u))}:=
  I.Ti hp ho (Ed its n j u) (r.set rv j) (by rw[aca];exact hz) s.toks
 by_cases h0:0<=k
 .have hk:k.toNat=j:=by
   rw[seqIndex_of h0 h4]at h1;exact abH h1
  exact PySem.W.ki_setAt ho h0 ⇑2 (by rw[aaA,<-hl];exact h4) (by rw[hk];exact⟨_,I',q⟩)
 .have hk:(k+(its.toArray.size:Int)).toNat=j:=by
   rw[seqIndex_neg ⇑2 h3]at h1;rw[aaA,<-hl];exact abH h1
  exact PySem.W.ki_setBack ho ⇑2 (by rw[aaA,<-hl];exact h3) ⇑2 (by rw[hk];exact⟨_,I',q⟩)
theorem z6(lo hi:Option Int)(n:Nat):(sliceBounds lo hi none n).1=((HT.vL n 0 lo:Nat):Int)/\(sliceBounds lo hi none n).2.1=((HT.vL n n hi:Nat):Int)/\(sliceBounds lo hi none n).2.2=1:=by
 refine⟨?_,?_,rfl⟩
 .cases lo with
  |none=>simp[sliceBounds,HT.vL]
  |some i=>
    simp only[sliceBounds,HT.vL];by_cases h:i<0;.grind
    .grind
 .cases hi with
  |none=>simp[sliceBounds,HT.vL]
  |some i=>
    simp only[sliceBounds,HT.vL];by_cases h:i<0;.grind
    .grind
theorem yd(its:bZ)(lo hi:Option Int):slicePick its.toArray lo hi none=((its.drop (HT.vL its.length 0 lo)).take (HT.vL its.length its.length hi-HT.vL its.length 0 lo)).toArray:=by
 obtain⟨h1,h2,h3⟩:=z6 lo hi its.toArray.size
 unfold slicePick
 rw[h1,h2,h3]
 simp only[sliceRange_one,pick_run]<;>rfl
def aa5(K:ao):V->Option Int->Option Int->Hp->VK->Prop:=λx lo hi H Q=>∃a xs,x=.ref a/\lQ K H a xs/\∀p,H p=none->Q (.ref p) (upd H p (.lst (KG xs lo hi)))
theorem Oi:SlR X (aa5 X.K):=by
 intro pins s σ H x v vl vu lo hi sl Q I rx hs pl pu h
 obtain⟨a,xs,rfl,hx,q⟩:=h
 cases rx
 obtain⟨its,r,ht,hz⟩:=I.list hx
 have hlen:=r.length
 refine⟨"list",_,slot_list_getitem.lookup,ht.isList.typeIs,?_⟩
 refine wpAny_getItem_list_slice ht.isList hs pl pu .none ⇑11 ?_ (by rw[aaA]<;>lia)
 rw[yd,<-hlen]
 refine⟨.ref s.heap.objs.size,_,I.laid (t':=s.toks) (o:=.lst (KG xs lo hi)) (λb ob q=>aaa _ q) (aah _) ?_,rfl,q _ (I.bU.fresh (aah _))⟩
 exact⟨aa6 (BU xs lo hi) hz,_,0,(r.drop (HT.vL xs.length 0 lo)).take (HT.vL xs.length xs.length hi-HT.vL xs.length 0 lo),aae _ rfl⟩
def mX:V->Bool
 |.iu=>true
 |.bl _=>true
 |.int _=>true
 |.str _=>true
 |_=>false
noncomputable def Oj:V->V->Bool
 |.iu,.iu=>true
 |.bl a,.bl b=>a==b
 |.bl a,.int b=>(if a then 1 else 0)==b
 |.int a,.bl b=>a==(if b then 1 else 0)
 |.int a,.int b=>a==b
 |.str a,.str b=>a==b
 |_,_=>false
theorem Tj(ry:RelV y u)(rx:RelV x v)(fy:mX y=true)(fx:mX x=true):SeqAt.EqAt A s u v (Oj y x):=by
 cases y with
 |iu=>
   cases ry;cases x with
   |iu=>cases rx;exact SeqAt.EqAt.same _
   |bl b=>cases rx;exact SeqAt.EqAt.none_bool b
   |int b=>obtain⟨t,rfl⟩:=rx;exact SeqAt.EqAt.none_int b t
   |str b=>obtain⟨t,rfl⟩:=rx;exact SeqAt.EqAt.none_str b t
   |_=>exact absurd (show false=true from fx) aaV
 |bl a=>
   cases ry;cases x with
   |iu=>cases rx;exact SeqAt.EqAt.bool_none a
   |bl b=>cases rx;exact SeqAt.EqAt.bool_bool a b
   |int b=>obtain⟨t,rfl⟩:=rx;exact SeqAt.EqAt.bool_int a b t
   |str b=>obtain⟨t,rfl⟩:=rx;exact SeqAt.EqAt.bool_str a b t
   |_=>exact absurd (show false=true from fx) aaV
 |int a=>
   obtain⟨t',rfl⟩:=ry;cases x with
   |iu=>cases rx;exact SeqAt.EqAt.int_none a t'
   |bl b=>cases rx;exact SeqAt.EqAt.int_bool a t' b
   |int b=>obtain⟨t,rfl⟩:=rx;exact SeqAt.EqAt.int_int a t' b t
   |str b=>obtain⟨t,rfl⟩:=rx;exact SeqAt.EqAt.int_str a t' b t
   |_=>exact absurd (show false=true from fx) aaV
 |str a=>
   obtain⟨t',rfl⟩:=ry;cases x with
   |iu=>cases rx;exact SeqAt.EqAt.str_none a t'
   |bl b=>cases rx;exact SeqAt.EqAt.str_bool a t' b
   |int b=>obtain⟨t,rfl⟩:=rx;exact SeqAt.EqAt.str_int a t' b t
   |str b=>obtain⟨t,rfl⟩:=rx;exact SeqAt.EqAt.str_str a t' b t
   |_=>exact absurd (show false=true from fx) aaV
 |_=>exact absurd (show false=true from fy) aaV
def Ee(x:V)(u:Value):Bool:=match u with
 |.none=>Oj .iu x
 |.bool b=>Oj (.bl b) x
 |.int i _=>Oj (.int i) x
 |.str z _=>Oj (.str z) x
 |_=>false
theorem KH(r:RelV y u)(f:mX y=true):Ee x u=Oj y x:=by
 cases y with
 |iu=>cases r;rfl
 |bl b=>cases r;rfl
 |int i=>obtain⟨t,rfl⟩:=r;rfl
 |str z=>obtain⟨t,rfl⟩:=r;rfl
 |_=>exact absurd (show false=true from f) aaV
theorem rf:∀{xs:List V} {us:bZ},bA xs us->xs.all mX=true->us.any (Ee x)=xs.any λy=>Oj y x
 |_,_,.nil,_=>rfl
 |y::xs,u::us,.cons r t,f=>by
   rw[aeO,aaX]at f;rw[aeP,aeP,KH r f.1,rf t f.2]
theorem nv(rx:RelV x v)(fx:mX x=true):∀{xs:List V} {us:bZ},bA xs us->xs.all mX=true->∀u∈us,SeqAt.EqAt A s u v (Ee x u)
 |_,_,.nil,_=>λu hu=>by cases hu
 |y::xs,u::us,.cons r t,f=>λu' hu=>by
   rw[aeO,aaX]at f;rcases aaj.mp hu with rfl|hu;.rw [KH r f.1];exact Tj r rx f.1 fx
   .exact nv rx fx t f.2 u' hu
def XQ(x:V)(xs:List V):Bool:=xs.any λy=>Oj y x
def VZ(K:ao)(neg:Bool):R2:=λx y H Q=>∃p xs,y=.ref p/\(lQ K H p xs\/kz K H p xs)/\mX x=true/\xs.all mX=true/\Q (.bl (if neg then !XQ x xs else XQ x xs)) H
theorem Ie:jP X (compareOp .In) (VZ X.K false):=by
 intro 2
 obtain⟨p,xs,rfl,hq,fx,fs,q⟩:=h
 cases ry
 rcases hq with hq|hq
 .obtain ⟨its,r,pl,hz⟩:=I.list hq;refine SeqAt.in_listAt (Ee x) pl.isList (λw hw=>nv rx fx r fs w (by simpa using hw)) ⟨.bl _,H,I,rfl,?_⟩;rw[show its.toArray.any (Ee x)=its.any (Ee x)by simp,rf r fs];exact q
 .obtain ⟨its,r,pl,hz⟩:=I.tuple hq;refine SeqAt.in_tupleAt (Ee x) pl (λw hw=>nv rx fx r fs w (by simpa using hw)) ⟨.bl _,H,I,rfl,?_⟩;rw[show its.toArray.any (Ee x)=its.any (Ee x)by simp,rf r fs];exact q
theorem z8:jP X (compareOp .NotIn) (VZ X.K true):=by
 intro 2
 obtain⟨p,xs,rfl,hq,fx,fs,q⟩:=h
 cases ry
 rcases hq with hq|hq
 .obtain ⟨its,r,pl,hz⟩:=I.list hq;refine SeqAt.notIn_listAt (Ee x) pl.isList (λw hw=>nv rx fx r fs w (by simpa using hw)) ⟨.bl _,H,I,rfl,?_⟩;rw[show its.toArray.any (Ee x)=its.any (Ee x)by simp,rf r fs];exact q
 .obtain ⟨its,r,pl,hz⟩:=I.tuple hq;refine SeqAt.notIn_tupleAt (Ee x) pl (λw hw=>nv rx fx r fs w (by simpa using hw)) ⟨.bl _,H,I,rfl,?_⟩;rw[show its.toArray.any (Ee x)=its.any (Ee x)by simp,rf r fs];exact q
theorem z9:fH X (.builtin "len") (λxs H Q=>∃p ys,xs=[.ref p]/\(lQ X.K H p ys\/kz X.K H p ys)/\Q (.int ys.length) H):=by
 intro 3
 obtain⟨p,ys,rfl,hq,q⟩:=h
 obtain⟨u,rfl,rx⟩:=vals1 r
 cases rx
 have hn:=p3
 rcases hq with hq|hq
 .obtain ⟨its,r',pl,hz⟩:=I.list hq;have hlen:=r'.length;exact Calls.call_len_list pl.isList (by simp only[aaA]<;>lia) ⟨.int ys.length,H,I.tok _,⟨s.toks+1,by rw[aaA,hlen]⟩,q⟩
 .obtain ⟨its,r',pl,hz⟩:=I.tuple hq;have hlen:=r'.length;exact len_tuple pl (by simp only[aaA]<;>lia) ⟨.int ys.length,H,I.tok _,⟨s.toks+1,by rw[aaA,hlen]⟩,q⟩
theorem Aa:fH X (.builtin "len") (λxs H Q=>∃z,xs=[.str z]/\z.length<=sizeLine/\Q (.int z.length) H):=by
 intro 3
 obtain⟨z,rfl,hz,q⟩:=h
 obtain⟨u,rfl,t,rfl⟩:=vals1 r
 have hn:=p3
 exact len_str ⇑2 ⟨.int z.length,H,I.tok _,⟨_,rfl⟩,q⟩
theorem fH.or(h:fH X f r)(h':fH X f r'):fH X f (λxs H Q=>r xs H Q\/r' xs H Q):=by
 intro pins s σ H xs us Q I rs q
 rcases q with q|q
 .exact h pins s σ H xs us Q I rs q
 .exact h' pins s σ H xs us Q I rs q
theorem lW:fH X (.type "list") (λxs H Q=>∃p ys,xs=[.ref p]/\(lQ X.K H p ys\/kz X.K H p ys)/\∀l,H l=none->Q (.ref l) (upd H l (.lst ys))):=by
 intro 3
 obtain⟨p,ys,rfl,hq,q⟩:=h
 obtain⟨u,rfl,rx⟩:=vals1 r
 cases rx
 have fin:∀(its:bZ),bA ys its->ys.length<=sizeLine->∀(h':Heap) (c':Nat),(∀b o',s.heap.get? b=some o'->h'.get? b=some o')->
   h'.get? s.heap.objs.size=some {cls:=.type "list",dict:=none,data:=.seq its.toArray c',slots:=#[]}->EP X pins σ Q ⇑25 {s with heap:=h'}:=λits r' hz h' c' kp e=>
  ⟨.ref s.heap.objs.size,_,I.laid (t':=s.toks) kp (aah _) (show cP X.prog X.w _ h' _ (.lst ys)from⟨hz,its,c',r',e⟩),rfl,q _ (I.bU.fresh (aah _))⟩
 rcases hq with hq|hq
 .obtain ⟨its,r',pl,hz⟩:=I.list hq;have hlen:=r'.length;obtain⟨o,ho,hc,n,hd⟩:=pl.isList;exact call_list_seq p (.inl rfl) ho hc hd (λh' c' kp e=>fin its r' hz h' c' kp e) (by simp only[aaA]<;>lia)
 .obtain ⟨its,r',pl,hz⟩:=I.tuple hq;have hlen:=r'.length;obtain⟨o,ho,hc,n,hd⟩:=pl;exact call_list_seq p (.inr rfl) ho hc hd (λh' c' kp e=>fin its r' hz h' c' kp e) (by simp only[aaA]<;>lia)
theorem dG:fH X (.type "tuple") (λxs H Q=>∃p ys,xs=[.ref p]/\((lQ X.K H p ys/\∀l,H l=none->Q (.ref l) (upd H l (.tup ys)))\/(kz X.K H p ys/\Q (.ref p) H))):=by
 intro 3
 obtain⟨p,ys,rfl,h⟩:=h
 obtain⟨u,rfl,rx⟩:=vals1 r
 cases rx
 rcases h with⟨hq,q⟩|⟨hq,q⟩
 .obtain ⟨its,r',pl,hz⟩:=I.list hq;have hlen:=r'.length;refine call_tuple_list pl.isList (λh' kp=>?_) (by simp only[aaA]<;>lia);have I1:=I.kept (t':=s.toks) kp;have I2:Inv X pins σ (upd H h'.objs.size (.tup ys)) {s with heap:=h'.push {cls:=.type "tuple",data:=.seq its.toArray}}:=
   I1.laid (t':=s.toks) (λb o e=>aaa _ e) (aah _) (show cP X.prog X.w _ _ _ (.tup ys)from⟨hz,its,r',IsTup.new _ _⟩);exact⟨.ref h'.objs.size,_,I2,rfl,q _ (I1.bU.fresh (aah _))⟩
 .obtain ⟨its,r',pl,hz⟩:=I.tuple hq;exact call_tuple_same pl ⟨.ref p,H,I,rfl,q⟩
def tyV(K:ao)(T:String)(x:V)(H:Hp):Prop:=match x with
 |.str _=>T="str"
 |.int _=>T="int"
 |.ref p=>(T="list"/\∃xs,lQ K H p xs)\/(T="tuple"/\∃o,K.lookup p=some o/\o.cls=.type "tuple"/\o.dict=none)\/
   (T="dict"/\((∃bb,H p=some (.dK bb))\/∃bb,H p=some (.dT bb)))\/(T="set"/\∃S n,H p=some (.set S n))
 |_=>False
theorem Tn(I:⇑1)(r:RelV x v)(ty:tyV X.K T x H):
  s.TypeIs v T/\∀a,v=.ref a->∃ob,s.heap.get? a=some ob/\ob.dict=none:=by
 cases x with
 |str z=>
   obtain⟨t,rfl⟩:=r;cases(show T="str" from ty);exact⟨afE s z t,λ_ e=>nomatch e⟩
 |int i=>
   obtain⟨t,rfl⟩:=r;cases(show T="int" from ty);exact⟨typeIs_int s i t,λ_ e=>nomatch e⟩
 |ref p=>
   cases r;rcases ty with⟨rfl,xs,hq⟩|⟨rfl,o,hk,hc,hd⟩|⟨rfl,hk⟩|⟨rfl,S,n,hk⟩
   .obtain ⟨its,_,pl,_⟩:=I.list hq;refine⟨pl.isList.typeIs,λa e=>?_⟩;cases e;obtain⟨o,n,e,c,hd,_⟩:=pl;exact⟨o,e,hd⟩
   .refine ⟨⟨o,I.mV p o hk,hc⟩,λa e=>?_⟩;cases e;exact⟨o,I.mV _ o hk,hd⟩
   .have z:∃o,s.heap.get? p=some o/\o.ExactDict:=by
     rcases hk with⟨bb,hk⟩|⟨bb,hk⟩;.obtain ⟨_,_,_,_,o,_,_,e,ex,_⟩:=I.bU p _ hk;exact⟨o,e,ex⟩
     .obtain ⟨_,_,_,_,o,_,_,e,ex,_⟩:=I.bU p _ hk;exact⟨o,e,ex⟩
    obtain⟨o,e,ex⟩:=z;refine⟨⟨o,e,ex.1⟩,λa e2=>?_⟩;cases e2;exact⟨o,e,ex.2.1⟩
   .obtain ⟨o,_,_,_,e,ex,_⟩:=I.bU p _ hk;refine⟨⟨o,e,ex.1⟩,λa e2=>?_⟩;cases e2;exact⟨o,e,ex.2.1⟩
 |_=>exact False.elim ty
def tBM(K:ao)(T:String)(r:V->List V->Hp->VK->Prop)(to:TE)(t:TA):TE:=λ7=>to σ H λx H1=>tyV K T x H1/\t σ H1 λxs H2=>r x xs H2 Q
variable {o e:Expr}{es:List Expr}{to:TE}{t:TA}{name:Str}{apos fE:Pos}{T id:String}{r:V->List V->Hp->VK->Prop}
theorem iR(pa:PlainAttrs T)(slot:Slot T name id)(hty:typeOf (.builtin id)=pure (.type "method_descriptor"))(hm:VY X id r)(ho:PE X o to)(ha:PA X (e::es) t)
  (rh:attributeBase o name X.env (eval o X.env)=eval o X.env:=by rfl)
  (Ab:((backTo fE (starEach (e::es) X.env)).all (λx=> !x.1)&&(backToKw fE (keywordEach [] X.env)).all (λx=>x.1.isSome)
   &&decide ((e::es).length+([]:List Keyword).length+(if([]:List Keyword).isEmpty then 0 else 1)<30))=true:=by rfl)
  (rj:(apos.endLine==fE.line)=true:=by rfl)(hs:starEach (e::es) X.env=⇑18::starEach es X.env:=by rfl)(To:(backTo fE (starEach es X.env)).any (·.1)=false:=by rfl):
  PE X (.Call (.Attribute o name apos) (e::es) [] fE) (tBM X.K T r to t):=by
 intro 1
 refine wpAny_Call_method_late rh Ab rj rfl (dq (ho pins s σ H _ I h) λv s1 ⟨x,H1,I1,r1,ty,q1⟩=>?_)
 obtain⟨h1,h2⟩:=Tn I1 r1 ty
 refine⟨T,id,pa,slot,hty,h1,h2,?_⟩
 have hA:=ha fE pins s1 σ H1 _ I1 q1
 rw[hs]at hA ⊢
 refine Calls.callWith_builtin (by show(false||(backTo fE (starEach es X.env)).any (·.1))=false;rw[To]<;>rfl) (Calls.evalArgs_plain ?_)
 exact dq hA λus s2 ⟨vs,H2,I2,r2,q2⟩=>hm pins s2 σ H2 x vs v us Q I2 r1 r2 q2
/- xs.append(e),list.index on a module's tuple .. are VY facts of 06m -/
end
def MtM(X:Cx)(id:String)(r:V->List V->Hp->VK->Prop):Prop:=
 ∀(pins:cz) (s:Shared) (σ:St) (H:Hp) (x:V) (xs:List V) (v:Value) (us:bZ) (Q:VK),Inv X pins σ H s->RelV x v->bA xs us->r x xs H Q->
   wpAny ⇑3 X.A (call (.builtin id) (v::us)) (EP X pins σ Q) X.xe s
theorem bA.one:∀{x:V} {us:bZ},bA [x] us->∃u,us=[u]/\RelV x u
 |_,_,.cons r .nil=>⟨_,rfl,r⟩
theorem bA.two:∀{x y:V} {us:bZ},bA [x,y] us->∃u v,us=[u,v]/\RelV x u/\RelV y v
 |_,_,_,.cons r (.cons q .nil)=>⟨_,_,rfl,r,q⟩
section
variable {X:Cx}{pins:cz}{σ:St}{H:Hp}{s:Shared}{l:Addr}{xs ys:List V}
theorem Inv.XR{its its':bZ}(I:⇑1)(hH:H l=some (.lst xs))
  (e:s.heap.get? l=some ⇑19)(hf:f its.toArray=its'.toArray)(hv:bA ys its')(hz:ys.length<=sizeLine):
  Inv X pins σ (upd H l (.lst ys)) {s with heap:=s.heap.update l (Obj.mapSeq f),toks:=t'}:=by
 have q:=PySem.IsL.update e f
 rw[hf]at q
 refine I.write (x:=l) (e:=l) (by rw[hH];exact trivial) (.inl rfl) (λb' u hb hu=>(acz s.heap (Obj.mapSeq f) (acw hb)).trans hu) ⟨_,q⟩ ?_
 exact⟨hz,its',_,hv,q⟩
theorem Inv.aa7(I:⇑1)(hv:bA ys its)(hz:ys.length<=sizeLine):
  Inv X pins σ (upd H s.heap.objs.size (.lst ys)) {s with heap:=s.heap.push {cls:=.type "list",data:=.seq its.toArray},toks:=t'}:=
 I.laid (λ_ _ q=>aaa _ q) (aah _) ⟨hz,its,0,hv,aae _ rfl⟩
theorem Inv.fresh(I:⇑1):H s.heap.objs.size=none:=I.bU.fresh (aah _)
theorem Inv.Tp(I:⇑1)(hH:H l=some (.lst xs)):xs.length<=sizeLine/\∃(its:bZ) (n:Nat),bA xs its/\xs.length=its.length/\s.heap.get? l=some ⇑19:=by
 obtain⟨z,its,n,r,e⟩:=I.bU l _ hH
 exact⟨z,its,n,r,r.length,e⟩
theorem KI(h:n<=sizeLine):Builtin.List.listTooLong n=false:=by
 exact aaG ⇑2
end
section
variable {X:Cx}
def Gi:V->List V->Hp->VK->Prop:=λx vs H Q=>∃l xs y,x=.ref l/\vs=[y]/\H l=some (.lst xs)/\xs.length<sizeLine/\Q .iu (upd H l (.lst (xs++[y])))
theorem fj:MtM X "list.append" Gi:=by
 intro 7
 obtain⟨l,xs,y,rfl,rfl,hH,hz,q⟩:=h
 cases rx
 obtain⟨u,rfl,ru⟩:=rv.one
 obtain⟨z,its,n,r,hl,e⟩:=I.Tp hH
 refine afF abg ⟨_,e,rfl⟩ F.entry_list_append (F.args_list_append_2 _ _) (PySem.list_append l its.toArray n u (by rw[aaA];lia)) ⟨e,?_⟩
 refine⟨.iu,_,I.XR (its':=its++[u]) hH e ⇑11 (r.append (.cons ru .nil)) ?_,rfl,q⟩
 rw[aak,aaW]
 lia
def Gj:V->List V->Hp->VK->Prop:=λx vs H Q=>∃l b xs zs,x=.ref l/\vs=[.ref b]/\H l=some (.lst xs)/\H b=some (.lst zs)/\xs.length+zs.length<=sizeLine/\Q .iu (upd H l (.lst (xs++zs)))
theorem sF:MtM X "list.extend" Gj:=by
 intro 7
 obtain⟨l,b,xs,zs,rfl,rfl,hH,hB,hz,q⟩:=h
 cases rx
 obtain⟨u,rfl,ru⟩:=rv.one
 cases ru
 obtain⟨z,its,n,r,hl,e⟩:=I.Tp hH
 obtain⟨z2,yc,n2,r2,Tq,e2⟩:=I.Tp hB
 have hsz:its.toArray.size+yc.toArray.size<=sizeLine:=by rw[aaA,aaA];lia
 have XS:¬(!its.toArray.isEmpty&&Builtin.List.listTooLong (its.toArray.size+yc.toArray.size))=true:=by
  rw[KI hsz,afG];exact aaV
 refine afF ae6 ⟨_,e,rfl⟩ F.entry_list_extend (F.args_list_extend_2 _ _)
  (AutoSeq1.list_extend_list_list_0 l its.toArray n b yc.toArray n2 XS (by rw[aaA];lia) ⇑2) ⟨e,e2,?_⟩
 refine⟨.iu,_,I.XR (its':=its++yc) hH e ⇑11 (r.append r2) ?_,rfl,q⟩
 rw[aak]
 lia
end
section
end
section
end
end L2
namespace Att
open PySem PySem.W PySem.Calls PyProof.Rows
theorem uF:∀(ns:List Int) (vs:bZ),WellAll P h vs (ns.map WData.int)->IntsAre vs ns:=by
 intro ns
 induction ns with
 |nil=>
   intro vs w;cases w;exact .nil
 |cons n ns ih=>
   intro vs w;cases w with
   |cons a b=>
     cases a;exact .cons _ _ (ih _ b)
theorem Ig{l:OpenLaw}(hn:l.most=some n) 
  (Ol:l.row.toRowW.claim.pre args=true)(Z1:WellAll P h vals args):
  ∃a vs ns,vals=[Value.ref a]/\args=[WData.list (ns.map WData.int)]/\h.get? a=some {cls:=.type "list",data:=.seq vs.toArray}/\IntsAre vs ns/\ns.length<=n:=by
 have hsh:=(pre_splitW Ol).1
 have hc:=(pre_splitW Ol).2
 obtain⟨d,r,rfl,h1,h2⟩:=hasAllW_cons hsh
 obtain rfl:=hasAllW_nil h2
 obtain⟨xs,rfl,h3⟩:=hasW_list h1
 obtain⟨ns,rfl⟩:=items_int h3
 have hlen:ns.length<=n:=by
  have h4:(WTm.not (.lt (.lit (.int (n:Int))) (.len (.arg 0)))).holds [] {args:=[.list (ns.map .int)]}=true:=by
   have h4:=(holds_andW hc).1;rw[hn]at h4;exact h4
  have h5:=condW_of h4 (w_not (w_lt w_lit (w_len_list (w_arg rfl))));first
   |(rw[aaq q']at h5;exact absurd h5 ⇑0)
   |(simp at h5;lia)
 cases Z1 with
 |cons w1 w2=>
   cases w2;cases w1 with
   |list ho Tr=>exact⟨_,_,ns,rfl,rfl,ho,uF ns _ Tr,hlen⟩
theorem Ih(l:OpenLaw)(args:List WData):l.row.toRowW.claim.post args (.bool true) args=true:=
 postW_of (r:=l.row.toRowW) (X:=(true==true))
  (show WShape.has [] (.bool true) .bool=true by first|rfl|decide|simp[WShape.has])
  (show(WTm.eq .res (.lit (.bool true))).value [] {args:=args,res:=some (.bool true),after:=args}=some (.bool (true==true))from w_eq_bool (w_res rfl) w_lit) rfl
theorem BV{l:OpenLaw} 
  (hn:l.most=some n)(XT:d.params.defaults=[])
  (call:∀(w:World) (ip bV:Shared) (mg mb:eQ) (fa:Addr) (o:Obj) (pm cd doc:Value) (a:Addr) (vs:bZ) (ns:List Int),
   Ground q loose [] XP w ip mg mb bV.heap->YP w bV.heap->
   bV.heap.get? fa=some o->o.data=.func (docDef d.name d.params d.body d.scope pm cd doc)->bV.heap.CodeRec cd d.name->mg d.name=some (.ref fa)->
   bV.heap.get? a=some {cls:=.type "list",data:=.seq vs.toArray}->IntsAre vs ns->ns.length<=n->bV.gens=#[]->
   codeAny (model l.prog w) callerA (.call (.ref fa) ⟨[.ref a],[]⟩) (λr s'=>r=.ok (.ret (.bool true))/\OldK bV.heap s'.heap/\s'.os=bV.os/\AllBare s'.gens) bV):
  WalkO q loose XP YP l.row.toRowW d [] (λf vs=>PySem.call f vs):=by
 intro w ip bV mg mb G Y fa o pm cd doc dV kV ho hd vb hD XU hg args vals as Ol afK hrd Z1 hlo
 obtain rfl:dV=.none:=Dflts.none hD XT
 obtain rfl:kV=.none:=Dflts.noKw hD
 obtain⟨a,vs,ns,rfl,rfl,ye,hints,hlen⟩:=Ig hn Ol Z1
 refine enter_call (adO (call w ip bV mg mb fa o pm cd doc a vs ns G Y ho (fd_plain hd) vb XU ye hints hlen hg) λr s' hq=>?_)
 obtain⟨rfl,h2,h3,h4⟩:=hq
 exact⟨.inl ⟨.bool true,.bool true,[],rfl,λ_=>rfl,.bool true,Ih l _,λ_=>⟨List.Pairwise.nil,λ_ hm=>(nomatch hm)⟩⟩,h2,h3,h4⟩
section
end
end Att
namespace L2
open PySem PySem.Spec PyProof.Rows
theorem zk:∀{vs:bZ} {ns:List Int},IntsAre vs ns->bA (ns.map V.int) vs
 |_,_,.nil=>.nil
 |_,_,.cons n t h=>.cons ⟨t,rfl⟩ (zk h)
def BE(K:ao)(H:Hp)(a:Addr)(xs:List V):Prop:=
 Rd H a (.lst xs)\/∃(its:bZ) (n:Nat),K.lookup a=some ⇑19/\its.length<=sizeLine/\bA xs its
abbrev lR:Td:=λ1=>False
abbrev E0:XK:=λ_ _ _=>False
theorem Gk{X:Cx}:sD lR X E0:=λ_ _ _ _ _ _ _ h=>h.elim
structure uG(K:ao)(x qual:Str)(st:Stmt)(f:Addr)(fd:FuncData):Prop where
 ex:∃(oc:Value) (od:Option Addr) (kV doc pm:Value) (an:Option Addr) (de ct:Value) (Oa:Array (Option Value)),
  fd=PySem.W.fnOf x qual (dZ st) (cf st) (ah st) .none kV doc pm an de ct/\K.lookup f=some ⟨oc,od,.func fd,Oa⟩/\PySem.W.codeIn K de qual=true
 kp:PySem.W.keepIn K (.ref f)=true
section
variable {P:Program}{w:World}{K:ao}{mg:eQ}{base:Heap}
theorem uG.ok{st:Stmt}(F:uG K x qual st f fd)(S:az N ps (ah st))(len:∀vs H Q E,sp vs H Q E->vs.length=ps.length)
  (gE:∀(de:Value) (A:Around) (outer:List Env) (s:Shared) (H:Hp) (vs:List V) (Q:VK) (E:XK),cW k (A.deeper (envOfC qual (ah st) s.heap.objs.size f de))->sp vs H Q E->
   ∃t,iP (rb lR P w K mg base N qual (ah st) f de A outer s H E).BM (cf st) t/\t {nx:=λ_ H'=>Q .iu H',rt:=Q} (start N vs) H):jR P w K mg base lR (k+1) f fd ps sp:=by
 obtain⟨oc,od,kV,doc,pm,an,de,ct,Oa,rfl,lk,vb⟩:=F.ex
 refine QK lk vb S len λA outer s H vs Q E hr xQ=>?_
 obtain⟨t,h,q⟩:=gE de A outer s H vs Q E hr xQ
 exact⟨t,h.BM,q⟩
theorem uG.binds{st:Stmt}(F:uG K x qual st f fd)
  (h:∀(kV doc pm:Value) (an:Option Addr) (de ct:Value) (us:bZ),us.length=ps.length->bindArgs (PySem.W.fnOf x qual (dZ st) (cf st) (ah st) .none kV doc pm an de ct) ⟨us,[]⟩=pure (ps.zip us)):Binds K fd ps []:=by
 obtain⟨oc,od,kV,doc,pm,an,de,ct,Oa,rfl,lk,vb⟩:=F.ex
 exact .all (h kV doc pm an de ct)
theorem dH{st:Stmt}{kV doc pm de ct:Value}(l:K.lookup f=some ⟨oc,od,.func (PySem.W.fnOf x qual (dZ st) (cf st) (ah st) .none kV doc pm an de ct),Oa⟩)
  (c:PySem.W.codeIn K de qual=true)(k:PySem.W.keepIn K (.ref f)=true):uG K x qual st f (PySem.W.fnOf x qual (dZ st) (cf st) (ah st) .none kV doc pm an de ct):=⟨⟨oc,od,kV,doc,pm,an,de,ct,Oa,rfl,l,c⟩,k⟩
end
def Ii:Option NameKind->Bool
 |some .local=>true
 |some .cell=>true
 |some .free=>true
 |_=>false
theorem Ef(h:Ii (sc.names.lookup x)=true):VU sc x:=by
 unfold VU
 cases e:sc.names.lookup x with
 |none=>rw[e]at h;cases h
 |some k=>
   rw[e]at h;cases k<;>first|exact .inl rfl|exact .inr (.inl rfl)|exact .inr (.inr rfl)|cases h
section
variable {X:Cx}
theorem pv(i:Nat)(hN:X.N[i]?=some x:=by rfl)(hv:Ii (X.env.scope.names.lookup x)=true:=by rfl)(hd:⇑5:=by decide)
  (vb:(x==("__classdict__":Str))=false:=by decide):PE X (.Name x pos) (kU i):=DV hN (Ef hv) hd vb
end
def aG(H H':Hp):Prop:=∀b o,H b=some o->H' b=some o
theorem aG.refl(H:Hp):aG H H:=λ_ _ h=>h
theorem aG.trans(a:aG H H1)(b:aG H1 H2):aG H H2:=λc o h=>b c o (a c o h)
theorem aG.free(e:aG H H')(h:H' l=Option.none):H l=Option.none:=by
 cases q:H l with
 |none=>rfl
 |some o=>
   rw[e l o q]at h;cases h
section
variable {κ:Type}[DecidableEq κ]
noncomputable def nc(bb:List (κ×V))(k:κ):Option V:=(bb.find? λkv=>decide (kv.1=k)).map (·.2)
noncomputable def putK(bb:List (κ×V))(k:κ)(v:V):List (κ×V):=
 if(bb.any λkv=>decide (kv.1=k))=true then bb.map (λkv=>if kv.1=k then(kv.1,v)else kv)else bb++[(k,v)]
theorem ny{k:κ}(e:p.1=k):nc (p::r) k=some p.2:=by simp[nc,e]
theorem nz{k:κ}(e:¬p.1=k):nc (p::r) k=nc r k:=by simp[nc,e]
theorem vM(k:κ):∀bb:List (κ×V),(bb.any λkv=>decide (kv.1=k))=(nc bb k).isSome
 |[]=>rfl
 |p::r=>by
   rw[aeP];by_cases e:p.1=k;.simp only[ny e,aaq e,Bool.true_or,Option.isSome_some]
   .rw [nz e,aaG e,Bool.false_or];exact vM k r
theorem um(bb:List (κ×V))(k:κ)(v:V):(putK bb k v).length<=bb.length+1:=by
 unfold putK
 split
 .grind
 .grind
theorem lS.sG(r:lS o u):o.isSome=u.isSome:=by
 cases o with
 |none=>cases u with
   |none=>rfl
   |some _=>exact(show False from r).elim
 |some _=>cases u with
   |none=>exact(show False from r).elim
   |some _=>rfl
theorem lS.getD(r:lS o u)(rd:RelV d d'):RelV (o.getD d) (u.getD d'):=by
 cases o with
 |none=>cases u with
   |none=>exact rd
   |some _=>exact(show False from r).elim
 |some _=>cases u with
   |none=>exact(show False from r).elim
   |some _=>exact r
theorem KV.val(r:KV bb vs)(k:κ):lS (nc bb k) (valueAt vs k):=by
 induction r with
 |nil=>exact True.intro
 |@cons p q ps qs h t ih=>
   obtain⟨h1,h2⟩:=h;by_cases e:p.1=k
   .have e':q.1=k:=h1.symm.trans e;have b:valueAt (q::qs) k=some q.2:=by simp[valueAt,e']
    rw[ny e,b];exact h2
   .have e':¬q.1=k:=λz=>e (h1.trans z);have b:valueAt (q::qs) k=valueAt qs k:=by simp[valueAt,e']
    rw[nz e,b];exact ih
theorem KV.any(r:KV bb vs)(k:κ):(bb.any λkv=>decide (kv.1=k))=vs.any λkv=>decide (kv.1=k):=by
 induction r with
 |nil=>rfl
 |cons h t ih=>rw[aeP,aeP,ih,h.1]
theorem KV.Ts(r:KV bb vs)(k:κ)(ry:RelV y u):
  KV (bb.map λkv=>if kv.1=k then(kv.1,y)else kv) (vs.map λkv=>if kv.1=k then(kv.1,u)else kv):=by
 induction r with
 |nil=>exact .nil
 |@cons p q ps qs h t ih=>
   refine .cons ?_ ih;by_cases e:p.1=k;.grind
   .grind
theorem KV.put(r:KV bb vs)(k:κ)(ry:RelV y u):KV (putK bb k y) (stored vs k u):=by
 unfold putK stored
 rw[r.any k]
 by_cases e:(vs.any λkv=>decide (kv.1=k))=true
 .rw [aav e,aav e];exact r.Ts k ry
 .rw [aaB e,aaB e];exact Paired.snoc r ⟨rfl,ry⟩
theorem KV.length{vs:List (κ×Value)}(r:KV bb vs):bb.length=vs.length:=Paired.length r
end
theorem uo(r:RelV (kV k) u):(cZ P w).is k u=true:=by
 cases k with
 |inl i=>obtain⟨t,e⟩:=(show ∃t,u=Value.int i t from r);subst e;exact BG P w i t
 |inr x=>obtain⟨t,e⟩:=(show ∃t,u=Value.str x t from r);subst e;exact BH P w x t
theorem zl:∀{ks:List Key} {us:bZ},bA (ks.map kV) us->ItemsAre (cZ P w) ks us
 |[],_,r=>by rw[agj]at r;cases r;exact .nil
 |k::ks,_,r=>by
   cases r with
   |cons h t=>exact .cons (uo h) (zl t)
abbrev KT(H:Hp):List (List Key×V)->List (List Key×Addr×Value)->Prop:=Paired λp q=>p.1=q.1/\fD H q.2.1 (p.1.map kV)/\RelV p.2 q.2.2
theorem KT.val(r:KT H bb xs)(k:List Key):lS (nc bb k) ((atKey xs k).map (·.2)):=by
 induction r with
 |nil=>exact True.intro
 |@cons p q ps qs h t ih=>
   obtain⟨h1,_,h2⟩:=h;by_cases e:p.1=k
   .have e':q.1=k:=h1.symm.trans e;have b:atKey (q::qs) k=some q.2:=by simp[atKey,e']
    rw[ny e,b];exact h2
   .have e':¬q.1=k:=λz=>e (h1.trans z);have b:atKey (q::qs) k=atKey qs k:=by simp[atKey,e']
    rw[nz e,b];exact ih
theorem KT.Ts(r:KT H bb xs)(k:List Key)(ry:RelV y u):
  KT H (bb.map λkv=>if kv.1=k then(kv.1,y)else kv) (xs.map (putAt k u)):=by
 induction r with
 |nil=>exact .nil
 |@cons p q ps qs h t ih=>
   refine .cons ?_ ih;obtain⟨h1,h2,h3⟩:=h;unfold putAt;by_cases e:p.1=k;.grind
   .grind
theorem KT.put(r:KT H bb xs)(k:List Key)(hb:fD H b (k.map kV))(ry:RelV y u):
  KT H (putK bb k y) (storedH xs k b u):=by
 have e:(bb.any λkv=>decide (kv.1=k))=(atKey xs k).isSome:=by
  rw[vM,(r.val k).sG,afY]
 unfold putK storedH
 rw[e]
 by_cases q:(atKey xs k).isSome=true
 .rw [aav q,aav q];exact r.Ts k ry
 .rw [aaB q,aaB q];exact Paired.snoc r ⟨rfl,hb,ry⟩
theorem KT.keeps(r:KT H bb xs)(ht:∀b ys,fD H b ys->fD H' b ys):KT H' bb xs:=
 Paired.SO r λ_ _ z=>⟨z.1,ht _ _ z.2.1,z.2.2⟩
section
variable {P:Program}{w:World}{H:Hp}{h:Heap}{a:Addr}
theorem QO(ok:pJ P w H h)(e:Rd H a u):cP P w H h a u:=e.ok ok
theorem zm(ok:pJ P w H h)(e:Rd H a (.dK bb)):bb.length<=sizeLine/\(a==sysModules)=false/\∃vs,KV bb vs/\h.DictOf (cZ P w) a vs:=
 show cP P w H h a (.dK bb)from QO ok e
theorem QP(ok:pJ P w H h)(e:H a=some (.dK bb)):bb.length<=sizeLine/\(a==sysModules)=false/\∃vs,KV bb vs/\h.DictOf (cZ P w) a vs:=zm ok (.inl e)
theorem sH(ok:pJ P w H h)(e:fD H a (ks.map kV)):(tupleKind (cZ P w)).is h ks a:=by
 obtain⟨_,its,r,o,h1,h2,n,h3⟩:=(show cP P w H h a (.tup (ks.map kV))from Rd.ok e ok)
 exact⟨o,its.toArray,n,h1,h2,h3,by simpa using zl r⟩
theorem zo(ok:pJ P w H h)(e:Rd H a (.dT bb)):bb.length<=sizeLine/\(a==sysModules)=false/\
  ∃xs,KT H bb xs/\h.DictOfH (tupleKind (cZ P w)) a xs:=by
 obtain⟨z,y,xs,r,o,es,ep,h1,h2,h3,h4,h5⟩:=(show cP P w H h a (.dT bb)from QO ok e)
 refine⟨z,y,xs,r,o,es,ep,h1,h2,h3,h4,λ8=>?_,h5⟩
 have all:∀{l:List (List Key×V)} {m:List (List Key×Addr×Value)},KT H l m->∀x∈m,(tupleKind (cZ P w)).is h x.1 x.2.1:=by
  intro l m q;induction q with
  |nil=>intro x hx;exact nomatch hx
  |@cons p q ps qs hq t ih=>
    intro x hx;rcases aaj.mp hx with e|hx;.subst e;exact sH ok (by rw[<-hq.1];exact hq.2.1)
    .grind
 exact all r x hx
theorem QR(ok:pJ P w H h)(e:H a=some (.dT bb)):bb.length<=sizeLine/\(a==sysModules)=false/\
  ∃xs,KT H bb xs/\h.DictOfH (tupleKind (cZ P w)) a xs:=zo ok (.inl e)
end
def p5(H:Hp)(a:Addr)(y:V)(r:Option V):Prop:=
 (∃bb k,Rd H a (.dK bb)/\y=kV k/\r=nc bb k)\/∃bb k b,Rd H a (.dT bb)/\y=.ref b/\fD H b (k.map kV)/\r=nc bb k
def Ac(H:Hp)(a:Addr)(y v:V)(H':Hp):Prop:=
 (∃bb k,H a=some (.dK bb)/\y=kV k/\bb.length<sizeLine/\H'=upd H a (.dK (putK bb k v)))\/
 ∃bb k b,H a=some (.dT bb)/\y=.ref b/\fD H b (k.map kV)/\bb.length<sizeLine/\H'=upd H a (.dT (putK bb k v))
theorem p5.k{k:Key}(e:H a=some (.dK bb)):p5 H a (kV k) (nc bb k):=.inl ⟨bb,k,.inl e,rfl,rfl⟩
theorem p5.t{H:Hp}{a b:Addr}{bb:List (List Key×V)}{k:List Key}(e:H a=some (.dT bb))(eb:fD H b (k.map kV)):p5 H a (.ref b) (nc bb k):=.inr ⟨bb,k,b,.inl e,rfl,eb,rfl⟩
theorem Ac.k{k:Key}(e:H a=some (.dK bb))(hl:bb.length<sizeLine):Ac H a (kV k) v (upd H a (.dK (putK bb k v))):=.inl ⟨bb,k,e,rfl,hl,rfl⟩
theorem Ac.t{H:Hp}{a b:Addr}{bb:List (List Key×V)}{k:List Key}{v:V}(e:H a=some (.dT bb))(eb:fD H b (k.map kV))(hl:bb.length<sizeLine):
  Ac H a (.ref b) v (upd H a (.dT (putK bb k v))):=.inr ⟨bb,k,b,e,rfl,eb,hl,rfl⟩
section
variable {X:Cx}{pins:cz}{σ:St}{H:Hp}{s:Shared}{a:Addr}{y v:V}{u r:Value}{o:Option V}{A:Around}{E:eJ}
theorem Inv.Z2(I:⇑1):sysModules<s.heap.objs.size:=by
 have h:=(I.mod.glob.keeps I.bk).lt
 exact Nat.lt_trans ⇑0 h
theorem Ij(hu:A.units+1<cLine)(I:⇑1)(g:p5 H a y (some v))(ry:RelV y u)(h:∀w' s',Inv X pins σ H s'->RelV v w'->Q w' s'):
  wpAny ⇑3 A (getItem (.ref a) u) Q E s:=by
 rcases g with⟨bb,k,e,ey,l⟩|⟨bb,k,b,e,ey,eb,l⟩
 .subst ey;obtain⟨z,hd,vs,rel,dd⟩:=zm I.bU e;obtain⟨w',hw,Ic⟩:=lS.some_of (v:=v) (o:=valueAt vs k) (by rw[l];exact rel.val k);exact wpAny_getItem_of (uo ry) dd.mapOf hw (h w' _ (I.tok _) Ic)
 .subst ey;cases(show u=Value.ref b from ry);obtain⟨z,hd,xs,rel,dd⟩:=zo I.bU e;obtain⟨w',hw,Ic⟩:=lS.some_of (v:=v) (o:=(atKey xs k).map (·.2)) (by rw[l];exact rel.val k);obtain⟨p,hp,QS⟩:=acu.mp hw;refine wpAny_getItem_heap (aeX hu) (sH I.bU eb) dd hp ?_;rw[QS];exact h w' _ (I.tok _) Ic
theorem Om(hu:A.units+1<cLine)(I:⇑1)(g:p5 H a y o)(ry:RelV y u)(h:∀s',Inv X pins σ H s'->Q (.bool (!o.isSome)) s'):
  wpAny ⇑3 A (compareOp .NotIn u (.ref a)) Q E s:=by
 rcases g with⟨bb,k,e,ey,l⟩|⟨bb,k,b,e,ey,eb,l⟩
 .subst ey;obtain⟨z,hd,vs,rel,dd⟩:=zm I.bU e;refine wpAny_notIn_of (uo ry) hd dd.mapOf ?_;rw[<-(rel.val k).sG,<-l];exact h _ (I.tok _)
 .subst ey;cases(show u=Value.ref b from ry);obtain⟨z,hd,xs,rel,dd⟩:=zo I.bU e;refine wpAny_notIn_heap (aeX hu) (sH I.bU eb) hd dd ?_;have q:=(rel.val k).sG;rw[afY]at q;rw[<-q,<-l];exact h _ (I.tok _)
theorem rk(I:⇑1)(mu:Xe (H a))(hs:Heap.SameBut a s.heap h')(he:∃q,h'.get? a=some q)(new:cP X.prog X.w (upd H a ob) h' a ob):
  Inv X pins σ (upd H a ob) {s with heap:=h',toks:=t'}:=
 I.write (x:=a) (e:=a) mu (.inl rfl) (λb q hb z=>(hs.2 b hb).trans z) he new
theorem Tt(z:bb.length<=sizeLine)(hd:(a==sysModules)=false)(rel:KV bb vs)(dd:h'.DictOf (cZ P w) a vs):
  cP P w H' h' a (.dK bb):=⟨z,hd,vs,rel,dd⟩
theorem Ik(hu:A.units+1<cLine)(I:⇑1)(g:Ac H a y v H')(ry:RelV y u)(rv:RelV v r)(h:∀s',Inv X pins σ H' s'->Q () s'):
  wpAny ⇑3 A (setItem (.ref a) u r) Q E s:=by
 rcases g with⟨bb,k,e,ey,l,eH⟩|⟨bb,k,b,e,ey,eb,l,eH⟩
 .subst ey eH;obtain⟨z,hd,vs,rel,dd⟩:=QP I.bU e;have hz:vs.length<=sizeLine:=by rw[<-rel.length];exact z
  have hl:(putK bb k v).length<=sizeLine:=by have:=um bb k v;lia
  refine wpAny_setItem_pairs (hsz:=hz) (uo ry) dd λh' V0 hs=>h _ ?_;have he:∃q,h'.get? a=some q:=let⟨q,_,_,hq,_⟩:=V0;⟨q,hq⟩;exact rk I (by rw[e];exact True.intro) hs he (Tt hl hd (rel.put k rv) V0)
 .subst ey eH;cases(show u=Value.ref b from ry);obtain⟨z,hd,xs,rel,dd⟩:=QR I.bU e;have hz:xs.length<=sizeLine:=by rw[<-Paired.length rel];exact z
  have hl:(putK bb k v).length<=sizeLine:=by have:=um bb k v;lia
  refine wpAny_setItem_heap (hsz:=hz) (aeX hu) (sH I.bU eb) dd λh' V0 hs=>h _ ?_;obtain⟨q,es,ep,hq,h2,h3,h4,_,h5⟩:=V0;refine rk I (by rw[e];exact True.intro) hs ⟨q,hq⟩ ⟨hl,hd,_,(rel.put k eb rv).keeps λc ys ec=>?_,q,es,ep,hq,h2,h3,h4,h5⟩;exact ec.dT e
end
section
end
def Eg(i:Expr):Prop:=∀ov iv,subscripted i false ov iv=operate [ov,iv] (getItem ov iv)
theorem Ad{T id:String} 
  (hl:typeLookup (.type T) "__getitem__"=pure (some (.builtin id)))(hs:Eg slice)
  (h:wpAny ⇑10 A (eval value env) (λo bV=>wpAny ⇑10 A (eval slice env) (λi nk=>nk.TypeIs o T/\wpAny ⇑10 A (getItem o i) Q E nk) E bV) E s):
  wpAny ⇑10 A (eval (.Subscript value slice pos) env) Q E s:=by
 refine Subscript_ (abu h (λo bV vN=>abu vN (λi nk Ae=>?_) λ_ _ x=>x) λ_ _ x=>x)
 obtain⟨hT,Ae⟩:=Ae
 refine aab ?_
 refine aab (wpAny_specialOf hT hl ?_)
 have fin:wpAny ⇑10 A (subscripted slice false o i) (λr sJ=>wpAny ⇑10 A (letTemporaryGo value o r >>= λ_=>pure r) Q E sJ) E nk:=by
  rw[hs o i];exact wpAny_operating (abu Ae (λr sJ Tu=>aab (wpAny_letTemporaryGo (aag Tu))) λ_ _ x=>x)
 first
  |exact aag (aab fin)
  |exact aab (aag (aab fin))
  |exact aab fin
theorem BW(I:⇑1)(g:p5 H a y o):s.TypeIs (.ref a) "dict":=by
 rcases g with⟨bb,k,e,_,_⟩|⟨bb,k,b,e,_,_,_⟩
 .obtain ⟨_,_,vs,_,dd⟩:=zm I.bU e;exact dd.typeIs
 .obtain ⟨_,_,xs,_,dd⟩:=zo I.bU e;exact dd.typeIs
def XW(td ty:TE):TE:=λ7=>td σ H λx H1=>ty σ H1 λy H2=>∃a v,x=.ref a/\p5 H2 a y (some v)/\Q v H2
def Oo(ty td:TE):TE:=λ7=>ty σ H λy H1=>td σ H1 λx H2=>∃a o,x=.ref a/\p5 H2 a y o/\Q (.bl (!o.isSome)) H2
def KJ(td ty tv:TE):TS:=λD σ H=>tv σ H λv H1=>td σ H1 λx H2=>ty σ H2 λy H3=>∃a H4,x=.ref a/\Ac H3 a y v H4/\D.nx σ H4
section
variable {X:Cx}{o i value:Expr}{pos pos':Pos}{td ty tv:TE}
theorem Gm(hu:X.A.units+1<cLine)(ho:PE X o td)(hi:PE X i ty)(hs:Eg i):PE X (.Subscript o i pos) (XW td ty):=by
 intro 1
 refine Ad aeG.lookup hs (dq (ho pins s σ H _ I h) λu s1 ⟨x,H1,I1,rx,q1⟩=>dq (hi pins s1 σ H1 _ I1 q1) λiv s2 ⟨y,H2,I2,ry,a,v,ex,g,q2⟩=>?_)
 subst ex
 obtain rfl:u=Value.ref a:=rx
 exact⟨BW I2 g,Ij hu I2 g ry λw' s3 I3 Ic=>⟨v,H2,I3,Ic,q2⟩⟩
theorem Il(hu:X.A.units+1<cLine)(hi:PE X i ty)(ho:PE X o td):PC X .NotIn i o (Oo ty td):=by
 intro 1
 refine dq (hi pins s σ H _ I h) λiv s1 ⟨y,H1,I1,ry,q1⟩=>dq (ho pins s1 σ H1 _ I1 q1) λu s2 ⟨x,H2,I2,rx,a,ov,ex,g,q2⟩=>?_
 subst ex
 obtain rfl:u=Value.ref a:=rx
 exact Om hu I2 g ry λs3 I3=>⟨.bl (!ov.isSome),H2,I3,rfl,q2⟩
theorem vf(hu:X.A.units+1<cLine)(ho:PE X o td)(hi:PE X i ty)(hv:PE X value tv)(hs:swapsWith value (some (.Subscript o i pos')) pos.line X.env=pure false):
  PS X (.Assign [.Subscript o i pos'] value pos) (KJ td ty tv):=by
 intro 6
 refine wpAny_Assign_Subscript (dq (hv pins s σ H _ I h) λr s1 ⟨v,H1,I1,rv,q1⟩=>dq (ho pins s1 σ H1 _ I1 q1) λu s2 ⟨x,H2,I2,rx,q2⟩=>dq (hi pins s2 σ H2 _ I2 q2) λiv s3 ⟨y,H3,I3,ry,a,H4,ex,g,q3⟩=>?_) hs
 subst ex
 obtain rfl:u=Value.ref a:=rx
 exact Ik hu I3 g ry rv λs4 I4=>⟨σ,H4,I4,q3⟩
end
theorem KL(h:Heap)(hb:sysModules<h.objs.size):cP P w H (h.push {cls:=.type "dict",data:=.dict #[]}) h.objs.size (.dK []):=
 ⟨abO _,aa8.mpr (acw (aay hb)),[],.nil,Heap.DictOf.new h⟩
theorem KN(h:Heap)(hb:sysModules<h.objs.size):cP P w H (h.push {cls:=.type "dict",data:=.dict #[]}) h.objs.size (.dT []):=
 ⟨abO _,aa8.mpr (acw (aay hb)),[],.nil,_,#[],0,aae _ rfl,⟨rfl,rfl,rfl⟩,rfl,rfl,List.nodup_nil⟩
section
end
def Eh:List (TE×TE)->St->Hp->(List (V×V)->Hp->Prop)->Prop
 |[],_,H,Q=>Q [] H
 |(tk,tv)::r,σ,H,Q=>tk σ H λx H1=>tv σ H1 λy H2=>Eh r σ H2 λps H3=>Q ((x,y)::ps) H3
abbrev VV:List (V×V)->List (Value×Value)->Prop:=Paired λp q=>RelV p.1 q.1/\RelV p.2 q.2
def Z3(X:Cx)(pos:Pos)(keys:List (Option Expr))(values:List Expr)(trs:List (TE×TE)):Prop:=
 ∀(pins:cz) (s:Shared) (σ:St) (H:Hp) (Q:List (V×V)->Hp->Prop),Inv X pins σ H s->Eh trs σ H Q->
   wpAny ⇑3 X.A (evalPairs (pairTrees keys values X.env pos)) (λvs s'=>∃ps H',Inv X pins σ H' s'/\VV ps vs/\Q ps H') X.xe s
theorem Oq:Z3 X pos [] [] []:=λpins s σ H Q I h=>pairTrees_nil_walk ⟨[],H,I,.nil,h⟩
theorem KO(hk:PE X k tk)(hv:PE X v tv)(hr:Z3 X pos ks vs trs):
  Z3 X pos (some k::ks) (v::vs) ((tk,tv)::trs):=λpins s σ H Q I h=>
 pairTrees_cons_walk (dq (hk pins s σ H _ I h) λu s1 ⟨x,H1,I1,rx,q1⟩=>dq (hv pins s1 σ H1 _ I1 q1) λw2 s2 ⟨y,H2,I2,ry,q2⟩=>
  dq (hr pins s2 σ H2 _ I2 q2) λws s3 ⟨ps,H3,I3,rel,q3⟩=>⟨(x,y)::ps,H3,I3,.cons ⟨rx,ry⟩ rel,q3⟩)
structure M2(X:Cx)(o:Expr)(m:Str)(apos:Pos)(e f:Expr)(fE:Pos):Prop where
 base:attributeBase o m X.env (eval o X.env)=eval o X.env
 few:((backTo fE (starEach [e,f] X.env)).all (λx=> !x.1)&&(backToKw fE (keywordEach [] X.env)).all (λx=>x.1.isSome)
  &&decide (([e,f]:List Expr).length+([]:List Keyword).length+(if([]:List Keyword).isEmpty then 0 else 1)<30))=true
 line:(apos.endLine==fE.line)=true
 trees:backTo fE (starEach [e,f] X.env)=[⇑18,(false,eval f X.env)]
def QT(H:Hp)(a:Addr):Prop:=(∃bb,Rd H a (.dK bb))\/∃bb,Rd H a (.dT bb)
theorem Tv(I:⇑1)(d:QT H a):
  s.TypeIs (.ref a) "dict"/\(∀b,Value.ref a=.ref b->∃ob,s.heap.get? b=some ob/\ob.dict=none)/\(a==sysModules)=false:=by
 rcases d with⟨bb,e⟩|⟨bb,e⟩
 .obtain ⟨_,hd,vs,_,dd⟩:=zm I.bU e;refine⟨dd.typeIs,λb q=>?_,hd⟩;cases q;obtain⟨ob,_,_,h1,h2,_⟩:=dd;exact⟨ob,h1,h2.2.1⟩
 .obtain ⟨_,hd,xs,_,dd⟩:=zo I.bU e;refine⟨dd.typeIs,λb q=>?_,hd⟩;cases q;obtain⟨ob,_,_,h1,h2,_⟩:=dd;exact⟨ob,h1,h2.2.1⟩
section
variable {X:Cx}{pins:cz}{σ:St}{H:Hp}{s:Shared}{a:Addr}{y d:V}{u r:Value}{o:Option V}{A:Around}{E:eJ}
theorem Tw(hu:A.units+1<cLine)(I:⇑1)(g:p5 H a y o)(ry:RelV y u)(rd:RelV d r)(h:∀w' s',Inv X pins σ H s'->RelV (o.getD d) w'->Q w' s'):
  wpAny ⇑3 A (call (.builtin "dict.get") [.ref a,u,r]) Q E s:=by
 rcases g with⟨bb,k,e,ey,l⟩|⟨bb,k,b,e,ey,eb,l⟩
 .subst ey;obtain⟨z,hd,vs,rel,dd⟩:=zm I.bU e;refine call_meetsIn afc dd.typeIs PySem.F.entry_dict_get (PySem.F.args_dict_get_3 _ _ _) (meets_dict_get_default (cZ X.prog X.w) a (uo ry) hd r) ⟨_,dd.mapOf,h _ _ (I.tok _) ?_⟩;rw[l];exact(rel.val k).getD rd
 .subst ey;cases(show u=Value.ref b from ry);obtain⟨z,hd,xs,rel,dd⟩:=zo I.bU e;refine call_meetsIn afc dd.typeIs PySem.F.entry_dict_get (PySem.F.args_dict_get_3 _ _ _) (meetsH_dict_get_default (tupleKind (cZ X.prog X.w)) a b hd r) ⟨aeX hu,k,xs,sH I.bU eb,dd,h _ _ (I.tok _) ?_⟩;rw[l];exact(rel.val k).getD rd
end
def Tx(td ty tx:TE):TE:=λ7=>td σ H λx H1=>∃a,x=.ref a/\QT H1 a/\ty σ H1 λy H2=>tx σ H2 λz H3=>∃o,p5 H3 a y o/\Q (o.getD z) H3
section
variable {X:Cx}{o e f:Expr}{apos fE:Pos}{td ty tx:TE}
theorem KP(hu:X.A.units+1<cLine)(ho:PE X o td)(he:PE X e ty)(hf:PE X f tx)(m:M2 X o "get" apos e f fE):PE X (.Call (.Attribute o "get" apos) [e,f] [] fE) (Tx td ty tx):=by
 intro 1
 refine wpAny_Call_method m.base m.few m.line PySem.F.plainAttrs_dict afc PySem.F.type_dict_get (dq (ho pins s σ H _ I h) λu s1 ⟨x,H1,I1,rx,a,ex,d,q1⟩=>?_)
 subst ex
 obtain rfl:u=Value.ref a:=rx
 obtain⟨t1,t2,_⟩:=Tv I1 d
 refine⟨t1,t2,?_⟩
 rw[m.trees]
 refine Calls.callWith_builtin rfl (Calls.evalArgs_plain (adX (dq (he pins s1 σ H1 _ I1 q1) λiv s2 ⟨y,H2,I2,ry,q2⟩=>
  adX (dq (hf pins s2 σ H2 _ I2 q2) λfv s3 ⟨z,H3,I3,rz,ov,g,q3⟩=>aeu ?_))))
 exact Tw hu I3 g ry rz λw' s4 I4 Ic=>⟨_,H3,I4,Ic,q3⟩
end
end L2
set_option maxHeartbeats 4000000
namespace L2
open PySem PySem.Spec PyProof.Rows
section
variable {X:Cx}
theorem fK:jP X (binaryOp .Mult) (rI IntMulOk λi j=>.int (i*j)):=ZX λ_ _ _ _ _ _ _ hc q=>mul_int q hc
def KQ(i j:Int):Prop:=j≠0/\Builtin.divisionGoesByPylong i j=false
theorem cG:jP X (binaryOp .FloorDiv) (rI KQ λi j=>.int (i.fdiv j)):=ZX λ_ _ _ _ _ _ _ hc q=>floordiv_int hc.1 q (.inl hc.2)
theorem Im(h:Builtin.Int.intBits j<=9000):Builtin.divisionGoesByPylong i j=false:=by
 refine PyProof.noPylong_of_log2 ?_
 unfold Builtin.Int.intBits at h
 by_cases hj:j=0
 .simp_all
 .rw [if_neg (by simpa using hj)]at h;lia
theorem mul_right(h1:-(2^64)<j)(h2:j<2^64):IntMulOk i j:=.of_right (intBits_le_64 h1 h2)
theorem mul_left(h1:-(2^64)<i)(h2:i<2^64):IntMulOk i j:=.of_left (intBits_le_64 h1 h2)
def TyW(K:ao)(H:Hp)(x:V)(t:String):Prop:=
 sC K H x (.type t)\/(∃a xs,x=.ref a/\kz K H a xs/\t="tuple")\/(∃a xs,x=.ref a/\lQ K H a xs/\t="list")
def aa9(K:ao):List V->Hp->VK->Prop:=λxs H Q=>∃x n t b,xs=[x,.ty n]/\TyW K H x t/\PySem.W.kitOne K (.type t) (.type n)=some b/\Q (.bl b) H
theorem KR:fH X (.builtin "isinstance") (aa9 X.K):=by
 intro 3
 obtain⟨x,n,t,b,rfl,ty,e,q⟩:=h
 obtain⟨u1,u2,rfl,r1,r2⟩:∃u1 u2,us=[u1,u2]/\RelV x u1/\RelV (.ty n) u2:=by
  cases r with
  |cons p q=>cases q with
    |cons p' q'=>cases q';exact⟨_,_,rfl,p,p'⟩
 cases(show u2=Value.type n from r2)
 have fin:∀tk,EP X pins σ Q (.bool b) {s with toks:=tk}:=λtk=>⟨.bl b,H,I.tok _,rfl,q⟩
 rcases ty with ty|⟨a,ys,rfl,hq,rfl⟩|⟨a,ys,rfl,hq,rfl⟩
 .exact HZ I r1 ty e fin
 .cases (show u1=Value.ref a from r1);obtain⟨its,_,p,_⟩:=I.tuple hq;obtain⟨o,h1,h2,_⟩:=p;exact abQ PySem.W.kitx_tuple I.mV ⟨o,h1,h2⟩ e ⇑41 fin
 .cases (show u1=Value.ref a from r1);obtain⟨its,_,p,_⟩:=I.list hq;obtain⟨o,n,h1,h2,_⟩:=p;exact abQ afX I.mV ⟨o,h1,h2⟩ e ⇑41 fin
theorem KS{K:ao}:PySem.W.kitOne K (.type t) (.type t)=some true:=by
 unfold PySem.W.kitOne
 rw[aav ⇑11]
def Dn(P:Program)(w:World)(K:ao)(mg:eQ)(base:Heap)(k:Nat)(x:Str)(ps:List Str)(sp:Sp):Prop:=
 ∃f fd,jR P w K mg base lR k f fd ps sp/\mg x=some (.ref f)/\PySem.W.keepIn K (.ref f)=true/\Binds K fd ps []
theorem Gn(D:Dn X.prog X.w X.K X.mg X.base k x ps sp)(hr:cW kk X.A)(hk:k<=kk)(ha:PA X (e::es) t)(hg:Gl X x:=by rfl)
  (pK:⇑5:=by decide)(he:starEach (e::es) X.env=⇑18::starEach es X.env:=by rfl)(iQ:⇑7:=by rfl):
  PE X ⇑20 (QJ sp [] E0 t):=by
 obtain⟨f,fd,F,m,kp,b⟩:=D
 exact N8 F (hr.mono hk) hg m kp b .nil Gk ha pK he iQ
structure Bs(mg:eQ):Prop where
 len:mg "len"=none
 range:mg "range"=none
 isinstance:mg "isinstance"=none
 max:mg "max"=none
 min:mg "min"=none
 int:mg "int"=none
 bool:mg "bool"=none
 tuple:mg "tuple"=none
 list:mg "list"=none
 abs:mg "abs"=none
 str:mg "str"=none
 sum:mg "sum"=none
 sorted:mg "sorted"=none
 reversed:mg "reversed"=none
 enumerate:mg "enumerate"=none
 set:mg "set"=none
 all:mg "all"=none
 zip:mg "zip"=none
 any:mg "any"=none
def Df(K:ao)(mg:eQ)(x:Str)(st:Stmt)(ps:List Str):Prop:=∃f fd,uG K x x st f fd/\mg x=some (.ref f)/\Binds K fd ps []
theorem Df.ok{K:ao}{st:Stmt}(F:Df K mg x st ps)(S:az N ps (ah st))(len:∀vs H Q E,sp vs H Q E->vs.length=ps.length)
  (gE:∀(f:Addr) (de:Value) (A:Around) (outer:List Env) (s:Shared) (H:Hp) (vs:List V) (Q:VK) (E:XK),cW k (A.deeper (envOfC x (ah st) s.heap.objs.size f de))->sp vs H Q E->
   ∃t,iP (rb lR P w K mg base N x (ah st) f de A outer s H E).BM (cf st) t/\t {nx:=λ_ H'=>Q .iu H',rt:=Q} (start N vs) H):Dn P w K mg base (k+1) x ps sp:=by
 obtain⟨f,fd,F,m,b⟩:=F
 exact⟨f,fd,F.ok S len (gE f),m,F.kp,b⟩
def Cn(mg:eQ)(x:Str)(v:V):Prop:=∃u,mg x=some u/\RelV v u
theorem mY(c:Cn X.mg x v)(hg:Gl X x:=by rfl)(hd:⇑5:=by decide):PE X (.Name x pos) (tC v):=by
 obtain⟨u,m,r⟩:=c
 exact NZ hg m r hd
end
theorem cU(h:H p=none)(o:HO):aG H (upd H p o):=λb u q=>by rw[av (aZ q h)];exact q
theorem small(h:n<=100000):n<=sizeLine:=aa6 h ⇑0
theorem nA(h:n<=100000):n<sizeLine:=abJ h ⇑0
section
end
theorem aG.upd(s:aG H H')(h:H l=none)(o:HO):aG H (upd H' l o):=λb u q=>by rw[av (aZ q h)];exact s b u q
theorem Af:bootBuiltins "int"=some (.type "int"):=⋯
theorem Ot:bootBuiltins "bool"=some (.type "bool"):=⋯
theorem gG:bootBuiltins "tuple"=some (.type "tuple"):=⋯
theorem Ag:bootBuiltins "list"=some (.type "list"):=⋯
theorem kW:bootBuiltins "str"=some (.type "str"):=⋯
theorem cn:bootBuiltins "len"=some (.builtin "len"):=⋯
theorem Tz:bootBuiltins "abs"=some (.builtin "abs"):=⋯
theorem TB:bootBuiltins "max"=some (.builtin "max"):=⋯
theorem TC:bootBuiltins "min"=some (.builtin "min"):=⋯
theorem yf:bootBuiltins "isinstance"=some (.builtin "isinstance"):=⋯
section
end
section
end
section
variable {X:Cx}
theorem lX(h:∀y∈scope.names,y.2=.free->∃c,env.cells.lookup y.1=some c):
  ∃cl:List (Str×Addr),closureFor scope env=pure cl/\(∀n c,cl.lookup n=some c->env.cells.lookup n=some c)/\∀n,(n,NameKind.free)∈scope.names->∃c,cl.lookup n=some c:=by
 have go:∀(l:List (Str×NameKind)) (cs:List (Str×Addr)),(∀y∈l,y.2=.free->∃c,env.cells.lookup y.1=some c)->(∀n c,cs.lookup n=some c->env.cells.lookup n=some c)->
   ∃cl:List (Str×Addr),(forIn l cs λx r=>(match x with|(name,kind)=>if(kind==NameKind.free)=true then(do let a <-cellOf env name;pure (ForInStep.yield ((name,a)::r)))else pure (ForInStep.yield r):Sem (ForInStep (List (Str×Addr)))))=(pure cl:Sem _)/\
     (∀n c,cl.lookup n=some c->env.cells.lookup n=some c)/\(∀n,(n,NameKind.free)∈l->∃c,cl.lookup n=some c)/\∀n c,cs.lookup n=some c->∃c',cl.lookup n=some c':=by
  intro l;induction l with
  |nil=>intro cs _ hc;exact⟨cs,rfl,hc,λn hn=>by simp at hn,λn c e=>⟨c,e⟩⟩
  |cons y r ih=>
    intro cs hl hc;obtain⟨name,kind⟩:=y;by_cases hk:kind=.free
    .subst hk;obtain⟨c,e⟩:=hl (name,.free) aan rfl;have NC:∀n d,((name,c)::cs).lookup n=some d->env.cells.lookup n=some d:=by grind
     obtain⟨cl,h1,h2,h3,h4⟩:=ih ((name,c)::cs) (λy hy=>hl y (aat _ hy)) NC;refine⟨cl,?_,h2,λn hn=>?_,λn d q=>?_⟩
     .rw [ad6];have ec:cellOf env name=pure c:=by unfold cellOf;rw[e]
      simp only[ec];exact h1
     .grind
     .grind
    .obtain ⟨cl,h1,h2,h3,h4⟩:=ih cs (λy hy=>hl y (aat _ hy)) hc;refine⟨cl,?_,h2,λn hn=>?_,h4⟩;.grind
     .grind
 obtain⟨cl,h1,h2,h3,_⟩:=go scope.names [] h (λn c e=>by simp at e)
 refine⟨cl,?_,h2,h3⟩
 simp only[closureFor]
 rw[h1]
 rfl
noncomputable def cA(X:Cx)(scope:Scope)(N':List Str)(cl:List (Str×Addr))(C:Addr)(s2:Shared)(H2:Hp)(fp:List Addr)(pins:cz):Cx:=
 {X with N:=N',ip:=s2,HN:=H2,env:=compEnvC scope cl C X.env,outer:=X.stack,stack:=X.stack,ex:=fp,fn:=λ_=>false,pn:=X.pn++pins,xe:=λ_ _=>False}
def pL(ix:List Nat)(σ:St):St:=ix.map λj=>(σ[j]?).join
section
variable {scope:Scope}{x:Str}{ix:List Nat}{N':List Str}{cl:List (Str×Addr)}{C:Addr}{s2:Shared}{H2:Hp}{fp:List Addr}{pins:cz}{σ:St}
theorem KU{j:Nat}(h:(pL ix σ)[j]?=some (some v)):∃i,ix[j]?=some i/\σ[i]?=some (some v):=by
 unfold pL at h
 rw[aas]at h
 cases e:ix[j]? with
 |none=>rw[e]at h;cases h
 |some i=>grind
abbrev NF(its:bZ)(n:Nat):Obj:=⇑19
theorem Inv.XX(I:⇑1)(hD:H D=none)(hs:X.ip.heap.objs.size<=D)(hl:D≠X.env.locals)(hc:∀x c,X.env.cells.lookup x=some c->c≠D)
  (hp:∀p∈X.pn++pins,p.1≠D)(e:s.heap.get? D=some (NF its n))(r:bA ys its)(hz:ys.length<=sizeLine):Inv X pins σ (upd H D (.lst ys)) s:=by
 have h:=I.step (H':=upd H D (.lst ys)) (h':=s.heap) (g':=s.gens) (t':=s.toks) (d':=s.drawn) (ch:=[D]) (λ9=>by
   have e:b=D:=by simpa using hb
   subst e;exact⟨.inr hs,hl,hc,hp⟩)
  (λb o _ _ _ q _=>q) (λb o _ _ _ q _=>⟨o.slots,q⟩) (λb o hb _ q=>by rw[av (by simpa using hb)];exact q) (λb o _ q=>⟨o,q⟩)
  (λb xs q=>by rw[av (aZ q hD)];exact q) (λb o u q=>by rw[av (aZ q hD)];exact q) (λb ps q=>⟨#[],by rw[av (aZ q hD),afI];exact q⟩) (λm hm=>hm) (λb u q=>?_) I.bare
 .exact h
 .by_cases hb:b=D
  .subst hb;rw[aL]at q;cases q;exact⟨hz,its,n,r,e⟩
  .rw [av hb]at q;exact(I.bU b u q).vE (λ_ _ _ z=>z) (λc z=>by rw[av (aZ z hD)];exact z) λc xs z=>z.new hD
theorem Io(I0:Inv X pins σ H2 s2)(hC:s2.heap.objs.size<=C)(hD:s2.heap.objs.size<=D)(hf:∀b∈fp,uE X pins H2 b) 
  (I:Inv ⇑6 ((D,NF its n)::more) ck H s1)(r:bA ys its)(hz:ys.length<=sizeLine)(hs:Heap.SameBut C s1.heap h')(TF:D≠C):
  Inv X pins σ (upd H D (.lst ys)) {s1 with heap:=h'}:=by
 have nC:∀b o,s2.heap.get? b=some o->b≠C:=λb o e=>aay (aam (aai e) hC)
 have B:=I.base
 have fC:H C=none:=I.free
 have pD:=I.pin (D,NF its n) (aaf _ aan)
 have u:Un (qY X.stack) fp H2 H s2.heap h':=⟨λb o e n hb hx=>(hs.2 b (nC b o e)).trans (B.keep b o e n hb hx),λb o e n hb hx=>by
   obtain⟨sl,q⟩:=B.slot b o e n hb hx;exact⟨sl,(hs.2 b (nC b o e)).trans q⟩,B.free,λb o e hx=>by
   obtain⟨o',q⟩:=B.there b o e hx;exact⟨o',(hs.2 b (nC b o e)).trans q⟩,B.xW,B.xX,B.zX⟩
 have bU:pJ X.prog X.w H h':=λb o e=>(I.bU b o e).vE (λc v hc q=>(hs.2 c (by
   rintro rfl;rcases hc with z|z;.grind
   .rw [fC]at z;cases z)).trans q) (λ_ q=>q) λ_ _ q=>q
 have I1:=I0.Xk (s':={s1 with heap:=h'}) (ch:=fp) I.os u bU I.bare λ9=>⟨(hf b hb).2.2.2.1,(hf b hb).2.1,(hf b hb).2.2.2.2.1,(hf b hb).2.2.2.2.2⟩
 refine I1.XX (its:=its) (n:=n) pD.2.1 (aa6 I0.sz hD) (aer (aam I0.lt hD)) (λa c e z=>?_) (λp hp z=>?_) ((hs.2 D TF).trans pD.1) r hz
 .obtain ⟨v,q⟩:=I0.cell a c e;exact absurd (aam q.lt (by rw[z];exact hD)) (abF _)
 .exact absurd (aam (aai (I0.pin p hp).1) (by rw[z];exact hD)) (abF _)
end
section
end
noncomputable def Ou(sc scope:Scope):List (Str×NameKind):=scope.names.map λ(n,k)=>if(k==.free&&sc.kind==.function&&sc.names.lookup n==some .cell)then(n,.cell)else(n,k)
theorem lookup_mem:∀{l:List (Str×NameKind)},l.lookup n=some k->(n,k)∈l
 |[],h=>by simp at h
 |(a,b)::r,h=>by
   rw[aen]at h;cases e:n==a with
   |true=>rw[e]at h;cases h;rw[eq_of_beq e];exact aan
   |false=>rw[e]at h;exact aat _ (lookup_mem h)
section
end
end
section
end
section
end
theorem KW(h:xs[xs.length-1]?=some v):so xs (-1)=some v:=by
 have hl:0<xs.length:=by grind
 have e:Ib xs.length (-1)=some (xs.length-1):=by
  unfold Ib;rw[aaB ⇑0,aav ⇑2];congr 1;lia
 unfold so
 rw[e]
 exact h
abbrev D:=PyData
abbrev DS:=List (Option D)
noncomputable def eC:List (Addr×List V):=[(494,[.str "number"]),(495,[.str "number",.str "number"]),(496,[.str "number",.str "number or -1",.str "number",.str "number"]),(497,[.str "number",.str "number",.str "number",.str "number",.str "number"]),(498,[]),(499,[]),(500,[.str "number",.str "number"]),(501,[.str "number",.str "number",.str "fraction"]),(502,[.str "fraction"]),(503,[.str "number",.str "number"]),(504,[]),(505,[.str "fraction",.str "fraction",.str "fraction"]),(506,[.str "name"]),(507,[]),(508,[]),(509,[])]
noncomputable def bS:List (Addr×List Pos×Str):=[(551,[⟨354,22,354,56⟩],"so_many.<locals>.<lambda>"),(558,[⟨357,22,357,72⟩],"till.<locals>.<lambda>"),(565,[⟨362,4,365,37⟩],"two_steps.<locals>.draws_on"),(572,[⟨370,22,370,104⟩],"between.<locals>.<lambda>"),(731,[⟨538,38,538,70⟩,⟨540,38,540,88⟩,⟨542,52,542,144⟩,⟨543,34,543,139⟩],"_law_by_words.<locals>.<lambda>")]
theorem aG.ng(s:aG H H')(h:fD H a xs):fD H' a xs:=by
 rcases h with h|⟨ob,h⟩
 .exact .inl (s _ _ h)
 .exact .inr ⟨ob,s _ _ h⟩
def wo(H:Hp)(A:List Addr):Hp:=λa=>if a∈A then none else H a
section
variable {H H':Hp}{A A':List Addr}{a l p r:Addr}{o:HO}
theorem bg(h:a∉A):wo H A a=H a:=by unfold wo;rw[if_neg h]
theorem fQ(h:a∈A):wo H A a=none:=by unfold wo;rw[if_pos h]
theorem o7(h:wo H A a=some o):a∉A/\H a=some o:=by
 unfold wo at h
 split at h
 .cases h
 .grind
theorem cg:aG (wo H A) H:=λ_ _ h=>(o7 h).2
theorem bR(s:aG H H'):aG (wo H A) (wo H' A):=λb u h=>by
 obtain⟨h1,h2⟩:=o7 h
 rw[bg h1];exact s b u h2
theorem i9(h:∀a∈A',a∈A):aG (wo H A) (wo H A'):=λb u q=>by
 obtain⟨h1,h2⟩:=o7 q
 rw[bg λz=>h1 (h b z)];exact h2
theorem KY:wo H []=H:=by funext a;exact bg ⇑11
theorem KZ(h:p∉A):wo (upd H p o) A=upd (wo H A) p o:=by
 funext a
 by_cases e:a=p
 .subst e;rw[bg h,aL,aL]
 .rw [av e];by_cases z:a∈A;.rw [fQ z,fQ z]
  .rw [bg z,bg z,av e]
theorem K2(h:l∈A):wo (upd H l o) A=wo H A:=by
 funext a
 by_cases z:a∈A
 .rw [fQ z,fQ z]
 .rw [bg z,bg z,av];intro e;subst e;exact z h
theorem BX(h:H r=none):wo (upd H r o) (r::A)=wo H A:=by
 funext a
 by_cases e:a=r
 .subst e;rw[fQ ⇑11];by_cases z:a∈A;.rw [fQ z]
  .rw [bg z,h]
 .by_cases z:a∈A;.rw [fQ (by simp[z]),fQ z]
  .rw [bg (by simp[e,z]),bg z,av e]
theorem Gp(s:aG H H')(h:H r=none):aG (wo H A) (wo H' (r::A)):=λb u q=>by
 obtain⟨h1,h2⟩:=o7 q
 rw[bg (by simp only[aaj,not_or];exact⟨aZ h2 h,h1⟩)]
 exact s b u h2
def yg:HO->Prop
 |.lst _=>True
 |.dT _=>True
 |.dK _=>True
 |.ins _ _ _=>True
 |.own _=>True
 |.ext _=>True
 |_=>False
def Ls(A:List Addr)(H:Hp):Prop:=(∀a∈A,∃o,H a=some o/\yg o)/\(∀p xs,(p,xs)∈eC->fD H p xs)/\∀p y q,(p,y,q)∈bS->H p=some (.lam y q)
theorem Ls.same(h:Ls A H)(s:aG H H'):Ls A H':=⟨λa ha=>let⟨o,e,q⟩:=h.1 a ha;⟨o,s _ _ e,q⟩,λp xs m=>s.ng (h.2.1 p xs m),λp y q m=>s _ _ (h.2.2 p y q m)⟩
theorem fD.apart(t:fD H p xs)(e:H l=some o)(w:yg o):p≠l:=λz=>by
 subst z
 rcases t with t|⟨ob,t⟩<;>rw[e]at t<;>cases t<;>exact w
theorem fD.wo(t:fD H p xs)(n:p∉A):fD (L2.wo H A) p xs:=by
 rcases t with t|⟨ob,t⟩
 .exact .inl (by rw[bg n];exact t)
 .exact .inr ⟨ob,by rw[bg n];exact t⟩
theorem Ls.free(h:Ls A H)(n:H p=none):p∉A:=λz=>by
 obtain⟨ys,e,_⟩:=h.1 p z
 rw[n]at e;cases e
end
def XY(h:Heap)(e:Addr):Prop:=∃o fs,h.get? e=some o/\o.data=.fields fs/\fs[2]?=some Value.none
def ExO(a C:Addr):HO:=.ext λh=>(∃o,h.get? a=some o/\o.cls=.ref C)/\XY h a
def rm:Key->D:=Sum.elim .int .str
mutual
inductive HD (K:ao) (H:Hp):V->D->Prop
 |iu:HD K H .iu .none
 |bl (b:Bool):HD K H (.bl b) (.bool b)
 |int (i:Int):HD K H (.int i) (.int i)
 |str (x:Str):HD K H (.str x) (.str x)
 |lst {a:Addr} {xs:List V} {ds:List D}:BE K H a xs->cY K H xs ds->HD K H (.ref a) (.list ds)
 |tup {a:Addr} {xs:List V} {ds:List D}:fD H a xs->cY K H xs ds->HD K H (.ref a) (.tuple ds)
 |vg {a:Addr} {bb:List (List Key×V)} {kds:List (D×D)}:H a=some (.dT bb)->kds.map (·.1)=bb.map (λp=>PyData.tuple (p.1.map rm))->cY K H (bb.map (·.2)) (kds.map (·.2))->HD K H (.ref a) (.dict kds)
 |fn {f c:Addr} {q:Str}:H c=some (.code q)->HD K H (.ref f) (.dict [(.list [],.tuple [.int (f:Nat),.int (c:Nat),.str q])])
 |exc {a C:Addr} {c:Str}:PySem.W.nsIn K mainGlobals c=some (some (.ref C))->H a=some (ExO a C)->HD K H (.ref a) (.dict [(.list [],.tuple [.int (a:Nat),.str c])])
 |ptr (a:Addr):HD K H (.ref a) (.dict [(.list [],.int (a:Nat))])
 |XZ {f c a:Addr} {q:Str} {xs:List V} {ds:List D}:H c=some (.code q)->BE K H a xs->cY K H xs ds->HD K H (.ref f) (.dict [(.list [],.tuple [.int (f:Nat),.int (c:Nat),.str q,.int (a:Nat),.list ds])])
inductive cY (K:ao) (H:Hp):List V->List D->Prop
 |nil:cY K H [] []
 |cons {x:V} {xs:List V} {d:D} {ds:List D}:HD K H x d->cY K H xs ds->cY K H (x::xs) (d::ds)
end
theorem aG.rd(s:aG H H')(h:Rd H a u):Rd H' a u:=by
 rcases h with h|⟨o,h⟩
 .exact .inl (s _ _ h)
 .exact .inr ⟨o,s _ _ h⟩
theorem BE.of{K:ao}(h:H a=some (.lst xs)):BE K H a xs:=.inl (.inl h)
theorem BE.sq{K:ao}(h:BE K H a xs):lQ K H a xs:=by
 rcases h with h|⟨its,n,h1,h2,h3⟩
 .exact .inl h
 .exact .inr ⟨_,its.toArray,n,h1,rfl,rfl,rfl,by rw[List.size_toArray];exact h2,by simpa using h3⟩
theorem BE.same{K:ao}(s:aG H H')(h:BE K H a xs):BE K H' a xs:=by
 rcases h with h|h
 .exact .inl (s.rd h)
 .exact .inr h
theorem Inv.lsd(I:⇑1)(h:BE X.K H a xs):xs.length<=sizeLine/\∃(its:bZ) (n:Nat),bA xs its/\s.heap.get? a=some ⇑19:=by
 rcases h with h|⟨its,n,h1,h2,h3⟩
 .exact h.ok I.bU
 .exact ⟨by rw[h3.length];exact h2,its,n,h3,I.mV a _ h1⟩
theorem HD.same{K:ao}(e:aG H H')(h:HD K H x d):HD K H' x d:=
 HD.rec (motive_1:=λx d _=>HD K H' x d) (motive_2:=λx d _=>cY K H' x d) .iu .bl .int .str (λhq _ i=>.lst (hq.same e) i) (λhq _ i=>.tup (e.ng hq) i) (λhq k _ i=>.vg (e _ _ hq) k i) (λh=>.fn (e _ _ h)) (λk h=>.exc k (e _ _ h)) (λa=>.ptr a) (λhc hq _ i=>.XZ (e _ _ hc) (hq.same e) i) .nil (λ_ _ i j=>.cons i j) h
theorem cY.same{K:ao}(e:aG H H')(h:cY K H x d):cY K H' x d:=
 cY.rec (motive_1:=λx d _=>HD K H' x d) (motive_2:=λx d _=>cY K H' x d) .iu .bl .int .str (λhq _ i=>.lst (hq.same e) i) (λhq _ i=>.tup (e.ng hq) i) (λhq k _ i=>.vg (e _ _ hq) k i) (λh=>.fn (e _ _ h)) (λk h=>.exc k (e _ _ h)) (λa=>.ptr a) (λhc hq _ i=>.XZ (e _ _ hc) (hq.same e) i) .nil (λ_ _ i j=>.cons i j) h
section
variable {X:Cx}{pins:cz}{σ:St}{H:Hp}{s:Shared}
theorem lY(h:SeqAt.shaped d=true):d.canLay0=true:=by
 unfold SeqAt.shaped at h
 rw[aaX]at h
 exact h.1
theorem TH(I:⇑1)(hq:BE X.K H a xs)(r:RelV (.ref a) u)(h:∀{us},bA xs us->∃as,ReadsAll s.heap us ds as):∃as,Reads s.heap u (.list ds) as:=by
 cases(show u=Value.ref a from r)
 obtain⟨its,rv,⟨o,n,h1,h2,_,h3⟩,_⟩:=I.list hq.sq
 obtain⟨as,q⟩:=h rv
 exact⟨_,.list h1 h2 h3 (by simpa using q)⟩
theorem TJ(I:⇑1)(hq:fD H a xs)(r:RelV (.ref a) u)(h:∀{us},bA xs us->∃as,ReadsAll s.heap us ds as):∃as,Reads s.heap u (.tuple ds) as:=by
 cases(show u=Value.ref a from r)
 obtain⟨its,rv,⟨o,h1,h2,n,h3⟩,_⟩:=I.tuple (.inl hq)
 obtain⟨as,q⟩:=h rv
 exact⟨_,.tuple h1 h2 h3 (by simpa using q)⟩
theorem HD.reads(I:⇑1)(h:HD X.K H x d):∀{u:Value},RelV x u->PyData.canLay0 d=true->∃as,Reads s.heap u d as:=
 HD.rec (motive_1:=λx d _=>∀{u},RelV x u->d.canLay0=true->∃as,Reads s.heap u d as) (motive_2:=λx d _=>∀{u},bA x u->PyData.canLayAll0 d=true->∃as,ReadsAll s.heap u d as)
  (λ{u} r _=>by cases(show u=Value.none from r);exact⟨_,.none⟩) (λb {u} r _=>by cases(show u=Value.bool b from r);exact⟨_,.bool b⟩) (λi {u} r _=>by obtain⟨t,rfl⟩:=r;exact⟨_,.int i t⟩) (λi {u} r _=>by obtain⟨t,rfl⟩:=r;exact⟨_,.str i t⟩)
  (λ{_ _ _} hq _ i {_} r c=>TH I hq r λrv=>i rv (by rw[PyData.canLay0]at c;exact c)) (λ{_ _ _} hq _ i {_} r c=>TJ I hq r λrv=>i rv (by rw[PyData.canLay0]at c;exact c)) (λ{_ _ _} _ _ _ _ {_} _ c=>by rw[PyData.canLay0]at c;cases c) (λ{_ _ _} _ {_} _ c=>by rw[PyData.canLay0]at c;cases c) (λ{_ _ _} _ _ {_} _ c=>by rw[PyData.canLay0]at c;cases c) (λ_ {_} _ c=>by rw[PyData.canLay0]at c;cases c) (λ{_ _ _ _ _ _} _ _ _ _ {_} _ c=>by rw[PyData.canLay0]at c;cases c)
  (λ{_} r _=>by cases r;exact⟨_,.nil⟩) (λ{_ _ _ _} _ _ i j {_} r c=>by
   rw[PyData.canLayAll0,aaX]at c;cases r with
   |cons r rs=>
     obtain⟨as,q⟩:=i r c.1;obtain⟨bs,qs⟩:=j rs c.2;exact⟨_,.cons q qs⟩) h
end
theorem cY.len{K:ao}:∀{xs:List V} {ds:List D},cY K H xs ds->xs.length=ds.length
 |_,_,.nil=>rfl
 |_,_,.cons _ t=>by rw[aaz,aaz,cY.len t]
theorem cY.get{K:ao}:∀{xs:List V} {ds:List D} {i:Nat} {d:D},cY K H xs ds->ds[i]?=some d->∃x,xs[i]?=some x/\HD K H x d
 |_,_,_,_,.nil,e=>by simp at e
 |_,_,0,_,.cons r _,e=>by simp at e;subst e;exact⟨_,rfl,r⟩
 |_,_,i+1,y,.cons _ t,e=>by
   obtain⟨u,h1,h2⟩:=cY.get (i:=i) (d:=y) t (by simpa using e);exact⟨u,by simpa using h1,h2⟩
theorem cY.app{K:ao}:∀{xs xs':List V} {ds X0:List D},cY K H xs ds->cY K H xs' X0->cY K H (xs++xs') (ds++X0)
 |_,_,_,_,.nil,s=>s
 |_,_,_,_,.cons r t,s=>.cons r (cY.app t s)
theorem cY.QU{K:ao}:∀{xs:List V} {ds:List D} (n:Nat),cY K H xs ds->cY K H (xs.take n) (ds.take n)
 |_,_,0,_=>.nil
 |_,_,_+1,.nil=>.nil
 |_,_,n+1,.cons r t=>.cons r (cY.QU n t)
theorem cY.QV{K:ao}:∀{xs:List V} {ds:List D} (n:Nat),cY K H xs ds->cY K H (xs.drop n) (ds.drop n)
 |_,_,0,r=>r
 |_,_,_+1,.nil=>.nil
 |_,_,n+1,.cons _ t=>cY.QV n t
theorem cY.X1{K:ao}(r:HD K H x d):∀{xs:List V} {ds:List D} (i:Nat),cY K H xs ds->cY K H (xs.set i x) (ds.set i d)
 |_,_,_,.nil=>.nil
 |_,_,0,.cons _ t=>.cons r t
 |_,_,i+1,.cons q t=>.cons q (cY.X1 r i t)
theorem cY.ints{K:ao}:∀ns:List Int,cY K H (ns.map V.int) (ns.map PyData.int)
 |[]=>.nil
 |n::ns=>.cons (.int n) (cY.ints ns)
inductive Ei(K:ao)(H:Hp):HO->D->Prop
 |lst {ys:List V} {ds:List D}:cY K H ys ds->Ei K H (.lst ys) (.list ds)
 |vg {bb:List (List Key×V)} {kds:List (D×D)}:kds.map (·.1)=bb.map (λp=>PyData.tuple (p.1.map rm))->cY K H (bb.map (·.2)) (kds.map (·.2))->Ei K H (.dT bb) (.dict kds)
theorem Ei.same{K:ao}(s:aG H H')(h:Ei K H o d):Ei K H' o d:=by
 cases h with
 |lst q=>exact .lst (q.same s)
 |vg k q=>exact .vg k (q.same s)
theorem Ei.own{K:ao}(h:Ei K H o d):yg o:=by cases h<;>trivial
theorem Ei.hd{K:ao}(h:Ei K H o d)(e:H l=some o):HD K H (.ref l) d:=by
 cases h with
 |lst q=>exact .lst (.of e) q
 |vg k q=>exact .vg e k q
def Ip:List (D×D)->Bool
 |(.list [],_)::_=>true
 |_=>false
def jk(K:ao)(A:List Addr)(H:Hp)(v:V)(d:D):Prop:=HD K (wo H A) v d\/∃l o,v=.ref l/\H l=some o/\Ei K (wo H A) o d
section
variable {K:ao}{H H':Hp}{A:List Addr}{v:V}{d:D}
theorem jk.of(h:HD K (wo H A) v d):jk K A H v d:=.inl h
theorem jk.same(s:aG H H')(h:jk K A H v d):jk K A H' v d:=by
 rcases h with h|⟨l,o,rfl,e,q⟩
 .exact .inl (h.same (bR s))
 .exact .inr ⟨l,o,rfl,s _ _ e,q.same (bR s)⟩
theorem jk.Z4(h:jk K A H v d):HD K H v d:=by
 rcases h with h|⟨l,o,rfl,e,q⟩
 .exact h.same cg
 .exact (q.same cg).hd e
theorem jk.list(h:jk K A H v (.list ds)):∃l ys,v=.ref l/\BE K H l ys/\cY K (wo H A) ys ds:=by
 rcases h with h|⟨l,o,rfl,e,q⟩
 .cases h with
  |lst hq h=>exact⟨_,_,rfl,hq.same cg,h⟩
 .cases q with
  |lst q=>exact⟨l,_,rfl,.of e,q⟩
theorem jk.X2(h:jk K A H v (.tuple ds)):∃l ys,v=.ref l/\fD H l ys/\cY K (wo H A) ys ds:=by
 rcases h with h|⟨l,o,rfl,e,q⟩
 .cases h with
  |tup hq h=>exact⟨_,_,rfl,cg.ng hq,h⟩
 .cases q
theorem jk.tuple(h:jk K A H v (.tuple ds)):∃l ys,v=.ref l/\kz K H l ys/\cY K (wo H A) ys ds:=
 let⟨l,ys,a,b,c⟩:=h.X2;⟨l,ys,a,.inl b,c⟩
theorem jk.dict(h:jk K A H v (.dict kds))(hf:Ip kds=false):∃l bb,v=.ref l/\H l=some (.dT bb)/\kds.map (·.1)=bb.map (λp=>PyData.tuple (p.1.map rm))/\cY K (wo H A) (bb.map (·.2)) (kds.map (·.2)):=by
 rcases h with h|⟨l,o,rfl,e,q⟩
 .cases h with
  |vg hq k h=>exact⟨_,_,rfl,cg _ _ hq,k,h⟩
  |exc _ _=>cases hf
  |ptr _=>cases hf
  |XZ _ _ _=>cases hf
  |fn hq=>cases hf
 .cases q with
  |vg k q=>exact⟨l,_,rfl,e,k,q⟩
theorem jk.fz(h:jk K A H v (.tuple ds)):HD K (wo H A) v (.tuple ds):=by
 rcases h with h|⟨l,o,rfl,e,q⟩
 .exact h
 .cases q
theorem jk.int(h:jk K A H v (.int i)):v=.int i:=by
 rcases h with h|⟨l,o,rfl,e,q⟩
 .cases h;rfl
 .cases q
theorem jk.bool(h:jk K A H v (.bool b)):v=.bl b:=by
 rcases h with h|⟨l,o,rfl,e,q⟩
 .cases h;rfl
 .cases q
theorem jk.str(h:jk K A H v (.str b)):v=.str b:=by
 rcases h with h|⟨l,o,rfl,e,q⟩
 .cases h;rfl
 .cases q
theorem jk.iu(h:jk K A H v .none):v=.iu:=by
 rcases h with h|⟨l,o,rfl,e,q⟩
 .cases h;rfl
 .cases q
end
structure Rel(K:ao)(O:List Nat)(U A0:List Addr)(σ:St)(δ:DS)(H:Hp):Prop where
 len:σ.length=δ.length
 fz:∀(i:Nat) d,i∉O->δ[i]?=some (some d)->∃v,σ[i]?=some (some v)/\HD K (wo H (U++A0)) v d
 ow:∀(i:Nat) d,i∈O->δ[i]?=some (some d)->∃l o,σ[i]?=some (some (.ref l))/\l∈U/\H l=some o/\Ei K (wo H (U++A0)) o d
 inj:∀(i j:Nat) d e l,i∈O->j∈O->i≠j->δ[i]?=some (some d)->δ[j]?=some (some e)->σ[i]?=some (some (.ref l))->σ[j]?=some (some (.ref l))->False
 al:Ls (U++A0) H
section
variable {K:ao}{O:List Nat}{U A0:List Addr}{σ:St}{δ:DS}{H H':Hp}
theorem Rel.same(R:Rel K O U A0 σ δ H)(s:aG H H'):Rel K O U A0 σ δ H' where
 len:=R.len
 fz:=λi d hi e=>let⟨v,a,b⟩:=R.fz i d hi e;⟨v,a,b.same (bR s)⟩
 ow:=λi d hi e=>let⟨l,o,a,c,f,g⟩:=R.ow i d hi e;⟨l,o,a,c,s _ _ f,g.same (bR s)⟩
 inj:=R.inj
 al:=R.al.same s
theorem Rel.owL(R:Rel K O U A0 σ δ H)(i:Nat)(d:D)(hi:i∈O)(e:δ[i]?=some (some d)):(∃l ys ds,σ[i]?=some (some (.ref l))/\d=.list ds/\l∈U/\H l=some (.lst ys)/\cY K (wo H (U++A0)) ys ds)\/∃kds,d=.dict kds:=by
 obtain⟨l,o,a,c,f,g⟩:=R.ow i d hi e
 cases g with
 |lst q=>exact .inl ⟨l,_,_,a,rfl,c,f,q⟩
 |vg k q=>exact .inr ⟨_,rfl⟩
theorem Rel.at(R:Rel K O U A0 σ δ H){i:Nat}(e:δ[i]?=some (some d)):∃v,σ[i]?=some (some v)/\jk K (U++A0) H v d:=by
 by_cases hi:i∈O
 .obtain ⟨l,o,a,c,f,g⟩:=R.ow i d hi e;exact⟨_,a,.inr ⟨l,o,rfl,f,g⟩⟩
 .obtain ⟨v,a,b⟩:=R.fz i d hi e;exact⟨v,a,.inl b⟩
theorem Rel.set(R:Rel K O U A0 σ δ H)(hi:i∉O)(h:HD K (wo H (U++A0)) v d):Rel K O U A0 (σ.set i (some v)) (δ.set i (some d)) H where
 len:=by rw[aca,aca];exact R.len
 fz:=λj e hj q=>by
  by_cases yh:i=j
  .subst yh;have hl:i<δ.length:=by have:=(aar.mp q).1;rwa [aca]at this
   rw[abl hl]at q;cases q;exact⟨v,abl (by rw[R.len];exact hl),h⟩
  .rw [aaT yh]at q ⊢;exact R.fz j e hj q
 ow:=λj e hj q=>by
  have yh:i≠j:=λz=>hi (z ▸ hj);rw[aaT yh]at q ⊢;exact R.ow j e hj q
 inj:=λj k d e l hj hk V1 q1 q2 e1 e2=>by
  have yh:i≠j:=λz=>hi (z ▸ hj);have TL:i≠k:=λz=>hi (z ▸ hk);rw[aaT yh]at q1 e1;rw[aaT TL]at q2 e2;exact R.inj j k d e l hj hk V1 q1 q2 e1 e2
 al:=R.al
theorem Rel.X3(R:Rel K O U A0 σ δ H)(s:aG H H')(hr:H r=none)(h:H' r=some ob)(q:Ei K (wo H' (r::(U++A0))) ob db)(hi:i∈O):
  Rel K O (r::U) A0 (σ.set i (some (.ref r))) (δ.set i (some db)) H' where
 len:=by rw[aca,aca];exact R.len
 fz:=λj e hj q=>by
  have yh:i≠j:=λz=>hj (z ▸ hi);rw[aaT yh]at q ⊢;obtain⟨v,a,b⟩:=R.fz j e hj q;exact⟨v,a,b.same (Gp s hr)⟩
 ow:=λj e hj w=>by
  by_cases yh:i=j
  .subst yh;have hl:i<δ.length:=by have:=(aar.mp w).1;rwa [aca]at this
   rw[abl hl]at w;cases w;exact⟨r,ob,abl (by rw[R.len];exact hl),by simp,h,q⟩
  .rw [aaT yh]at w ⊢;obtain⟨l,o,a,c,f,g⟩:=R.ow j e hj w;exact⟨l,o,a,by simp[c],s _ _ f,g.same (Gp s hr)⟩
 inj:=λj k d e l hj hk V1 q1 q2 e1 e2=>by
  have X4:∀{x:D},(δ.set i (some db))[i]?=some (some x)->i<δ.length:=λw=>by have:=(aar.mp w).1;rwa [aca]at this
  by_cases yh:i=j
  .subst yh;have TL:=V1;rw[abl (by rw[R.len];exact X4 q1)]at e1;rw[aaT TL]at q2 e2;cases e1;obtain⟨l,o,a,c,f,g⟩:=R.ow k e hk q2;rw[a]at e2;cases e2;rw[hr]at f;cases f
  .by_cases TL:i=k
   .subst TL;rw[abl (by rw[R.len];exact X4 q2)]at e2;rw[aaT yh]at q1 e1;cases e2;obtain⟨l,o,a,c,f,g⟩:=R.ow j d hj q1;rw[a]at e1;cases e1;rw[hr]at f;cases f
   .rw [aaT yh]at q1 e1;rw[aaT TL]at q2 e2;exact R.inj j k d e l hj hk V1 q1 q2 e1 e2
 al:=⟨λa ha=>by
  rcases aap.mp ha with z|z
  .rcases aaj.mp z with z|z;.subst z;exact⟨ob,h,q.own⟩
   .exact (R.al.same s).1 a (aax _ z)
  .exact (R.al.same s).1 a (aaf _ z),(R.al.same s).2⟩
theorem Rel.abb(R:Rel K O U A0 σ δ H)(s:aG H H')(hr:H r=none)(h:H' r=some (.lst ys))(q:cY K (wo H' (r::(U++A0))) ys ds)(hi:i∈O):
  Rel K O (r::U) A0 (σ.set i (some (.ref r))) (δ.set i (some (.list ds))) H':=R.X3 s hr h (.lst q) hi
theorem Rel.X5(R:Rel K O U A0 σ δ H)(hi:i∈O)(hl:σ[i]?=some (some (.ref l)))(hU:l∈U)(q:Ei K (wo H (U++A0)) ob db)(hd:∃d,δ[i]?=some (some d)):
  Rel K O U A0 σ (δ.set i (some db)) (upd H l ob):=by
 have hw:wo (upd H l ob) (U++A0)=wo H (U++A0):=K2 (aax _ hU)
 obtain⟨d0,hd⟩:=hd
 have hlen:=(aar.mp hd).1
 exact{
  len:=by rw[aca];exact R.len
  fz:=λj e hj w=>by
   have yh:i≠j:=λz=>hj (z ▸ hi);rw[aaT yh]at w;rw[hw];exact R.fz j e hj w
  ow:=λj e hj w=>by
   rw[hw];by_cases yh:i=j
   .subst yh;rw[abl hlen]at w;cases w;exact⟨l,ob,hl,hU,aL,q⟩
   .rw [aaT yh]at w;obtain⟨l',o',a,c,f,g⟩:=R.ow j e hj w;have iw:l'≠l:=by
     intro z;subst z;exact R.inj i j d0 e _ hi hj yh hd w hl a
    exact⟨l',o',a,c,by rw[av iw];exact f,g⟩
  inj:=λj k d e l hj hk V1 q1 q2 e1 e2=>by
   have f:∀{m:Nat} {x:D},(δ.set i (some db))[m]?=some (some x)->∃y,δ[m]?=some (some y):=by grind
   obtain⟨y1,w1⟩:=f q1;obtain⟨y2,w2⟩:=f q2;exact R.inj j k y1 y2 l hj hk V1 w1 w2 e1 e2
  al:=⟨λa ha=>by
   by_cases e:a=l;.subst e;exact⟨ob,aL,q.own⟩
   .rw [av e];exact R.al.1 a ha,λp xs m=>
    let⟨_,e,w⟩:=R.al.1 l (aax _ hU);(R.al.2.1 p xs m).ne ((R.al.2.1 p xs m).apart e w),λp y q m=>by
    obtain⟨_,e,w⟩:=R.al.1 l (aax _ hU);rw[av λz=>?_];.exact R.al.2.2 p y q m
    .have t:=R.al.2.2 p y q m;rw[z,e]at t;cases t;exact w⟩}
theorem Rel.put(R:Rel K O U A0 σ δ H)(hi:i∈O)(hl:σ[i]?=some (some (.ref l)))(hU:l∈U)(q:cY K (wo H (U++A0)) ys ds)(hd:∃d,δ[i]?=some (some d)):
  Rel K O U A0 σ (δ.set i (some (.list ds))) (upd H l (.lst ys)):=R.X5 hi hl hU (.lst q) hd
end
structure Fx(H0:Hp)(A0 U:List Addr)(H:Hp):Prop where
 same:aG H0 H
 new:∀a∈U,H0 a=none
 old:Ls A0 H0
section
variable {U U' A0:List Addr}{H0 H H':Hp}
theorem Fx.grow(F:Fx H0 A0 U H)(s:aG H H'):Fx H0 A0 U H':=⟨F.same.trans s,F.new,F.old⟩
theorem Fx.more(F:Fx H0 A0 U H)(s:aG H H')(hr:H r=none):Fx H0 A0 (r::U) H':=⟨F.same.trans s,λa ha=>by
 rcases aaj.mp ha with z|z
 .subst z;exact F.same.free hr
 .exact F.new a z,F.old⟩
theorem Fx.put(F:Fx H0 A0 U H)(hl:l∈U)(o:HO):Fx H0 A0 U (upd H l o):=⟨F.same.upd (F.new l hl) o,F.new,F.old⟩
theorem Fx.out(F:Fx H0 A0 U H)(hl:l∈U):l∉A0:=λz=>by
 obtain⟨ys,e,_⟩:=F.old.1 l z
 rw[F.new l hl]at e;cases e
theorem Fx.here(F:Fx H0 A0 U H):Fx (wo H U) A0 U H:=⟨cg,λ_ h=>fQ h,λa ha=>by
 obtain⟨ys,e,q⟩:=F.old.1 a ha
 refine⟨ys,?_,q⟩
 rw[bg λz=>?_]
 .exact F.same _ _ e
 .exact F.out z ha,λp xs m=>(F.same.ng (F.old.2.1 p xs m)).wo λz=>(by
 rcases F.old.2.1 p xs m with t|⟨ob,t⟩<;>rw[F.new p z]at t<;>cases t),λp y q m=>by
 rw[bg λz=>?_]
 .exact F.same _ _ (F.old.2.2 p y q m)
 .have t:=F.old.2.2 p y q m;rw[F.new p z]at t;cases t⟩
theorem Fx.trans(F:Fx H0 A0 U H)(G:Fx (wo H U) A0 U' H'):Fx H0 A0 U' H':=by
 have k:∀a o,H0 a=some o->wo H U a=some o:=λa o e=>by
  rw[bg λz=>?_];.exact F.same _ _ e
  .rw [F.new a z]at e;cases e
 refine⟨λa o e=>G.same _ _ (k a o e),λa ha=>?_,F.old⟩
 cases e:H0 a with
 |none=>rfl
 |some o=>
   have:=G.new a ha;rw[k a o e]at this;cases this
theorem Fx.keeps(G:Fx (wo H U) A0 U' H'):aG (wo H (U++A0)) (wo H' (U'++A0)):=λb o e=>by
 obtain⟨h1,h2⟩:=o7 e
 simp only[aap,not_or]at h1
 have h3:wo H U b=some o:=by rw[bg h1.1];exact h2
 rw[bg]
 .exact G.same _ _ h3
 .simp only[aap,not_or];refine⟨λz=>?_,h1.2⟩;rw[G.new b z]at h3;cases h3
end
def tE(K:ao)(O:List Nat)(g:DS->Option D):TE:=λ7=>∃U A0 δ d,Rel K O U A0 σ δ H/\g δ=some d/\∀v H',aG H H'->HD K (wo H' (U++A0)) v d->Q v H'
theorem tE.e{K:ao}  {GG:Prop}(hh:tE K O g σ H Q)(kk:∀U A0 δ d,(Rel K O U A0 σ δ H)->(g δ=some d)->(∀v H',aG H H'->HD K (wo H' (U++A0)) v d->Q v H')->GG):GG:=by obtain⟨U,A0,δ,d,x0,x1,x2⟩:=hh;exact kk U A0 δ d x0 x1 x2
def iy(K:ao)(O:List Nat)(g:DS->Option D):TE:=λ7=>∃U A0 δ d,Rel K O U A0 σ δ H/\g δ=some d/\∀v H',aG H H'->jk K (U++A0) H' v d->Q v H'
theorem iy.e{K:ao}  {GG:Prop}(hh:iy K O g σ H Q)(kk:∀U A0 δ d,(Rel K O U A0 σ δ H)->(g δ=some d)->(∀v H',aG H H'->jk K (U++A0) H' v d->Q v H')->GG):GG:=by obtain⟨U,A0,δ,d,x0,x1,x2⟩:=hh;exact kk U A0 δ d x0 x1 x2
def tN(K:ao)(O:List Nat)(g:DS->Option (List D)):TE:=λ7=>∃U A0 δ ds,Rel K O U A0 σ δ H/\g δ=some ds/\
 ∀r ys H',aG H H'->H r=none->H' r=some (.lst ys)->cY K (wo H' (r::(U++A0))) ys ds->Q (.ref r) H'
theorem tN.e{K:ao}  {GG:Prop}(hh:tN K O g σ H Q)(kk:∀U A0 δ ds,(Rel K O U A0 σ δ H)->(g δ=some ds)->(∀r ys H',aG H H'->H r=none->H' r=some (.lst ys)->cY K (wo H' (r::(U++A0))) ys ds->Q (.ref r) H')->GG):GG:=by obtain⟨U,A0,δ,ds,x0,x1,x2⟩:=hh;exact kk U A0 δ ds x0 x1 x2
def tT(K:ao)(O:List Nat)(g:DS->Option Bool):TT:=λ7=>∃U A0 δ b,Rel K O U A0 σ δ H/\g δ=some b/\∀H',aG H H'->Q b H'
theorem tT.e{K:ao}  {GG:Prop}(hh:tT K O g σ H Q)(kk:∀U A0 δ b,(Rel K O U A0 σ δ H)->(g δ=some b)->(∀H',aG H H'->Q b H')->GG):GG:=by obtain⟨U,A0,δ,b,x0,x1,x2⟩:=hh;exact kk U A0 δ b x0 x1 x2
def BY(K:ao)(O:List Nat)(g:DS->Option (List D)):TA:=λ7=>∃U A0 δ ds,Rel K O U A0 σ δ H/\g δ=some ds/\∀vs H',aG H H'->cY K (wo H' (U++A0)) vs ds->Q vs H'
theorem BY.e{K:ao}  {GG:Prop}(hh:BY K O g σ H Q)(kk:∀U A0 δ ds,(Rel K O U A0 σ δ H)->(g δ=some ds)->(∀vs H',aG H H'->cY K (wo H' (U++A0)) vs ds->Q vs H')->GG):GG:=by obtain⟨U,A0,δ,ds,x0,x1,x2⟩:=hh;exact kk U A0 δ ds x0 x1 x2
def Iq(K:ao)(A:List Addr)(H:Hp):List V->List D->Prop:=Paired (jk K A H)
def yi(K:ao)(O:List Nat)(g:DS->Option (List D)):TA:=λ7=>∃U A0 δ ds,Rel K O U A0 σ δ H/\g δ=some ds/\∀vs H',aG H H'->Iq K (U++A0) H' vs ds->Q vs H'
theorem yi.e{K:ao}  {GG:Prop}(hh:yi K O g σ H Q)(kk:∀U A0 δ ds,(Rel K O U A0 σ δ H)->(g δ=some ds)->(∀vs H',aG H H'->Iq K (U++A0) H' vs ds->Q vs H')->GG):GG:=by obtain⟨U,A0,δ,ds,x0,x1,x2⟩:=hh;exact kk U A0 δ ds x0 x1 x2
inductive Res where
 |nx (δ:DS)|rt (d:D)|bk (δ:DS)|ct (δ:DS)
abbrev cC:=DS->Option (List D)
abbrev bo:=DS->Option Res
abbrev nh:=DS->Option Bool
abbrev bj:=DS->Option D
abbrev fR:=Option (List D)
abbrev fS:=List (D×D)
def yj(K:ao)(fr:Bool)(H0:Hp)(A0:List Addr)(v:V)(d:D)(H':Hp):Prop:=
 if fr=true then ∃r o,v=.ref r/\aG H0 H'/\H0 r=none/\H' r=some o/\Ei K (wo H' (r::A0)) o d else aG H0 H'/\HD K (wo H' A0) v d
def rxD(c:Str):D:=.dict [(.none,.str c)]
abbrev Fr:=Bool×(Str->Hp->Prop)
def X6(K:ao)(O:List Nat)(fr:Fr)(H0:Hp)(A0:List Addr)(E:Ends):Res->Prop
 |.nx δ=>∀U σ H,Rel K O U A0 σ δ H->Fx H0 A0 U H->E.nx σ H
 |.bk δ=>∀U σ H,Rel K O U A0 σ δ H->Fx H0 A0 U H->E.bk σ H
 |.ct δ=>∀U σ H,Rel K O U A0 σ δ H->Fx H0 A0 U H->E.ct σ H
 |.rt d=>(∀v H,yj K fr.1 H0 A0 v d H->E.rt v H)/\∀c H,d=rxD c->aG H0 H->fr.2 c H
def tS(K:ao)(O:List Nat)(fr:Fr)(g:bo):TS:=λE σ H=>∃H0 U A0 δ r,Rel K O U A0 σ δ H/\Fx H0 A0 U H/\g δ=some r/\X6 K O fr H0 A0 E r
theorem tS.e{K:ao}  {GG:Prop}(hh:tS K O fr g E σ H)(kk:∀H0 U A0 δ r,(Rel K O U A0 σ δ H)->(Fx H0 A0 U H)->(g δ=some r)->(X6 K O fr H0 A0 E r)->GG):GG:=by obtain⟨H0,U,A0,δ,r,x0,x1,x2,x3⟩:=hh;exact kk H0 U A0 δ r x0 x1 x2 x3
def Walks(K:ao)(A:List Addr)(H1:Hp)(J:It)(ds:List D):Prop:=∀(A':List Addr) (i:Nat) (H:Hp),aG (wo H1 A) (wo H A')->Ls A' H->
 (∀d,ds[i]?=some d->J.go i H/\∀x H2,J.Xu i H x H2->aG H H2/\HD K (wo H2 A') x d)/\(i=ds.length->J.stop i H)
def tI(K:ao)(O:List Nat)(g:cC):TI:=λσ H R=>∃U A0 δ ds,Rel K O U A0 σ δ H/\g δ=some ds/\∀J H1,aG H H1->Walks K (U++A0) H1 J ds->R J H1
theorem tI.e{K:ao}  {GG:Prop}(hh:tI K O g σ H R)(kk:∀U A0 δ ds,(Rel K O U A0 σ δ H)->(g δ=some ds)->(∀J H1,aG H H1->Walks K (U++A0) H1 J ds->R J H1)->GG):GG:=by obtain⟨U,A0,δ,ds,x0,x1,x2⟩:=hh;exact kk U A0 δ ds x0 x1 x2
def tG(K:ao)(O:List Nat)(g:D->DS->Option DS):TG:=λv σ H Q=>∃U A0 δ d δ',Rel K O U A0 σ δ H/\HD K (wo H (U++A0)) v d/\g d δ=some δ'/\∀ck,Rel K O U A0 ck δ' H->Q ck H
theorem tG.e{K:ao}  {GG:Prop}(hh:tG K O g v σ H Q)(kk:∀U A0 δ d δ',(Rel K O U A0 σ δ H)->(HD K (wo H (U++A0)) v d)->(g d δ=some δ')->(∀ck,Rel K O U A0 ck δ' H->Q ck H)->GG):GG:=by obtain⟨U,A0,δ,d,δ',x0,x1,x2,x3⟩:=hh;exact kk U A0 δ d δ' x0 x1 x2 x3
section
variable {X:Cx}
theorem PE.mono(h:PE X e t)(m:∀σ H Q,t' σ H Q->t σ H Q):PE X e t':=λpins s σ H Q I q=>h pins s σ H Q I (m σ H Q q)
theorem PT.mono(h:PT X e t)(m:∀σ H Q,t' σ H Q->t σ H Q):PT X e t':=λpins s σ H Q I q=>h pins s σ H Q I (m σ H Q q)
theorem PW.mono(h:PW X e t)(m:∀σ H Q,t' σ H Q->t σ H Q):PW X e t':=λw pins s σ H Q I q=>h w pins s σ H Q I (m σ H Q q)
theorem PA.mono(h:PA X e t)(m:∀σ H Q,t' σ H Q->t σ H Q):PA X e t':=λpos pins s σ H Q I q=>h pos pins s σ H Q I (m σ H Q q)
theorem PS.mono(h:PS X e t)(m:∀E σ H,t' E σ H->t E σ H):PS X e t':=λpins s σ H E I q=>h pins s σ H E I (m E σ H q)
theorem iP.mono(h:iP X e t)(m:∀E σ H,t' E σ H->t E σ H):iP X e t':=λpins s σ H E I q=>h pins s σ H E I (m E σ H q)
theorem PI.mono(h:PI X tg e t)(m:∀σ H R,t' σ H R->t σ H R):PI X tg e t':=λpins s σ H R I q=>h pins s σ H R I (m σ H R q)
theorem PG.mono(h:PG X e t)(m:∀v σ H Q,t' v σ H Q->t v σ H Q):PG X e t':=λpins s σ H v u Q I r q=>h pins s σ H v u Q I r (m v σ H Q q)
theorem PO.mono(h:PO X e t)(m:∀σ H Q,t' σ H Q->t σ H Q):PO X e t':=λpins s σ H Q I q=>h pins s σ H Q I (m σ H Q q)
end
noncomputable def ae(i:Nat):bj:=λδ=>(δ[i]?).join
noncomputable def gC(d:D):bj:=λ_=>some d
abbrev ay(x:Int):DS->Option D:=gC (.int x)
abbrev cD(x:Str):DS->Option D:=gC (.str x)
noncomputable abbrev fk(x:Str):Option D:=some (.str x)
noncomputable def aX(g:cC):bj:=λδ=>(g δ).map .list
theorem join_some{α:Type}{o:Option (Option α)}{d:α}(h:o.join=some d):o=some (some d):=by
 cases o with
 |none=>cases h
 |some p=>cases p with
   |none=>cases h
   |some q=>cases h;rfl
section
variable {X:Cx}{O:List Nat}{e:Expr}{g:bj}
theorem TM(h:PE X e (kU i))(hi:i∉O:=by decide):PE X e (tE X.K O (ae i)):=h.mono λ0=>by
 obtain⟨v,hv,hd⟩:=R.fz i d hi (join_some ed)
 exact⟨v,hv,q v H (aG.refl H) hd⟩
theorem TN(h:PE X e (kU i)):PE X e (iy X.K O (ae i)):=h.mono λ0=>by
 obtain⟨v,hv,hd⟩:=R.at (join_some ed)
 exact⟨v,hv,q v H (aG.refl H) hd⟩
theorem TQ(h:PE X e (tC v))(hd:∀H,HD X.K H v d):PE X e (tE X.K O (gC d)):=h.mono λσ H Q hh=>hh.e λU A0 δ d' R ed q=>by
 cases ed
 exact q v H (aG.refl H) (hd _)
theorem bp(h:PE X e (tC (.int i))):PE X e (tE X.K O (gC (.int i))):=TQ h λ_=>.int i
theorem lI(h:PE X e (tC (.bl i))):PE X e (tE X.K O (gC (.bool i))):=TQ h λ_=>.bl i
theorem aK(h:PE X e (tC (.str i))):PE X e (tE X.K O (gC (.str i))):=TQ h λ_=>.str i
theorem PE.sh(h:PE X e (tE X.K O g)):PE X e (iy X.K O g):=h.mono λ0=>⟨U,A0,δ,d,R,ed,λv H' s z=>q v H' s (.inl z)⟩
theorem QW{K:ao}{g:cC}:tE K O (aX g) σ H Q->tN K O g σ H Q:=λ⟨U,A0,δ,d,R,ed,q⟩=>by
 unfold aX at ed
 cases eg:g δ with
 |none=>rw[eg]at ed;cases ed
 |some ds=>
   rw[eg]at ed;cases ed;refine⟨U,A0,δ,ds,R,eg,λr ys H' s hr h1 h2=>q _ H' s ?_⟩;have hn:=R.al.free hr;exact .lst (.of (by rw[bg hn];exact h1)) (h2.same (i9 λa ha=>aat _ ha))
theorem PE.nE{g:cC}(h:PE X e (tN X.K O g)):PE X e (tE X.K O (aX g)):=h.mono λ_ _ _=>QW
end
def g2(f:D->D->Option D)(a b:bj):bj:=λδ=>(a δ).bind λx=>(b δ).bind λy=>f x y
def K3(f:D->D->fR)(a b:bj):cC:=λδ=>(a δ).bind λx=>(b δ).bind λy=>f x y
def jo(K:ao)(r:R2)(f:D->D->Option D):Prop:=∀(A:List Addr) (H:Hp) (x y:V) (dx dy d:D) (Q:VK),Ls A H->jk K A H x dx->jk K A H y dy->f dx dy=some d->(∀v H',aG H H'->HD K (wo H' A) v d->Q v H')->r x y H Q
def K4(K:ao)(r:R2)(f:D->D->fR):Prop:=∀(A:List Addr) (H:Hp) (x y:V) (dx dy:D) (ds:List D) (Q:VK),Ls A H->jk K A H x dx->jk K A H y dy->f dx dy=some ds->
 (∀p ys,H p=none->cY K (wo H A) ys ds->Q (.ref p) (upd H p (.lst ys)))->r x y H Q
theorem Gq{α β γ:Type}{a:Option α}{b:Option β}{f:α->β->Option γ}{d:γ}(h:(a.bind λx=>b.bind λy=>f x y)=some d):∃x y,a=some x/\b=some y/\f x y=some d:=by
 cases a with
 |none=>cases h
 |some x=>cases b with
   |none=>cases h
   |some y=>exact⟨x,y,rfl,rfl,h⟩
theorem bind1{α β:Type}{a:Option α}{f:α->Option β}{d:β}(h:a.bind f=some d):∃x,a=some x/\f x=some d:=by
 cases a with
 |none=>cases h
 |some x=>exact⟨x,rfl,h⟩
section
variable {X:Cx}{O:List Nat}{a b:Expr}{ga gb:bj}{pos:Pos}{r:R2}
theorem Gr{K:ao}(imp:jo K r f):tE K O (g2 f ga gb) σ H Q->S0 r (iy K O ga) (iy K O gb) σ H Q:=λ⟨U,A0,δ,d,R,ed,q⟩=>by
 obtain⟨x,y,ex,ey,ef⟩:=Gq ed
 exact⟨U,A0,δ,x,R,ex,λv1 H1 s1 h1=>⟨U,A0,δ,y,R.same s1,ey,λv2 H2 s2 h2=>imp _ H2 v1 v2 x y d Q (R.same (s1.trans s2)).al (h1.same s2) h2 ef λv H' s h=>q v H' ((s1.trans s2).trans s) h⟩⟩
theorem zp{K:ao}{Q:VK}(s:aG H H2)(q:∀r ys H',aG H H'->H r=none->H' r=some (.lst ys)->cY K (wo H' (r::A)) ys ds->Q (.ref r) H'):∀p ys,H2 p=none->cY K (wo H2 A) ys ds->Q (.ref p) (upd H2 p (.lst ys)):=
 λp ys hp h=>q p ys _ (s.trans (cU hp _)) (s.free hp) aL (by rw[BX hp];exact h)
theorem X7{K:ao}(imp:K4 K r f):tN K O (K3 f ga gb) σ H Q->S0 r (iy K O ga) (iy K O gb) σ H Q:=λ⟨U,A0,δ,d,R,ed,q⟩=>by
 obtain⟨x,y,ex,ey,ef⟩:=Gq ed
 exact⟨U,A0,δ,x,R,ex,λv1 H1 s1 h1=>⟨U,A0,δ,y,R.same s1,ey,λv2 H2 s2 h2=>imp _ H2 v1 v2 x y d Q (R.same (s1.trans s2)).al (h1.same s2) h2 ef (zp (s1.trans s2) q)⟩⟩
theorem au(ho:jP X (binaryOp op) r)(imp:jo X.K r f)(ha:PE X a (iy X.K O ga))(hb:PE X b (iy X.K O gb)):PE X (.BinOp a op b pos) (tE X.K O (g2 f ga gb)):=(QH ho ha hb).mono λ_ _ _=>Gr imp
theorem vO(ho:jP X (binaryOp op) r)(imp:K4 X.K r f)(ha:PE X a (iy X.K O ga))(hb:PE X b (iy X.K O gb)):PE X (.BinOp a op b pos) (tN X.K O (K3 f ga gb)):=(QH ho ha hb).mono λ_ _ _=>X7 imp
theorem cH(ho:jP X (compareOp op) r)(imp:jo X.K r f)(ha:PE X a (iy X.K O ga))(hb:PE X b (iy X.K O gb))(hm:behindInMarks op b=false):PE X (.Compare a [op] [b] pos) (tE X.K O (g2 f ga gb)):=(Gd ho ha hb hm).mono λ_ _ _=>Gr imp
noncomputable def gB(g:bj):nh:=λδ=>(g δ).bind λ|.bool b=>some b|_=>none
theorem QX{K:ao}{te:TE}(m:∀σ H Q,tE K O g σ H Q->te σ H Q):tT K O (gB g) σ H Q->te σ H λx H'=>∃k,x=.bl k/\Q k H':=λ⟨U,A0,δ,b,R,ed,q⟩=>by
 obtain⟨d,e1,e2⟩:=bind1 ed
 cases d with
 |bool c=>
   cases e2;exact m σ H _ ⟨U,A0,δ,_,R,e1,λv H' s h=>by cases h;exact⟨_,rfl,q H' s⟩⟩
 |_=>cases e2
theorem aQ(ho:jP X (compareOp op) r)(imp:jo X.K r f)(ha:PE X a (iy X.K O ga))(hb:PE X b (iy X.K O gb))(hm:behindInMarks op b=false):PT X (.Compare a [op] [b] pos) (tT X.K O (gB (g2 f ga gb))):=(Ge ho ha hb hm).mono λ_ _ _=>QX λ_ _ _=>Gr imp
end
noncomputable def dI(g:Int->Int->D):D->D->Option D
 |.int a,.int b=>some (g a b)
 |_,_=>none
open Classical in
def TU (C:Int->Int->Prop) (g:Int->Int->D):D->D->Option D
 |.int a,.int b=>if C a b then some (g a b)else none
 |_,_=>none
open Classical in
theorem Ah {C:Int->Int->Prop} {g:Int->Int->D} {a b:Int} (h:C a b):TU C g (.int a) (.int b)=some (g a b):=by
 show(if C a b then some (g a b)else none)=_
 rw[aav h]
theorem X8:dI g (.int a) (.int b)=some (g a b):=rfl
theorem iS{K:ao}{g:Int->Int->Int}:jo K (Ku λi j=>.int (g i j)) (dI λi j=>.int (g i j)):=by
 intro 4
 unfold dI at e
 split at e
 .cases e;exact⟨_,_,hx.int,hy.int,q _ H (aG.refl H) (.int _)⟩
 .cases e
theorem ba{K:ao}{g:Int->Int->Bool}:jo K (Ku λi j=>.bl (g i j)) (dI λi j=>.bool (g i j)):=by
 intro 4
 unfold dI at e
 split at e
 .cases e;exact⟨_,_,hx.int,hy.int,q _ H (aG.refl H) (.bl _)⟩
 .cases e
set_option tactic.hygienic true in
theorem aV{K:ao}{g:Int->Int->Int}:jo K (rI C λi j=>.int (g i j)) (TU C λi j=>.int (g i j)):=by
 intro 4
 unfold TU at e
 split at e
 .split at e
  .rename_i c;cases e;exact⟨_,_,hx.int,hy.int,c,q _ H (aG.refl H) (.int _)⟩
  .cases e
 .cases e
abbrev eZ:D->D->Option D:=dI λi j=>.int (i-j)
abbrev d6:D->D->Option D:=TU IntMulOk λi j=>.int (i*j)
abbrev gg:D->D->Option D:=TU KQ λi j=>.int (i.fdiv j)
abbrev eD:D->D->Option D:=TU (λ_ j=>j≠0) λi j=>.int (i.fmod j)
abbrev nD:D->D->Option D:=TU S5 λi j=>.int (i^j.toNat)
abbrev p6:D->D->Option D:=dI λi j=>.bool (decide (i<j))
abbrev yk:D->D->Option D:=dI λi j=>.bool (decide (i<=j))
abbrev ym:D->D->Option D:=dI λi j=>.bool (decide (j<i))
abbrev Gs:D->D->Option D:=dI λi j=>.bool (decide (j<=i))
noncomputable def f9:D->D->Option D
 |.int a,.int b=>some (.bool (decide (a=b)))
 |a,b=>if(SeqAt.shaped a&&SeqAt.shaped b)=true then some (.bool (PyData.eqv a b))else none
def DN:D->D->Option D:=λa b=>(f9 a b).bind λ|.bool c=>some (.bool (!c))|_=>none
set_option tactic.hygienic true in
theorem Gu(h:f9 a b=some d):SeqAt.shaped a=true/\SeqAt.shaped b=true/\d=.bool (PyData.eqv a b):=by
 unfold f9 at h
 split at h
 .cases h;refine⟨by simp[SeqAt.shaped,PyData.canLay0,PyData.depth],by simp[SeqAt.shaped,PyData.canLay0,PyData.depth],?_⟩;rfl
 .grind
def Ov(K:ao)(neg:Bool):R2:=λx y H Q=>∃d e,HD K H x d/\HD K H y e/\SeqAt.shaped d=true/\SeqAt.shaped e=true/\Q (.bl (if neg=true then !PyData.eqv d e else PyData.eqv d e)) H
section
variable {X:Cx}
theorem bC(hr:cW k X.A):jP X (compareOp .Eq) (Ov X.K false):=by
 intro 2
 obtain⟨d,e,h1,h2,s1,s2,q⟩:=h
 obtain⟨as,r1⟩:=h1.reads I rx (lY s1)
 obtain⟨bs,r2⟩:=h2.reads I ry (lY s2)
 exact eq_dataH r1 r2 s1 s2 hr.units ⟨.bl _,H,I,rfl,q⟩
theorem nF(hr:cW k X.A):jP X (compareOp .NotEq) (Ov X.K true):=by
 intro 2
 obtain⟨d,e,h1,h2,s1,s2,q⟩:=h
 obtain⟨as,r1⟩:=h1.reads I rx (lY s1)
 obtain⟨bs,r2⟩:=h2.reads I ry (lY s2)
 exact ne_dataH r1 r2 s1 s2 hr.units ⟨.bl _,H,I,rfl,q⟩
end
theorem imp_eq{K:ao}:jo K (Ov K false) f9:=by
 intro 4
 obtain⟨a,b,rfl⟩:=Gu e
 exact⟨dx,dy,hx.Z4,hy.Z4,a,b,q _ H (aG.refl H) (.bl _)⟩
theorem nG{K:ao}:jo K (Ov K true) DN:=by
 intro 4
 obtain⟨c,e1,e2⟩:=bind1 e
 obtain⟨a,b,rfl⟩:=Gu e1
 cases e2
 exact⟨dx,dy,hx.Z4,hy.Z4,a,b,q _ H (aG.refl H) (.bl _)⟩
def K5(K:ao):R2:=λx y H Q=>∃l b xs zs,x=.ref l/\y=.ref b/\BE K H l xs/\BE K H b zs/\xs.length+zs.length<=sizeLine/\∀p,H p=none->Q (.ref p) (upd H p (.lst (xs++zs)))
theorem o8:jP X (binaryOp .Add) (K5 X.K):=by
 intro 2
 obtain⟨l,b,xs,zs,rfl,rfl,hH,hB,hz,q⟩:=h
 cases rx
 cases ry
 obtain⟨z,its,n,r,e⟩:=I.lsd hH
 obtain⟨z2,yc,n2,r2,e2⟩:=I.lsd hB
 have hl:=r.length
 have Tq:=r2.length
 refine PySem.P.add_list e e2 ?_ (by rw[aaA,aaA];lia)
 have ea:its.toArray++yc.toArray=(its++yc).toArray:=by simp
 rw[ea]
 exact⟨.ref _,_,I.aa7 (t':=s.toks) (r.append r2) (by rw[aak];lia),rfl,q _ I.fresh⟩
noncomputable def yn:D->D->fR
 |.list a,.list b=>if a.length+b.length<=100000 then some (a++b)else none
 |_,_=>none
set_option tactic.hygienic true in
theorem o9{K:ao}:K4 K (K5 K) yn:=by
 intro A H x y dx dy ds Q al hx hy e q
 unfold yn at e
 split at e
 .split at e
  .rename_i hz;cases e;obtain⟨l,xs,rfl,h1,h2⟩:=hx.list;obtain⟨b,zs,rfl,h3,h4⟩:=hy.list;have:=h2.len;have:=h4.len;exact⟨l,b,xs,zs,rfl,rfl,h1,h3,small ⇑2,λp hp=>q p _ hp (h2.app h4)⟩
  .cases e
 .cases e
noncomputable def TV:D->D->Option D
 |.int a,.int b=>some (.int (a+b))
 |.str a,.str b=>if a.length+b.length<=100000 then some (.str (a++b))else none
 |.list a,.list b=>if a.length+b.length<=100000 then some (.list (a++b))else none
 |.tuple a,.tuple b=>if a.length+b.length<=100000/\a≠[]then some (.tuple (a++b))else none
 |_,_=>none
def Gv(K:ao):R2:=λx y H Q=>Ku (λi j=>.int (i+j)) x y H Q\/(∃i j,x=.str i/\y=.str j/\i.length+j.length<=sizeLine/\Q (.str (i++j)) H)\/K5 K x y H Q\/QL K x y H Q
theorem Ow:jP X (binaryOp .Add) (Gv X.K):=S6.or (D4.or (o8.or Of))
theorem HD.abc{K:ao}(al:Ls A H)(hp:H p=none)(h:cY K (wo H A) ys ds):HD K (wo (upd H p (.lst ys)) A) (.ref p) (.list ds):=by
 rw[KZ (al.free hp)]
 have hn:wo H A p=none:=by
  by_cases z:p∈A;.exact fQ z
  .rw [bg z];exact hp
 exact .lst (.of aL) (h.same (cU hn _))
theorem HD.Ai{K:ao}(al:Ls A H)(hp:H p=none)(h:cY K (wo H A) ys ds):HD K (wo (upd H p (.tup ys)) A) (.ref p) (.tuple ds):=by
 rw[KZ (al.free hp)]
 have hn:wo H A p=none:=by
  by_cases z:p∈A;.exact fQ z
  .rw [bg z];exact hp
 exact .tup (.inl aL) (h.same (cU hn _))
set_option tactic.hygienic true in
theorem Ox{K:ao}:jo K (Gv K) TV:=by
 intro 4
 unfold TV at e
 split at e
 .cases e;exact .inl ⟨_,_,hx.int,hy.int,q _ H (aG.refl H) (.int _)⟩
 .split at e
  .cases e;exact .inr (.inl ⟨_,_,hx.str,hy.str,small (by assumption),q _ H (aG.refl H) (.str _)⟩)
  .cases e
 .split at e
  .rename_i hz;cases e;refine .inr (.inr (.inl (o9 (K:=K) A H x y _ _ _ Q al hx hy (show(if _ then some _ else none)=some _ from aav hz) λp ys hp h=>?_)));exact q _ _ (cU hp _) (HD.abc al hp h)
  .cases e
 .split at e
  .rename_i hz;cases e;have hx':=hx.fz;obtain⟨a,xs,rfl,h1,h2⟩:=hx.tuple;obtain⟨b,zs,rfl,h3,h4⟩:=hy.tuple;have l2:=h2.len;have l4:=h4.len;refine .inr (.inr (.inr ⟨a,b,xs,zs,rfl,rfl,h1,h3,?_,small ⇑2,λz=>?_,λz p hp=>?_⟩));.grind
   .subst z;cases h4;rw[abr]at q;exact q _ H (aG.refl H) hx'
   .exact q _ _ (cU hp _) (HD.Ai al hp (h2.app h4))
  .cases e
 .cases e
def bN:D->D->Option D
 |.list ds,.int i=>so ds i
 |.tuple ds,.int i=>so ds i
 |.str z,.int i=>if z.length<=100000 then(so z.cps.toList i).map λc=>.str ⟨#[c]⟩else none
 |_,_=>none
theorem cY.so{K:ao}(h:cY K H xs ds)(e:so ds i=some d):∃v,L2.so xs i=some v/\HD K H v d:=by
 unfold L2.so at e ⊢
 obtain⟨j,e1,e2⟩:=bind1 e
 rw[h.len,e1]
 obtain⟨x,hx,q⟩:=h.get e2
 exact⟨x,hx,q⟩
set_option tactic.hygienic true in
theorem TX{K:ao}:jo K (rIx K) bN:=by
 intro 4
 unfold bN at e
 split at e
 .obtain ⟨l,xs,rfl,h1,h2⟩:=hx.list;obtain⟨v,e1,e2⟩:=h2.so e;exact .inl ⟨l,xs,_,v,rfl,hy.int,h1.sq,e1,q _ H (aG.refl H) e2⟩
 .obtain ⟨l,xs,rfl,h1,h2⟩:=hx.tuple;obtain⟨v,e1,e2⟩:=h2.so e;exact .inr (.inl ⟨l,xs,_,v,rfl,hy.int,h1,e1,q _ H (aG.refl H) e2⟩)
 .split at e;.rename_i z i hz;cases ec:L2.so z.cps.toList i with
   |none=>rw[ec]at e;cases e
   |some c=>
     rw[ec]at e;cases e;exact .inr (.inr ⟨z,i,c,hx.str,hy.int,small hz,ec,q _ H (aG.refl H) (.str _)⟩)
  .cases e
 .cases e
section
variable {X:Cx}{O:List Nat}{a b:Expr}{ga gb:bj}{pos:Pos}
theorem aR(ha:PE X a (iy X.K O ga))(hb:PE X b (iy X.K O gb))(hs:Gh b:=by exact λ_ _=>rfl):PE X (.Subscript a b pos) (tE X.K O (g2 bN ga gb)):=(XJ Th ha hb hs).mono λ_ _ _=>Gr TX
end
def g1(f:D->Option D)(a:bj):bj:=λδ=>(a δ).bind f
noncomputable def lZ:D->Option D
 |.int a=>some (.int (-a))
 |_=>none
def Oy:D->Option D
 |.bool a=>some (.bool (!a))
 |_=>none
section
variable {X:Cx}{O:List Nat}{a b c:Expr}{ga gb:bj}{pos:Pos}
theorem l0(ha:PE X a (iy X.K O ga)):PE X (.UnaryOp .USub a pos) (tE X.K O (g1 lZ ga)):=(Xy S7 ha).mono λ0=>by
 obtain⟨x,e1,e2⟩:=bind1 ed
 cases x with
 |int i=>cases e2;exact⟨U,A0,δ,_,R,e1,λv H' s h=>⟨i,h.int,q _ H' s (.int _)⟩⟩
 |_=>cases e2
theorem TY(ha:PE X a (iy X.K O ga)):PE X (.UnaryOp .Not a pos) (tE X.K O (g1 Oy ga)):=(SU ha).mono λ0=>by
 obtain⟨x,e1,e2⟩:=bind1 ed
 cases x with
 |bool i=>cases e2;exact⟨U,A0,δ,_,R,e1,λv H' s h=>⟨i,h.bool,q _ H' s (.bl _)⟩⟩
 |_=>cases e2
def fT(a b:bj):bj:=λδ=>(gB a δ).bind λx=>if x=true then b δ else some (.bool false)
def Ir(a b:bj):bj:=λδ=>(gB a δ).bind λx=>if x=true then some (.bool true)else b δ
theorem Gw{b:Bool}(h:gB g δ=some b):g δ=some (.bool b):=by
 obtain⟨d,e1,e2⟩:=bind1 h
 cases d with
 |bool c=>cases e2;exact e1
 |_=>cases e2
theorem g9{rest:List Expr}(ha:PE X a (tE X.K O ga))(hb:PE X (.BoolOp .And (b::rest) pos) (tE X.K O gb)):PE X (.BoolOp .And (a::b::rest) pos) (tE X.K O (fT ga gb)):=(SS ha hb).mono λ0=>by
 obtain⟨x,e1,e2⟩:=bind1 ed
 refine⟨U,A0,δ,_,R,Gw e1,λv H' s h=>?_⟩
 cases h
 refine⟨x,rfl,?_⟩
 cases x with
 |true=>rw[aav rfl]at e2 ⊢;exact⟨U,A0,δ,d,R.same s,e2,λv H2 s2 h2=>q v H2 (s.trans s2) h2⟩
 |false=>rw[aaB aaV]at e2 ⊢;cases e2;exact q _ H' s (.bl _)
theorem QY{rest:List Expr}(ha:PE X a (tE X.K O ga))(hb:PE X (.BoolOp .Or (b::rest) pos) (tE X.K O gb)):PE X (.BoolOp .Or (a::b::rest) pos) (tE X.K O (Ir ga gb)):=(Xn ha hb).mono λ0=>by
 obtain⟨x,e1,e2⟩:=bind1 ed
 refine⟨U,A0,δ,_,R,Gw e1,λv H' s h=>?_⟩
 cases h
 refine⟨x,rfl,?_⟩
 cases x with
 |true=>rw[aav rfl]at e2 ⊢;cases e2;exact q _ H' s (.bl _)
 |false=>rw[aaB aaV]at e2 ⊢;exact⟨U,A0,δ,d,R.same s,e2,λv H2 s2 h2=>q v H2 (s.trans s2) h2⟩
def kX(a b:nh):nh:=λδ=>(a δ).bind λx=>if x=true then b δ else some false
def NG(a b:nh):nh:=λδ=>(a δ).bind λx=>if x=true then some true else b δ
noncomputable def iD(a:nh):nh:=λδ=>(a δ).map λx=> !x
variable {ta tb:nh}{rest:List Expr}
theorem kA(ha:PT X a (tT X.K O ta))(hb:PW X (.BoolOp .And (b::rest) pos) (tT X.K O tb)):PW X (.BoolOp .And (a::b::rest) pos) (tT X.K O (kX ta tb)):=(pw_and ha hb).mono λ0=>by
 obtain⟨x,e1,e2⟩:=bind1 ed
 refine⟨U,A0,δ,_,R,e1,λH' s=>?_⟩
 cases x with
 |true=>rw[aav rfl]at e2 ⊢;exact⟨U,A0,δ,d,R.same s,e2,λH2 s2=>q H2 (s.trans s2)⟩
 |false=>rw[aaB aaV]at e2 ⊢;cases e2;exact q H' s
theorem vP(ha:PT X a (tT X.K O ta))(hb:PW X (.BoolOp .Or (b::rest) pos) (tT X.K O tb)):PW X (.BoolOp .Or (a::b::rest) pos) (tT X.K O (NG ta tb)):=(pw_or ha hb).mono λ0=>by
 obtain⟨x,e1,e2⟩:=bind1 ed
 refine⟨U,A0,δ,_,R,e1,λH' s=>?_⟩
 cases x with
 |true=>rw[aav rfl]at e2 ⊢;cases e2;exact q H' s
 |false=>rw[aaB aaV]at e2 ⊢;exact⟨U,A0,δ,d,R.same s,e2,λH2 s2=>q H2 (s.trans s2)⟩
theorem gj(ha:PT X a (tT X.K O ta)):PT X (.UnaryOp .Not a pos) (tT X.K O (iD ta)):=(Kj ha).mono λ0=>by
 unfold iD at ed
 cases e:ta δ with
 |none=>rw[e]at ed;cases ed
 |some x=>rw[e]at ed;cases ed;exact⟨U,A0,δ,x,R,e,λH' s=>q H' s⟩
noncomputable def abd:D->Option Bool
 |.none=>some false
 |.bool b=>some b
 |.int i=>some (i !=0)
 |.str x=>if x.length<=100000 then some ((x.length:Int)!=0)else none
 |.list l=>some (!l.isEmpty)
 |.tuple l=>some (!l.isEmpty)
 |_=>none
def fG(g:bj):nh:=λδ=>(g δ).bind abd
theorem vQ{K:ao}(h:cY K H xs ds):xs.isEmpty=ds.isEmpty:=by cases h<;>rfl
theorem du(ha:PE X a (iy X.K O ga))(he:∀whole,isTrue a X.env whole=(do let v <-whole;standAt a.pos;holding [v] (truthy v)):=by exact λ_=>rfl):PT X a (tT X.K O (fG ga)):=(BP ha he).mono λσ H Q hh=>hh.e λU A0 δ k R ed q=>by
 obtain⟨d,e1,e2⟩:=bind1 ed
 refine⟨U,A0,δ,d,R,e1,λv H' s h=>⟨k,?_,q H' s⟩⟩
 cases d with
 |none=>cases e2;rw[h.iu];exact rfl
 |bool b=>cases e2;rw[h.bool];exact rfl
 |int i=>cases e2;rw[h.int];exact rfl
 |str x=>
   rw[h.str];have e3:(if x.length<=100000 then some ((x.length:Int)!=0)else none)=some k:=e2;split at e3;.cases e3;exact⟨small (by assumption),rfl⟩
   .grind
 |list l=>
   cases e2;obtain⟨p,xs,rfl,h1,h2⟩:=h.list;exact .inl ⟨xs,h1.sq,by rw[vQ h2]⟩
 |tuple l=>
   cases e2;obtain⟨p,xs,rfl,h1,h2⟩:=h.tuple;exact .inr (.inl ⟨xs,h1,by rw[vQ h2]⟩)
 |dict _=>cases e2
def TZ(c:nh)(a b:bj):bj:=λδ=>(c δ).bind λx=>if x=true then a δ else b δ
theorem T1(hc:PT X c (tT X.K O ta))(ha:PE X a (tE X.K O ga))(hb:PE X b (tE X.K O gb)):PE X (.IfExp c a b pos) (tE X.K O (TZ ta ga gb)):=(Kk hc ha hb).mono λ0=>by
 obtain⟨x,e1,e2⟩:=bind1 ed
 refine⟨U,A0,δ,_,R,e1,λH' s=>?_⟩
 cases x with
 |true=>rw[aav rfl]at e2 ⊢;exact⟨U,A0,δ,d,R.same s,e2,λv H2 s2 h2=>q v H2 (s.trans s2) h2⟩
 |false=>rw[aaB aaV]at e2 ⊢;exact⟨U,A0,δ,d,R.same s,e2,λv H2 s2 h2=>q v H2 (s.trans s2) h2⟩
end
def ag:cC:=λ_=>some []
noncomputable def aa(a:bj)(r:cC):cC:=λδ=>(a δ).bind λx=>(r δ).bind λxs=>some (x::xs)
noncomputable def cj(r:cC):bj:=λδ=>(r δ).bind λxs=>if xs.length<=100000 then some (.tuple xs)else none
def cV(r:cC):cC:=λδ=>(r δ).bind λxs=>if xs.length<=100000 then some xs else none
section
variable {X:Cx}{O:List Nat}{e:Expr}{es:List Expr}{ga:bj}{gr:cC}{pos:Pos}
theorem ai:PA X [] (BY X.K O ag):=cX.mono λ0=>by cases ed;exact q [] H (aG.refl H) .nil
theorem af(ha:PE X e (tE X.K O ga))(hr:PA X es (BY X.K O gr))(hs:starEach (e::es) X.env=⇑18::starEach es X.env:=by rfl):PA X (e::es) (BY X.K O (aa ga gr)):=(bz ha hr hs).mono λ4=>by
 obtain⟨x,xs,e1,e2,e3⟩:=Gq ed
 cases e3
 exact⟨U,A0,δ,x,R,e1,λv H1 s1 h1=>⟨U,A0,δ,xs,R.same s1,e2,λvs H2 s2 h2=>q _ H2 (s1.trans s2) (.cons (h1.same (bR s2)) h2)⟩⟩
theorem aw:PA X [] (yi X.K O ag):=cX.mono λ0=>by cases ed;exact q [] H (aG.refl H) .nil
theorem aq(ha:PE X e (iy X.K O ga))(hr:PA X es (yi X.K O gr))(hs:starEach (e::es) X.env=⇑18::starEach es X.env:=by rfl):PA X (e::es) (yi X.K O (aa ga gr)):=(bz ha hr hs).mono λ4=>by
 obtain⟨x,xs,e1,e2,e3⟩:=Gq ed
 cases e3
 exact⟨U,A0,δ,x,R,e1,λv H1 s1 h1=>⟨U,A0,δ,xs,R.same s1,e2,λvs H2 s2 h2=>q _ H2 (s1.trans s2) (.cons (h1.same s2) h2)⟩⟩
set_option tactic.hygienic true in
theorem dJ(h:PA X es (BY X.K O gr)):PE X (.Tuple es x1 pos) (tE X.K O (cj gr)):=(Tb h).mono λ0=>by
 obtain⟨xs,e1,e2⟩:=bind1 ed
 split at e2
 .rename_i hz;cases e2;refine⟨U,A0,δ,xs,R,e1,λvs H' s h=>⟨by have:=h.len;exact small ⇑2,λp hp=>q _ _ (s.trans (cU hp _)) (HD.Ai (R.same s).al hp h)⟩⟩
 .grind
set_option tactic.hygienic true in
theorem dh(h:PA X es (BY X.K O gr)):PE X (.List es pos) (tN X.K O (cV gr)):=(Tc h).mono λ0=>by
 obtain⟨xs,e1,e2⟩:=bind1 ed
 split at e2
 .rename_i hz;cases e2;refine⟨U,A0,δ,d,R,e1,λvs H' s h=>⟨by have:=h.len;exact small ⇑2,λp hp=>zp s q p vs hp h⟩⟩
 .grind
end
def il(K:ao)(n:Nat)(G:List D->Option D):Sp:=λvs H Q _=>vs.length=n/\∃A ds d,Ls A H/\cY K (wo H A) vs ds/\G ds=some d/\∀v H',aG H H'->HD K (wo H' A) v d->Q v H'
def Iu(K:ao)(n:Nat)(G:List D->fR):Sp:=λvs H Q _=>vs.length=n/\∃A ds d,Ls A H/\cY K (wo H A) vs ds/\G ds=some d/\
 ∀r ys H',aG H H'->H r=none->H' r=some (.lst ys)->cY K (wo H' (r::A)) ys d->Q (.ref r) H'
noncomputable def aS(G:List D->Option D)(n:Nat)(g:cC):bj:=λδ=>(g δ).bind λds=>if ds.length=n then G ds else none
def cI(G:List D->fR)(n:Nat)(g:cC):cC:=λδ=>(g δ).bind λds=>if ds.length=n then G ds else none
section
variable {X:Cx}{O:List Nat}{e:Expr}{es:List Expr}{gr:cC}{pos p:Pos}{n k kk:Nat}{x:Str}{ps:List Str}
set_option tactic.hygienic true in
theorem Oz(F:Dn X.prog X.w X.K X.mg X.base k x ps (il X.K n G))(hr:cW kk X.A)(hk:k<=kk)(ha:PA X (e::es) (BY X.K O gr))(hg:Gl X x:=by rfl)
  (pK:⇑5:=by decide)(he:starEach (e::es) X.env=⇑18::starEach es X.env:=by rfl)(iQ:⇑7:=by rfl):
  PE X ⇑20 (tE X.K O (aS G n gr)):=(Gn F hr hk ha hg pK he iQ).mono λ0=>by
 obtain⟨ds,e1,e2⟩:=bind1 ed
 split at e2
 .rename_i hn;refine⟨U,A0,δ,ds,R,e1,λvs H' s h=>?_⟩;show il X.K n G (vs++[]) H' Q E0;rw[abr];exact⟨by rw[h.len];exact hn,U++A0,ds,d,(R.same s).al,h,e2,λv H2 s2 h2=>q v H2 (s.trans s2) h2⟩
 .grind
set_option tactic.hygienic true in
theorem eK(F:Dn X.prog X.w X.K X.mg X.base k x ps (Iu X.K n G))(hr:cW kk X.A)(hk:k<=kk)(ha:PA X (e::es) (BY X.K O gr))(hg:Gl X x:=by rfl)
  (pK:⇑5:=by decide)(he:starEach (e::es) X.env=⇑18::starEach es X.env:=by rfl)(iQ:⇑7:=by rfl):
  PE X ⇑20 (tN X.K O (cI G n gr)):=(Gn F hr hk ha hg pK he iQ).mono λ0=>by
 obtain⟨ds,e1,e2⟩:=bind1 ed
 split at e2
 .rename_i hn;refine⟨U,A0,δ,ds,R,e1,λvs H' s h=>?_⟩;show Iu X.K n G (vs++[]) H' Q E0;rw[abr];exact⟨by rw[h.len];exact hn,U++A0,ds,d,(R.same s).al,h,e2,λr ys H2 s2 h0 h1 h2=>q r ys H2 (s.trans s2) (s.free h0) h1 h2⟩
 .grind
end
def uH(K:ao)(r:List V->Hp->VK->Prop)(f:List D->Option D):Prop:=∀(A:List Addr) (H:Hp) (vs:List V) (ds:List D) (d:D) (Q:VK),Ls A H->Iq K A H vs ds->f ds=some d->(∀v H',aG H H'->HD K (wo H' A) v d->Q v H')->r vs H Q
def K6(K:ao)(r:List V->Hp->VK->Prop)(f:List D->fR):Prop:=∀(A:List Addr) (H:Hp) (vs:List V) (ds:List D) (d:List D) (Q:VK),Ls A H->Iq K A H vs ds->f ds=some d->
 (∀p ys,H p=none->cY K (wo H A) ys d->Q (.ref p) (upd H p (.lst ys)))->r vs H Q
def cQ(f:List D->Option D)(g:cC):bj:=λδ=>(g δ).bind f
def Aj(f:List D->fR)(g:cC):cC:=λδ=>(g δ).bind f
section
variable {X:Cx}{O:List Nat}{e:Expr}{es:List Expr}{gr:cC}{pos p:Pos}{x:Str}{r:List V->Hp->VK->Prop}{id T:String}
theorem QZ{K:ao}(imp:uH K r f):tE K O (cQ f gr) σ H Q->ZZ r (yi K O gr) σ H Q:=λ⟨U,A0,δ,d,R,ed,q⟩=>by
 obtain⟨ds,e1,e2⟩:=bind1 ed
 exact⟨U,A0,δ,ds,R,e1,λvs H' s h=>imp _ H' vs ds d Q (R.same s).al h e2 λv H2 s2 h2=>q v H2 (s.trans s2) h2⟩
theorem X9{K:ao}(imp:K6 K r f):tN K O (Aj f gr) σ H Q->ZZ r (yi K O gr) σ H Q:=λ⟨U,A0,δ,d,R,ed,q⟩=>by
 obtain⟨ds,e1,e2⟩:=bind1 ed
 exact⟨U,A0,δ,ds,R,e1,λvs H' s h=>imp _ H' vs ds d Q (R.same s).al h e2 (zp s q)⟩
theorem aY(hc:fH X (.builtin id) r)(imp:uH X.K r f)(hg:Gl X x)(hm:X.mg x=none)(hv:bootBuiltins x=some (.builtin id))(ha:PA X (e::es) (yi X.K O gr))(hn:x≠"__name__":=by decide)(pK:⇑5:=by decide)
  (he:starEach (e::es) X.env=⇑18::starEach es X.env:=by rfl)(iQ:⇑7:=by rfl):PE X ⇑20 (tE X.K O (cQ f gr)):=
 (vK hc hg hm hv ha hn pK he iQ).mono λ_ _ _=>QZ imp
theorem bQ(hc:fH X (.type T) r)(imp:uH X.K r f)(hg:Gl X x)(hm:X.mg x=none)(hv:bootBuiltins x=some (.type T))(ha:PA X (e::es) (yi X.K O gr))(hn:x≠"__name__":=by decide)(pK:⇑5:=by decide)
  (he:starEach (e::es) X.env=⇑18::starEach es X.env:=by rfl)(iQ:⇑7:=by rfl):PE X ⇑20 (tE X.K O (cQ f gr)):=
 (sE hc hg hm hv ha hn pK he iQ).mono λ_ _ _=>QZ imp
theorem p8(hc:fH X (.type T) r)(imp:K6 X.K r f)(hg:Gl X x)(hm:X.mg x=none)(hv:bootBuiltins x=some (.type T))(ha:PA X (e::es) (yi X.K O gr))(hn:x≠"__name__":=by decide)(pK:⇑5:=by decide)
  (he:starEach (e::es) X.env=⇑18::starEach es X.env:=by rfl)(iQ:⇑7:=by rfl):PE X ⇑20 (tN X.K O (Aj f gr)):=
 (sE hc hg hm hv ha hn pK he iQ).mono λ_ _ _=>X9 imp
end
theorem Iw{K:ao}(h:Iq K A H vs [d]):∃v,vs=[v]/\jk K A H v d:=by
 cases h with
 |cons a t=>cases t;exact⟨_,rfl,a⟩
theorem sh2{K:ao}(h:Iq K A H vs [d,e]):∃v u,vs=[v,u]/\jk K A H v d/\jk K A H u e:=by
 cases h with
 |cons a t=>cases t with
   |cons b t=>cases t;exact⟨_,_,rfl,a,b⟩
noncomputable def b8:List D->Option D
 |[.list l]=>some (.int l.length)
 |[.tuple l]=>some (.int l.length)
 |[.str z]=>if z.length<=100000 then some (.int z.length)else none
 |_=>none
theorem a9:fH X (.builtin "len") (λxs H Q=>(∃p ys,xs=[.ref p]/\(lQ X.K H p ys\/kz X.K H p ys)/\Q (.int ys.length) H)\/∃z,xs=[.str z]/\z.length<=sizeLine/\Q (.int z.length) H):=z9.or Aa
theorem bE{K:ao}:uH K (λxs H Q=>(∃p ys,xs=[.ref p]/\(lQ K H p ys\/kz K H p ys)/\Q (.int ys.length) H)\/∃z,xs=[.str z]/\z.length<=sizeLine/\Q (.int z.length) H) b8:=by
 intro 5
 unfold b8 at e
 split at e
 .cases e;obtain⟨v,rfl,h1⟩:=Iw h;have h:=h1;obtain⟨p,xs,rfl,h1,h2⟩:=h.list;refine .inl ⟨p,xs,rfl,.inl h1.sq,?_⟩;rw[h2.len];exact q _ H (aG.refl H) (.int _)
 .cases e;obtain⟨v,rfl,h1⟩:=Iw h;have h:=h1;obtain⟨p,xs,rfl,h1,h2⟩:=h.tuple;refine .inl ⟨p,xs,rfl,.inr h1,?_⟩;rw[h2.len];exact q _ H (aG.refl H) (.int _)
 .split at e
  .cases e;obtain⟨v,rfl,h1⟩:=Iw h;exact .inr ⟨_,by rw[h1.str],small (by assumption),q _ H (aG.refl H) (.int _)⟩
  .cases e
 .cases e
noncomputable def K7:List D->Option D
 |[.int i]=>some (.int (if i<0 then -i else i))
 |_=>none
theorem OA{K:ao}:uH K (λxs H Q=>∃i,xs=[.int i]/\Q (.int (if i<0 then -i else i)) H) K7:=by
 intro 5
 unfold K7 at e
 split at e
 .cases e;obtain⟨v,rfl,h1⟩:=Iw h;have h:=h1;exact⟨_,by rw[h.int],q _ H (aG.refl H) (.int _)⟩
 .cases e
noncomputable def BZ:List D->Option D
 |[.int i,.int j]=>some (.int (if j>i then j else i))
 |_=>none
noncomputable def vR:List D->Option D
 |[.int i,.int j]=>some (.int (if j<i then j else i))
 |_=>none
theorem OB{K:ao}:uH K (λxs H Q=>∃i j,xs=[.int i,.int j]/\Q (.int (if j>i then j else i)) H) BZ:=by
 intro 5
 unfold BZ at e
 split at e
 .cases e;obtain⟨v,u,rfl,h1,h'⟩:=sh2 h;have h:=h1;exact⟨_,_,by rw[h.int,h'.int],q _ H (aG.refl H) (.int _)⟩
 .cases e
theorem OC{K:ao}:uH K (λxs H Q=>∃i j,xs=[.int i,.int j]/\Q (.int (if j<i then j else i)) H) vR:=by
 intro 5
 unfold vR at e
 split at e
 .cases e;obtain⟨v,u,rfl,h1,h'⟩:=sh2 h;have h:=h1;exact⟨_,_,by rw[h.int,h'.int],q _ H (aG.refl H) (.int _)⟩
 .cases e
noncomputable def OD:List D->Option D
 |[.int i]=>some (.int i)
 |[.bool k]=>some (.int (if k then 1 else 0))
 |_=>none
theorem OE{K:ao}:uH K (λxs H Q=>(∃i,xs=[.int i]/\Q (.int i) H)\/∃k,xs=[.bl k]/\Q (.int (if k then 1 else 0)) H) OD:=by
 intro 5
 unfold OD at e
 split at e
 .cases e;obtain⟨v,rfl,h1⟩:=Iw h;have h:=h1;exact .inl ⟨_,by rw[h.int],q _ H (aG.refl H) (.int _)⟩
 .cases e;obtain⟨v,rfl,h1⟩:=Iw h;have h:=h1;exact .inr ⟨_,by rw[h.bool],q _ H (aG.refl H) (.int _)⟩
 .cases e
noncomputable def nH:List D->fR
 |[.list l]=>some l
 |[.tuple l]=>some l
 |_=>none
theorem vS{K:ao}:K6 K (λxs H Q=>∃p ys,xs=[.ref p]/\(lQ K H p ys\/kz K H p ys)/\∀l,H l=none->Q (.ref l) (upd H l (.lst ys))) nH:=by
 intro 5
 unfold nH at e
 split at e
 .cases e;obtain⟨v,rfl,h1⟩:=Iw h;have h:=h1;obtain⟨p,xs,rfl,h1,h2⟩:=h.list;exact⟨p,xs,rfl,.inl h1.sq,λl hl=>q l xs hl h2⟩
 .cases e;obtain⟨v,rfl,h1⟩:=Iw h;have h:=h1;obtain⟨p,xs,rfl,h1,h2⟩:=h.tuple;exact⟨p,xs,rfl,.inr h1,λl hl=>q l xs hl h2⟩
 .cases e
noncomputable def gH:List D->Option D
 |[.list l]=>some (.tuple l)
 |[.tuple l]=>some (.tuple l)
 |_=>none
theorem gV{K:ao}:uH K (λxs H Q=>∃p ys,xs=[.ref p]/\((lQ K H p ys/\∀l,H l=none->Q (.ref l) (upd H l (.tup ys)))\/(kz K H p ys/\Q (.ref p) H))) gH:=by
 intro 5
 unfold gH at e
 split at e
 .cases e;obtain⟨v,rfl,h1⟩:=Iw h;have h:=h1;obtain⟨p,xs,rfl,h1,h2⟩:=h.list;exact⟨p,xs,rfl,.inl ⟨h1.sq,λl hl=>q _ _ (cU hl _) (HD.Ai al hl h2)⟩⟩
 .cases e;obtain⟨v,rfl,h1⟩:=Iw h;have h:=h1;have h':=h.fz;obtain⟨p,xs,rfl,h1,h2⟩:=h.tuple;exact⟨p,xs,rfl,.inr ⟨h1,q _ H (aG.refl H) h'⟩⟩
 .cases e
noncomputable def tyName:D->String
 |.none=>"NoneType"
 |.bool _=>"bool"
 |.int _=>"int"
 |.str _=>"str"
 |.list _=>"list"
 |.tuple _=>"tuple"
 |.dict _=>"dict"
theorem T2{K:ao}(h:(Value.type t==Value.type n)=false)(h2:PySem.W.kitMeta n=true)(h3:(fastBuiltinMro t).map (·.contains (Value.type n))=some b):PySem.W.kitOne K (.type t) (.type n)=some b:=by
 unfold PySem.W.kitOne PySem.W.kitCls
 rw[h,aaB ⇑0]
 show(if PySem.W.kitMeta n=true then PySem.W.subIn K (.type t) (.type n)else none)=some b
 rw[aav h2]
 exact h3
noncomputable def dM:List String:=["int","bool","str","list","tuple","NoneType"]
def abe(n:String):List D->Option D
 |[d]=>if tyName d∈dM/\n∈dM then some (.bool (decide (tyName d=n)||(decide (tyName d="bool")&&decide (n="int"))))else none
 |_=>none
theorem OF{K:ao}(ht:t∈dM)(hn:n∈dM):PySem.W.kitOne K (.type t) (.type n)=some (decide (t=n)||(decide (t="bool")&&decide (n="int"))):=by
 by_cases h:t=n
 .subst h;rw[KS];simp
 .have all:∀t∈dM,∀n∈dM,t≠n->(Value.type t==Value.type n)=false/\PySem.W.kitMeta n=true/\(fastBuiltinMro t).map (·.contains (Value.type n))=some (decide (t=n)||(decide (t="bool")&&decide (n="int"))):=⋯
  obtain⟨h1,h2,h3⟩:=all t ht n hn h;exact T2 h1 h2 h3
theorem jk.ty{K:ao}(h:jk K A H v d)(hn:tyName d∈dM):TyW K H v (tyName d):=by
 cases d with
 |none=>rw[h.iu];exact .inl .iu
 |bool b=>rw[h.bool];exact .inl (.bl b)
 |int i=>rw[h.int];exact .inl (.int i)
 |str x=>rw[h.str];exact .inl (.str x)
 |list l=>obtain⟨p,xs,rfl,h1,_⟩:=h.list;exact .inr (.inr ⟨p,xs,rfl,h1.sq,rfl⟩)
 |tuple l=>obtain⟨p,xs,rfl,h1,_⟩:=h.tuple;exact .inr (.inl ⟨p,xs,rfl,h1,rfl⟩)
 |dict l=>simp[tyName,dM]at hn
section
variable {X:Cx}{O:List Nat}{e:Expr}{ga:bj}{pos p p2:Pos}
def yo(n:String)(g:bj):bj:=λδ=>(g δ).bind λd=>abe n [d]
set_option tactic.hygienic true in
theorem Ak(T:String)(hB:X.mg "isinstance"=none)(ha:PE X e (iy X.K O ga))(ht:PE X (.Name n p2) (tC (.ty T)))(hg:Gl X "isinstance":=by rfl)
  (he:starEach [e,.Name n p2] X.env=⇑18::starEach [.Name n p2] X.env:=by rfl)(Q0:starEach [.Name n p2] X.env=(false,eval (.Name n p2) X.env)::starEach [] X.env:=by rfl)(iQ:(backTo pos (starEach [.Name n p2] X.env)).any (·.1)=false:=by rfl):
  PE X (.Call (.Name "isinstance" p) [e,.Name n p2] [] pos) (tE X.K O (yo T ga)):=
 (vK KR hg hB yf (bz ha (bz ht cX Q0) he) ⇑0 ⇑0 he iQ).mono λ0=>by
  obtain⟨x,e1,e2⟩:=bind1 ed;have e3:(if tyName x∈dM/\T∈dM then some (PyData.bool (decide (tyName x=T)||(decide (tyName x="bool")&&decide (T="int"))))else none)=some d:=e2;split at e3
  .rename_i hz;cases e3;refine⟨U,A0,δ,x,R,e1,λv H' s h=>?_⟩;exact⟨v,T,tyName x,_,rfl,h.ty hz.1,OF hz.1 hz.2,q _ H' s (.bl _)⟩
  .grind
end
noncomputable def fU(g:bj):DS->Option (Option Int):=λδ=>(g δ).bind λ|.int i=>some (some i)|_=>none
def jq:DS->Option (Option Int):=λ_=>some none
def Q2(K:ao)(O:List Nat)(g:DS->Option (Option Int)):TO:=λ7=>∃U A0 δ d,Rel K O U A0 σ δ H/\g δ=some d/\∀H',aG H H'->Q d H'
theorem Q2.e{K:ao}  {GG:Prop}(hh:Q2 K O g σ H Q)(kk:∀U A0 δ d,(Rel K O U A0 σ δ H)->(g δ=some d)->(∀H',aG H H'->Q d H')->GG):GG:=by obtain⟨U,A0,δ,d,x0,x1,x2⟩:=hh;exact kk U A0 δ d x0 x1 x2
def cutD(xs:List D)(lo hi:Option Int):List D:=(xs.drop (HT.vL xs.length 0 lo)).take (HT.vL xs.length xs.length hi-HT.vL xs.length 0 lo)
def yp(a:bj)(lo hi:DS->Option (Option Int)):cC:=λδ=>(a δ).bind λx=>(lo δ).bind λl=>(hi δ).bind λh=>match x with
 |.list ds=>some (cutD ds l h)
 |_=>none
section
variable {X:Cx}{O:List Nat}{e:Expr}{lo hi:Option Expr}{ga:bj}{gl gh:DS->Option (Option Int)}{pos p2:Pos}
theorem rn:PO X none (Q2 X.K O jq):=Od.mono λ0=>by cases ed;exact q H (aG.refl H)
theorem iT(h:PE X e (iy X.K O ga)):PO X (some e) (Q2 X.K O (fU ga)):=(Oe h).mono λ0=>by
 obtain⟨x,e1,e2⟩:=bind1 ed
 cases x with
 |int i=>cases e2;exact⟨U,A0,δ,_,R,e1,λv H' s h=>⟨i,h.int,q H' s⟩⟩
 |_=>cases e2
theorem Al(ha:PE X e (iy X.K O ga))(hl:PO X lo (Q2 X.K O gl))(hh:PO X hi (Q2 X.K O gh)):PE X (.Subscript e (.Slice lo hi none p2) pos) (tN X.K O (yp ga gl gh)):=(BS Oi ha hl hh).mono λ0=>by
 obtain⟨x,e1,e2⟩:=bind1 ed
 obtain⟨l,e3,e4⟩:=bind1 e2
 obtain⟨h,e5,e6⟩:=bind1 e4
 cases x with
 |list ds=>
   cases e6;refine⟨U,A0,δ,_,R,e1,λv H1 s1 h1=>⟨U,A0,δ,l,R.same s1,e3,λH2 s2=>⟨U,A0,δ,h,R.same (s1.trans s2),e5,λH3 s3=>?_⟩⟩⟩;obtain⟨p,xs,rfl,r1,r2⟩:=(h1.same (s2.trans s3)).list;refine⟨p,xs,rfl,r1.sq,λr hr=>zp ((s1.trans s2).trans s3) q r _ hr ?_⟩;unfold KG cutD;rw[r2.len];exact(r2.QV _).QU _
 |_=>cases e6
end
def aH(a b:bo):bo:=λδ=>(a δ).bind λ|.nx δ'=>b δ'|r=>some r
def bu:bo:=λδ=>some (.nx δ)
def gy(c:nh)(a b:bo):bo:=λδ=>(c δ).bind λx=>if x=true then a δ else b δ
def bI(i:Nat)(g:bj):bo:=λδ=>(g δ).bind λd=>some (.nx (δ.set i (some d)))
noncomputable def kB(i:Nat)(g:cC):bo:=λδ=>(g δ).bind λd=>some (.nx (δ.set i (some (.list d))))
noncomputable def bh(g:bj):bo:=λδ=>(g δ).bind λd=>some (.rt d)
noncomputable def jS(g:bj):bo:=λδ=>(g δ).bind λ_=>some (.nx δ)
noncomputable def K8(g:bj)(t:D->DS->Option DS):bo:=λδ=>(g δ).bind λd=>(t d δ).bind λδ'=>some (.nx δ')
section
variable {X:Cx}{O:List Nat}{fr:Fr}{xk:Str->Hp->Prop}{st:Stmt}{rest a b:List Stmt}{ga gb:bo}{gc:nh}{ge:bj}{gl:cC}{e c:Expr}{pos:Pos}
theorem ak(h1:PS X st (tS X.K O fr ga))(h2:iP X rest (tS X.K O fr gb)):iP X (st::rest) (tS X.K O fr (aH ga gb)):=(lE h1 h2).mono λ3=>by
 obtain⟨r1,e1,e2⟩:=bind1 ed
 cases r1 with
 |nx δ'=>exact⟨H0,U,A0,δ,.nx δ',R,F,e1,λU' ck H' R' F'=>⟨H0,U',A0,δ',r,R',F',e2,P⟩⟩
 |rt d=>cases e2;exact⟨H0,U,A0,δ,_,R,F,e1,P⟩
 |bk d=>cases e2;exact⟨H0,U,A0,δ,_,R,F,e1,P⟩
 |ct d=>cases e2;exact⟨H0,U,A0,δ,_,R,F,e1,P⟩
theorem ar(h1:PS X st (tS X.K O fr ga)):iP X [st] (tS X.K O fr ga):=zZ h1
theorem bw:iP X [] (tS X.K O fr bu):=Gb.mono λ3=>by cases ed;exact P U σ H R F
theorem dv:PS X st (tS X.K O fr λ_=>none):=Kl.mono λ3=>by cases ed
theorem b9(hc:PT X c (tT X.K O gc))(ha:iP X a (tS X.K O fr ga))(hb:iP X b (tS X.K O fr gb)):PS X (.If c a b pos) (tS X.K O fr (gy gc ga gb)):=(QC hc ha hb).mono λ3=>by
 obtain⟨x,e1,e2⟩:=bind1 ed
 refine⟨U,A0,δ,x,R,e1,λH' s=>?_⟩
 cases x with
 |true=>rw[aav rfl]at e2 ⊢;exact⟨H0,U,A0,δ,r,R.same s,F.grow s,e2,P⟩
 |false=>rw[aaB aaV]at e2 ⊢;exact⟨H0,U,A0,δ,r,R.same s,F.grow s,e2,P⟩
theorem vU(h:PS X st (su (tE X.K O ge) (mW i)))(hi:i∉O:=by decide):PS X st (tS X.K O fr (bI i ge)):=h.mono λ3=>by
 obtain⟨d,e1,e2⟩:=bind1 ed
 cases e2
 exact⟨U,A0,δ,d,R,e1,λv H' s hv=>P U _ H' ((R.same s).set hi hv) (F.grow s)⟩
theorem gL(h:PS X st (su (tN X.K O gl) (mW i)))(hi:i∈O:=by decide):PS X st (tS X.K O fr (kB i gl)):=h.mono λ3=>by
 obtain⟨d,e1,e2⟩:=bind1 ed
 cases e2
 exact⟨U,A0,δ,d,R,e1,λr ys H' s hr h1 h2=>P (r::U) _ H' (R.abb s hr h1 h2 hi) (F.more s hr)⟩
theorem T3(h:PS X st (su (tE X.K O ge) (tG X.K O gt))):PS X st (tS X.K O fr (K8 ge gt)):=h.mono λ3=>by
 obtain⟨d,e1,e2⟩:=bind1 ed
 obtain⟨δ',e3,e4⟩:=bind1 e2
 cases e4
 exact⟨U,A0,δ,d,R,e1,λv H' s hv=>⟨U,A0,δ,d,δ',R.same s,hv,e3,λck R'=>P U ck H' R' (F.grow s)⟩⟩
theorem hJ(h:PS X st (Gc (tE X.K O ge))):PS X st (tS X.K O fr (jS ge)):=h.mono λ3=>by
 obtain⟨d,e1,e2⟩:=bind1 ed
 cases e2
 exact⟨U,A0,δ,d,R,e1,λv H' s hv=>P U σ H' (R.same s) (F.grow s)⟩
theorem aT(h:PE X e (tE X.K O ge)):PS X (.Return (some e) pos) (tS X.K O (false,xk) (bh ge)):=(z0 h).mono λ3=>by
 obtain⟨d,e1,e2⟩:=bind1 ed
 cases e2
 refine⟨U,A0,δ,d,R,e1,λv H' s hv=>P.1 v H' ?_⟩
 exact⟨F.same.trans s,hv.same (i9 λa ha=>aaf _ ha)⟩
theorem vh(h:PE X e (tN X.K O gl)):PS X (.Return (some e) pos) (tS X.K O (true,xk) (bh (aX gl))):=(z0 h).mono λ3=>by
 obtain⟨d,e1,e2⟩:=bind1 ed
 cases e2
 unfold aX at e1
 cases eg:gl δ with
 |none=>rw[eg]at e1;cases e1
 |some l=>
   rw[eg]at e1;cases e1;refine⟨U,A0,δ,l,R,eg,λr ys H' s hr h1 h2=>P.1 (.ref r) H' ?_⟩;refine⟨r,_,rfl,F.same.trans s,F.same.free hr,h1,.lst (h2.same (i9 λa ha=>?_))⟩;rcases aaj.mp ha with z|z;.grind
   .grind
theorem fm(h:PE X e (kU i))(hi:i∈O:=by decide):PS X (.Return (some e) pos) (tS X.K O fr (bh (ae i))):=(z0 h).mono λ3=>by
 obtain⟨d,e1,e2⟩:=bind1 ed
 cases e2
 obtain⟨l,o,hl,hU,h1,h2⟩:=R.ow i d hi (join_some e1)
 refine⟨.ref l,hl,P.1 (.ref l) H ?_⟩
 unfold yj
 split
 .refine ⟨l,o,rfl,F.same,F.new l hU,h1,h2.same (i9 λa ha=>?_)⟩;rcases aaj.mp ha with z|z;.grind
  .grind
 .refine ⟨F.same,(h2.same (i9 λa ha=>aaf _ ha)).hd ?_⟩;rw[bg (F.out hU)];exact h1
def qa(i:Nat)(g:bj):bo:=λδ=>(ae i δ).bind λx=>(g δ).bind λd=>match x with
 |.list ds=>if ds.length<100000 then some (.nx (δ.set i (some (.list (ds++[d])))))else none
 |_=>none
set_option tactic.hygienic true in
theorem fq(h:PS X st (Gc (tBM X.K "list" Gi (kU i) (KC (tE X.K O ge) N7))))(hi:i∈O:=by decide):PS X st (tS X.K O fr (qa i ge)):=h.mono λ3=>by
 obtain⟨x,e1,e2⟩:=bind1 ed
 obtain⟨d,e3,e4⟩:=bind1 e2
 rcases R.owL i x hi (join_some e1)with⟨l,ys,ds,hl,rfl,hU,h1,h2⟩|⟨kds,rfl⟩
 rotate_left
 .grind
 simp only at e4
 split at e4
 .rename_i hz;cases e4;refine⟨.ref l,hl,.inl ⟨rfl,ys,lQ.of h1⟩,U,A0,δ,d,R,e3,λv H' s hv=>?_⟩;have T4:=s _ _ h1;have T5:=h2.same (bR (A:=U++A0) s);have hlen:=h2.len;refine⟨l,ys,v,rfl,rfl,T4,nA ⇑2,?_⟩;exact P U σ _ ((R.same s).put hi hl hU (T5.app (.cons hv .nil)) ⟨_,join_some e1⟩) ((F.grow s).put hU _)
 .grind
def Am(i:Nat)(gx ge:bj):bo:=λδ=>(ge δ).bind λd=>(ae i δ).bind λx=>(gx δ).bind λk=>match x,k with
 |.list ds,.int n=>(Ib ds.length n).bind λj=>some (.nx (δ.set i (some (.list (ds.set j d)))))
 |_,_=>none
theorem K9(h:PS X st (su (tE X.K O ge) (Xs (kU i) (iy X.K O gx) QN)))(hi:i∈O:=by decide):PS X st (tS X.K O fr (Am i gx ge)):=h.mono λ3=>by
 obtain⟨d,e1,e2⟩:=bind1 ed
 obtain⟨x,e3,e4⟩:=bind1 e2
 obtain⟨k,e5,e6⟩:=bind1 e4
 rcases R.owL i x hi (join_some e3)with⟨l,ys,ds,hl,rfl,hU,h1,h2⟩|⟨kds,rfl⟩
 rotate_left
 .grind
 cases k with
 |int n=>
   obtain⟨j,e7,e8⟩:=bind1 e6;cases e8;refine⟨U,A0,δ,d,R,e1,λv H1 s1 hv=>⟨.ref l,hl,U,A0,δ,_,R.same s1,e5,λv2 H2 s2 T5=>?_⟩⟩;have s:=s1.trans s2;refine⟨l,ys,n,j,rfl,T5.int,s _ _ h1,by rw[h2.len];exact e7,?_⟩;exact P U σ _ ((R.same s).put hi hl hU (cY.X1 (hv.same (bR s2)) j (h2.same (bR s))) ⟨_,join_some e3⟩) ((F.grow s).put hU _)
 |_=>cases e6
end
noncomputable def BF(c:nh)(b:bo):Nat->bo
 |0,_=>none
 |n+1,δ=>(c δ).bind λx=>if x=true then(b δ).bind (λ|.nx δ'=>BF c b n δ'|.ct δ'=>BF c b n δ'|.bk δ'=>some (.nx δ')|.rt d=>some (.rt d))else some (.nx δ)
theorem Ej:∀{n:Nat} {δ:DS} {r:Res},BF c b n δ=some r->BF c b (n+1) δ=some r
 |0,_,_,h=>by cases h
 |n+1,δ,r,h=>by
   rw[BF]at h ⊢;obtain⟨x,e1,e2⟩:=bind1 h;rw[e1,aad];cases x with
   |false=>exact e2
   |true=>
     obtain⟨q,e3,e4⟩:=bind1 e2;rw[e3,aad];cases q with
     |nx δ'=>exact Ej e4
     |ct δ'=>exact Ej e4
     |bk _=>exact e4
     |rt _=>exact e4
theorem La(h:BF c b n δ=some r)(hm:n<=m):BF c b m δ=some r:=by
 induction hm with
 |refl=>exact h
 |step _ ih=>exact Ej ih
open Classical in
def ja (c:nh) (b:bo):bo:=λδ=>if h:∃p:Nat×Res,BF c b p.1 δ=some p.2 then some (choose h).2 else none
set_option tactic.hygienic true in
theorem B0(h:ja c b δ=some r):∃n,BF c b n δ=some r:=by
 unfold ja at h
 split at h
 .grind
 .cases h
theorem Iy(h:BF c b n δ=some r):ja c b δ=some r:=by
 have hp:∃p:Nat×Res,BF c b p.1 δ=some p.2:=⟨(n,r),h⟩
 unfold ja
 rw[dif_pos hp]
 have h2:=Classical.choose_spec hp
 have a1:=La h (Nat.le_max_left n (Classical.choose hp).1)
 have a2:=La h2 (Nat.le_max_right n (Classical.choose hp).1)
 rw[a1]at a2
 exact a2.symm
theorem zq(W:Nat->DS->Prop)(r:DS->Res->Prop)(m:Nat)(δ:DS)(h:W m δ)
  (hs:∀m δ,W m δ->(c δ=some false/\r δ (.nx δ))\/(c δ=some true/\((∃δ' m',(b δ=some (.nx δ')\/b δ=some (.ct δ'))/\m'<m/\W m' δ'/\∀q,r δ' q->r δ q)\/(∃δ',b δ=some (.bk δ')/\r δ (.nx δ'))\/∃d,b δ=some (.rt d)/\r δ (.rt d)))):
  ∃q,ja c b δ=some q/\r δ q:=by
 suffices hh:∀k m δ,m<k->W m δ->∃n q,BF c b n δ=some q/\r δ q by
  obtain⟨n,q,e,hq⟩:=hh (m+1) m δ (acx m) h;exact⟨q,Iy e,hq⟩
 intro k
 induction k with
 |zero=>intro m δ hm;lia
 |succ k ih=>
   intro m δ hm hW;rcases hs m δ hW with⟨hc,hr⟩|⟨hc,⟨δ',m',hb,hV,hW',imp⟩|⟨δ',hb,hr⟩|⟨d,hb,hr⟩⟩;.exact ⟨1,_,by rw[BF,hc];rfl,hr⟩
   .obtain ⟨n,q,e,hq⟩:=ih m' δ' ⇑2 hW';refine⟨n+1,q,?_,imp q hq⟩;rw[BF,hc,aad,aav rfl];rcases hb with hb|hb<;>rw[hb,aad]<;>exact e
   .exact ⟨1,_,by rw[BF,hc,aad,aav rfl,hb];rfl,hr⟩
   .exact ⟨1,_,by rw[BF,hc,aad,aav rfl,hb];rfl,hr⟩
section
variable {X:Cx}{O:List Nat}{fr:Fr}{body:List Stmt}{gb:bo}{gc:nh}{c:Expr}{pos:Pos}
theorem vV(hp:PassesOwn ⇑3 X.A X.env X.xe)(hc:PT X c (tT X.K O gc))(hb:iP X body (tS X.K O fr gb)):PS X (.While c body [] pos) (tS X.K O fr (ja gc gb)):=(Kq hp hc hb).mono λ3=>by
 obtain⟨n,en⟩:=B0 ed
 refine⟨λm σ H=>∃U δ,Rel X.K O U A0 σ δ H/\Fx H0 A0 U H/\BF gc gb m δ=some r,⟨n,U,δ,R,F,en⟩,?_⟩
 rintro m σ H ⟨U,δ,R,F,em⟩
 cases m with
 |zero=>cases em
 |succ m=>
   obtain⟨x,e1,e2⟩:=bind1 em;refine⟨U,A0,δ,x,R,e1,λH' s=>?_⟩;cases x with
   |false=>rw[aaB aaV]at e2 ⊢;cases e2;exact P U σ H' (R.same s) (F.grow s)
   |true=>
     obtain⟨q,e3,e4⟩:=bind1 e2;refine⟨λck H'=>∃m',m'<m+1/\∃U δ,Rel X.K O U A0 ck δ H'/\Fx H0 A0 U H'/\BF gc gb m' δ=some r,λ_ _ h=>h,H0,U,A0,δ,q,R.same s,F.grow s,e3,?_⟩;cases q with
     |nx δ'=>exact λU' ck H' R' F'=>⟨m,acx m,U',δ',R',F',e4⟩
     |ct δ'=>exact λU' ck H' R' F'=>⟨m,acx m,U',δ',R',F',e4⟩
     |bk δ'=>cases e4;exact P
     |rt d=>cases e4;exact P
end
def aN(i:Nat):D->DS->Option DS:=λd δ=>some (δ.set i (some d))
noncomputable def iz(n:Nat)(g:List D->DS->Option DS):D->DS->Option DS:=λd δ=>match d with
 |.tuple ds=>if ds.length=n then g ds δ else none
 |_=>none
def iU:List D->DS->Option DS:=λds δ=>if ds=[]then some δ else none
def cv(t:D->DS->Option DS)(u:List D->DS->Option DS):List D->DS->Option DS:=λds δ=>match ds with
 |d::r=>(t d δ).bind λδ'=>u r δ'
 |[]=>none
def V2(K:ao)(O:List Nat)(g:List D->DS->Option DS):VX:=λvs σ H Q=>∃U A0 δ ds δ',Rel K O U A0 σ δ H/\cY K (wo H (U++A0)) vs ds/\g ds δ=some δ'/\∀ck,Rel K O U A0 ck δ' H->Q ck H
theorem V2.e{K:ao}  {GG:Prop}(hh:V2 K O g vs σ H Q)(kk:∀U A0 δ ds δ',(Rel K O U A0 σ δ H)->(cY K (wo H (U++A0)) vs ds)->(g ds δ=some δ')->(∀ck,Rel K O U A0 ck δ' H->Q ck H)->GG):GG:=by obtain⟨U,A0,δ,ds,δ',x0,x1,x2,x3⟩:=hh;exact kk U A0 δ ds δ' x0 x1 x2 x3
section
variable {X:Cx}{O:List Nat}{e:Expr}{es:List Expr}{pos:Pos}
theorem Km.mono(h:Km X es t)(m:∀v σ H Q,t' v σ H Q->t v σ H Q):Km X es t':=λpins s σ H v u Q I r q=>h pins s σ H v u Q I r (m v σ H Q q)
theorem aC(h:PG X e (mW i))(hi:i∉O:=by decide):PG X e (tG X.K O (aN i)):=h.mono λv σ H Q hh=>hh.e λU A0 δ d δ' R hd e1 q=>by
 cases e1
 exact q _ (R.set hi hd)
set_option tactic.hygienic true in
theorem l5:Km X [] (V2 X.K O iU):=N0.mono λvs σ H Q hh=>hh.e λU A0 δ ds δ' R hd e1 q=>by
 unfold iU at e1
 split at e1
 .rename_i hz;cases e1;subst hz;cases hd;exact⟨rfl,q σ R⟩
 .grind
theorem d8(h1:PG X e (tG X.K O t))(h2:Km X es (V2 X.K O u))(hs:(assignEach (e::es) X.env).map (·.2)=assign e X.env::(assignEach es X.env).map (·.2):=by rfl):Km X (e::es) (V2 X.K O (cv t u)):=
 (Kn h1 h2 hs).mono λvs σ H Q hh=>hh.e λU A0 δ ds δ' R hd e1 q=>by
  cases hd with
  |nil=>cases e1
  |cons hx hr=>
    obtain⟨fg,e2,e3⟩:=bind1 e1;exact⟨_,_,rfl,U,A0,δ,_,fg,R,hx,e2,λBC R1=>⟨U,A0,fg,_,δ',R1,hr,e3,q⟩⟩
set_option tactic.hygienic true in
theorem l6(hc:X.calm=true)(h:Km X es (V2 X.K O t))(hn:(assignEach es X.env).length=n:=by rfl)(N1:(assignEach es X.env).findIdx? (·.1)=none:=by rfl):PG X (.Tuple es k pos) (tG X.K O (iz n t)):=
 (SW hc h hn N1).mono λv σ H Q hh=>hh.e λU A0 δ d δ' R hd e1 q=>by
  unfold iz at e1;split at e1
  .split at e1
   .rename_i hz;obtain⟨a,xs,rfl,h1,h2⟩:=(jk.of hd).tuple;exact⟨a,xs,rfl,h1,by rw[h2.len];exact hz,U,A0,δ,_,δ',R,h2,e1,q⟩
   .grind
  .grind
end
noncomputable def kY(t:D->DS->Option DS)(b:bo):List D->bo
 |[],δ=>some (.nx δ)
 |d::ds,δ=>(t d δ).bind λfg=>(b fg).bind λ|.nx δ'=>kY t b ds δ'|.ct δ'=>kY t b ds δ'|.bk δ'=>some (.nx δ')|.rt d=>some (.rt d)
def iq(gi:cC)(t:D->DS->Option DS)(b:bo):bo:=λδ=>(gi δ).bind λds=>kY t b ds δ
theorem Fx.Yb(F:Fx H0 A0 U H)(s:aG (wo H U) H'):aG H0 H':=λa o e=>s a o (by
 rw[bg λz=>?_]
 .exact F.same _ _ e
 .rw [F.new a z]at e;cases e)
set_option tactic.hygienic true in
theorem yj.trans{K:ao}(F:Fx H0 A0 U H)(h:yj K fr (wo H U) A0 v d H'):yj K fr H0 A0 v d H':=by
 have k:∀a o,H0 a=some o->wo H U a=some o:=λa o e=>by
  rw[bg λz=>?_];.exact F.same _ _ e
  .rw [F.new a z]at e;cases e
 unfold yj at h ⊢
 split
 .rename_i hf;rw[aav hf]at h;obtain⟨r,ob,a,c,e,f,g⟩:=h;refine⟨r,ob,a,λx o q=>c _ _ (k x o q),?_,f,g⟩;cases q:H0 r with
  |none=>rfl
  |some o=>rw[k r o q]at e;cases e
 .rename_i hf;rw[aaB hf]at h;exact⟨λx o q=>h.1 _ _ (k x o q),h.2⟩
section
variable {X:Cx}{O:List Nat}{fr:Fr}{body:List Stmt}{gb:bo}{gi:cC}{tg iter:Expr}{gt:D->DS->Option DS}{pos:Pos}
theorem gz(hp:PassesOwn ⇑3 X.A X.env X.xe)(hc:X.calm=true)(hi:PI X tg iter (tI X.K O gi))(hg:PG X tg (tG X.K O gt))(hb:iP X body (tS X.K O fr gb))
  (hs:⇑35:=by intro _;rfl):PS X (.For tg iter body [] pos) (tS X.K O fr (iq gi gt gb)):=(DY hp hc hi hg hb hs).mono λ3=>by
 obtain⟨ds,e1,e2⟩:=bind1 ed
 refine⟨U,A0,δ,ds,R,e1,λJ H1 s hw=>?_⟩
 have F1:=F.grow s
 refine⟨λi m σ H=>m=ds.length-i/\i<=ds.length/\∃U2 δ,Rel X.K O U2 A0 σ δ H/\Fx H0 A0 U2 H/\Fx (wo H1 U) A0 U2 H/\kY gt gb (ds.drop i) δ=some r,⟨ds.length,by simp,Nat.zero_le _,U,δ,R.same s,F1,F1.here,by simpa using e2⟩,?_⟩
 rintro i m σ H ⟨rfl,hle,U2,δ,R2,F2,G2,ef⟩
 obtain⟨T6,vW⟩:=hw (U2++A0) i H G2.keeps R2.al
 by_cases hV:i<ds.length
 .obtain ⟨d,hd⟩:∃d,ds[i]?=some d:=⟨_,aal hV⟩;have B3:ds.drop i=d::ds.drop (i+1):=by
   rw[acB hV];rw[aal hV]at hd;cases hd;rfl
  obtain⟨go,hy⟩:=T6 d hd;rw[B3,kY]at ef;obtain⟨fg,e3,e4⟩:=bind1 ef;obtain⟨q,e5,e6⟩:=bind1 e4;refine .inr ⟨go,λck H'=>∃m',m'<ds.length-i/\(m'=ds.length-(i+1)/\i+1<=ds.length/\∃U2 δ,Rel X.K O U2 A0 ck δ H'/\Fx H0 A0 U2 H'/\Fx (wo H1 U) A0 U2 H'/\kY gt gb (ds.drop (i+1)) δ=some r),λ_ _ h=>h,λx H2 y=>?_⟩;obtain⟨s2,hx⟩:=hy x H2 y;refine⟨U2,A0,δ,d,fg,R2.same s2,hx,e3,λck R'=>?_⟩;have F3:=F2.grow s2;have G3:=G2.grow s2;refine⟨wo H2 U2,U2,A0,fg,q,R',F3.here,e5,?_⟩;cases q with
  |nx δ'=>exact λU' ck H' R' F'=>⟨_,by lia,rfl,hV,U',δ',R',F3.trans F',G3.trans F',e6⟩
  |ct δ'=>exact λU' ck H' R' F'=>⟨_,by lia,rfl,hV,U',δ',R',F3.trans F',G3.trans F',e6⟩
  |bk δ'=>cases e6;exact λU' ck H' R' F'=>P U' ck H' R' (F3.trans F')
  |rt d=>cases e6;exact⟨λv H' h=>P.1 v H' (h.trans F3),λc H' e s=>P.2 c H' e (F3.Yb s)⟩
 .have hi:i=ds.length:=by lia
  subst hi;rw[aeo,kY]at ef;cases ef;exact .inl ⟨vW rfl,P U2 σ H R2 F2⟩
end
noncomputable def hX(lo:Int)(n:Nat):List D:=(List.range n).map λk:Nat=>PyData.int (lo+k)
theorem Ek{lo:Int}(h:(hX lo n)[i]?=some d):i<n/\d=.int (lo+i):=by
 unfold hX at h
 rw[aas]at h
 cases e:(List.range n)[i]? with
 |none=>rw[e]at h;cases h
 |some k=>grind
theorem El{lo:Int}:(hX lo n).length=n:=by unfold hX;simp
theorem uq{K:ao}{lo:Int}:Walks K A H1 (Xv lo n) (hX lo n):=by
 intro A' i H _ _
 refine⟨λd hd=>?_,λhi=>?_⟩
 .obtain ⟨hi,rfl⟩:=Ek hd;refine⟨hi,λx H2 y=>?_⟩;obtain⟨rfl,rfl⟩:=y;exact⟨aG.refl _,.int _⟩
 .rw [El]at hi;subst hi;exact aah _
def gM(g:cC):cC:=λδ=>(g δ).bind λ|[.int j]=>if -(2^62)<=j/\j<2^62 then some (hX 0 j.toNat)else none|_=>none
def vi(g:cC):cC:=λδ=>(g δ).bind λ|[.int i,.int j]=>if -(2^62)<=i/\i<2^62/\-(2^62)<=j/\j<2^62 then some (hX i (j-i).toNat)else none|_=>none
noncomputable def aU(g:bj):cC:=λδ=>(g δ).bind λ|.list l=>some l|.tuple l=>some l|_=>none
section
variable {X:Cx}{O:List Nat}{tg a b e:Expr}{gr:cC}{ge:bj}{pos p:Pos}
set_option tactic.hygienic true in
theorem jG(hm:X.mg "range"=none)(ha:PA X [a] (BY X.K O gr))(hg:Gl X "range":=by rfl)(hs:starEach [a] X.env=[(false,eval a X.env)]:=by rfl):PI X tg (.Call (.Name "range" p) [a] [] pos) (tI X.K O (gM gr)):=(HR hg hm ha hs).mono λ4=>by
 obtain⟨x,e1,e2⟩:=bind1 ed
 refine⟨U,A0,δ,x,R,e1,λvs H' s h=>?_⟩
 split at e2
 .split at e2
  .rename_i hz;cases e2;cases h with
   |cons h1 h2=>
     cases h2;cases h1;exact⟨_,rfl,hz.1,hz.2,q _ H' s uq⟩
  .grind
 .grind
set_option tactic.hygienic true in
theorem Iz(hm:X.mg "range"=none)(ha:PA X [a,b] (BY X.K O gr))(hg:Gl X "range":=by rfl)(hs:starEach [a,b] X.env=[(false,eval a X.env),(false,eval b X.env)]:=by rfl)(ra:starEach [b] X.env=[(false,eval b X.env)]:=by rfl):PI X tg (.Call (.Name "range" p) [a,b] [] pos) (tI X.K O (vi gr)):=(HS hg hm ha hs ra).mono λ4=>by
 obtain⟨x,e1,e2⟩:=bind1 ed
 refine⟨U,A0,δ,x,R,e1,λvs H' s h=>?_⟩
 split at e2
 .split at e2
  .rename_i hz;cases e2;cases h with
   |cons h1 h2=>cases h2 with
     |cons h2 h3=>
       cases h3;cases h1;cases h2;exact⟨_,_,rfl,hz,q _ H' s uq⟩
  .grind
 .grind
def abf(K:ao)(tl:TE):TI:=λσ H R=>tl σ H λx H1=>(∃a,x=.ref a/\(∃xs,lQ K H1 a xs)/\R (Itl K a) H1)\/∃a,x=.ref a/\(∃xs,kz K H1 a xs)/\R (Itt K a) H1
theorem T7(hl:PE X l tl):PI X tg l (abf X.K tl):=by
 intro 9
 refine dq (hl pins s σ H _ I h) λv s1 ⟨x,H1,I1,r1,q1⟩=>?_
 rcases q1 with⟨a,e,⟨xs,hq⟩,q⟩|⟨a,e,⟨xs,hq⟩,q⟩
 .subst e;cases r1;obtain⟨its,rv,p,hz⟩:=I1.list hq;refine wpAny_pyIter_list p.isList ?_;refine⟨s1.heap.objs.size,[s1.heap.objs.size],_,_,H1,rfl,I1.kept (t':=s1.toks) λb o e=>aaa _ e,HQ a _,⟨_,aae _ rfl,rfl,rfl⟩,λ9=>?_,q⟩;have e:b=s1.heap.objs.size:=by simpa using hb
  subst e;exact I1.sv (aah _) (I1.bU.fresh (aah _))
 .subst e;cases r1;obtain⟨its,rv,p,hz⟩:=I1.tuple hq;refine wpAny_pyIter_tuple (show s1.heap.IsTuple a its.toArray from p) ?_;refine⟨s1.heap.objs.size,[s1.heap.objs.size],_,_,H1,rfl,I1.kept (t':=s1.toks) λb o e=>aaa _ e,DW a _,⟨_,aae _ rfl,rfl,rfl⟩,λ9=>?_,q⟩;have e:b=s1.heap.objs.size:=by simpa using hb
  subst e;exact I1.sv (aah _) (I1.bU.fresh (aah _))
theorem bP(h:PE X e (tE X.K O ge)):PI X tg e (tI X.K O (aU ge)):=(T7 h).mono λ4=>by
 obtain⟨x,e1,e2⟩:=bind1 ed
 cases x with
 |list l=>
   cases e2;refine⟨U,A0,δ,_,R,e1,λv H' s h=>?_⟩;cases h with
   |lst hq h=>
     refine .inl ⟨_,rfl,⟨_,(hq.same cg).sq⟩,q _ H' s ?_⟩;intro A' i H2 s2 _;have Em:=hq.same s2;have h2:=h.same s2;have hL:=(Em.same cg).sq;refine⟨λd hd=>?_,λhi=>⟨_,hL,by rw[h2.len];lia⟩⟩;obtain⟨x,hx,hxd⟩:=h2.get hd;refine⟨⟨_,x,hL,hx⟩,λy H3 hy=>?_⟩;obtain⟨rfl,hy⟩:=hy;have:=hy _ hL;rw[hx]at this;cases this;exact⟨aG.refl _,hxd⟩
 |tuple l=>
   cases e2;refine⟨U,A0,δ,_,R,e1,λv H' s h=>?_⟩;cases h with
   |tup hq h=>
     refine .inr ⟨_,rfl,⟨_,(.inl (cg.ng hq))⟩,q _ H' s ?_⟩;intro A' i H2 s2 _;have Em:=s2.ng hq;have h2:=h.same s2;have hL:kz X.K H2 _ _:=.inl (cg.ng Em);refine⟨λd hd=>?_,λhi=>⟨_,hL,by rw[h2.len];lia⟩⟩;obtain⟨x,hx,hxd⟩:=h2.get hd;refine⟨⟨_,x,hL,hx⟩,λy H3 hy=>?_⟩;obtain⟨rfl,hy⟩:=hy;have:=hy _ hL;rw[hx]at this;cases this;exact⟨aG.refl _,hxd⟩
 |_=>cases e2
end
def eR(ix:List Nat)(δ:DS):DS:=ix.map λj=>(δ[j]?).join
noncomputable def Lb(f:D->Option D):List D->fR
 |[]=>some []
 |d::ds=>(f d).bind λx=>(Lb f ds).bind λxs=>some (x::xs)
def cb(gi:cC)(ix:List Nat)(ge:bj):cC:=λδ=>(gi δ).bind λds=>if ds.length<=100000 then Lb (λd=>ge (some d::eR ix δ)) ds else none
section
variable {X:Cx}{O:List Nat}
theorem PS.nE{st:Stmt}(h:PS X st (su (tN X.K O g) (mW i))):PS X st (su (tE X.K O (aX g)) (mW i)):=h.mono λ_ _ _ h=>QW h
end
noncomputable def dW:Res->Option D
 |.rt d=>some d
 |.nx _=>some .none
 |_=>none
noncomputable def nI:Res->fR
 |.rt (.list l)=>some l
 |_=>none
def d9(n:Nat)(g:bo):List D->Option D:=λds=>(g (ds.map some++List.replicate (n-ds.length) none)).bind dW
def nJ(n:Nat)(g:bo):List D->fR:=λds=>(g (ds.map some++List.replicate (n-ds.length) none)).bind nI
theorem Rel.start{K:ao}(al:Ls A H)(h:cY K (wo H A) vs ds)(hO:∀i∈O,ds.length<=i):Rel K O [] A (start N vs) (ds.map some++List.replicate (N.length-ds.length) none) H:=by
 have hl:=h.len
 have none_of:∀(i:Nat) d,ds.length<=i->(ds.map some++List.replicate (N.length-ds.length) none)[i]?=some (some d)->False:=by grind
 exact{
  len:=by unfold L2.start;simp[hl]
  fz:=λi d _ q=>by
   by_cases hi:i<ds.length
   .rw [List.getElem?_append_left (by simpa using hi),List.getElem?_map,List.getElem?_eq_getElem hi]at q;obtain⟨v,e,hv⟩:=h.get (aal hi);refine⟨v,?_,?_⟩;.unfold L2.start;rw[acH (by rw[aac];lia),aas,e];rfl
    .grind
   .grind
  ow:=λi d hi q=>(none_of i d (hO i hi) q).elim
  inj:=λi j d e l hi _ _ q=>(none_of i d (hO i hi) q).elim
  al:=al}
theorem Fx.start(al:Ls A H):Fx H A [] H:=⟨aG.refl H,λ_ h=>by simp at h,al⟩
section
variable {P:Program}{w:World}{K:ao}{mg:eQ}{base:Heap}{x:Str}{st:Stmt}{N ps:List Str}{k:Nat}
theorem cq(O:List Nat)(g:bo)(F:Df K mg x st ps)(S:az N ps (ah st))
  (body:∀(f:Addr) (de:Value) (A:Around) (outer:List Env) (s:Shared) (H:Hp) (E:XK),cW k (A.deeper (envOfC x (ah st) s.heap.objs.size f de))->iP (rb lR P w K mg base N x (ah st) f de A outer s H E).BM (cf st) (tS K O (false,λ_ _=>True) g))
  (hO:∀i∈O,ps.length<=i:=by decide)(hN:N.length=n:=by rfl)(hP:ps.length=m:=by rfl):Dn P w K mg base (k+1) x ps (il K m (d9 n g)):=by
 subst hN hP
 refine F.ok S (λvs H Q E h=>h.1) (λf de A outer s H vs Q E hr h=>⟨_,body f de A outer s H E hr,?_⟩)
 obtain⟨hn,A',ds,d,al,hd,e,q⟩:=h
 obtain⟨r,e1,e2⟩:=bind1 e
 refine⟨H,[],A',_,r,Rel.start al hd (λi hi=>by have:=hO i hi;rw[<-hd.len,hn];exact this),Fx.start al,e1,?_⟩
 cases r with
 |nx δ=>cases e2;exact λU σ H' R F'=>q .iu H' F'.same .iu
 |rt d=>cases e2;exact⟨λv H' h=>by unfold yj at h;rw[if_neg Bool.false_ne_true]at h;exact q v H' h.1 h.2,λ_ _ _ _=>trivial⟩
 |bk _=>cases e2
 |ct _=>cases e2
theorem Q3(O:List Nat)(g:bo)(F:uG K x x st f fd)(S:az N ps (ah st))
  (body:∀(f:Addr) (de:Value) (A:Around) (outer:List Env) (s:Shared) (H:Hp) (E:XK),cW k (A.deeper (envOfC x (ah st) s.heap.objs.size f de))->iP (rb lR P w K mg base N x (ah st) f de A outer s H E).BM (cf st) (tS K O (false,λ_ _=>True) g))
  (hO:∀i∈O,ps.length<=i:=by decide)(hN:N.length=n:=by rfl)(hP:ps.length=m:=by rfl):jR P w K mg base lR (k+1) f fd ps (il K m (d9 n g)):=by
 subst hN hP
 refine F.ok S (λvs H Q E h=>h.1) (λde A outer s H vs Q E hr h=>⟨_,body f de A outer s H E hr,?_⟩)
 obtain⟨hn,A',ds,d,al,hd,e,q⟩:=h
 obtain⟨r,e1,e2⟩:=bind1 e
 refine⟨H,[],A',_,r,Rel.start al hd (λi hi=>by have:=hO i hi;rw[<-hd.len,hn];exact this),Fx.start al,e1,?_⟩
 cases r with
 |nx δ=>cases e2;exact λU σ H' R F'=>q .iu H' F'.same .iu
 |rt d=>cases e2;exact⟨λv H' h=>by unfold yj at h;rw[if_neg Bool.false_ne_true]at h;exact q v H' h.1 h.2,λ_ _ _ _=>trivial⟩
 |bk _=>cases e2
 |ct _=>cases e2
theorem iE(O:List Nat)(g:bo)(F:Df K mg x st ps)(S:az N ps (ah st))
  (body:∀(f:Addr) (de:Value) (A:Around) (outer:List Env) (s:Shared) (H:Hp) (E:XK),cW k (A.deeper (envOfC x (ah st) s.heap.objs.size f de))->iP (rb lR P w K mg base N x (ah st) f de A outer s H E).BM (cf st) (tS K O (true,λ_ _=>True) g))
  (hO:∀i∈O,ps.length<=i:=by decide)(hN:N.length=n:=by rfl)(hP:ps.length=m:=by rfl):Dn P w K mg base (k+1) x ps (Iu K m (nJ n g)):=by
 subst hN hP
 refine F.ok S (λvs H Q E h=>h.1) (λf de A outer s H vs Q E hr h=>⟨_,body f de A outer s H E hr,?_⟩)
 obtain⟨hn,A',ds,d,al,hd,e,q⟩:=h
 obtain⟨r,e1,e2⟩:=bind1 e
 refine⟨H,[],A',_,r,Rel.start al hd (λi hi=>by have:=hO i hi;rw[<-hd.len,hn];exact this),Fx.start al,e1,?_⟩
 cases r with
 |rt d'=>
   refine⟨λv H' h=>?_,λ_ _ _ _=>trivial⟩;obtain⟨r,ob,rfl,a,b,c,f⟩:=h;cases f with
   |lst f=>cases e2;exact q r _ H' a b c f
   |vg _ _=>cases e2
 |nx δ=>cases e2
 |bk _=>cases e2
 |ct _=>cases e2
end
noncomputable def dA(f f':D->D->Option D)(a b c:bj):bj:=λδ=>(a δ).bind λx=>(b δ).bind λy=>(f x y).bind λz=>match z with
 |.bool true=>(c δ).bind λw=>f' y w
 |.bool false=>some (.bool false)
 |_=>none
section
variable {X:Cx}{O:List Nat}{a b c:Expr}{ga gb gc:bj}{pos:Pos}{r r':R2}
theorem B4{K:ao}(imp:jo K r f)(imp':jo K r' f'):tE K O (dA f f' ga gb gc) σ H Q->D0 r r' (iy K O ga) (iy K O gb) (iy K O gc) σ H Q:=λ⟨U,A0,δ,d,R,ed,q⟩=>by
 obtain⟨x,e1,ed⟩:=bind1 ed
 obtain⟨y,e2,ed⟩:=bind1 ed
 obtain⟨z,e3,ed⟩:=bind1 ed
 refine⟨U,A0,δ,x,R,e1,λv1 H1 s1 h1=>⟨U,A0,δ,y,R.same s1,e2,λv2 H2 s2 h2=>imp _ H2 v1 v2 x y z _ (R.same (s1.trans s2)).al (h1.same s2) h2 e3 λv3 H3 s3 h3=>?_⟩⟩
 cases z with
 |bool k=>
   cases h3;refine⟨k,rfl,?_⟩;cases k with
   |true=>
     obtain⟨w,e4,e5⟩:=bind1 ed;first
      |rw[aav rfl]
      |skip
     exact⟨U,A0,δ,w,R.same ((s1.trans s2).trans s3),e4,λv4 H4 s4 h4=>imp' _ H4 v2 v4 y w d Q (R.same (((s1.trans s2).trans s3).trans s4)).al (h2.same (s3.trans s4)) h4 e5 λv H' s h=>q v H' ((((s1.trans s2).trans s3).trans s4).trans s) h⟩
   |false=>
     cases ed;exact q _ H3 ((s1.trans s2).trans s3) (.bl _)
 |_=>cases ed
theorem hZ(ho:jP X (compareOp op) r)(imp:jo X.K r f)(DT:jP X (compareOp op') r')(imp':jo X.K r' f')(ha:PE X a (iy X.K O ga))(hb:PE X b (iy X.K O gb))(hc:PE X c (iy X.K O gc))(hm:lastMarks [op,op'] [b,c]=false:=by with_unfolding_all rfl):PE X (.Compare a [op,op'] [b,c] pos) (tE X.K O (dA f f' ga gb gc)):=(Kv ho DT ha hb hc hm).mono λ_ _ _=>B4 imp imp'
theorem sO(ho:jP X (compareOp op) r)(imp:jo X.K r f)(DT:jP X (compareOp op') r')(imp':jo X.K r' f')(ha:PE X a (iy X.K O ga))(hb:PE X b (iy X.K O gb))(hc:PE X c (iy X.K O gc))(hm:lastMarks [op,op'] [b,c]=false:=by with_unfolding_all rfl):PT X (.Compare a [op,op'] [b,c] pos) (tT X.K O (gB (dA f f' ga gb gc))):=(Kw ho DT ha hb hc hm).mono λ_ _ _=>QX λ_ _ _=>B4 imp imp'
end
section
end
def nK:D->Bool
 |.none|.bool _|.int _|.str _=>true
 |_=>false
noncomputable def dV:D->V
 |.none=>.iu
 |.bool b=>.bl b
 |.int i=>.int i
 |.str x=>.str x
 |_=>.iu
def T8(a b:D):Bool:=Oj (dV a) (dV b)
def J0:D->D->Option D:=λx y=>match y with
 |.list l=>if(nK x&&l.all nK)=true then some (.bool (l.any λz=>T8 z x))else none
 |.tuple l=>if(nK x&&l.all nK)=true then some (.bool (l.any λz=>T8 z x))else none
 |_=>none
def qb:D->D->Option D:=λx y=>(J0 x y).bind λ|.bool c=>some (.bool (!c))|_=>none
theorem jk.flat{K:ao}(h:jk K A H v d)(f:nK d=true):v=dV d/\mX v=true:=by
 cases d with
 |none=>rw[h.iu];exact⟨rfl,rfl⟩
 |bool b=>rw[h.bool];exact⟨rfl,rfl⟩
 |int i=>rw[h.int];exact⟨rfl,rfl⟩
 |str x=>rw[h.str];exact⟨rfl,rfl⟩
 |_=>cases f
theorem cY.flat{K:ao}:∀{xs:List V} {ds:List D},cY K H xs ds->ds.all nK=true->xs=ds.map dV/\xs.all mX=true
 |_,_,.nil,_=>⟨rfl,rfl⟩
 |_,_,.cons h t,f=>by
   rw[aeO,aaX]at f;obtain⟨e1,e2⟩:=cY.flat t f.2;obtain⟨e3,e4⟩:=(jk.of (A:=[]) (by rw[KY];exact h)).flat f.1;exact⟨by rw[aaw,<-e1,<-e3],by rw[aeO,e4,e2];rfl⟩
theorem Q4(x:D)(l:List D):XQ (dV x) (l.map dV)=l.any λz=>T8 z x:=by
 unfold XQ T8
 rw[agm];rfl
section
variable {X:Cx}
theorem Lc:jP X (compareOp .In) (VZ X.K false):=Ie
theorem zr:jP X (compareOp .NotIn) (VZ X.K true):=z8
end
set_option tactic.hygienic true in
theorem Gx{K:ao}(hx:jk K A H x dx)(hy:jk K A H y dy)(e:J0 dx dy=some d):∃p xs b,y=.ref p/\(lQ K H p xs\/kz K H p xs)/\mX x=true/\xs.all mX=true/\d=.bool b/\XQ x xs=b:=by
 unfold J0 at e
 split at e
 .split at e
  .rename_i hf;rw[aaX]at hf;cases e;obtain⟨p,xs,rfl,h1,h2⟩:=hy.list;obtain⟨e1,e2⟩:=h2.flat hf.2;obtain⟨e3,e4⟩:=hx.flat hf.1;exact⟨p,xs,_,rfl,.inl h1.sq,e4,e2,rfl,by rw[e1,e3,Q4]⟩
  .cases e
 .split at e
  .rename_i hf;rw[aaX]at hf;cases e;obtain⟨p,xs,rfl,h1,h2⟩:=hy.tuple;obtain⟨e1,e2⟩:=h2.flat hf.2;obtain⟨e3,e4⟩:=hx.flat hf.1;exact⟨p,xs,_,rfl,.inr h1,e4,e2,rfl,by rw[e1,e3,Q4]⟩
  .cases e
 .cases e
theorem Ld{K:ao}:jo K (VZ K false) J0:=by
 intro 4
 obtain⟨p,xs,b,h1,h2,h3,h4,rfl,h5⟩:=Gx hx hy e
 refine⟨p,xs,h1,h2,h3,h4,?_⟩
 rw[h5]
 exact q _ H (aG.refl H) (.bl _)
theorem zt{K:ao}:jo K (VZ K true) qb:=by
 intro 4
 obtain⟨c,e1,e2⟩:=bind1 e
 obtain⟨p,xs,b,h1,h2,h3,h4,rfl,h5⟩:=Gx hx hy e1
 cases e2
 refine⟨p,xs,h1,h2,h3,h4,?_⟩
 rw[h5]
 exact q _ H (aG.refl H) (.bl _)
theorem Gy(a b:Int):T8 (.int a) (.int b)=decide (a=b):=rfl
section
variable {X:Cx}{O:List Nat}{fr:Fr}{st:Stmt}{gl:cC}{i:Nat}
def IA(i:Nat)(g:cC):bo:=λδ=>(ae i δ).bind λx=>(g δ).bind λzs=>match x with
 |.list ds=>if ds.length+zs.length<=100000 then some (.nx (δ.set i (some (.list (ds++zs)))))else none
 |_=>none
set_option tactic.hygienic true in
theorem sP(h:PS X st (Gc (tBM X.K "list" Gj (kU i) (KC (tN X.K O gl) N7))))(hi:i∈O:=by decide):PS X st (tS X.K O fr (IA i gl)):=h.mono λ3=>by
 obtain⟨x,e1,e2⟩:=bind1 ed
 obtain⟨zs,e3,e4⟩:=bind1 e2
 rcases R.owL i x hi (join_some e1)with⟨l,ys,ds,hl,rfl,hU,h1,h2⟩|⟨kds,rfl⟩
 rotate_left
 .grind
 simp only at e4
 split at e4
 .rename_i hz;cases e4;refine⟨.ref l,hl,.inl ⟨rfl,ys,lQ.of h1⟩,U,A0,δ,zs,R,e3,λp ws H' s hp hp1 QS=>?_⟩;have T4:=s _ _ h1;have T5:=h2.same (bR (A:=U++A0) s);have hp3:=QS.same (i9 (A':=U++A0) λa ha=>aat _ ha);have hlen:=h2.len;have Yc:=QS.len;refine⟨l,p,ys,ws,rfl,rfl,T4,hp1,small ⇑2,?_⟩;exact P U σ _ ((R.same s).put hi hl hU (T5.app hp3) ⟨_,join_some e1⟩) ((F.grow s).put hU _)
 .grind
end
section
end
section
variable {X:Cx}{pins:cz}{σ:St}{H:Hp}{s:Shared}{h':Heap}
theorem Inv.kC{ch:List Addr}(I:⇑1)(k:∀b o,b∉ch->s.heap.get? b=some o->h'.get? b=some o)(hf:∀b∈ch,uE X pins H b):Inv X pins σ H {s with heap:=h',toks:=t'}:=by
 have nit:∀b u,H b=some u->b∉ch:=λb u e z=>by rw[(hf b z).1]at e;cases e
 refine I.step (g':=s.gens) (d':=s.drawn) (ch:=ch) (λ9=>?_) (λb o _ _ hc e _=>k b o hc e) (λb o _ _ hc e _=>⟨o.slots,k b o hc e⟩) (λ_ _ _ _ n=>n)
  (λb o hc e=>⟨o,k b o hc e⟩) (λ_ _ e=>e) (λ_ _ _ e=>e) (λb ps e=>⟨#[],by rw[e];simp⟩) (λm hm=>?_) (λb u e=>?_) I.bare
 .obtain ⟨_,a,_,b',c,d⟩:=hf b hb;exact⟨b',a,c,d⟩
 .obtain ⟨o,es,ep,ho,r⟩:=hm;exact⟨o,es,ep,k _ o (λz=>(hf _ z).2.1 rfl) ho,r⟩
 .refine (I.bU b u e).vE (λc v hc q=>k c v ?_ q) (λ_ q=>q) λ_ _ q=>q;rcases hc with z|z;.grind
  .grind
theorem Inv.An{D:Addr}(I:⇑1)(hD:H D=none)(hs:X.ip.heap.objs.size<=D)(hl:D≠X.env.locals)(hc:∀x c,X.env.cells.lookup x=some c->c≠D)
  (hp:∀p∈X.pn++pins,p.1≠D)(e:IsTup s.heap D its.toArray)(r:bA ys its)(hz:ys.length<=sizeLine):Inv X pins σ (upd H D (.tup ys)) s:=by
 have h:=I.step (H':=upd H D (.tup ys)) (h':=s.heap) (g':=s.gens) (t':=s.toks) (d':=s.drawn) (ch:=[D]) (λ9=>by
   have e:b=D:=by simpa using hb
   subst e;exact⟨.inr hs,hl,hc,hp⟩)
  (λb o _ _ _ q _=>q) (λb o _ _ _ q _=>⟨o.slots,q⟩) (λb o hb _ q=>by rw[av (by simpa using hb)];exact q) (λb o _ q=>⟨o,q⟩)
  (λb xs q=>by rw[av (aZ q hD)];exact q) (λb o u q=>by rw[av (aZ q hD)];exact q) (λb ps q=>⟨#[],by rw[av (aZ q hD),afI];exact q⟩) (λm hm=>hm) (λb u q=>?_) I.bare
 .exact h
 .by_cases hb:b=D
  .subst hb;rw[aL]at q;cases q;exact⟨hz,its,r,e⟩
  .rw [av hb]at q;exact(I.bU b u q).vE (λ_ _ _ z=>z) (λc z=>by rw[av (aZ z hD)];exact z) λc xs z=>z.new hD
end
def Ite(K:ao)(a:Addr):It:=
 ⟨λi H=>∃xs x,lQ K H a xs/\xs[i]?=some x,λi H x H'=>∃p v,H p=none/\x=.ref p/\H'=upd H p (.tup [.int i,v])/\∀xs,lQ K H a xs->xs[i]?=some v,λi H=>∃xs,lQ K H a xs/\xs.length<=i⟩
theorem IB{K:ao}(a e it:Addr)(iw:e≠it):Turn P w K (.Tuple es kk qc) (Ite K a) [e,it] e (λi h=>(∃old,IsEnum h e it i old)/\h.IsListIter it a i) where
 mem:=by simp
 obj:=λi h st b hb=>by
  obtain⟨⟨old,he⟩,o,ho,c,d⟩:=st;rcases aaj.mp hb with z|z;.grind
  .grind
 keep:=λi h h' st k=>by
  obtain⟨⟨old,he⟩,lG⟩:=st;exact⟨⟨old,k e ⇑11 _ he⟩,lG.at λo eo=>k it ⇑11 o eo⟩
 item:=by
  intro 0;subst hP hw hK;obtain⟨xs,x,hq,hx⟩:=hg;obtain⟨its,rv,p,hz⟩:=I.list hq;obtain⟨u,hu,ru⟩:=rv.get hx;obtain⟨⟨old,he⟩,lG⟩:=st;refine wpAny_pyNext_enum_item he lG p.isList (x:=u) (by simpa using hu) iw λh1 Kf abh Yd OG IC=>?_;refine⟨_,rfl,aez Kf λh2 Q0 ra=>?_⟩;have Ye:=aai he;have I1:Inv X pins σ H {s with heap:=h2,toks:=s.toks+1}:=I.kC (t':=s.toks+1) (ch:=[e,it]) (λb o hb eo=>by
   simp at hb;exact(ra.2 b hb.1).trans (IC b o hb.1 hb.2 eo)) hf;have T9:IsTup h2 s.heap.objs.size [Value.int i s.toks,u].toArray:=⟨_,(ra.2 _ (aer Ye)).trans Yd,rfl,_,rfl⟩;have l7:=I.bU.fresh (aah _);have fo:=I.sv (H':=H) (aah _) l7;have I2:Inv X pins σ (upd H s.heap.objs.size (.tup [.int i,x])) {s with heap:=h2,toks:=s.toks+1}:=I1.An l7 (aa6 I.sz (aah _)) fo.2.1 fo.2.2.2.2.1 fo.2.2.2.2.2 T9 (.cons ⟨_,rfl⟩ (.cons ru .nil)) (by show 2<=sizeLine;decide);refine⟨.ref s.heap.objs.size,_,I2,rfl,⟨_,x,l7,rfl,rfl,λys hy=>by rw[I.vG hy hq];exact hx⟩,⟨⟨u,Q0⟩,abh.extBut ra.extBut (acw iw)⟩,λ9=>?_⟩;have hV:b<s.heap.objs.size:=by
   rcases aaj.mp hb with z|z;.grind
   .have z:b=it:=by simpa using z
    subst z;obtain⟨o,ho,_⟩:=lG;exact aai ho
  rw[av (aay hV)];exact(hf b hb).1
 done:=by
  intro 0;subst hP hw hK;obtain⟨xs,hq,hx⟩:=hg;obtain⟨its,rv,p,hz⟩:=I.list hq;obtain⟨⟨old,he⟩,lG⟩:=st;have hl:=rv.length;refine wpAny_pyNext_enum_end (I.ok.hd hc) he lG p.isList (by simp;lia) λh1 eb=>⟨rfl,?_⟩;exact I.kC (t':=s.toks) (ch:=[e,it]) (λb o hb eo=>eb b o (λz=>hb (by simp[z])) eo) hf
 self:=λ_ _ _ _ _ st h=>by
  obtain⟨⟨old,he⟩,_⟩:=st;exact aef he h
theorem l8:bootBuiltins "enumerate"=some (.type "enumerate"):=⋯
noncomputable def jU(l:List D):List D:=l.zipIdx.map λp=>.tuple [.int (p.2:Nat),p.1]
theorem zu{d:D}(h:(jU l)[i]?=some d):∃x,l[i]?=some x/\d=.tuple [.int (i:Nat),x]:=by
 unfold jU at h
 rw[aas,aeg]at h
 cases e:l[i]? with
 |none=>rw[e]at h;cases h
 |some x=>rw[e]at h;simp at h;exact⟨x,rfl,h.symm⟩
theorem sQ:(jU l).length=l.length:=by unfold jU;simp
section
variable {X:Cx}{O:List Nat}{a:Expr}{ge:bj}{p pos:Pos}{es:List Expr}{kk}{qc:Pos}
def Yg(K:ao)(ta:TA):TI:=λσ H R=>ta σ H λvs H1=>∃a xs,vs=[.ref a]/\lQ K H1 a xs/\R (Ite K a) H1
theorem OH(hg:Gl X "enumerate")(hm:X.mg "enumerate"=none)(ha:PA X [a] ta)(hs:starEach [a] X.env=[(false,eval a X.env)]:=by rfl):PI X (.Tuple es kk qc) (.Call (.Name "enumerate" p) [a] [] pos) (Yg X.K ta):=by
 intro 9
 refine Call_ (lV I hg hm l8 (aci (dq (ha pos pins s σ H _ I h) λus s1 ⟨vs,H1,I1,r1,q1⟩=>?_) hs rfl))
 obtain⟨b,xs,e,hq,q⟩:=q1
 subst e
 obtain⟨u,rfl,ru⟩:=vals1 r1
 cases ru
 obtain⟨its,rv,pl,hz⟩:=I1.list hq
 refine call_enumerate_list pl.isList λh' he hit hsz hk=>?_
 refine aef he ?_
 refine⟨s1.heap.objs.size+1,[s1.heap.objs.size+1,s1.heap.objs.size],_,_,H1,rfl,I1.kept (t':=s1.toks) hk,IB b _ s1.heap.objs.size (agc _),⟨⟨_,he⟩,hit⟩,λ9=>?_,q⟩
 have hle:s1.heap.objs.size<=b:=by grind
 exact I1.sv hle (I1.bU.fresh hle)
def gT(g:bj):cC:=λδ=>(g δ).bind λ|.list l=>some (jU l)|_=>none
theorem rp(hm:X.mg "enumerate"=none)(ha:PE X a (tE X.K O ge))(hg:Gl X "enumerate":=by rfl)(hs:starEach [a] X.env=[(false,eval a X.env)]:=by rfl)(Ao:starEach ([]:List Expr) X.env=[]:=by rfl):PI X (.Tuple es kk qc) (.Call (.Name "enumerate" p) [a] [] pos) (tI X.K O (gT ge)):=
 (OH hg hm (bz ha cX (by rw[hs,Ao])) hs).mono λ4=>by
  obtain⟨x,e1,e2⟩:=bind1 ed;cases x with
  |list l=>
    cases e2;refine⟨U,A0,δ,_,R,e1,λv H' s h=>?_⟩;cases h with
    |lst hq h=>
      refine⟨_,_,rfl,(hq.same cg).sq,q _ H' s ?_⟩;intro A' i H2 s2 al;have h2:=h.same s2;have hL:=((hq.same s2).same cg).sq;refine⟨λd hd=>?_,λhi=>⟨_,hL,by rw[hi,sQ,h2.len];exact aah _⟩⟩;obtain⟨y,hy,rfl⟩:=zu hd;obtain⟨v,hv,Yh⟩:=h2.get hy;refine⟨⟨_,v,hL,hv⟩,λz H3 hz=>?_⟩;obtain⟨p,v',hp,rfl,rfl,JZ⟩:=hz;have:=JZ _ hL;rw[hv]at this;cases this;exact⟨cU hp _,HD.Ai al hp (.cons (.int _) (.cons Yh .nil))⟩
  |_=>cases e2
end
def WalksS(K:ao)(A:List Addr)(H1:Hp)(J:It)(ds:List D):Prop:=∀(i:Nat) (H:Hp),aG H1 H->
 (∀d,ds[i]?=some d->J.go i H/\∀x H2,J.Xu i H x H2->aG H H2/\HD K (wo H2 A) x d)/\(i=ds.length->J.stop i H)
def Q5(K:ao)(O:List Nat)(g:cC):TI:=λσ H R=>∃U A0 δ ds,Rel K O U A0 σ δ H/\g δ=some ds/\∀J H1,aG H H1->WalksS K (U++A0) H1 J ds->R J H1
theorem Q5.e{K:ao}  {GG:Prop}(hh:Q5 K O g σ H R)(kk:∀U A0 δ ds,(Rel K O U A0 σ δ H)->(g δ=some ds)->(∀J H1,aG H H1->WalksS K (U++A0) H1 J ds->R J H1)->GG):GG:=by obtain⟨U,A0,δ,ds,x0,x1,x2⟩:=hh;exact kk U A0 δ ds x0 x1 x2
section
variable {X:Cx}{O:List Nat}{tg e:Expr}{gi:cC}
theorem PI.c(h:PI X tg e (tI X.K O gi)):PI X tg e (Q5 X.K O gi):=h.mono λ4=>⟨U,A0,δ,ds,R,ed,λJ H1 s hw=>q J H1 s λi H2 s2=>hw (U++A0) i H2 (bR s2) ((R.same (s.trans s2)).al)⟩
end
section
end
end L2
namespace LS
open PySem PySem.Spec PyProof.Rows
section
variable {prog:Program}{w:World}{A:Around}{E:eJ}{s:Shared}{it t:Addr}{i:Nat}{items:Array Value}
theorem En(hit:s.heap.IsTupleIter it t i)(ht:s.heap.IsTuple t items)(hx:items[i]?=some x)
  (hQ:∀h',h'.IsTupleIter it t (i+1)->Heap.SameBut it s.heap h'->Q x {s with heap:=h'}):wpAny ⇑10 A (Builtin.SmallTypes.nextOf (.ref it)) Q E s:=by
 obtain⟨o,ho,hc,hd⟩:=id hit
 obtain⟨ol,Ua,_,nl,hdl⟩:=ht
 refine aab (abT (name:=Str.ofString "__next__") hit.typeIs adP (acf adP hit.typeIs ae4 ?_ (aeY _)))
 show wpAny _ _ (field (.ref it) 0 >>= _) _ _ s
 refine aab (wpAny_field ho hd (x:=.ref t) rfl ?_)
 refine aab (wpAny_field ho hd (x:=.int i 0) rfl ?_)
 refine aab (afJ Ua hdl ?_)
 simp only[abV,hx]
 refine aab (aeb ho hd ⇑11 (aag ⟨x,rfl,aag (hQ _ ?_ (abP ..))⟩))
 exact⟨_,abz _ ho (aec (ab1 hd _)),(ae7 ..).trans hc,by rw[ab1 hd];simp[rawInt]⟩
theorem ID(hh:A.handled=none)(hit:s.heap.IsTupleIter it t i)(ht:s.heap.IsTuple t items)(hx:items[i]?=none)
  (hE:∀h' e,Heap.ExtBut it s.heap h'->(∃o,h'.get? e=some o/\o.cls=.type "StopIteration")->E (.ref e) {s with heap:=h'}):wpAny ⇑10 A (Builtin.SmallTypes.nextOf (.ref it)) Q E s:=by
 obtain⟨o,ho,hc,hd⟩:=id hit
 obtain⟨ol,Ua,_,nl,hdl⟩:=ht
 refine aab (abT (name:=Str.ofString "__next__") hit.typeIs adP (acf adP hit.typeIs ae4 ?_ (aeY _)))
 show wpAny _ _ (field (.ref it) 0 >>= _) _ _ s
 refine aab (wpAny_field ho hd (x:=.ref t) rfl ?_)
 refine aab (wpAny_field ho hd (x:=.int i 0) rfl ?_)
 refine aab (afJ Ua hdl ?_)
 simp only[abV,hx]
 refine aab (afL (aab (aeb ho hd ⇑11 ?_)))
 refine aab ?_
 refine aab (m:=firstArgMember _ _) (af0 (a:=Value.none) (by first|rfl|(simp only[firstArgMember];rfl)) ?_)
 refine ad4 ?_ (by size_fits)
 refine aab (wpAny_handled ?_)
 first|rw[show A.in1.handled=none from hh]|rw[hh]
 refine aab (aag (wpAny_throw ?_))
 exact hE _ _ (((abP ..).extBut.push _).push _) ⟨_,aae _ rfl,rfl⟩
theorem gW(hh:A.handled=none)(it l:Addr)(iw:l≠it)(items:Array Value):
  Draws prog w A it [it,l] items.size (λi v=>items[i]?=some v) (λi h=>h.IsTupleIter it l i/\h.IsTuple l items) where
 live:=λ_ _ st=>let⟨o,ho,_⟩:=st.1;⟨o,ho⟩
 frame:=λ_ _ _ st hk=>⟨st.1.at λo e=>hk it ⇑11 o e,st.2.at λo e=>hk l ⇑11 o e⟩
 item:=λi s Q E hi st hQ=>En st.1 st.2 (x:=items[i]) (by simp[hi]) λh' Eo xR=>hQ _ h' s.toks (by simp[hi]) ⟨Eo,st.2.extBut xR.extBut iw⟩ xR
 done:=λs Q E st hE=>ID hh st.1 st.2 ⇑11 hE
end
set_option maxHeartbeats 1000000 in
set_option tactic.hygienic true in
theorem Ai(l:Addr)(items:Array Value)(n:Nat)(vg:Option Addr)(sl:Array (Option Value)):
  Meets (Builtin.«enumerate.__new__» ⟨[.type "enumerate",.ref l],[]⟩) (λ_ R s=>s.heap.get? l=some {cls:=.type "tuple",dict:=vg,data:=.seq items n,slots:=sl}/\
   R (.ok (.ret (.ref (s.heap.push ⇑12).objs.size)))
     {s with heap:=(s.heap.push ⇑12).push {cls:=.type "enumerate",data:=.fields #[.none,.bool false,.ref s.heap.objs.size,rawInt 0,.none,.none]}}):=
 .of_wp λprog w A R s h=>by
  obtain⟨hp,g,d,tk,os⟩:=s;obtain⟨hl,h⟩:=h;have vX:=sub_enumerate;have hL:Heap.IsTuple (Shared.heap ⟨hp,g,d,tk,os⟩) l items:=⟨_,hl,rfl,n,rfl⟩;wp_walk using AutoSeq1.wpAny_loadPart' hl;refine wpAny_stack_any λst=>aag ?_;split
  .rename_i c _ _ _ _ _;cases(c==Value.type "enumerate");.wp_walk using AutoSeq1.wpAny_loadPart' hl,wpAny_pyIter_tuple hL;exact⟨_,rfl,h⟩
   .wp_walk using AutoSeq1.wpAny_loadPart' hl,wpAny_pyIter_tuple hL;exact⟨_,rfl,h⟩
  .wp_walk using AutoSeq1.wpAny_loadPart' hl,wpAny_pyIter_tuple hL;exact⟨_,rfl,h⟩
section
variable {prog:Program}{w:World}{A:Around}{E:eJ}{s:Shared}
theorem Ep(hL:s.heap.IsTuple l items)
  (h:∀h',IsEnum h' ⇑24 s.heap.objs.size 0 .none->h'.IsTupleIter s.heap.objs.size l 0->h'.objs.size=s.heap.objs.size+2->(∀b o,s.heap.get? b=some o->h'.get? b=some o)->Q (.ref ⇑24) {s with heap:=h'}):
  wpAny ⇑10 A (call (.type "enumerate") [.ref l]) Q E s:=by
 obtain⟨⟨c,vg,dt,sl⟩,hl,hc,n,hd⟩:=hL
 subst hc hd
 refine callType_new aej ⇑0 (PySem.F.typeCall_enumerate_1 _) (PySem.F.newCall_enumerate_1 _) (λobj=>PySem.F.args_object_init_2 obj _) PySem.F.entry_enumerate_new (Ai l items n vg sl) ⟨hl,?_⟩
 have hz:(s.heap.push ⇑12).objs.size=s.heap.objs.size+1:=abS ..
 rw[hz]
 have he:IsEnum ((s.heap.push ⇑12).push {cls:=.type "enumerate",data:=.fields #[.none,.bool false,.ref s.heap.objs.size,rawInt 0,.none,.none]}) ⇑24 s.heap.objs.size 0 .none:=by
  have q:=aae (s.heap.push ⇑12) (o:={cls:=.type "enumerate",data:=.fields #[.none,.bool false,.ref s.heap.objs.size,rawInt 0,.none,.none]}) rfl;rw[hz]at q;exact q
 exact⟨⟨_,he,rfl⟩,h _ he ⟨_,aaa _ (aae _ rfl),rfl,rfl⟩ (by rw[abS,hz]) λb o x=>aaa _ (aaa _ x)⟩
end
end LS
namespace LS
open PySem
def Ap(l:List Nat):Prop:=l.Pairwise (·<·)
theorem rq{xs:Array Nat}(h:Ap xs.toList)(hab:a<b)(hb:b<xs.size)(d e:Nat):xs.getD a d<xs.getD b e:=by
 have ha:a<xs.size:=by lia
 have:=List.pairwise_iff_getElem.mp h a b (by simpa using ha) (by simpa using hb) hab
 simpa[ha,hb]using this
theorem Le(hs:Ap xs.toList)(j:Nat)(fuel:Nat):∀(lo hi:Nat),hi-lo<=fuel->lo<=hi->hi<=xs.size->(∀k,k<lo->xs.getD k 0<j)->(∀k,hi<=k->k<xs.size->j<=xs.getD k 0)->
  SetTable.below.go xs j fuel lo hi<=xs.size/\(∀k,k<SetTable.below.go xs j fuel lo hi->xs.getD k 0<j)/\∀k,SetTable.below.go xs j fuel lo hi<=k->k<xs.size->j<=xs.getD k 0:=by
 induction fuel with
 |zero=>
   intro lo hi h1 h2 h3 h4 h5;have e:=afu h2 (Nat.le_of_sub_eq_zero (Nat.le_zero.mp h1));subst e;exact⟨h3,h4,h5⟩
 |succ fuel ih=>
   intro lo hi h1 h2 h3 h4 h5;rw[SetTable.below.go];by_cases hl:lo<hi
   .rw [aav hl];have a:lo<=(lo+hi)/2/\(lo+hi)/2<hi:=by lia
    dsimp only;generalize (lo+hi)/2=m at a;have hm:=aam a.2 h3;have hg:xs.getD m j=xs.getD m 0:=by simp[hm]
    rw[hg];by_cases hc:xs.getD m 0<j
    .rw [aav hc];refine ih _ hi ⇑2 a.2 h3 (λk hk=>?_) h5;rcases Nat.lt_or_eq_of_le (Nat.le_of_lt_succ hk)with q|q;.exact Nat.lt_trans (rq hs q hm 0 0) hc
     .grind
    .rw [aaB hc];have hc:=aea hc;refine ih lo _ ⇑2 a.1 (adN hm) h4 (λk hk Ub=>?_);rcases Nat.lt_or_eq_of_le hk with q|q;.exact aa6 hc (adN (rq hs q Ub 0 0))
     .rw [<-q];exact hc
   .rw [aaB hl];have e:=afu h2 (aea hl);subst e;exact⟨h3,h4,h5⟩
theorem below_at(hs:Ap xs.toList)(j:Nat):SetTable.below xs j<=xs.size/\(∀k,k<SetTable.below xs j->xs.getD k 0<j)/\∀k,SetTable.below xs j<=k->k<xs.size->j<=xs.getD k 0:=
 Le hs j xs.size 0 xs.size ⇑2 (abO _) (aah _) (λk hk=>by lia) λk h1 h2=>by lia
theorem vY(hs:Ap xs.toList)(hi:i<=xs.size)(h1:∀k,k<i->xs.getD k 0<j)(h2:∀k,i<=k->k<xs.size->j<=xs.getD k 0):SetTable.below xs j=i:=by
 obtain⟨a,b,c⟩:=below_at hs j
 rcases Nat.lt_trichotomy (SetTable.below xs j) i with h|h|h
 .grind
 .exact h
 .grind
theorem Lf(hs:Ap xs.toList)(h:xs[SetTable.below xs j]?≠some j):j∉xs.toList:=by
 intro hm
 obtain⟨k,hk,e⟩:=ael hm
 have Ub:k<xs.size:=by simpa using hk
 have ek:xs.getD k 0=j:=by simpa[Ub]using e
 have:SetTable.below xs j=k:=vY hs (adN Ub) (λi hi=>by rw[<-ek];exact rq hs hi Ub 0 0) (λi h1 h2=>by
  by_cases TL:k=i;.grind
  .have:=rq hs (show k<i by lia) h2 0 0;lia)
 rw[this]at h
 refine h ?_
 rw[abW Ub]
 simpa using e
theorem OI{t:SetTable}(hs:Ap t.place.toList)(h:t.place[SetTable.below t.place j]?≠some j):Ap (t.put j).1.place.toList:=by
 have hn:=Lf hs h
 obtain⟨a,b,c⟩:=below_at hs j
 show Ap (SetTable.insertAt t.place (SetTable.below t.place j) j).toList
 rw[SetTable.toList_insertAt]
 have xR:(t.place.toList.take (SetTable.below t.place j)++t.place.toList.drop (SetTable.below t.place j)).Pairwise (·<·):=by rw[afd];exact hs
 rw[List.pairwise_append]at xR
 refine List.pairwise_append.mpr ⟨xR.1,acj.mpr ⟨λ8=>?_,xR.2.1⟩,λx hx y hy=>?_⟩
 .obtain ⟨k,hk,e⟩:=ael hx;have V3:SetTable.below t.place j+k<t.place.size:=by grind
  have:=c (SetTable.below t.place j+k) ⇑2 V3;have e2:t.place.getD (SetTable.below t.place j+k) 0=x:=by simpa[V3]using e
  have iw:x≠j:=λz=>hn (by rw[<-z];exact List.mem_of_mem_drop hx);lia
 .obtain ⟨k,hk,e⟩:=ael hx;have V3:k<SetTable.below t.place j:=by grind
  have hk3:k<t.place.size:=by lia
  have e2:t.place.getD k 0=x:=by simpa[hk3]using e
  rcases aaj.mp hy with z|z;.grind
  .grind
set_option tactic.hygienic true in
theorem qd:∀{fuel:Nat} {p:SetTable.Probe} {j:Nat} {dm:Option Nat},(∀d,p.dummy=some d->t.place[SetTable.below t.place d]?≠some d)->
  SetTable.probe.go t f h fuel p=some (.empty j dm)->t.place[SetTable.below t.place (dm.getD j)]?≠some (dm.getD j)
 |0,p,j,dm,_,e=>by cases e
 |fuel+1,p,j,dm,hd,e=>by
   have Z5:∀q:SetTable.Probe,(t.advance q).dummy=q.dummy:=λq=>by unfold SetTable.advance;split<;>rfl
   rw[SetTable.probe.go]at e;have nl:∀i,t.slot i=.empty\/t.slot i=.dummy->t.place[SetTable.below t.place i]?≠some i:=by
    intro i hi z;unfold SetTable.slot at hi;dsimp only at hi;rw[z]at hi;simp at hi
   split at e
   .rename_i hs;cases e;cases hp:p.dummy with
    |none=>exact nl _ (.inl hs)
    |some d=>exact hd d hp
   .rename_i hs;refine qd (λd u9=>?_) e;rw[Z5]at u9;cases u9;exact nl _ (.inr hs)
   .split at e;.cases e
    .exact qd (λd u9=>hd d (by rw[Z5]at u9;exact u9)) e
theorem pd(n:Nat):Ap (Array.range n).toList:=by rw[Array.toList_range];exact List.pairwise_lt_range
theorem yq{t:SetTable}(h:Ap t.place.toList):Ap (t.orStandIn n).place.toList/\(t.orStandIn n).led=t.led:=by
 unfold SetTable.orStandIn
 split
 .grind
 .exact ⟨pd n,rfl⟩
set_option tactic.hygienic true in
theorem Er(hs:Ap t.place.toList):Ap (layNew t es h x).2.1.place.toList/\(layNew t es h x).2.1.led=t.led:=by
 unfold layNew
 split
 .rename_i slot wd e;unfold SetTable.freeSlot at e;split at e
  .rename_i j dm ep;cases e;have:=qd (t:=t) (λd z=>by cases z) ep;obtain⟨a,b⟩:=yq (n:=(SetTable.insertAt es (t.put (dm.getD j)).2 (h,x)).size) (OI hs this);exact⟨a,b⟩
  .cases e
 .exact ⟨pd _,rfl⟩
set_option tactic.hygienic true in
theorem Aq:Ap (relayAll t es n).2.1.place.toList/\(relayAll t es n).2.1.led=t.led:=by
 unfold relayAll
 split
 .rename_i t' order e;dsimp only;split
  .unfold SetTable.relaid SetTable.laid at e;obtain⟨owner,_,e2⟩:=Option.bind_eq_some_iff.mp e;cases e2;refine⟨?_,rfl⟩;refine List.pairwise_map.mpr (List.pairwise_filterMap.mpr ?_);refine List.pairwise_lt_range.imp λ{a b} hab x hx y hy=>?_;cases ea:owner.getD a none with
   |none=>rw[ea]at hx;cases hx
   |some u=>
     cases eb:owner.getD b none with
     |none=>rw[eb]at hy;cases hy
     |some v=>grind
  .exact ⟨pd _,rfl⟩
 .exact ⟨pd _,rfl⟩
end LS
namespace LS
open PySem PyProof.Rows
def iv:Value->Int
 |.int n _=>n
 |_=>0
theorem fh:∀{vs:bZ} {ns:List Int},IntsAre vs ns↔(∀v∈vs,∃n t,v=.int n t)/\ns=vs.map iv
 |[],ns=>⟨λh=>by cases h;exact⟨λv hv=>by simp at hv,rfl⟩,λ⟨_,h⟩=>by subst h;exact .nil⟩
 |v::vs,ns=>⟨λh=>by
     cases h with
     |cons n t h=>
       obtain⟨h1,h2⟩:=fh.mp h;refine⟨λu hu=>?_,by rw[h2];rfl⟩;rcases aaj.mp hu with z|z;.grind
       .exact h1 u z,λ⟨h1,h2⟩=>by
     obtain⟨n,t,rfl⟩:=h1 v aan;subst h2;exact .cons n t (fh.mpr ⟨λu hu=>h1 u (aat _ hu),rfl⟩)⟩
theorem sR(h:IntsAre vs ns)(p:vs'.Perm vs):∃rA,IntsAre vs' rA/\rA.Perm ns:=by
 obtain⟨h1,h2⟩:=fh.mp h
 exact⟨vs'.map iv,fh.mpr ⟨λv hv=>h1 v (p.mem_iff.mp hv),rfl⟩,by rw[h2];exact p.map iv⟩
def ni(prog:Program)(w:World)(h:Heap)(a:Addr)(led:Bool)(ns:List Int):Prop:=∃o es ep t,h.get? a=some o/\o.ExactSet/\o.data=.set es ep t/\ElemsOf (intKind prog w) es.toList/\
 IntsAre (es.toList.map (·.2)) ns/\ns.Nodup/\es.size<scanBound/\t.fits es.size=true/\t.led=led/\Ap t.place.toList
section
variable {prog:Program}{w:World}{A:Around}{E:eJ}{s:Shared}{a:Addr}{led:Bool}{ns:List Int}
theorem ni.keeps(x:ni prog w h a led ns)(k:∀o,h.get? a=some o->h'.get? a=some o):ni prog w h' a led ns:=by
 obtain⟨o,es,ep,t,ho,r⟩:=x
 exact⟨o,es,ep,t,k o ho,r⟩
theorem B5{h:Heap}(ho:h.get? a=some o)(hex:o.ExactSet)(hd:o.data=.set es ep t) 
  (h1:ElemsOf (intKind prog w) BJ.toList)(h2:IntsAre (BJ.toList.map (·.2)) rA)(h3:rA.Nodup)(h4:BJ.size<scanBound)(h5:t'.fits BJ.size=true)(h6:t'.led=led)(h7:Ap t'.place.toList):
  (h.update a (Obj.putSet BJ t')).get? a=some {o with data:=.set BJ (ep+1) t'}/\ni prog w (h.update a (Obj.putSet BJ t')) a led rA:=by
 have hg:(h.update a (Obj.putSet BJ t')).get? a=some {o with data:=.set BJ (ep+1) t'}:=by
  have q:=abz (Obj.putSet BJ t') ho (by rw[putSet_of BJ t' hd];rfl);rwa [putSet_of BJ t' hd]at q
 exact⟨hg,_,BJ,ep+1,t',hg,hex,rfl,h1,h2,h3,h4,h5,h6,h7⟩
theorem zv{g:Bool->Sem Unit}(hg:∀(b:Bool) (bV:Shared) (Q':Unit->Shared->Prop),Q' () bV->wpAny ⇑10 A (g b) Q' E bV) 
  (ho:s.heap.get? a=some o)(hex:o.ExactSet)(hd:o.data=.set es ep t)(h1:ElemsOf (intKind prog w) vZ.toList)(h2:IntsAre (vZ.toList.map (·.2)) V4)(h3:V4.Nodup)(h4:vZ.size<scanBound)
  (h5:t2.fits vZ.size=true)(h6:t2.led=led)(h7:Ap t2.place.toList) 
  (h:∀h' rA,Heap.SameBut a s.heap h'->ni prog w h' a led rA->rA.Perm V4->R (some true) {s with heap:=h'}):
  wpAny ⇑10 A (do
    storeSet a vZ t2
    if(!wd&&t2.tooFull)=true then do
        g (relayAll t2 vZ (SetTable.grown vZ.size)).2.2
        storeSet a (relayAll t2 vZ (SetTable.grown vZ.size)).1 (relayAll t2 vZ (SetTable.grown vZ.size)).2.1
        pure (some true)
     else pure (some true)) R E s:=by
 refine aab (wpAny_storeSet_of ho hd ?_ (fits_of_scanBound h4))
 obtain⟨y8,S1⟩:=B5 (led:=led) ho hex hd h1 h2 h3 h4 h5 h6 h7
 have b1:=abP s.heap a (Obj.putSet vZ t2)
 split
 .have hp:=relayAll_perm t2 vZ (SetTable.grown vZ.size);have hf:=relayAll_fits t2 vZ (SetTable.grown vZ.size);obtain⟨hr,hl⟩:=Aq (t:=t2) (es:=vZ) (n:=SetTable.grown vZ.size);generalize relayAll t2 vZ (SetTable.grown vZ.size)=Z at hp hf hr hl ⊢;obtain⟨es2,t3,abk⟩:=Z;obtain⟨ns2,i2,p2⟩:=sR h2 (hp.map (·.2));have hz:es2.size=vZ.size:=by rw[<-Array.length_toList,hp.length_eq,aaD]
  have b2:es2.size<scanBound:=by rw[hz];exact h4
  refine aab (hg _ _ _ (aab (wpAny_storeSet_of y8 rfl ?_ (fits_of_scanBound b2))));obtain⟨_,S2⟩:=B5 (led:=led) y8 hex rfl (h1.perm hp) i2 (p2.nodup_iff.mpr h3) b2 hf (hl.trans h6) hr;exact aag (h _ ns2 (b1.trans (abP _ a _)) S2 p2)
 .exact aag (h _ V4 b1 S1 (.refl _))
theorem B6{es:List (Int×Value)}(h:IntsAre (es.map (·.2)) ns):i∈ns↔∃e∈es,Value.isInt i e.2=true:=by
 obtain⟨h1,h2⟩:=fh.mp h
 subst h2
 constructor
 .intro hm;obtain⟨v,hv,e⟩:=aaH.mp hm;obtain⟨x,hx,rfl⟩:=aaH.mp hv;obtain⟨n,t,q⟩:=h1 _ hv;cases e;exact⟨x,hx,by rw[q];simp[Value.isInt,iv]⟩
 .rintro ⟨e,he,q⟩;obtain⟨t,z⟩:=Value.isInt_shape q;exact aaH.mpr ⟨e.2,aaH.mpr ⟨e,he,rfl⟩,by rw[z];rfl⟩
theorem Lg(hS:ni prog w s.heap a led ns)(room:ns.length+1<scanBound)
  (h:∀h' rA b,Heap.SameBut a s.heap h'->ni prog w h' a led rA->(∀k,k∈rA↔k∈ns\/k=i)->rA.length<=ns.length+1->Q b {s with heap:=h'}):
  wpAny ⇑10 A (setAddHashed a (.int i tk) (hashInt i)) Q E s:=by
 obtain⟨o,es,ep,t,ho,hex,hd,h1,h2,h3,h4,h5,h6,h7⟩:=hS
 have hlen:ns.length=es.size:=by
  obtain⟨_,e⟩:=fh.mp h2;rw[e];simp
 have hk:(intKind prog w).is i (.int i tk)=true:=intKind_is prog w i tk
 have hsc:(Value.int i tk).scannable=true:=rfl
 unfold setAddHashed setAddHashedIn
 refine adZ (aab (aeh ho hd h5 ?_))
 dsimp only
 rw[byScan_of hsc h4 h1]
 simp only[↓reduceIte]
 unfold setAddByScan
 refine aab (aab (afL (aab (wpAny_setScan_of (knd:=intKind prog w) (k:=i) hk ho hd h5 h1 ?_))))
 cases hf:List.findIdx? (λe=>(intKind prog w).is i e.2) es.toList with
 |some j=>
   obtain⟨hj,hpj,_⟩:=List.findIdx?_eq_some_iff_getElem.mp hf;have hm:=(B6 h2).mpr ⟨_,aeE hj,hpj⟩;refine aag (aag ?_);have q:=h s.heap ns false (Heap.SameBut.refl a s.heap) ⟨o,es,ep,t,ho,hex,hd,h1,h2,h3,h4,h5,h6,h7⟩ (λk=>⟨.inl,λz=>z.elim id λe=>e ▸ hm⟩) (ae1 _);exact q
 |none=>
   have hn:i∉ns:=λhm=>by
    obtain⟨e,he,q⟩:=(B6 h2).mp hm;have z:=List.findIdx?_eq_none_iff.mp hf e he;rw[show(intKind prog w).is i e.2=true from q]at z;cases z
   have gw:∀(b:Bool) {bV:Shared} {Q':Unit->Shared->Prop},Q' () bV->wpAny ⇑10 A (match b with|true=>rule "set.scan.the-table-gave-way" |false=>pure ()) Q' E bV:=
    λb bV Q' hq=>by cases b<;>first|exact aag hq|exact afL hq
   have hp:=layNew_perm t es (hashInt i) (.int i tk);have Z6:=layNew_fits t es (hashInt i) (.int i tk);obtain⟨hr,hl⟩:=Er (t:=t) (es:=es) (h:=hashInt i) (x:=.int i tk) h7;generalize layNew t es (hashInt i) (.int i tk)=Z at hp Z6 hr hl ⊢;obtain⟨vZ,t1,wd,abk⟩:=Z;dsimp only at hp Z6 hr hl ⊢;rw[ae8]at hp;have e1:=(h1.push hk hsc).perm hp;have i0:IntsAre ((es.toList++[(hashInt i,Value.int i tk)]).map (·.2)) (ns++[i]):=by
    obtain⟨x1,x2⟩:=fh.mp h2;refine fh.mpr ⟨λv hv=>?_,by rw[x2];simp[iv]⟩;rw[abj]at hv;rcases aap.mp hv with z|z;.exact x1 v z
    .grind
   obtain⟨V4,i1,p1⟩:=sR i0 (hp.map (·.2));have nd:V4.Nodup:=p1.nodup_iff.mpr (by
    rw[List.nodup_append];exact⟨h3,by simp,λx hx y hy=>by simp at hy;rw[hy];exact λz=>hn (z ▸ hx)⟩);have hz:vZ.size=es.size+1:=by rw[<-Array.length_toList,hp.length_eq,aak,aaD];rfl
   have b1:vZ.size<scanBound:=by lia
   have fin:∀h' rA,Heap.SameBut a s.heap h'->ni prog w h' a led rA->rA.Perm V4->Q true {s with heap:=h'}:=λh' rA sb S p=>by
    refine h h' rA true sb S (λk=>?_) ?_;.grind
    .rw [p.length_eq,p1.length_eq];simp
   refine aab (gw _ ?_);split
   .rw [hashByValue_scannable 8 hsc];refine zv (led:=led) ?_ ho hex hd e1 i1 nd b1 ?_ ?_ ?_ λh' rA sb S p=>?_;.intro b bV Q' hq;cases b<;>first|exact aag hq|exact afL hq
    .split;.lia
     .exact SetTable.fits_plain_off Z6
    .grind
    .split<;>exact hr
    .exact aag (fin h' rA sb S p)
   .refine aab (aag ?_);refine zv (led:=led) ?_ ho hex hd e1 i1 nd b1 Z6 (hl.trans h6) hr λh' rA sb S p=>?_;.intro b bV Q' hq;cases b<;>first|exact aag hq|exact afL hq
    .exact aag (fin h' rA sb S p)
end
end LS
namespace LS
open PySem PySem.Spec PyProof.Rows
section
variable {prog:Program}{w:World}{A:Around}{E:eJ}{s:Shared}
noncomputable abbrev rB(w:World):Bool:= !w.params.followText "set-order"
abbrev iF(w:World):Obj:={cls:=.type "set",dict:=none,data:=.set #[] 0 (.fresh 0 0 (rB w))}
theorem IE(e:h.get? a=some (iF w)):ni prog w h a (rB w) []:=
 ⟨_,#[],0,_,e,⟨rfl,rfl,rfl⟩,rfl,λ8=>by simp at hx,.nil,.nil,by decide,rfl,rfl,List.Pairwise.nil⟩
theorem OJ(a:Value)(h:Q₁ ⇑25 {s with heap:=s.heap.push (iF w)}):
  codeAny ⇑10 A (.call (.builtin "set.__new__") ⟨[.type "set",a],[]⟩) (wants Q₁ E) s:=by
 refine codeAny_of_tree ?_
 show wpAny _ A.in1 (checkBuiltinCall "set.__new__" ⟨[.type "set",a],[]⟩ >>= λ_=>again (.builtin "set.__new__" ⟨[.type "set",a],[]⟩)) _ _ s
 refine aab (af0 (PySem.F.newCall_set_1 a) (aag ⟨afn PySem.F.plain_set_new _,aee PySem.F.entry_set_new ?_⟩))
 rw[aeA PySem.F.plain_set_new _]
 unfold Builtin.«set.__new__» Builtin.Frozenset.newClass
 have vX:=sub_set_self
 obtain⟨hp,g,d,tk,os⟩:=s
 dsimp only
 wp_walk
 refine aep (aag ?_)
 dsimp only
 simp only[newObj]
 exact aab (wpAny_alloc (aag (aag h)))
end
section
variable {prog:Program}{w:World}{A:Around}{R:Result->Shared->Prop}{I:Addr}{fp wr:List Addr}{G:Array GenState->Array GenState->Prop}{n:Nat}{P:Nat->Value->Prop}{St:Nat->Shared->Prop}{led:Bool}
theorem Lh(W:WalksS prog w A.in1 I fp wr G n P St)(S:Addr)(Uc:S∉fp)(val:Nat->Int)(IF:∀i v,P i v->∃t,v=.int (val i) t)(hb:n+1<scanBound):
  ∀(k i:Nat) (s:Shared) (ns:List Int),n-i=k->i<=n->St i s->ni prog w s.heap S led ns->ns.length<=i->(∀x,x∈ns↔∃j,j<i/\val j=x)->
    (∀s' rA,Moved (S::wr) G s s'->ni prog w s'.heap S led rA->rA.length<=n->(∀x,x∈rA↔∃j,j<n/\val j=x)->R (.ok (.ret .none)) s')->
    codeAny ⇑10 A (.builtin "set.update.loop" ⟨[.ref S,.ref I],[]⟩) R s:=by
 have hSw:=λh=>Uc (W.sub _ h)
 have vX:∀b∈wr,b∈S::wr:=λ9=>aat _ hb
 intro k
 induction k with
 |zero=>
   intro i s ns hk hi st hS hl hm hR;have Z7:i=n:=by lia
   subst Z7;refine aee aeH ?_;refine aab (W.done s _ _ st λs' mv=>?_);exact aag (hR s' ns (mv.mono vX) (hS.keeps λo e=>mv.heap S o hSw e) hl hm)
 |succ k ih=>
   intro i s ns hk hi st hS hl hm hR;have hV:i<n:=by lia
   refine aee aeH ?_;rw[aeA aeI _];refine aab (W.item i s _ _ hV st λv s' hP DL mv=>?_);obtain⟨t,rfl⟩:=IF i v hP;have V5:=hS.keeps λo e=>mv.heap S o hSw e;show wpAny _ A.in1 (holding [Value.int (val i) t] (setAdd S (.int (val i) t)) >>= _) _ _ s';refine aab (adZ ?_);unfold setAdd;refine adZ (aab ((intKind prog w).pyHash (k:=val i) (intKind_is _ _ _ _) ?_));refine Lg (s:={s' with toks:=s'.toks+1}) V5 ⇑2 λh' rA b sb S2 V6 Tq=>?_;refine aag ⟨afn aeI _,ih (i+1) _ rA ⇑2 hV (W.frame _ s' _ _ DL (ae1 _) λb hb o e=>?_) S2 ⇑2 (λx=>?_) λDM abm abn S3 l3 m3=>?_⟩;.rw [sb.2 b (λz:b=S=>Uc (by rw[<-z];exact hb))];exact e
   .grind
   .refine hR DM abm (Moved.trans W.gtrans ((mv.mono vX).then_heap (ae1 _) λb o hb e=>?_) abn) S3 l3 m3;rw[sb.2 b (λz:b=S=>hb (by rw[z];exact aan))];exact e
end
section
variable {prog:Program}{w:World}{A:Around}{E:eJ}{s:Shared}
structure Es(prog:Program)(w:World)(h:Heap)(r:Addr)(items:Array Value)(T:String)(oI:Obj)(St:Addr->Nat->Heap->Prop):Prop where
 ty:∃o,h.get? r=some o/\o.cls=.type T
 Ud:isSubtype (.type T) (.type "set")=pure false
 Ue:isSubtype (.type T) (.type "frozenset")=pure false
 nd:(Value.type T==Value.type "dict")=false
 iter:∀(A':Around) (s':Shared) (Q:eJ) (E:eJ),(∀o,h.get? r=some o->s'.heap.get? r=some o)->Q (.ref s'.heap.objs.size) {s' with heap:=s'.heap.push oI}->wpAny ⇑10 A' (pyIter (.ref r)) Q E s'
 walk:∀(A':Around) (I:Addr),A'.handled=none->r≠I->Walks prog w A' I [I,r] [I] items.size (λi v=>items[i]?=some v) (St I)
 st:∀h':Heap,(∀o,h.get? r=some o->h'.get? r=some o)->St h'.objs.size 0 (h'.push oI)
theorem src_list(hl:h.IsList l items):Es prog w h l items "list" {cls:=.type "list_iterator",data:=.fields #[.ref l,.int 0 0]} (λI i h=>h.IsListIter I l i/\h.IsList l items) where
 ty:=let⟨o,e,c,_⟩:=hl;⟨o,e,c⟩
 Ud:=PySem.F.sub_list_set
 Ue:=PySem.F.sub_list_frozenset
 nd:=by decide
 iter:=λA' s' Q E k q=>wpAny_pyIter_list (hl.at k) q
 walk:=λA' I hh iw=>Walks.list hh I l iw items
 st:=λh' k=>⟨⟨_,aae _ rfl,rfl,rfl⟩,(hl.at k).push _⟩
theorem src_tuple(hl:h.IsTuple l items):Es prog w h l items "tuple" ⇑12 (λI i h=>h.IsTupleIter I l i/\h.IsTuple l items) where
 ty:=let⟨o,e,c,_⟩:=hl;⟨o,e,c⟩
 Ud:=by rw[ae9];kernel_rfl
 Ue:=by rw[ae9];kernel_rfl
 nd:=by decide
 iter:=λA' s' Q E k q=>wpAny_pyIter_tuple (hl.at k) q
 walk:=λA' I hh iw=>Walks.tuple hh I l iw items
 st:=λh' k=>⟨⟨_,aae _ rfl,rfl,rfl⟩,(hl.at k).push _⟩
set_option maxHeartbeats 3200000 in
theorem B7{r:Addr}{items:Array Value}{ms:List Int}{T:String}{oI:Obj}{St:Addr->Nat->Heap->Prop}{Q:eJ}(hh:A.handled=none)(src:Es prog w s.heap r items T oI St)(hi:IntsAre items.toList ms)(hb:items.size+1<scanBound)
  (h:∀(h':Heap) (tk:Nat) (ns:List Int),ni prog w h' s.heap.objs.size (rB w) ns->(∀x,x∈ns↔x∈ms)->ns.length<=ms.length->(∀b o,s.heap.get? b=some o->h'.get? b=some o)->Q ⇑25 {s with heap:=h',toks:=tk}):
  wpAny ⇑10 A (call (.type "set") [.ref r]) Q E s:=by
 obtain⟨c,tl,afU⟩:=adL.mro
 have aex:=adL.made
 have vX:=adL.sub
 refine afi (codeAny_of_tree ?_)
 show wpAny _ _ (callAny (.type "set") _) _ _ _
 refine aag ⟨Code.quiet_builtin _ ⋯,aee PySem.F.entry_type_call ?_⟩
 rw[Around.under_plain (weight_type_call_type "set" [.ref r] []) rfl]
 have h1:=adL.notType
 have h2:=adL.canCreate
 have hct:=PySem.F.typeCall_set_1 (.ref r)
 repeat(any_goals (first|assumption|wp_step))
 refine adO (OJ (.ref r) (E:=E) (Q₁:=λobj bV=>obj=.ref s.heap.objs.size/\bV={s with heap:=s.heap.push (iF w)}) ⟨rfl,rfl⟩) λq bV hq=>?_
 cases q with
 |error e=>exact hq
 |ok fl=>
   cases fl with
   |ret obj=>
     obtain⟨rfl,rfl⟩:=hq;have hS:(s.heap.push (iF w)).get? s.heap.objs.size=some (iF w):=aae _ rfl;have hT:Shared.TypeIs {s with heap:=s.heap.push (iF w)} ⇑25 "set":=⟨_,hS,rfl⟩;have Z8:=adL.init.lookup;have hbi:=adL.init.bind ⇑25;repeat(any_goals (first|assumption|wp_step))
     refine adO (afq (R:=wants (λv nk=>v=.none/\∃h' tk ns,nk={s with heap:=h',toks:=tk}/\ni prog w h' s.heap.objs.size (rB w) ns/\(∀x,x∈ns↔x∈ms)/\ns.length<=ms.length/\∀b o,s.heap.get? b=some o->h'.get? b=some o) E)
      adL.init.plain PySem.F.entry_set_init (check_set_init_1 hT ?_)) λabo nk Li=>?_
     .obtain ⟨abp,Q6,sX⟩:=src.ty;obtain⟨afV,Yi,Yj,Ug⟩:=abp;simp only at sX;subst sX;have afW:(s.heap.push (iF w)).get? r=some {cls:=.type T,dict:=Yi,data:=Yj,slots:=Ug}:=aaa _ Q6;have NH:=src.Ud;have ra:=src.Ue;have iw:=src.nd;unfold Builtin.«set.__init__» noKeywords Builtin.Frozenset.updateFrom;generalize hPI:pyIter=PI;wp_walk;subst hPI;refine src.iter _ _ _ _ (λo e=>aaa _ e) ?_;refine aab (wpAny_runValue ?_);have hrS:r<s.heap.objs.size:=aai Q6;have hh3:A.in1.in1.in1.handled=none:=by simp[hh]
      have hz:(s.heap.push (iF w)).objs.size=s.heap.objs.size+1:=abS _ _;have abq:r≠(s.heap.push (iF w)).objs.size:=by rw[hz];exact aay (aei hrS)
      have Uc:s.heap.objs.size∉[(s.heap.push (iF w)).objs.size,r]:=by
       rw[hz];simp only[aaj,acA,afM,not_or];exact⟨aay (acx _),aer hrS⟩
      have IF:∀(i:Nat) (v:Value),items[i]?=some v->∃t,v=.int ((λi=>ms.getD i 0) i) t:=λi v hv=>IntsAre.int_at hi i v (by rw[Array.getElem?_toList];exact hv);have hlen:ms.length=items.size:=by have:=(fh.mp hi).2;rw[this];simp
      refine Lh ((src.walk _ _ hh3 abq).toS) s.heap.objs.size Uc (λi=>ms.getD i 0) IF hb (items.size-0) 0 _ [] ⇑2 (abO _) (src.st _ λo e=>aaa _ e) (IE (aaa _ hS)) (aah _) (λx=>by simp) ?_;intro s' rA mv S' l' m';obtain⟨h',g',d',V7,os'⟩:=s';have eg:g'=s.gens:=mv.gens;have ed:d'=s.drawn:=mv.drawn;have eo:os'=s.os:=mv.os;subst eg ed eo;show wpAny _ _ _ _ _ _;refine aag ?_;show wpAny _ _ (ret Value.none) _ _ _;refine aag ⟨rfl,h',V7,rA,rfl,S',λx=>?_,by lia,λb o e=>?_⟩
      .rw [m',<-hlen];constructor
       .rintro ⟨j,hj,e⟩;rw[aaC,aal hj]at e;rw[<-e];exact aeE hj
       .intro hx;obtain⟨j,hj,e⟩:=ael hx;exact⟨j,hj,by rw[aaC,aal hj];exact e⟩
      .have hb0:=aai e;refine mv.heap b o ?_ (aaa _ (aaa _ e));rw[hz];simp only[aaj,acA,afM,not_or];exact⟨aay hb0,aay (aei hb0)⟩
     .cases abo with
      |error e=>exact Li
      |ok Yk=>
        cases Yk with
        |ret v=>
          obtain⟨rfl,h',tk,ns,rfl,S',m',l',k'⟩:=Li;repeat(any_goals (first|assumption|wp_step))
          exact h _ _ ns S' m' l' k'
        |_=>exact Li.elim
   |_=>exact hq.elim
end
end LS
namespace LS
open PySem PyProof.Rows
set_option maxRecDepth 100000
theorem cJ:Slot "set_iterator" "__next__" "set_iterator.__next__":=
 .of (owner:="set_iterator") (n:="__next__") (by rw[typeLookup_type,builtinLookup_eq_fast];kernel_rfl) ⋯ ⋯ ⋯ (by first|exact .inl ⋯|exact .inr ⋯) (by rw[ae9];kernel_rfl)
theorem rC:Slot "set_iterator" "__iter__" "set_iterator.__iter__":=
 .of (owner:="set_iterator") (n:="__iter__") (by rw[typeLookup_type,builtinLookup_eq_fast];kernel_rfl) ⋯ ⋯ ⋯ (by first|exact .inl ⋯|exact .inr ⋯) (by rw[ae9];kernel_rfl)
theorem iG:entryFor table "set_iterator.__next__"=some Builtin.«set_iterator.__next__»:=entryFor_of_tree (by kernel_rfl)
theorem yr:entryFor table "set_iterator.__iter__"=some Builtin.«dict_keyiterator.__iter__»:=
 entryFor_alias (id':="dict_keyiterator.__iter__") (by kernel_rfl) (by first|rfl|decide +kernel|(unfold String.splitOn;simp +decide[String.splitOnAux])) ⋯ (by kernel_rfl)
theorem v5:entryFor table "set.__iter__"=some Builtin.«frozenset.__iter__»:=
 entryFor_alias (id':="frozenset.__iter__") (by kernel_rfl) (by first|rfl|decide +kernel|(unfold String.splitOn;simp +decide[String.splitOnAux])) ⋯ (by kernel_rfl)
theorem B8:Manifest.owners.lookup (String.ofList ['r','o','t','a','r','e','t','i','_','t','e','s'].reverse)=some Manifest.sig_set_iterator:=by kernel_rfl
theorem jr(a:Value):argsOk "set_iterator.__next__" ⟨[a],[]⟩:=by
 unfold argsOk;rw[signature?_of (id:="set_iterator.__next__") (n:=['_','_','t','x','e','n','_','_']) (o:=['r','o','t','a','r','e','t','i','_','t','e','s']) (by kernel_rfl) B8];kernel_rfl
theorem Ar(a:Value):argsOk "set_iterator.__iter__" ⟨[a],[]⟩:=by
 unfold argsOk;rw[signature?_of (id:="set_iterator.__iter__") (n:=['_','_','r','e','t','i','_','_']) (o:=['r','o','t','a','r','e','t','i','_','t','e','s']) (by kernel_rfl) B8];kernel_rfl
def l9(h:Heap)(it a:Addr)(first:Value)(i n ep:Nat):Prop:=∃o,h.get? it=some o/\o.cls=.type "set_iterator"/\o.data=.fields #[first,.int i 0,.ref a,.int n 0,.int ep 0]
section
variable {prog:Program}{w:World}{A:Around}{E:eJ}{s:Shared}{it a:Addr}{first:Value}{i n ep:Nat}
theorem l9.at(x:l9 h it a first i n ep)(k:∀o,h.get? it=some o->h'.get? it=some o):l9 h' it a first i n ep:=let⟨o,e,r⟩:=x;⟨o,k o e,r⟩
theorem l9.typeIs(x:l9 s.heap it a first i n ep):s.TypeIs (.ref it) "set_iterator":=let⟨o,e,c,_⟩:=x;⟨o,e,c⟩
def iA(h:Heap)(a:Addr)(es:Array (Int×Value))(ep:Nat)(t:SetTable):Prop:=∃o,h.get? a=some o/\o.ExactSet/\o.data=.set es ep t
theorem iA.at(x:iA h a es ep t)(k:∀o,h.get? a=some o->h'.get? a=some o):iA h' a es ep t:=let⟨o,e,r⟩:=x;⟨o,k o e,r⟩
theorem As(hit:l9 s.heap it a first i n ep)(h:Q (.ref it) s):wpAny ⇑10 A (pyIter (.ref it)) Q E s:=by
 refine wpAny_pyIter_slot hit.typeIs rC (acf rC hit.typeIs yr ?_ (Ar _))
 exact aag ⟨_,rfl,"set_iterator",_,hit.typeIs,cJ.lookup,h⟩
variable {es:Array (Int×Value)}{t:SetTable}{slot:Nat}
theorem Gz(hit:l9 s.heap it a (.int slot 0) i n ep)(hS:iA s.heap a es ep t)(hf:t.fits es.size=true)(hn:es.size=n)
  (hx:∀(A':Around) (Q':Option (Value×Nat)->Shared->Prop) (E':eJ),Q' (some (x,next)) s->wpAny ⇑10 A' (setNext a slot i ep) Q' E' s)
  (hQ:∀h',l9 h' it a (.int next 0) (i+1) n ep->Heap.SameBut it s.heap h'->Q (some x) {s with heap:=h'}):wpAny ⇑10 A (pyNext (.ref it)) Q E s:=by
 obtain⟨o,ho,hc,hd⟩:=id hit
 obtain⟨os,Q7,hex,Q8⟩:=id hS
 refine aab (aeQ (abT (name:=Str.ofString "__next__") hit.typeIs cJ (acf cJ hit.typeIs iG ?_ (jr _))))
 refine aab (aag ?_)
 refine aab (afN ho hd ?_)
 dsimp only
 refine aab (aem Q7 Q8 hf ?_)
 rw[aaB (by rw[hn];simp)]
 refine aab ?_
 refine hx _ _ _ ?_
 refine aab (aeb ho hd ⇑11 ?_)
 have e1:=abz (Obj.mapFields (·.setIfInBounds 0 (rawInt next))) ho (aec (ab1 hd _))
 have d1:=ab1 hd (·.setIfInBounds 0 (rawInt next))
 refine aab (aeb e1 d1 ⇑11 ?_)
 refine aag ⟨x,rfl,aag (hQ _ ?_ ((abP ..).trans (abP ..)))⟩
 refine⟨_,abz _ e1 (aec (ab1 d1 _)),?_,?_⟩
 .rw [ae7,ae7];exact hc
 .rw [ab1 d1];simp[rawInt]
theorem Lj(hh:A.handled=none)(hit:l9 s.heap it a (.int slot 0) i n ep)(hS:iA s.heap a es ep t)(hf:t.fits es.size=true)(hn:es.size=n)
  (hx:∀(A':Around) (Q':Option (Value×Nat)->Shared->Prop) (E':eJ),Q' none s->wpAny ⇑10 A' (setNext a slot i ep) Q' E' s)
  (hQ:∀h',Heap.ExtBut it s.heap h'->Q none {s with heap:=h'}):wpAny ⇑10 A (pyNext (.ref it)) Q E s:=by
 obtain⟨o,ho,hc,hd⟩:=id hit
 obtain⟨os,Q7,hex,Q8⟩:=id hS
 refine aab (aeQ (abT (name:=Str.ofString "__next__") hit.typeIs cJ (acf cJ hit.typeIs iG ?_ (jr _))))
 refine aab (aag ?_)
 refine aab (afN ho hd ?_)
 dsimp only
 refine aab (aem Q7 Q8 hf ?_)
 rw[aaB (by rw[hn];simp)]
 refine aab ?_
 simp only[abV]
 refine hx _ _ _ ?_
 refine aab (aeb ho hd ⇑11 ?_)
 refine aab ?_
 refine aab (m:=firstArgMember _ _) (af0 (a:=Value.none) (by first|rfl|(simp only[firstArgMember];rfl)) ?_)
 refine ad4 ?_ (by size_fits)
 refine aab (wpAny_handled ?_)
 first|rw[show A.in1.handled=none from hh]|rw[hh]
 refine aab (aag (wpAny_throw ?_))
 refine aab (wpAny_isInstance (T:="StopIteration") (b:=true) ⟨_,aae _ rfl,rfl⟩ isSubtype_stop ?_)
 exact aag (hQ _ (((abP ..).extBut.push _).push _))
theorem Lk{pl:Nat}(hit:l9 s.heap it a (.ref tp) i n ep)(ht:s.heap.IsTuple tp ps)(hS:iA s.heap a es ep t)(hf:t.fits es.size=true)(hn:es.size=n)
  (hp:ps[i]?=some (.int pl 0))(hx:es[pl]?=some (hsh,x))
  (hQ:∀h',l9 h' it a (.ref tp) (i+1) n ep->Heap.SameBut it s.heap h'->Q (some x) {s with heap:=h'}):wpAny ⇑10 A (pyNext (.ref it)) Q E s:=by
 obtain⟨o,ho,hc,hd⟩:=id hit
 obtain⟨os,Q7,hex,Q8⟩:=id hS
 obtain⟨ot,hot,_,nt,hdt⟩:=ht
 refine aab (aeQ (abT (name:=Str.ofString "__next__") hit.typeIs cJ (acf cJ hit.typeIs iG ?_ (jr _))))
 refine aab (aag ?_)
 refine aab (afN ho hd ?_)
 refine aab (aem Q7 Q8 hf ?_)
 rw[aaB (by rw[hn];simp)]
 refine aab (afJ hot hdt ?_)
 simp only[abV,hp]
 refine aab ?_
 refine aab (aeh Q7 Q8 hf ?_)
 dsimp only
 rw[aaB ⇑11]
 simp only[hx]
 refine aag ?_
 refine aab (aeb ho hd ⇑11 ?_)
 refine aag ⟨x,rfl,aag (hQ _ ?_ (abP ..))⟩
 refine⟨_,abz _ ho (aec (ab1 hd _)),?_,?_⟩
 .rw [ae7];exact hc
 .rw [ab1 hd];simp[rawInt]
theorem OK(hh:A.handled=none)(hit:l9 s.heap it a (.ref tp) i n ep)(ht:s.heap.IsTuple tp ps)(hS:iA s.heap a es ep t)(hf:t.fits es.size=true)(hn:es.size=n)
  (hp:ps[i]?=none)(hQ:∀h',Heap.ExtBut it s.heap h'->Q none {s with heap:=h'}):wpAny ⇑10 A (pyNext (.ref it)) Q E s:=by
 obtain⟨o,ho,hc,hd⟩:=id hit
 obtain⟨os,Q7,hex,Q8⟩:=id hS
 obtain⟨ot,hot,_,nt,hdt⟩:=ht
 refine aab (aeQ (abT (name:=Str.ofString "__next__") hit.typeIs cJ (acf cJ hit.typeIs iG ?_ (jr _))))
 unfold Builtin.«set_iterator.__next__»
 refine aab (aag ?_)
 dsimp only
 refine aab (afN ho hd ?_)
 dsimp only
 refine aab (aem Q7 Q8 hf ?_)
 rw[aaB (by rw[hn];simp)]
 refine aab (afJ hot hdt ?_)
 dsimp only
 simp only[abV,hp]
 refine aab (aeb ho hd ⇑11 ?_)
 have e1:=abz (Obj.mapFields (·.setIfInBounds 0 (rawInt 0))) ho (aec (ab1 hd _))
 have d1:=ab1 hd (·.setIfInBounds 0 (rawInt 0))
 refine aab (aeb e1 d1 ⇑11 ?_)
 refine aab ?_
 simp only[newExc]
 refine aab (m:=firstArgMember _ _) (af0 (a:=Value.none) (by first|rfl|(simp only[firstArgMember];rfl)) ?_)
 refine ad4 ?_ (by size_fits)
 refine aab (wpAny_handled ?_)
 first|rw[show A.in1.handled=none from hh]|rw[hh]
 refine aab (aag (wpAny_throw ?_))
 refine aab (wpAny_isInstance (T:="StopIteration") (b:=true) ⟨_,aae _ rfl,rfl⟩ isSubtype_stop ?_)
 exact aag (hQ _ ((((abP ..).trans (abP ..)).extBut.push _).push _))
theorem v7(hS:iA s.heap a es ep t)(hf:t.fits es.size=true)(hw:w.params.followText "set-order"=false)(hl:t.led=true)(hp:(!t.plain&&decide (es.size>1))=false) 
  (h:Q (match es[SetTable.below t.place slot]?,t.place[SetTable.below t.place slot]? with|some (_,x),some j=>some (x,j+1)|_,_=>none) s):wpAny ⇑10 A (setNext a slot i ep) Q E s:=by
 obtain⟨o,ho,_,hd⟩:=hS
 refine aab (aeh ho hd hf ?_)
 refine aab ?_
 refine aab (aep (aag ?_))
 show wpAny _ _ (if w.params.followText "set-order"=true then _ else _) _ _ _
 rw[hw,aaB aaV]
 show wpAny _ _ (if(!t.plain&&decide (es.size>1))=true then _ else _) _ _ _
 rw[hp,aaB aaV]
 refine aab ?_
 show wpAny _ _ (if(!t.led&&!es.isEmpty)=true then _ else _) _ _ _
 rw[hl,aaB ⇑11]
 exact aag (aag h)
theorem zw(hS:iA s.heap a es ep t)(hf:t.fits es.size=true)(hw:w.params.followText "set-order"=true) 
  (h:Q (((pickOrder (w.params.setOrder a ep) es)[i]?).map λe=>(e.2,slot)) s):wpAny ⇑10 A (setNext a slot i ep) Q E s:=by
 obtain⟨o,ho,_,hd⟩:=hS
 refine aab (aeh ho hd hf ?_)
 refine aab ?_
 refine aab (aep (aag ?_))
 show wpAny _ _ (if w.params.followText "set-order"=true then _ else _) _ _ _
 rw[hw,aav rfl]
 rw[aaB ⇑11]
 refine aab ?_
 refine aab (aeh ho hd hf ?_)
 refine aab ?_
 refine aab (aep (aag ?_))
 show wpAny _ _ (if w.params.followText "set-order"=true then _ else _) _ _ _
 rw[hw,aav rfl]
 exact aab (aep (aag (aag h)))
end
end LS
namespace LS
open PySem PySem.Spec PyProof.Rows
theorem qe{α:Type}:∀{l:List α} {i:Nat} (h:i<l.length),(l[i]::l.eraseIdx i).Perm l
 |x::l,0,_=>by simp
 |x::l,i+1,h=>by
   have h':i<l.length:=by simpa using h
   have:=qe h';exact(List.Perm.swap _ _ _).trans (List.Perm.cons _ this)
theorem GA(next:Nat->Nat):∀(fuel k:Nat) (left:List α) (out:Array α),left.length=fuel->(pickOrder.go next fuel k left out).toList.Perm (out.toList++left)
 |0,k,left,out,h=>by
   have:left=[]:=adM.mp h;subst this;rw[pickOrder.go,abr]
 |fuel+1,k,left,out,h=>by
   rw[pickOrder.go];have hl:next k%left.length<left.length:=Nat.mod_lt _ ⇑2;rw[aal hl];refine(GA next fuel (k+1) _ _ (by rw[List.length_eraseIdx_of_lt hl];lia)).trans ?_;rw[ae8,abt];exact List.Perm.append_left _ (qe hl)
theorem IG(next:Nat->Nat)(xs:Array α):(pickOrder next xs).toList.Perm xs.toList:=by
 have:=GA next xs.size 0 xs.toList #[] ⇑11
 simpa[pickOrder]using this
section
variable {prog:Program}{w:World}{A:Around}{E:eJ}{s:Shared}{a:Addr}{i n ep:Nat}{es:Array (Int×Value)}{t:SetTable}
theorem Et(hn:n≠0)(h:∀i d',i<n->Q i {s with drawn:=d'}):wpAny M A (choose src n) Q E s:=
 λ_ _ _=>⟨hn,h _ _ (Nat.mod_lt _ (Nat.pos_of_ne_zero hn))⟩
theorem v8:∀(n:Nat) (xs:List α) (s:Shared) (Q:List α->Shared->Prop),xs.length=n->(∀ys d',ys.Perm xs->Q ys {s with drawn:=d'})->wpAny M A (drawOrder n xs) Q E s
 |0,xs,s,Q,hl,h=>by
   have e:=adM.mp hl;subst e;exact aag (h [] s.drawn (.refl _))
 |n+1,[],s,Q,hl,h=>by cases hl
 |n+1,x::xs,s,Q,hl,h=>by
   rw[drawOrder];rotate_left;.grind
   refine aab (Et ⇑11 λi d' hi=>?_);rw[aal hi];refine aab (v8 n _ _ _ (by rw[List.length_eraseIdx_of_lt hi];lia) λys d2 hp=>aag ?_);refine h _ d2 ?_;exact(List.Perm.cons _ hp).trans (qe hi)
theorem IH(hf:t.fits es.size=true)(hw:w.params.followText "set-order"=true)(iw:a≠I)(hh:A.handled=none):
  Walks prog w A I [I,a] [I] (pickOrder (w.params.setOrder a ep) es).size (λi v=>((pickOrder (w.params.setOrder a ep) es).toList.map (·.2))[i]?=some v) (λi h=>l9 h I a (.int (0:Nat) 0) i es.size ep/\iA h a es ep t) where
 sub:=λ9=>by simp at hb;simp[hb]
 frame:=λ_ _ _ st hk=>⟨st.1.at λo e=>hk I ⇑11 o e,st.2.at λo e=>hk a ⇑11 o e⟩
 item:=λi s Q E hi st hQ=>by
  refine Gz (x:=((pickOrder (w.params.setOrder a ep) es)[i]).2) (next:=0) st.1 st.2 hf rfl (λA' Q' E' q=>zw st.2 hf hw (by rw[abW hi];exact q)) λh' Eo xR=>?_;exact hQ _ h' s.toks (by simp[hi]) ⟨Eo,st.2.at λo e=>xR.extBut a o iw e⟩ λb o hb e=>xR.extBut b o (λh=>hb (by simp[h])) e
 done:=λs Q E st hQ=>Lj hh st.1 st.2 hf rfl (λA' Q' E' q=>zw st.2 hf hw (by rw[afa ⇑11];exact q)) λh' Yl=>hQ h' s.toks λb o hb e=>Yl b o (λh=>hb (by simp[h])) e
 self:=λ_ _ _ _ st hQ=>As st.1 hQ
theorem Eu(hf:t.fits es.size=true)(hw:w.params.followText "set-order"=false)(hl:t.led=true)(hp:(!t.plain&&decide (es.size>1))=false)(hr:Ap t.place.toList)(iw:a≠I)(hh:A.handled=none):
  Walks prog w A I [I,a] [I] es.size (λi v=>(es.toList.map (·.2))[i]?=some v)
   (λi h=>∃slot:Nat,l9 h I a (.int slot 0) i es.size ep/\iA h a es ep t/\(∀k,k<i->t.place.getD k 0<slot)/\∀k,i<=k->k<t.place.size->slot<=t.place.getD k 0) where
 sub:=λ9=>by simp at hb;simp[hb]
 frame:=λ_ _ _ ⟨slot,OL,lG,ND⟩ hk=>⟨slot,OL.at λo e=>hk I ⇑11 o e,lG.at λo e=>hk a ⇑11 o e,ND⟩
 item:=λi s Q E hi ⟨slot,OL,lG,ND,st4⟩ hQ=>by
  have hz:t.place.size=es.size:=by simp only[SetTable.fits,aaX,afh]at hf;exact hf.1
  have hb:=vY hr ⇑2 ND st4;have iQ:t.place[i]?=some (t.place.getD i 0):=by rw[abW ⇑2];simp[hz,hi]
  refine Gz (x:=es[i].2) (next:=t.place.getD i 0+1) OL lG hf rfl (λA' Q' E' q=>v7 lG hf hw hl hp (by rw[hb,abW hi,iQ];exact q)) λh' Eo xR=>?_;refine hQ _ h' s.toks (by simp[hi]) ⟨_,Eo,lG.at λo e=>xR.extBut a o iw e,λk hk=>?_,λk h1 h2=>?_⟩ λb o hb e=>xR.extBut b o (λh=>hb (by simp[h])) e;.grind
  .have:=rq hr (show i<k by lia) h2 0 0;lia
 done:=λs Q E ⟨slot,OL,lG,ND,st4⟩ hQ=>by
  have hz:t.place.size=es.size:=by simp only[SetTable.fits,aaX,afh]at hf;exact hf.1
  have hb:=vY hr ⇑2 ND st4;exact Lj hh OL lG hf rfl (λA' Q' E' q=>v7 lG hf hw hl hp (by rw[hb,afa (aah _)];exact q)) λh' Yl=>hQ h' s.toks λb o hb e=>Yl b o (λh=>hb (by simp[h])) e
 self:=λ_ _ _ _ ⟨slot,OL,_⟩ hQ=>As OL hQ
theorem Ew{ys:List Nat}(hf:t.fits es.size=true)(hy:ys.Perm (List.range es.size))(iw:a≠I)(hnt:tp≠I)(hh:A.handled=none):
  Walks prog w A I [I,a,tp] [I] es.size (λi v=>(ys.map λp=>(es.getD p (0,Value.none)).2)[i]?=some v) (λi h=>l9 h I a (.ref tp) i es.size ep/\h.IsTuple tp (ys.map λp:Nat=>rawInt p).toArray/\iA h a es ep t) where
 sub:=λ9=>by simp at hb;simp[hb]
 frame:=λ_ _ _ st hk=>⟨st.1.at λo e=>hk I ⇑11 o e,st.2.1.at λo e=>hk tp ⇑11 o e,st.2.2.at λo e=>hk a ⇑11 o e⟩
 item:=λi s Q E hi st hQ=>by
  have OM:ys.length=es.size:=by rw[hy.length_eq];simp
  have hp:ys[i]<es.size:=ad2.mp (hy.mem_iff.mp (aeE ⇑2));refine Lk (x:=es[ys[i]].2) (pl:=ys[i]) (hsh:=es[ys[i]].1) st.1 st.2.1 st.2.2 hf rfl (by simp[OM,hi,rawInt]) (by rw[abW hp]) λh' Eo xR=>?_;refine hQ _ h' s.toks ?_ ⟨Eo,st.2.1.at λo e=>xR.extBut tp o hnt e,st.2.2.at λo e=>xR.extBut a o iw e⟩ λb o hb e=>xR.extBut b o (λh=>hb (by simp[h])) e;rw[aas,aal ⇑2];simp[Array.getD,hp]
 done:=λs Q E st hQ=>by
  have OM:ys.length=es.size:=by rw[hy.length_eq];simp
  exact OK hh st.1 st.2.1 st.2.2 hf rfl (by simp[OM]) λh' Yl=>hQ h' s.toks λb o hb e=>Yl b o (λh=>hb (by simp[h])) e
 self:=λ_ _ _ _ st hQ=>As st.1 hQ
theorem Ll(hS:iA s.heap a es ep t)(hf:t.fits es.size=true)(hr:Ap t.place.toList)(hl:t.led=rB w)(hz:es.size<=sizeLine)
  (h:∀(I:Addr) (fp:List Addr) (ord:bZ) (St:Nat->Heap->Prop) (h1:Heap) (d1:Drawn),ord.Perm (es.toList.map (·.2))->(∀A':Around,A'.handled=none->Walks prog w A' I fp [I] ord.length (λi v=>ord[i]?=some v) St)->St 0 h1->
   (∀b o,s.heap.get? b=some o->h1.get? b=some o)->s.heap.objs.size<=I->(∀b∈fp,b=a\/s.heap.objs.size<=b)->Q (.ref I) {s with heap:=h1,drawn:=d1}):wpAny ⇑10 A (pyIter (.ref a)) Q E s:=by
 obtain⟨o,ho,hex,hd⟩:=id hS
 have hT:s.TypeIs (.ref a) "set":=⟨o,ho,hex.1⟩
 have hV:=aai ho
 refine wpAny_pyIter_slot hT PySem.F.slot_set_iter (acf PySem.F.slot_set_iter hT v5 ?_ (PySem.F.args_set_iter_1 _))
 refine aab (aag ?_)
 refine aab ?_
 refine aab (aem ho hd hf (aag ?_))
 refine aab ?_
 refine aab (aeh ho hd hf ?_)
 refine aab ?_
 refine aab (aep (aag (aag ?_)))
 show wpAny _ _ (if(!w.params.followText "set-order"&&(!t.plain&&decide (es.size>1)))=true then _ else _) _ _ _
 have slots:∀{ord:bZ} (St:Addr->Nat->Heap->Prop),ord.Perm (es.toList.map (·.2))->(∀(A':Around) (I:Addr),a≠I->A'.handled=none->Walks prog w A' I [I,a] [I] ord.length (λi v=>ord[i]?=some v) (St I))->
   (∀h' I,l9 h' I a (.int (0:Nat) 0) 0 es.size ep->iA h' a es ep t->St I 0 h')->Q ⇑25 {s with heap:=s.heap.push {cls:=.type "set_iterator",data:=.fields #[.int (0:Nat) 0,.int (0:Nat) 0,.ref a,.int (es.size:Nat) 0,.int (ep:Nat) 0]}}:=by
  intro ord St hp hW N1;have iw:=aay hV;exact h s.heap.objs.size [s.heap.objs.size,a] ord (St s.heap.objs.size) _ s.drawn hp (λA' hh=>hW A' _ iw hh) (N1 _ _ ⟨_,aae _ rfl,rfl,rfl⟩ (hS.at λo e=>aaa _ e)) (λb o e=>aaa _ e) (aah _)
   λ9=>by grind
 by_cases Z9:(!w.params.followText "set-order"&&(!t.plain&&decide (es.size>1)))=true
 .rw [aav Z9];refine aab (v8 _ _ _ _ ⇑11 λys d' hy=>?_);refine wpAny_bind (wpAny_newTuple ?_ (by rw[List.length_map,hy.length_eq];simpa using hz));have hT1:(s.heap.push ⇑40).IsTuple s.heap.objs.size (ys.map λp:Nat=>rawInt p).toArray:=⟨_,aae _ rfl,rfl,_,rfl⟩;have V8:=hS.at (h':=s.heap.push ⇑40) λo e=>aaa _ e;obtain⟨o1,y8,_,J1⟩:=id V8;refine aab (wpAny_setEpoch_of y8 J1 hf ?_);have NH:(s.heap.push ⇑40).objs.size=s.heap.objs.size+1:=abS _ _;refine aab (ad4 (aag ⟨_,rfl,"set_iterator",_,⟨_,aae _ rfl,rfl⟩,cJ.lookup,?_⟩));have hy2:(ys.map λp=>(es.getD p (0,Value.none)).2).Perm (es.toList.map (·.2)):=by
   refine(hy.map _).trans ?_;have e:(List.range es.size).map (λp=>(es.getD p (0,Value.none)).2)=es.toList.map (·.2):=by
    refine List.ext_getElem ⇑11 λi h1 h2=>?_;simp at h1;simp[h1]
   rw[e]
  have Ua:(ys.map λp=>(es.getD p (0,Value.none)).2).length=es.size:=by rw[aac,hy.length_eq];simp
  refine h (s.heap.push ⇑40).objs.size [_,a,s.heap.objs.size] _ (λi h=>l9 h (s.heap.push ⇑40).objs.size a ⇑25 i es.size ep/\h.IsTuple s.heap.objs.size (ys.map λp:Nat=>rawInt p).toArray/\iA h a es ep t) _ d' hy2 (λA' hh=>by rw[Ua];exact Ew (t:=t) (ep:=ep) hf hy (by rw[NH];exact aay (aei hV)) (by rw[NH];exact aay (acx _)) hh)
   ⟨⟨_,aae _ rfl,rfl,by simp[rawInt]⟩,hT1.push _,V8.at λo e=>aaa _ e⟩ (λb o e=>aaa _ (aaa _ e)) (by rw[NH];exact ae1 _) λ9=>?_;simp at hb;rcases hb with z|z|z;.grind
  .grind
  .grind
 .rw [aaB Z9];refine aab (aag ?_);refine aab (wpAny_setEpoch_of ho hd hf ?_);refine aab (ad4 (aag ⟨_,rfl,"set_iterator",_,⟨_,aae _ rfl,rfl⟩,cJ.lookup,?_⟩));cases hw:w.params.followText "set-order" with
  |true=>
    have hpz:((pickOrder (w.params.setOrder a ep) es).toList.map (·.2)).length=(pickOrder (w.params.setOrder a ep) es).size:=by simp
    exact slots (ord:=(pickOrder (w.params.setOrder a ep) es).toList.map (·.2)) (λI i h=>l9 h I a (.int (0:Nat) 0) i es.size ep/\iA h a es ep t) ((IG _ _).map _) (λA' I iw hh=>by rw[hpz];exact IH hf hw iw hh) λh' I x y=>⟨x,y⟩
  |false=>
    rw[hw]at Z9;have iQ:(!t.plain&&decide (es.size>1))=false:=by simpa using Z9
    have hle:t.led=true:=by rw[hl];simp[hw]
    have hpz:(es.toList.map (·.2)).length=es.size:=by simp
    refine slots (ord:=es.toList.map (·.2)) (λI i h=>∃slot:Nat,l9 h I a (.int slot 0) i es.size ep/\iA h a es ep t/\(∀k,k<i->t.place.getD k 0<slot)/\∀k,i<=k->k<t.place.size->slot<=t.place.getD k 0) (.refl _)
     (λA' I iw hh=>by rw[hpz];exact Eu hf hw hle iQ hr iw hh) λh' I x y=>⟨0,x,y,λk hk=>by lia,λk _ _=>abO _⟩
end
end LS
namespace LS
open PySem PySem.Spec PySem.Calls PyProof.Rows
section
variable {prog:Program}{w:World}{A:Around}{E:eJ}{s:Shared}{a:Addr}{ns:List Int}
theorem Lm(hT:s.TypeIs (.ref a) "set")(h:Q false s):wpAny ⇑10 A (Builtin.List.listLengthHint (.ref a)) Q E s:=by
 refine aab (wpAny_specialOf hT PySem.F.slot_set_len.lookup ?_)
 generalize V9:("set.__len__":String)=id0
 subst V9
 refine aab (wpAny_isInstance (T:="set") (b:=true) hT (by rw[ae9];kernel_rfl) ?_)
 exact aab (wpAny_typeOf hT (aag h))
theorem B9(hh:A.handled=none)(hS:ni prog w s.heap a (rB w) ns)
  (h:∀(h':Heap) (tk:Nat) (d':Drawn) (vs:bZ) (ms:List Int),(∀b o,s.heap.get? b=some o->h'.get? b=some o)->s.heap.objs.size<h'.objs.size->IntsAre vs ms->ms.Perm ns->R vs {s with heap:=h',toks:=tk,drawn:=d'}):
  wpAny ⇑10 A (collect (.ref a)) R E s:=by
 obtain⟨o,es,ep,t,ho,hex,hd,h1,h2,h3,h4,h5,h6,h7⟩:=hS
 have hz:=fits_of_scanBound h4
 have hV:=aai ho
 have hS0:iA s.heap a es ep t:=⟨o,ho,hex,hd⟩
 unfold collect
 refine aab (wpAny_runValue (aee entry_proto_collect' ?_))
 rw[aeA PySem.F.plain_proto_collect _]
 show wpAny _ A.in1 (newList [] >>= λl=>again (.builtin "list.__iadd__" ⟨[l,.ref a],[]⟩)) _ _ s
 refine aab (ad4 ?_)
 refine aag ⟨afn PySem.F.plain_list_iadd _,aee entry_list_iadd' ?_⟩
 rw[aeA PySem.F.plain_list_iadd _]
 generalize hP:s.heap.push {cls:=.type "list",data:=.seq ([]:bZ).toArray}=P1
 have Q9:∀b o,s.heap.get? b=some o->P1.get? b=some o:=λb o e=>by rw[<-hP];exact aaa _ e
 have hL:P1.get? s.heap.objs.size=some {cls:=.type "list",data:=.seq #[]}:=by rw[<-hP];exact aae _ rfl
 have OG:P1.objs.size=s.heap.objs.size+1:=by rw[<-hP];exact abS _ _
 show wpAny _ A.in1 (Builtin.List.listExtendWith ⇑25 (.ref a) ⇑25) _ _ {s with heap:=P1}
 have key:wpAny ⇑10 A.in1 (Builtin.List.listExtendWith ⇑25 (.ref a) ⇑25)
   (λfin s'=>match fin with
    |.done f=>False
    |.again c'=>c'.quiet=true/\codeAny ⇑10 A c' (λq s'=>∃(h':Heap) (tk:Nat) (d':Drawn) (acc:Array Value) (c':Nat) (ms:List Int),q=.ok (.ret ⇑25)/\s'={s with heap:=h',toks:=tk,drawn:=d'}/\
      (∀b o,s.heap.get? b=some o->h'.get? b=some o)/\h'.get? s.heap.objs.size=some {cls:=.type "list",dict:=none,data:=.seq acc c',slots:=#[]}/\IntsAre acc.toList ms/\ms.Perm ns) s') (λ_ _=>False) {s with heap:=P1}:=by
  unfold Builtin.List.listExtendWith;have V8:=hS0.at (h':=P1) λo e=>Q9 a o e;obtain⟨o1,y8,abw,J1⟩:=id V8;refine aab (wpAny_typeOf (T:="set") ⟨o1,y8,abw.1⟩ ?_);have q1:Builtin.List.listSameRef ⇑25 (.ref a)=false:=by simp[Builtin.List.listSameRef,aer hV]
  have q2:(Value.type "set"==Value.type "list")=false:=by decide
  have q3:(Value.type "set"==Value.type "tuple")=false:=by decide
  simp only[q1,q2,q3,Bool.or_false,Bool.false_eq_true,if_false];refine aab (Ll (s:={s with heap:=P1}) V8 h5 h7 h6 hz λI fp ord St Ym d1 hp hW Yn kp hI hfp=>?_);replace kp:∀b o,P1.get? b=some o->Ym.get? b=some o:=kp;replace hI:P1.objs.size<=I:=hI;replace hfp:∀b∈fp,b=a\/P1.objs.size<=b:=hfp;have Uc:s.heap.objs.size∉fp:=λz=>by
   rcases hfp _ z with e|e;.exact abF _ (e ▸ hV)
   .rw [OG]at e;exact Nat.not_succ_le_self _ e
  have hSI:s.heap.objs.size≠I:=λz=>by rw[<-z,OG]at hI;exact Nat.not_succ_le_self _ hI
  obtain⟨o2,q8,hex2,_⟩:=V8.at (h':=Ym) λo e=>kp a o e;obtain⟨i0,Ra⟩:=sR h2 hp;have Ua:ord.length<=sizeLine:=by rw[hp.length_eq];simpa using hz
  have run:∀(g:Heap) (c0:Nat),St 0 g->(∀b o,b≠s.heap.objs.size->Ym.get? b=some o->g.get? b=some o)->g.get? s.heap.objs.size=some {cls:=.type "list",data:=.seq #[] c0}->
    codeAny ⇑10 A (.builtin "list.extend.loop" ⟨[.ref s.heap.objs.size,.ref I,.ref s.heap.objs.size],[]⟩) (λq s'=>∃(h':Heap) (tk:Nat) (d':Drawn) (acc:Array Value) (c':Nat) (ms:List Int),q=.ok (.ret ⇑25)/\s'={s with heap:=h',toks:=tk,drawn:=d'}/\
     (∀b o,s.heap.get? b=some o->h'.get? b=some o)/\h'.get? s.heap.objs.size=some {cls:=.type "list",dict:=none,data:=.seq acc c',slots:=#[]}/\IntsAre acc.toList ms/\ms.Perm ns) {s with heap:=g,drawn:=d1}:=by
   intro g c0 st k hg;refine codeAny_extend_loopS (hW A.in1 hh).toS Ua _ Uc _ ord.length 0 _ #[] c0 rfl (abO _) st hg (ItemsOf.nil _) λs' Uh c' mv V5 Ca=>?_;obtain⟨hx,gx,dx,tx,ox⟩:=s';have eg:gx=s.gens:=mv.gens;have ed:dx=d1:=mv.drawn;have eo:ox=s.os:=mv.os;subst eg ed eo;have aby:Uh.toList=ord:=by
    refine List.ext_getElem? λj=>?_;by_cases hj:j<Uh.size;.have q:=Ca.2 j _ (abW hj);rw[q];simp[hj]
    .rw [acI (by simp;lia),acI (by rw[<-Ca.1];lia)]
   refine⟨hx,tx,dx,Uh,c',i0,rfl,rfl,λb o e=>?_,V5,by rw[aby];exact Ra.1,Ra.2⟩;have hb:=aai e;refine mv.heap b o ?_ (k b o (aay hb) (kp b o (Q9 b o e)));simp only[aaj,acA,afM,not_or];exact⟨aay hb,aay (aam hb (aa6 (by rw[OG];exact ae1 _) hI))⟩
  have hg1:Ym.get? s.heap.objs.size=some {cls:=.type "list",data:=.seq #[]}:=kp _ _ hL;refine aab (adZ (Lm ⟨o2,q8,hex2.1⟩ ?_));refine wpAny_ite_split (λ_=>?_) (λ_=>aag ⟨afn PySem.F.plain_extend_loop _,run Ym 0 Yn (λb o _ e=>e) hg1⟩);refine aab (afL (aab ?_));show wpAny _ _ (updateSeq s.heap.objs.size (·.push .none) >>= λ_=>updateSeq s.heap.objs.size (·.pop)) _ _ _;refine aab (wpAny_updateSeq hg1 rfl ?_);have hg2:=abz (Obj.mapSeq (·.push Value.none)) hg1 rfl;refine wpAny_updateSeq (hz:=by seq_fits) hg2 rfl ?_;have hg3:=abz (Obj.mapSeq (·.pop)) hg2 rfl;refine aag ⟨afn PySem.F.plain_extend_loop _,run _ _ ((hW A.in1 hh).frame 0 _ _ Yn λb hb o e=>?_) (λb o hb e=>?_) hg3⟩;.have hbS:b≠s.heap.objs.size:=λz=>Uc (z ▸ hb);exact(acz _ _ (acw hbS)).trans ((acz _ _ (acw hbS)).trans e)
  .exact (acz _ _ (acw hb)).trans ((acz _ _ (acw hb)).trans e)
 refine abu key (λfin s' x=>?_) λ_ _ z=>z.elim
 cases fin with
 |done f=>exact x.elim
 |again c₁=>
   refine⟨x.1,adO x.2 λq nk y=>?_⟩;obtain⟨h',tk,d',acc,c',ms,rfl,rfl,hk,V5,i1,p1⟩:=y;show wpAny _ A (load s.heap.objs.size >>= _) _ _ _;exact aab (wpAny_load V5 (aag (h h' tk d' acc.toList ms hk (aai V5) i1 p1)))
theorem uI(hh:A.handled=none)(hS:ni prog w s.heap a (rB w) ns)(h64:ns.length<64)
  (h:∀(D:Addr) (h':Heap) (tk:Nat) (d':Drawn) (out:Array Value) (n:Nat) (ms:List Int),s.heap.objs.size<=D->(∀b o,s.heap.get? b=some o->h'.get? b=some o)->h'.get? D=some (seqObj "list" out n)->IntsAre out.toList ms->ms.Perm ns->ms.Pairwise (·<=·)->Q (.ref D) {s with heap:=h',toks:=tk,drawn:=d'}):
  wpAny ⇑10 A (call (.builtin "sorted") [.ref a]) Q E s:=by
 refine call_function_entry kind_sorted plain_sorted entry_sorted (args_sorted1 _) ?_
 refine aab (m:=checkCount "sorted" 1 1 _) (aag ?_)
 refine aab (B9 (A:=A.in1) hh hS λh' tk d' vs ms hk hgr hi hp=>?_)
 have hl:vs.length=ns.length:=by rw[<-hp.length_eq,(fh.mp hi).2,aac]
 have hzl:vs.length<=sizeLine:=by rw[sizeLine_eq];lia
 refine aab (wpAny_newList ?_ hzl)
 have Xi:(h'.push (seqObj "list" vs.toArray 0)).get? h'.objs.size=some (seqObj "list" vs.toArray 0):=aae _ rfl
 refine aab (adZ (acf slot_list_sort ⟨_,Xi,rfl⟩ entry_list_sort (list_sort_tree Xi hi ⇑2 λout ms' a1 a2 a3=>⟨_,rfl,?_⟩) (args_list_sort _)))
 obtain⟨en,hen⟩:=sortedHeap_at (out:=out) Xi
 refine aag ⟨_,rfl,h h'.objs.size _ tk d' out en ms' (adN hgr) (λb o e=>?_) hen a1 (a2.trans hp) a3⟩
 have hb:=aai (hk b o e)
 rw[sortedHeap_old (aay hb) (by rw[size_push'];exact aei hb)]
 exact aaa _ (hk b o e)
end
end LS
namespace L2
open PySem PySem.Spec PyProof.Rows LS
noncomputable def ins(x:Int):List Int->List Int
 |[]=>[x]
 |y::l=>if x<y then x::y::l else if x=y then y::l else y::ins x l
def ss:List Int->List Int
 |[]=>[]
 |x::l=>ins x (ss l)
set_option tactic.hygienic true in
theorem Au:∀{l:List Int},z∈ins x l↔z=x\/z∈l
 |[]=>by simp[ins]
 |y::l=>by
   rw[ins];split;.simp
   .split;.grind
    .simp only[aaj,Au];constructor;.grind
     .grind
set_option tactic.hygienic true in
theorem v9:∀{l:List Int},l.Pairwise (·<·)->(ins x l).Pairwise (·<·)
 |[],_=>by simp[ins]
 |y::l,h=>by
   rw[acj]at h;rw[ins];split
   .rename_i ON;refine acj.mpr ⟨λz hz=>?_,acj.mpr h⟩;rcases aaj.mp hz with e|e;.grind
    .grind
   .split;.simp_all
    .refine acj.mpr ⟨λz hz=>?_,v9 h.2⟩;rcases Au.mp hz with e|e;.grind
     .grind
theorem Ex:∀{l:List Int},z∈ss l↔z∈l
 |[]=>by simp[ss]
 |x::l=>by rw[ss,Au,Ex,aaj]
theorem jH:∀{l:List Int},(ss l).Pairwise (·<·)
 |[]=>.nil
 |_::_=>v9 jH
theorem wa:∀{l m:List Int},l.Pairwise (·<·)->m.Pairwise (·<·)->(∀z,z∈l↔z∈m)->l=m
 |[],[],_,_,_=>rfl
 |[],y::m,_,_,h=>absurd ((h y).mpr aan) ⇑11
 |x::l,[],_,_,h=>absurd ((h x).mp aan) ⇑11
 |x::l,y::m,hl,hm,h=>by
   rw[acj]at hl hm;have e:x=y:=by
    rcases aaj.mp ((h x).mp aan)with a|a;.exact a
    .rcases aaj.mp ((h y).mpr aan)with b|b;.lia
     .grind
   subst e;rw[wa hl.2 hm.2 λz=>⟨λhz=>?_,λhz=>?_⟩];.grind
   .grind
theorem Ln(hm:m.Pairwise (·<·))(h:∀z,z∈m↔z∈l):ss l=m:=wa jH hm λz=>by rw[Ex,h]
theorem OO(h:l.Pairwise (·<·)):ss l=l:=Ln h λ_=>.rfl
section
variable {X:Cx}{pins:cz}{σ:St}{H:Hp}{s:Shared}
theorem Inv.drew(I:⇑1)(d':Drawn):Inv X pins σ H {s with drawn:=d'}:=
 I.step (d':=d') (g':=s.gens) (t':=s.toks) (ch:=[]) (λ9=>by simp at hb) (λ_ _ _ _ _ e _=>e) (λb o _ _ _ e _=>⟨o.slots,e⟩) (λ_ _ _ _ n=>n) (λb o _ e=>⟨o,e⟩) (λ_ _ e=>e) (λ_ _ _ e=>e)
  (λb ps e=>⟨#[],by rw[e];simp⟩) (λ_ h=>h) I.bU I.bare
def OP(P:Program)(w:World)(a:Addr)(ns:List Int):HO:=.ext λh=>ni P w h a (rB w) ns
def abB(P:Program)(w:World)(K:ao):List V->Hp->VK->Prop:=λxs H Q=>∃(p:Addr) (ms:List Int),xs=[.ref p]/\(lQ K H p (ms.map V.int)\/kz K H p (ms.map V.int))/\ms.length+1<scanBound/\
 ∀(l:Addr) (ns:List Int),H l=none->(∀x,x∈ns↔x∈ms)->ns.length<=ms.length->Q (.ref l) (upd H l (OP P w l ns))
theorem II(hc:X.calm=true):fH X (.type "set") (abB X.prog X.w X.K):=by
 intro 3
 obtain⟨p,ms,rfl,hq,hb,q⟩:=h
 obtain⟨u,rfl,rx⟩:=vals1 r
 cases rx
 have hh:=I.ok.hd hc
 have fin:∀(h':Heap) (tk:Nat) (ns:List Int),ni X.prog X.w h' s.heap.objs.size (rB X.w) ns->(∀x,x∈ns↔x∈ms)->ns.length<=ms.length->(∀b o,s.heap.get? b=some o->h'.get? b=some o)->EP X pins σ Q ⇑25 {s with heap:=h',toks:=tk}:=λh' tk ns S m l k=>
  ⟨.ref s.heap.objs.size,_,I.laid (o:=OP X.prog X.w s.heap.objs.size ns) k (aah _) ⟨S,(let⟨o,_,_,_,e,_⟩:=S;⟨o,e⟩),λh1 h2 S1 kk=>S1.keeps kk⟩,rfl,q _ ns (I.bU.fresh (aah _)) m l⟩
 rcases hq with hq|hq
 .obtain ⟨its,rv,pl,_⟩:=I.list hq;have hi:=intsAre_of rv;have hl:its.length=ms.length:=by rw[(fh.mp hi).2,aac]
  exact B7 hh (src_list pl.isList) hi (by rw[aaA,hl];exact hb) fin
 .obtain ⟨its,rv,pl,_⟩:=I.tuple hq;have hi:=intsAre_of rv;have hl:its.length=ms.length:=by rw[(fh.mp hi).2,aac]
  exact B7 hh (src_tuple (show s.heap.IsTuple p its.toArray from pl)) hi (by rw[aaA,hl];exact hb) fin
def Lo(P:Program)(w:World):List V->Hp->VK->Prop:=λxs H Q=>∃(p:Addr) (ns:List Int),xs=[.ref p]/\H p=some (OP P w p ns)/\ns.length<64/\∀(l:Addr) (out:List Int),H l=none->out.Pairwise (·<·)->(∀x,x∈out↔x∈ns)->Q (.ref l) (upd H l (.lst (out.map V.int)))
theorem Cb:∀{vs:bZ} {ns:List Int},IntsAre vs ns->bA (ns.map V.int) vs
 |_,_,.nil=>.nil
 |_,_,.cons n t h=>.cons ⟨t,rfl⟩ (Cb h)
theorem OQ(h:ni prog w h a led ns):ns.Nodup:=by
 obtain⟨_,_,_,_,_,_,_,_,_,z,_⟩:=h
 exact z
theorem Av(hc:X.calm=true):fH X (.builtin "sorted") (Lo X.prog X.w):=by
 intro 3
 obtain⟨p,ns,rfl,hp,h64,q⟩:=h
 obtain⟨u,rfl,rx⟩:=vals1 r
 cases rx
 have hS:=(show cP X.prog X.w H s.heap p (OP X.prog X.w p ns)from I.bU p _ hp).1
 have nd:=OQ hS
 refine uI (I.ok.hd hc) hS h64 λD h' tk d' out n ms hD k e hi Lp Yo=>?_
 have hl:=Lp.length_eq
 have J:=(I.drew d').laid (t':=tk) (o:=.lst (ms.map V.int)) (h':=h') k hD ⟨by rw[List.length_map,sizeLine_eq];lia,out.toList,n,Cb hi,by simpa using e⟩
 refine⟨.ref D,_,J,rfl,q D ms (I.bU.fresh hD) ?_ λx=>Lp.mem_iff⟩
 have nd2:=Lp.nodup_iff.mpr nd
 refine(List.Pairwise.and Yo nd2).imp λ{a b} hab=>?_
 lia
end
theorem Ui:bootBuiltins "set"=some (.type "set"):=⋯
theorem IJ:bootBuiltins "sorted"=some (.builtin "sorted"):=⋯
noncomputable def iV:List D->Option (List Int)
 |[]=>some []
 |.int i::l=>(iV l).map (i::·)
 |_::_=>none
theorem jI:∀(ns:List Int),iV (ns.map .int)=some ns
 |[]=>rfl
 |n::ns=>by rw[aaw,iV,jI ns];rfl
theorem jV:∀{l:List D} {ns:List Int},iV l=some ns->l=ns.map .int
 |[],_,h=>by cases h;rfl
 |d::l,ns,h=>by
   cases d with
   |int i=>
     rw[iV]at h;cases e:iV l with
     |none=>rw[e]at h;cases h
     |some m=>rw[e]at h;cases h;rw[jV e];rfl
   |_=>cases h
noncomputable def Uj:D->fR
 |.list l=>some l
 |.tuple l=>some l
 |_=>none
def OR(g:bj):cC:=λδ=>(g δ).bind λd=>(Uj d).bind λl=>(iV l).bind λns=>if ns.length<64 then some ((ss ns).map .int)else none
theorem cY.toInts{K:ao}:∀{ns:List Int} {xs:List V},cY K H xs (ns.map PyData.int)->xs=ns.map V.int
 |[],_,h=>by cases h;rfl
 |n::ns,_,h=>by
   cases h with
   |cons a t=>cases a;rw[cY.toInts t];rfl
set_option tactic.hygienic true in
theorem jW(h1:X.mg "sorted"=none)(h2:X.mg "set"=none)(he:PE X e (iy X.K O ge))(hc:X.calm=true:=by rfl)(g1:Gl X "sorted":=by rfl)(g2:Gl X "set":=by rfl)
  (s1:starEach [Expr.Call (.Name "set" p2) [e] [] q2] X.env=(false,eval (Expr.Call (.Name "set" p2) [e] [] q2) X.env)::starEach [] X.env:=by rfl)(s2:starEach [e] X.env=⇑18::starEach [] X.env:=by rfl)
  (b1:(backTo q1 (starEach [] X.env)).any (·.1)=false:=by rfl)(b2:(backTo q2 (starEach [] X.env)).any (·.1)=false:=by rfl):
  PE X (.Call (.Name "sorted" p1) [.Call (.Name "set" p2) [e] [] q2] [] q1) (tN X.K O (OR ge)):=
 (vK (Av hc) g1 h1 IJ (bz (sE (II hc) g2 h2 Ui (bz he cX s2) ⇑0 ⇑0 s2 b2) cX s1) ⇑0 ⇑0 s1 b1).mono λ4=>by
  obtain⟨d,e1,ed⟩:=bind1 ed;obtain⟨l,e2,ed⟩:=bind1 ed;obtain⟨ns,e3,ed⟩:=bind1 ed;split at ed
  .rename_i h64;cases ed;refine⟨U,A0,δ,d,R,e1,λv H1 s1 hv=>?_⟩;have row:∃p,v=.ref p/\(lQ X.K H1 p (ns.map V.int)\/kz X.K H1 p (ns.map V.int)):=by
    unfold Uj at e2;split at e2
    .cases e2;obtain⟨p,xs,rfl,r1,r2⟩:=hv.list;rw[jV e3]at r2;rw[<-r2.toInts];exact⟨p,rfl,.inl r1.sq⟩
    .cases e2;obtain⟨p,xs,rfl,r1,r2⟩:=hv.tuple;rw[jV e3]at r2;rw[<-r2.toInts];exact⟨p,rfl,.inr r1⟩
    .lia
   obtain⟨p,rfl,Lq⟩:=row;refine⟨p,ns,rfl,Lq,by unfold scanBound;lia,λl1 ms hl1 hm hle=>?_⟩;refine⟨l1,ms,rfl,aL,by lia,λl2 out Tq hr V6=>?_⟩;have eo:out=ss ns:=(Ln hr λz=>by rw[V6,hm]).symm;subst eo;refine q l2 _ _ (s1.trans ((cU hl1 _).trans (cU Tq _))) (s1.free ((cU hl1 _).free Tq)) aL (cY.ints _)
  .grind
end L2
namespace L2
open PySem PySem.Spec PyProof.Rows
section
variable {prog:Program}{w:World}{A:Around}{R:Result->Shared->Prop}{s:Shared}
theorem Aw(I:Nat->Shared->Prop)
  (turn:∀n s,I n s->wpAny ⇑10 A (pyNext it) (λr bV=>match r with
   |none=>R (.ok .next) bV
   |some v=>wpAny ⇑10 A (letOwnedTupleGo target it v) (λ_ nk=>wpAny ⇑10 A (assign target env v) (λ_ sJ=>
     wpAny ⇑10 A (forIn ifs true λc r=>if r=true then do let ok <-isTrue c env (eval c env);pure (ForInStep.yield ok)else pure (ForInStep.yield r)) (λok Ey=>
      if ok=true then wpAny ⇑10 A (eval elt env) (λx Yp=>
       wpAny ⇑10 A (call (.builtin "list.append") [acc,x]) (λ_ Yq=>∃m,m<n/\I m Yq) (notedBy ⇑10 A env λe s'=>R (.error e) s') Yp) (notedBy ⇑10 A env λe s'=>R (.error e) s') Ey
      else ∃m,m<n/\I m Ey) (notedBy ⇑10 A env λe s'=>R (.error e) s') sJ) (notedBy ⇑10 A env λe s'=>R (.error e) s') nk) (notedBy ⇑10 A env λe s'=>R (.error e) s') bV) (notedBy ⇑10 A env λe s'=>R (.error e) s') s)
  (n:Nat)(h:I n s):codeAny ⇑10 A (.compLoop (.ListComp elt [⟨target,iter,ifs,0⟩] scope pos) 0 it acc env) R s:=by
 refine codeAny_loop rfl I (λn s hI=>?_) n h
 refine wpAny_noted ?_
 refine aab (afm (aab (abu (turn n s hI) (λr bV vN=>?_) λ_ _ z=>z)))
 cases r with
 |none=>exact aag vN
 |some v=>
   refine aab (abu vN (λ_ nk Ae=>aab (abu Ae (λ_ sJ Tu=>aab (abu Tu (λok Ey Yr=>?_) λ_ _ z=>z)) λ_ _ z=>z)) λ_ _ z=>z);cases ok with
   |false=>exact aag ⟨rfl,Yr⟩
   |true=>exact aab (aab (abu Yr (λx Yp abC=>aab (abu abC (λ_ Yq abD=>aag (aag ⟨rfl,abD⟩)) λ_ _ z=>z)) λ_ _ z=>z))
end
def PF(X:Cx)(ifs:List Expr)(t:TT):Prop:=
 ∀(pins:cz) (s:Shared) (σ:St) (H:Hp) (Q:Bool->Hp->Prop),Inv X pins σ H s->t σ H Q->
   wpAny ⇑3 X.A (forIn ifs true λc r=>if r=true then do let ok <-isTrue c X.env (eval c X.env);pure (ForInStep.yield ok)else pure (ForInStep.yield r)) (TP X pins σ Q) X.xe s
def abE:TT:=λ_ H Q=>Q true H
theorem Uk:PF X [] abE:=λ_ _ _ H _ I q=>aag ⟨H,I,q⟩
theorem wb(h:PT X c t):PF X [c] t:=λpins s σ H Q I q=>wpAny_tests_one (h pins s σ H Q I q)
section
variable {X:Cx}
structure pe(X:Cx)(scope:Scope)(xs:List Str)(ix:List Nat)(N':List Str):Prop where
 kind:scope.kind=.function
 kZ:∀y∈scope.names,y.2≠.cell
 names:∀y∈scope.names,y.2=.local->scope.names.lookup y.1=some .local
 free:∀y∈scope.names,y.2=.free->X.env.kindOf y.1=some .cell\/X.env.kindOf y.1=some .free
 only:∀n,(X.env.scope.kind=.function)->((relabel scope X.env).names.lookup n=some .cell\/(relabel scope X.env).names.lookup n=some .free)->(n,NameKind.free)∈scope.names
 nm:N'=xs++ix.map λj=>X.N.getD j ""
 ixs:∀j∈ix,j<X.N.length/\(X.N.getD j "",NameKind.free)∈scope.names/\((relabel scope X.env).names.lookup (X.N.getD j "")=some .cell\/(relabel scope X.env).names.lookup (X.N.getD j "")=some .free)
section
variable {scope:Scope}{xs:List Str}{ix:List Nat}{N':List Str}{cl:List (Str×Addr)}{C:Addr}{s2 s3:Shared}{H2:Hp}{fp:List Addr}{pins:cz}{σ:St}
theorem Lr(S:pe X scope xs ix N')(I:Inv X pins σ H2 s2)(hC:s2.heap.objs.size<=C)(h1:⇑39)(h2:⇑29)
  (hf:∀b∈fp,uE X pins H2 b)(Ul:∀b∈fp,b<s2.heap.objs.size):(cA X scope N' cl C s2 H2 fp pins).Ok where
 mod:=I.ok.mod
 kind:=by show(relabel scope X.env).kind=_;exact S.kind
 glob:=I.ok.glob
 blt:=I.ok.blt
 above:=hC
 inj:=λa b c e1 e2=>I.ok.inj a b c (h1 _ _ e1) (h1 _ _ e2)
 has:=λa h=>h2 a (S.only a I.ok.kind h)
 NY:=λa c h=>by cases h
 hd:=I.ok.hd
 frames:=I.ok.frames
 VW:=.inl rfl
 exf:=λ9=>⟨aay (aam (Ul b hb) hC),λa c e=>(hf b hb).2.2.2.2.1 a c (h1 _ _ e)⟩
 bs:=I.bs
 Kh:=aa6 I.ok.Kh I.sz
 HP:=λb o e hb=>by
  rcases(hf b hb).2.2.2.1 with z|z;.exact I.ok.HP b o e z
  .have:=(I.ok.bs b o e).1;exact absurd (aam (aai this) z) (abF _)
 Ki:=λb hb z=>by
  rcases aaj.mp (I.lU b z)with e|e;.exact (hf b hb).2.1 e
  .exact (hf b hb).2.2.1 e
 m9:=I.stack
 Nz:=I.zY
theorem IK(S:pe X scope xs ix N')(I:Inv X pins σ H2 s2)(hC:s2.heap.objs.size<=C)(h1:⇑39)(h2:⇑29)
  (hf:∀b∈fp,uE X pins H2 b)(Ul:∀b∈fp,b<s2.heap.objs.size)(hs3:s3.os=s2.os)(hg:s3.gens=s2.gens)(k:∀b o,s2.heap.get? b=some o->s3.heap.get? b=some o)(hn:s3.heap.Ns C m):
  Inv ⇑6 [] (List.replicate xs.length none++pL ix σ) H2 s3 where
 ok:=Lr S I hC h1 h2 hf Ul
 os:=hs3
 bare:=by rw[hg];exact I.bare
 base:=⟨λb o e _ _ _=>k b o e,λb o e _ _ _=>⟨o.slots,k b o e⟩,λb o e n _=>n,λb o e _=>⟨o,k b o e⟩,λ_ _ e=>e,λ_ _ _ e=>e,λb ps e=>⟨#[],by rw[afI];exact e⟩⟩
 loc:=by
  refine⟨m,hn,λi y v e1 e2 e3=>?_⟩;by_cases hi:i<xs.length
  .rw [List.getElem?_append_left (by simpa using hi),List.getElem?_replicate,if_pos hi]at e2;cases e2
  .have Wa:(pL ix σ)[i-xs.length]?=some (some v):=by rw[List.getElem?_append_right (by simp;lia)]at e2;simpa using e2
   obtain⟨j,ej,es⟩:=KU Wa;have e1':N'[i]?=some y:=e1;rw[S.nm,abI ⇑2,aas,ej]at e1';have ey:X.N.getD j ""=y:=abH e1';obtain⟨hj,l7,hk⟩:=S.ixs j (aau ej);obtain⟨m0,hn0,hl0⟩:=I.loc;have eN:X.N[j]?=some y:=by rw[<-ey,aaC,aal hj];rfl
   have kd:=S.free _ l7 rfl;have hv:VU X.env.scope y:=by
    rw[<-ey];rcases kd with z|z;.exact .inr (.inl z)
    .exact .inr (.inr z)
   obtain⟨u,r,l⟩:=hl0 j y v eN es hv;refine⟨u,r,.inr ?_⟩;rcases l with⟨q,_⟩|⟨_,c,ec,z⟩;.grind
   .obtain ⟨c',e'⟩:=h2 _ l7;rw[ey]at e';have:=h1 _ _ e';rw[ec]at this;cases this;obtain⟨o,ho,hd⟩:=z;exact⟨by rw[<-ey];exact hk,c,e',o,k c o ho,hd⟩
 cell:=λa c e=>by
  obtain⟨v,o,ho,hd⟩:=I.cell a c (h1 _ _ e);exact⟨v,o,k c o ho,hd⟩
 free:=I.bU.fresh hC
 ji:=λa c e=>I.ji a c (h1 _ _ e)
 pin:=λp hp=>by
  have hp':p∈X.pn++pins:=by
   rcases aap.mp hp with z|z;.exact z
   .grind
  obtain⟨e,n,ne,nf,d⟩:=I.pin p hp';refine⟨k _ _ e,n,aay (aam (aai e) hC),λz=>?_,d⟩;rcases aaj.mp (I.lU _ z)with q|q;.grind
  .lia
 bU:=I.bU.kept k
 len:=by
  show(List.replicate xs.length none++pL ix σ).length=N'.length;rw[S.nm];unfold pL;simp
end
def vj(J:It)(k:Nat)(ix:List Nat)(g:TG)(tc:TT)(te:TE)(σ:St)(H:Hp)(Q:VK):Prop:=∃W:Nat->Nat->List V->St->Hp->Prop,(∃m,W 0 m [] (List.replicate k none++pL ix σ) H)/\∀i m ys τ H,W i m ys τ H->ys.length<=sizeLine/\
 ((J.stop i H/\∀p,H p=none->Q (.ref p) (upd H p (.lst ys)))\/(J.go i H/\ys.length<sizeLine/\∀v H',J.Xu i H v H'->g v τ H' λGB H2=>tc GB H2 λb H3=>
   if b=true then te GB H3 λy H4=>∃m',m'<m/\W (i+1) m' (ys++[y]) GB H4 else ∃m',m'<m/\W (i+1) m' ys GB H3))
def Ax(wi:TI)(k:Nat)(ix:List Nat)(g:TG)(tc:TT)(te:TE):TE:=λ7=>wi σ H λJ H1=>vj J k ix g tc te σ H1 Q
section
variable {scope:Scope}{xs:List Str}{ix:List Nat}{N':List Str}{elt iter tg:Expr}{ifs:List Expr}{pos:Pos}{wi:TI}{te:TE}{tc:TT}{g:TG}
structure CIn(X':Cx)(D:Addr)(fp:List Addr)(tn:Nat->Heap->Prop)(W:Nat->Nat->List V->St->Hp->Prop)(n:Nat)(s':Shared)(i:Nat)(ys:List V)(its:bZ)(k:Nat)(ck:St)(H':Hp):Prop where
 I:Inv X' [(D,NF its k)] ck H' s'
 st:tn i s'.heap
 fr:∀b∈fp,H' b=none
 w:W i n ys ck H'
 rv:bA ys its
def Ys(X':Cx)(D:Addr)(fp:List Addr)(tn:Nat->Heap->Prop)(W:Nat->Nat->List V->St->Hp->Prop)(n:Nat)(s':Shared):Prop:=∃i ys its k ck H',CIn X' D fp tn W n s' i ys its k ck H'
theorem Um{D:Addr}{P:Prop}(h:Ys X' D fp tn W n s')(k:∀i ys its k ck H',CIn X' D fp tn W n s' i ys its k ck H'->P):P:=by
 obtain⟨_,_,_,_,_,_,t⟩:=h
 exact k _ _ _ _ _ _ t
theorem Yt{P:Value->Prop}(h:N2 gd X pins σ tg R QD s2)(k:∀it fp tn J H',Inv X pins σ H' s2->Ks gd X.prog X.w X.K tg J fp it tn->tn 0 s2.heap->(∀b∈fp,uE X pins H' b)->R J H'->P (.ref it)):P QD:=by
 obtain⟨it,fp,tn,J,H',rfl,a,b,c,d,e⟩:=h
 exact k it fp tn J H' a b c d e
theorem zx(S:pe X scope xs ix N')(hc:∀cl C s2 H2 fp pins,gd ⇑6)(hg:∀cl C s2 H2 fp pins,PG ⇑6 tg g)(hf:∀cl C s2 H2 fp pins,PF ⇑6 ifs tc)(wc:∀cl C s2 H2 fp pins,PE ⇑6 elt te)
  (h:N2 gd X pins σ tg (λJ H1=>vj J xs.length ix g tc te σ H1 Q) QD s2)(h1:⇑39)(h2:⇑29)
  
  (fin:∀(D C:Addr) (H':Hp) (s1:Shared) (m:eQ),s1.heap.Ns C m->H' C=none->X.ip.heap.objs.size<=C->C≠X.env.locals->(∀a c,X.env.cells.lookup a=some c->c≠C)->(∀p∈X.pn++pins,p.1≠C)->(∀h',Heap.SameBut C s1.heap h'->Inv X pins σ H' {s1 with heap:=h'})->Q (.ref D) H'->
   compPost ⇑3 X.A X.xe use QQ (.ref D) C (.ok .next) s1):
  wpAny ⇑3 X.A (newList []) (λacc sJ=>wpAny ⇑3 X.A (newFunctionEnv scope X.env.globals cl [] X.env.qual none .none (some X.env)) (λLu Ey=>
   codeAny ⇑3 X.A (.compStart ⇑15 0 QD acc {Lu with scope:=relabel scope X.env}) (compPost ⇑3 X.A X.xe use QQ acc Lu.locals) Ey) X.xe sJ) X.xe s2:=by
 refine Yt (P:=λQD=>wpAny ⇑3 X.A (newList []) (λacc sJ=>wpAny ⇑3 X.A (newFunctionEnv scope X.env.globals cl [] X.env.qual none .none (some X.env)) (λLu Ey=>
   codeAny ⇑3 X.A (.compStart ⇑15 0 QD acc {Lu with scope:=relabel scope X.env}) (compPost ⇑3 X.A X.xe use QQ acc Lu.locals) Ey) X.xe sJ) X.xe s2) h λit fp tn J H1 I2 T lG f2 hR=>?_
 obtain⟨W,⟨m0,w0⟩,turn⟩:=hR
 have Ul:∀b∈fp,b<s2.heap.objs.size:=λ9=>by
  obtain⟨o,e,_⟩:=T.obj _ _ lG b hb;exact aai e
 refine ad4 (afr S.kZ (by intro y hy;simp at hy) (λvN Lv Ez=>?_) S.kind)
 generalize Yu:s2.heap.push {cls:=.type "list",dict:=none,data:=.seq ([]:bZ).toArray}=P2 at Lv Ez ⊢
 have hC:P2.objs.size=s2.heap.objs.size+1:=by rw[<-Yu,abS]
 have TF:s2.heap.objs.size≠P2.objs.size:=by rw[hC];exact aay (acx _)
 have EA:s2.heap.objs.size<=P2.objs.size:=by rw[hC];exact ae1 _
 have below:∀b,b<s2.heap.objs.size->b≠P2.objs.size:=λ9=>by rw[hC];exact aay (aei hb)
 have old:=λb o e=>Ez.extBut b o (below b (aai e)) (aaa _ (Yu ▸ aaa _ e))
 have Ca:=Ez.extBut _ _ TF (aaa _ (Yu ▸ aae _ rfl))
 generalize P2.objs.size=C at *
 generalize Lw:s2.heap.objs.size=D at *
 have neP:∀p∈X.pn++pins,p.1≠D/\p.1≠C:=λp hp=>by
  have:=aai (I2.pin p hp).1;rw[Lw]at this;exact⟨aay this,aay (aam this EA)⟩
 have DnF:=λhb=>abF _ (Ul D hb)
 have CnF:C∉fp:=λhb=>absurd (aam (Ul C hb) EA) (abF _)
 have Rb:∀a c,X.env.cells.lookup a=some c->c≠D/\c≠C:=λa c e=>by
  obtain⟨v,q⟩:=I2.cell a c e;have:=q.lt;rw[Lw]at this;exact⟨aay this,aay (aam this EA)⟩
 have abG:X.env.locals<D:=by have:=I2.lt;rw[Lw]at this;exact this
 have s0D:X.ip.heap.objs.size<=D:=by rw[<-Lw];exact I2.sz
 have I3:=IK (s3:={s2 with heap:=vN,toks:=s2.toks+([]:List (Str×Value)).length}) S I2 (by rw[Lw];exact EA) h1 h2 f2 (by rw[Lw];exact Ul) rfl rfl old Lv
 have DZ:∀{H':Hp} {pp:cz},(∀p∈pp,p.1∉fp)->(∀b∈fp,H' b=none)->∀b∈fp,uE (cA X scope N' cl C s2 H1 fp pins) pp H' b:=λ{H' pp} hpp hn b hb=>by
  obtain⟨f0,f1,f3,f4,f5,f6⟩:=f2 b hb;refine⟨hn b hb,λz=>CnF (by rw[<-show b=C from z];exact hb),λz=>?_,.inl hb,λa c e=>f5 a c (h1 _ _ e),λp hp=>?_⟩
  .rcases aaj.mp (I2.lU b z)with q|q;.grind
   .grind
  .rcases aap.mp hp with q|q;.exact f6 p q
   .grind
 have DnS:∀b,D<=b->b∉qY X.stack:=λb hb z=>by
  rcases aaj.mp (I2.lU b z)with q|q;.grind
  .exact I2.Xf (by rw[Lw];exact hb) q
 have loop:∀sJ:Shared,sJ={s2 with heap:=vN,toks:=s2.toks+([]:List (Str×Value)).length}->
   codeAny ⇑3 X.A (.compLoop ⇑15 0 (.ref it) (.ref D) (compEnvC scope cl C X.env)) (compPost ⇑3 X.A X.xe use QQ (.ref D) C) sJ:=by
  rintro sJ rfl;refine Aw (Ys (cA X scope N' cl C s2 H1 fp pins) D fp tn W) ?_ m0
   ⟨0,[],[],0,_,H1,?_,T.keep _ _ _ lG (λb hb o e=>old b o e),λ9=>(f2 b hb).1,w0,.nil⟩
  .refine λn s' z=>Um z λi ys its k ck H' t=>?_;have I:=t.I;have st:=t.st;have fr:=t.fr;have rv:=t.rv;obtain⟨hz,w⟩:=turn i n ys ck H' t.w;have hpp:∀p∈[(D,NF its k)],p.1∉fp:=λp hp=>by grind
   rcases w with⟨stop,q⟩|⟨go,hz',step⟩;.refine abu (T.done (cA X scope N' cl C s2 H1 fp pins) rfl rfl rfl (hc _ _ _ _ _ _) i _ s' _ H' (λ_ _=>False) I (DZ hpp fr) st stop) (λr s1 hr=>?_) λ_ _ z=>z.elim;obtain⟨rfl,I1⟩:=hr;obtain⟨m,hn,_⟩:=I1.loc;have p1:=I1.pin (D,NF its k) (aaf _ aan);have fC:=I1.free;refine fin D C (upd H' D (.lst ys)) s1 m hn (by rw[av (acw TF)];exact fC) (aa6 s0D EA) (aer (aam abG EA)) (λa c e=>(Rb a c e).2) (λp hp=>(neP p hp).2) (λh' hs=>?_) (q D p1.2.1);exact Io (N':=N') I2 (by rw[Lw];exact EA) (by rw[Lw];exact aah _) f2 I1 rv hz hs TF
   .refine abu (T.item (cA X scope N' cl C s2 H1 fp pins) rfl rfl rfl (hc _ _ _ _ _ _) i _ s' _ H' (λ_ _=>False) I (DZ hpp fr) st go) (λr s4 hr=>?_) λ_ _ z=>z.elim;obtain⟨u,rfl,h4⟩:=hr;refine abu h4 (λ_ s5 h5=>?_) λ_ _ z=>z.elim;obtain⟨v,H5,I5,r5,y5,QG,fr5⟩:=h5;have I5':=I5.pinned (DZ hpp fr5) (T.obj _ _ QG);refine abu (hg cl C s2 H1 fp pins _ s5 ck H5 v u _ I5' r5 (step v H5 y5)) (λ_ s6 h6=>?_) λ_ _ z=>z.elim;obtain⟨GB,H6,I6,q6⟩:=h6;have gone:∀{τ:St} {H9:Hp} {s9:Shared},Inv (cA X scope N' cl C s2 H1 fp pins) ([(D,NF its k)]++sy fp s5.heap) τ H9 s9->tn (i+1) s9.heap/\∀b∈fp,H9 b=none:=λ{τ H9 s9} I9=>
     ⟨T.keep _ _ _ QG λb hb o e=>(I9.pin (b,o) (aaf _ (aaf _ (jO hb e)))).1,λ9=>by
      obtain⟨o,e,d⟩:=T.obj _ _ QG b hb;exact(I9.pin (b,o) (aaf _ (aaf _ (jO hb e)))).2.1⟩;refine abu (hf cl C s2 H1 fp pins _ s6 GB H6 _ I6 q6) (λok s6' h6'=>?_) λ_ _ z=>z.elim;obtain⟨H6',I6',q6'⟩:=h6';cases ok with
    |false=>
      obtain⟨m',hm',w7⟩:=q6';obtain⟨g1,g2⟩:=gone I6';exact⟨m',hm',i+1,ys,its,k,GB,H6',I6'.oZ λp hp=>I6'.pin p (aaf _ (aax _ hp)),g1,g2,w7,rv⟩
    |true=>
    refine abu (wc cl C s2 H1 fp pins _ s6' GB H6' _ I6' q6') (λy s7 h7=>?_) λ_ _ z=>z.elim;obtain⟨yv,H7,I7,r7,m',hm',w7⟩:=h7;have p7:=I7.pin (D,NF its k) (aaf _ (aax _ aan));have hl:=rv.length;refine afF abg ⟨_,p7.1,rfl⟩ F.entry_list_append (F.args_list_append_2 _ _) (PySem.list_append D its.toArray k y (by rw[aaA];lia)) ⟨p7.1,?_⟩;have q:=PySem.IsL.update p7.1 (·.push y);have Rc:∀b o,b≠D->s7.heap.get? b=some o->(s7.heap.update D (Obj.mapSeq (·.push y))).get? b=some o:=λb o hb e=>(acz s7.heap _ (acw hb)).trans e;have I8:=I7.oZ λp hp=>I7.pin p (aaf _ (aaf _ hp));have I9:Inv (cA X scope N' cl C s2 H1 fp pins) (sy fp s5.heap) GB H7 {s7 with heap:=s7.heap.update D (Obj.mapSeq (·.push y))}:=I8.turned (t':=s7.toks) (it:=D) Rc p7.2.1 TF (.inr (by show s2.heap.objs.size<=D;rw[Lw];exact aah _)) (λa c e=>(Rb a c (h1 _ _ e)).1) λp hp z=>by
     rcases aap.mp hp with z'|z';.exact (neP p z').1 z
     .exact DnF (by rw[<-z];exact(ze z').1)
    refine⟨m',hm',i+1,ys++[yv],its++[y],(if(its.toArray.push y).size==its.toArray.size then k else k+1),GB,H7,I9.oZ (pins':=[(D,NF (its++[y]) ((if(its.toArray.push y).size==its.toArray.size then k else k+1)))]) λp hp=>?_,T.keep _ _ _ QG λb hb o e=>?_,λ9=>?_,w7,rv.append (.cons r7 .nil)⟩;.grind
    .have pb:=I7.pin (b,o) (aaf _ (aaf _ (jO hb e)));exact Rc b o (λz=>DnF (by rw[<-z];exact hb)) pb.1
    .grind
  .exact I3.oZ λp hp=>by
    have e:p=(D,NF [] 0):=by simpa using hp
    subst e;exact⟨Ca,I2.bU.fresh (by rw[Lw];exact aah _),TF,DnS D (aah _),λv z=>by cases z⟩
 exact codeAny_compStart_list (loop _ rfl) (T.self _ 0 _ _ _ (T.keep _ _ _ lG λb hb o e=>old b o e) (loop _ rfl))
theorem IL(S:pe X scope xs ix N')(hc:∀cl C s2 H2 fp pins,gd ⇑6)(hi:PIG gd X tg iter wi)(hg:∀cl C s2 H2 fp pins,PG ⇑6 tg g)(hf:∀cl C s2 H2 fp pins,PF ⇑6 ifs tc)(wc:∀cl C s2 H2 fp pins,PE ⇑6 elt te)
  (hs:⇑35):PE X ⇑15 (Ax wi xs.length ix g tc te):=by
 intro 1
 obtain⟨cl,sX,h1,h2⟩:=lX (scope:=scope) (env:=X.env) (λy hy hk=>I.ok.has y.1 (S.free y hy hk))
 refine wpAny_comprehension_free (use:=none) rfl hs sX S.kind S.names (abu (hi pins s σ H _ I h) (λxv bV vN=>abu vN (λit nk Ae=>?_) λ_ _ e=>e) λ_ _ e=>e)
 exact zx S hc hg hf wc Ae h1 h2 λD C H' s1 m hn fC c1 c2 c3 c4 hI q=>⟨m,hn,λh' xR=>⟨.ref D,H',hI h' xR,rfl,q⟩⟩
theorem zy{i:Nat}{y:Str}{py IM:Pos}(S:pe X scope xs ix N'){gd:Cx->Prop}(hc:∀cl C s2 H2 fp pins,gd ⇑6)(hi:PIG gd X tg iter wi)(hg:∀cl C s2 H2 fp pins,PG ⇑6 tg g)(hf:∀cl C s2 H2 fp pins,PF ⇑6 ifs tc)(wc:∀cl C s2 H2 fp pins,PE ⇑6 elt te)
  (hs:⇑35)(Yv:X.N.Nodup)(Ra:X.N[i]?=some y)(hy:X.env.scope.names.lookup y=some .local)(Yw:swapsWith ⇑15 (some (.Name y py)) IM.line X.env=pure true):
  PS X (.Assign [.Name y py] ⇑15 IM) (su (Ax wi xs.length ix g tc te) (mW i)):=by
 intro 6
 obtain⟨cl,sX,h1,h2⟩:=lX (scope:=scope) (env:=X.env) (λy hy hk=>I.ok.has y.1 (S.free y hy hk))
 rw[exec_Assign_Name_used _ _ _ _ Yw]
 refine aab (afm (aab ?_))
 refine aab (abu (wpAny_comprehension_free (use:=some (assign (.Name y py) X.env)) (Q:=λ_ s'=>SP X pins D .next s') rfl hs sX S.kind S.names
  (abu (hi pins s σ H _ I h) (λxv bV vN=>abu vN (λit nk Ae=>?_) λ_ _ e=>e) λ_ _ e=>e)) (λ_ s' hq=>aag (aag hq)) λ_ _ e=>e)
 refine zx S hc hg hf wc Ae h1 h2 λA C H' s1 m hn fC c1 c2 c3 c4 hI q=>?_
 have I1:=hI s1.heap (.refl ..)
 refine wpAny_assign_Name (zb I1 Yv Ra (.inl hy) (show RelV (.ref A) (.ref A)from rfl) (λs3 I3 ch=>?_) (.inr hy))
 obtain⟨a,hs3,ha⟩:=ch
 have hCa:C≠a:=by grind
 refine⟨m,hn.sameBut hs3 hCa,λh' xR=>?_⟩
 exact⟨_,H',I3.turned (t':=s3.toks) (it:=C) (λb o hb e=>(xR.2 b hb).trans e) fC c2 (.inr c1) c3 c4,q⟩
end
def nL(sc scope:Scope)(N:List Str)(xs:List Str)(ix:List Nat)(N':List Str):Bool:=
 (scope.kind==.function)&&scope.names.all (λy=> !(y.2==.cell))&&scope.names.all (λy=> !(y.2==.local)||(scope.names.lookup y.1==some .local))
 &&scope.names.all (λy=> !(y.2==.free)||(sc.names.lookup y.1==some .cell||sc.names.lookup y.1==some .free))
 &&(Ou sc scope).all (λy=> !(y.2==.cell||y.2==.free)||scope.names.any (λz=>z.1==y.1&&z.2==.free))
 &&(N'==xs++ix.map λj=>N.getD j "")&&ix.all (λj=>decide (j<N.length)&&scope.names.any (λz=>z.1==N.getD j ""&&z.2==.free)&&((Ou sc scope).lookup (N.getD j "")==some .cell||(Ou sc scope).lookup (N.getD j "")==some .free))
theorem qf(h:nL sc scope N xs ix N'=true)(e1:X.env.scope=sc)(e2:X.N=N):pe X scope xs ix N':=by
 subst e1 e2
 unfold nL at h
 simp only[aaX,abU,Bool.or_eq_true,af2,List.any_eq_true,aa4,afh,aa8]at h
 obtain⟨⟨⟨⟨⟨⟨a1,a2⟩,a3⟩,a5⟩,a6⟩,a7⟩,a8⟩:=h
 refine⟨a1,a2,λy hy hk=>(a3 y hy).elim (λz=>absurd hk z) id,λy hy hk=>(a5 y hy).elim (λz=>absurd hk z) id,λn _ hn=>?_,a7,λj hj=>?_⟩
 .have:∃k,(n,k)∈Ou X.env.scope scope/\(k=NameKind.cell\/k=NameKind.free):=by
   rcases hn with z|z;.exact ⟨_,lookup_mem z,.inl rfl⟩
   .exact ⟨_,lookup_mem z,.inr rfl⟩
  obtain⟨k,hk,V3⟩:=this;rcases a6 (n,k) hk with z|⟨z,hz,e1,e2⟩;.grind
  .grind
 .obtain ⟨⟨b1,⟨z,hz,e1,e2⟩⟩,b3⟩:=a8 j hj;refine⟨b1,?_,b3⟩;obtain⟨z1,z2⟩:=z;cases e2;have e1':=e1;rw[<-e1'];exact hz
end
end L2
namespace L2
open PySem PySem.Spec PyProof.Rows LS
noncomputable def qg(f:D->Option (Option D)):List D->fR
 |[]=>some []
 |d::ds=>(f d).bind λo=>(qg f ds).bind λxs=>some (match o with|some x=>x::xs|none=>xs)
def di(gi:cC)(k:Nat)(ix:List Nat)(gt:D->DS->Option DS)(gc:nh)(ge:bj):cC:=λδ=>(gi δ).bind λds=>if ds.length<=100000 then
 qg (λd=>(gt d ⇑30).bind λfg=>(gc fg).bind λb=>if b=true then(ge fg).map some else some none) ds else none
def OS(k:Nat)(gt:D->DS->Option DS):Prop:=∀d c fg,gt d (List.replicate k none++c)=some fg->∃own:DS,own.length=k/\fg=own++c
theorem ir:OS 1 (aN 0):=λd c fg h=>by cases h;exact⟨[some d],rfl,rfl⟩
set_option tactic.hygienic true in
theorem Yx:OS 2 (iz 2 (cv (aN 0) (cv (aN 1) iU))):=λd c fg h=>by
 unfold iz at h
 split at h
 .split at h;.rename_i ds hl;match ds,hl with
   |[a,b],_=>cases h;exact⟨[some a,some b],rfl,rfl⟩
  .cases h
 .cases h
section
variable {K:ao}{O:List Nat}{U A0:List Addr}{σ:St}{δ:DS}{H H1:Hp}
theorem Rel.weak(R:Rel K [] U A0 σ (own++c) H):Rel K [] U A0 σ (List.replicate own.length none++c) H where
 len:=by rw[R.len];simp
 fz:=λi e hi q=>by
  by_cases h:i<own.length
  .rw [List.getElem?_append_left (by simpa using h),List.getElem?_replicate,if_pos h]at q;cases q
  .refine R.fz i e hi ?_;rw[List.getElem?_append_right (by simpa using h)]at q;rw[abI ⇑2];simpa using q
 ow:=λi e hi=>by simp at hi
 inj:=λi j d e l hi=>by simp at hi
 al:=R.al
theorem Rel.Yy(R:Rel K O U A0 σ δ H)(k:Nat)(vk:∀j∈ix,j∉O):Rel K [] U A0 (List.replicate k none++L2.pL ix σ) ⇑30 H where
 len:=by simp[L2.pL,eR]
 fz:=λi e _ q=>by
  by_cases h:i<k
  .rw [List.getElem?_append_left (by simpa using h),List.getElem?_replicate,if_pos h]at q;cases q
  .rw [List.getElem?_append_right (by simpa using h)]at q ⊢;simp only[List.length_replicate]at q ⊢;unfold eR at q;unfold L2.pL;rw[aas]at q ⊢;cases ei:ix[i-k]? with
   |none=>rw[ei]at q;cases q
   |some j=>
     rw[ei]at q;simp only[ad5,af3]at q;obtain⟨u,hu,hd⟩:=R.fz j e (vk j (aau ei)) (join_some q);exact⟨u,by simp[hu],hd⟩
 ow:=λi e hi=>by simp at hi
 inj:=λi j d e l hi=>by simp at hi
 al:=R.al
structure CB(K:ao)(U A0:List Addr)(H1:Hp)(ds xs:List D)(F:D->Option (Option D))(base:DS)(i:Nat)(ys:List V)(τ:St)(H2:Hp)(zs rest:List D):Prop where
 le:i<=ds.length
 s:aG H1 H2
 R:Rel K [] U A0 τ base H2
 yl:ys.length<=i
 hz:cY K (wo H2 (U++A0)) ys zs
 he:qg F (ds.drop i)=some rest
 hx:zs++rest=xs
def CBW(K:ao)(U A0:List Addr)(H1:Hp)(ds xs:List D)(F:D->Option (Option D))(base:DS)(i m:Nat)(ys:List V)(τ:St)(H2:Hp):Prop:=m=ds.length-i/\∃zs rest,CB K U A0 H1 ds xs F base i ys τ H2 zs rest
theorem IP(own:OS k gt)(R:Rel K O U A0 σ δ H)(s:aG H H1)(vk:∀j∈ix,j∉O)(hw:WalksS K (U++A0) H1 J ds)
  (hl:ds.length<=100000)(e:qg (λd=>(gt d ⇑30).bind λfg=>(gc fg).bind λb=>if b=true then(ge fg).map some else some none) ds=some xs)
  (q:∀r ys H',aG H H'->H r=none->H' r=some (.lst ys)->cY K (wo H' (r::(U++A0))) ys xs->Q (.ref r) H'):vj J k ix (tG K [] gt) (tT K [] gc) (tE K [] ge) σ H1 Q:=by
 have Z2:(100000:Nat)<sizeLine:=by decide
 obtain⟨F,hF⟩:∃F:D->Option (Option D),F=λd=>(gt d ⇑30).bind λfg=>(gc fg).bind λb=>if b=true then(ge fg).map some else some none:=⟨_,rfl⟩
 rw[<-hF]at e
 refine⟨CBW K U A0 H1 ds xs F ⇑30,⟨ds.length,rfl,[],xs,abO _,aG.refl _,(R.same s).Yy k vk,aah _,.nil,e,rfl⟩,?_⟩
 rintro i m ys τ H2 ⟨rfl,zs,rest,w⟩
 have hle:=w.le
 have OM:=w.yl
 have he:=w.he
 refine⟨by lia,?_⟩
 obtain⟨T6,vW⟩:=hw i H2 w.s
 by_cases hV:i<ds.length
 .obtain ⟨go,Yz⟩:=T6 _ (aal hV);rw[acB hV,qg]at he;generalize ds[i]=d at Yz he;obtain⟨o,e1,e2⟩:=bind1 he;obtain⟨rs,e3,e4⟩:=bind1 e2;rw[hF]at e1;obtain⟨fg,f1,f2⟩:=bind1 e1;obtain⟨b,f3,f4⟩:=bind1 f2;obtain⟨ir,ol,oe⟩:=own d _ fg f1;refine .inr ⟨go,by lia,λv H3 y=>?_⟩;obtain⟨s3,hv⟩:=Yz v H3 y;refine⟨U,A0,_,d,fg,w.R.same s3,hv,f1,λGB R3=>⟨U,A0,fg,b,R3,f3,λH4 s4=>?_⟩⟩;have wk:∀{H':Hp},aG H3 H'->Rel K [] U A0 GB ⇑30 H':=λ{H'} s'=>by
   rw[<-ol];rw[oe]at R3;exact(R3.same s').weak
  have lt:ds.length-(i+1)<ds.length-i:=Nat.sub_lt_sub_left hV (acx i);cases b with
  |true=>
    rw[aav rfl]at f4;dsimp only;rw[aav rfl];cases eg:ge fg with
    |none=>rw[eg]at f4;cases f4
    |some x=>
      rw[eg]at f4;cases f4;cases e4;exact⟨U,A0,fg,x,R3.same s4,eg,λu H5 s5 hu=>⟨_,lt,rfl,zs++[x],rs,hV,((w.s.trans s3).trans s4).trans s5,wk (s4.trans s5),by rw[aak];exact afj OM,(w.hz.same (bR ((s3.trans s4).trans s5))).app (.cons hu .nil),e3,by rw[<-w.hx,abt];rfl⟩⟩
  |false=>
    rw[aaB aaV]at f4;dsimp only;rw[aaB aaV];cases f4;cases e4;exact⟨_,lt,rfl,zs,rs,hV,(w.s.trans s3).trans s4,wk s4,Nat.le_succ_of_le OM,w.hz.same (bR (s3.trans s4)),e3,w.hx⟩
 .have hi:i=ds.length:=afu hle (aea hV);subst hi;rw[aeo,qg]at he;cases he;have hx:=w.hx;rw[abr]at hx;subst hx;exact .inl ⟨vW rfl,λp hp=>zp (s.trans w.s) q p ys hp w.hz⟩
end
section
variable {X:Cx}{O:List Nat}{scope:Scope}{elt iter tg:Expr}{ifs:List Expr}{pos:Pos}{gi:cC}{ge:bj}{gt:D->DS->Option DS}{gc:nh}{k:Nat}
theorem PF.mono(h:PF X ifs t)(m:∀σ H Q,t' σ H Q->t σ H Q):PF X ifs t':=λpins s σ H Q I q=>h pins s σ H Q I (m σ H Q q)
theorem cK:PF X [] (tT X.K O λ_=>some true):=Uk.mono λσ H Q hh=>hh.e λU A0 δ b R e q=>by cases e;exact q H (aG.refl H)
set_option tactic.hygienic true in
theorem Cc{K:ao}(own:OS k gt)(vk:∀j∈ix,j∉O):tN K O (di gi k ix gt gc ge) σ H Q->Ax (Q5 K O gi) k ix (tG K [] gt) (tT K [] gc) (tE K [] ge) σ H Q:=λ⟨U,A0,δ,xs,R,ed,q⟩=>by
 obtain⟨ds,e1,e2⟩:=bind1 ed
 split at e2
 .rename_i hl;exact⟨U,A0,δ,ds,R,e1,λJ H1 s hw=>IP own R s vk hw hl e2 q⟩
 .grind
theorem bJ(sc:Scope)(N:List Str)(ix:List Nat)(N' xs:List Str)(own:OS k gt)(hi:PI X tg iter (Q5 X.K O gi))(hg:∀cl C s2 H2 fp pins,PG ⇑6 tg (tG X.K [] gt))(hf:∀cl C s2 H2 fp pins,PF ⇑6 ifs (tT X.K [] gc))
  (wc:∀cl C s2 H2 fp pins,PE ⇑6 elt (tE X.K [] ge))(vk:∀j∈ix,j∉O:=by decide)(hk:nL sc scope N xs ix N'=true:=by decide +kernel)(hl:xs.length=k:=by rfl)
  (e1:X.env.scope=sc:=by rfl)(e2:X.N=N:=by rfl)(hc:X.calm=true:=by rfl)(hs:⇑35:=by intro _;rfl):PE X ⇑15 (tN X.K O (di gi k ix gt gc ge)):=by
 subst hl
 exact(IL (gd:=zd) (qf hk e1 e2) (λ1=>hc) hi hg hf wc hs).mono λ_ _ _=>Cc own vk
theorem Cd(sc:Scope)(N:List Str)(ix:List Nat)(N' xs:List Str)(Yv:X.N.Nodup)(Ra:X.N[i]?=some y)(hy:X.env.scope.names.lookup y=some .local)(own:OS k gt)(hi:PI X tg iter (Q5 X.K O gi))
  (hg:∀cl C s2 H2 fp pins,PG ⇑6 tg (tG X.K [] gt))(hf:∀cl C s2 H2 fp pins,PF ⇑6 ifs (tT X.K [] gc))(wc:∀cl C s2 H2 fp pins,PE ⇑6 elt (tE X.K [] ge))
  (vk:∀j∈ix,j∉O:=by decide)(hk:nL sc scope N xs ix N'=true:=by decide +kernel)(hl:xs.length=k:=by rfl)
  (e1:X.env.scope=sc:=by rfl)(e2:X.N=N:=by rfl)(hc:X.calm=true:=by rfl)(hs:⇑35:=by intro _;rfl)(Yw:swapsWith ⇑15 (some (.Name y py)) IM.line X.env=pure true:=by rfl):
  PS X (.Assign [.Name y py] ⇑15 IM) (su (tN X.K O (di gi k ix gt gc ge)) (mW i)):=by
 subst hl
 exact(zy (gd:=zd) (qf hk e1 e2) (λ1=>hc) hi hg hf wc hs Yv Ra hy Yw).mono λ_ _ _ h=>Cc own vk h
end
theorem we:∀{bs:List Bool} {its:bZ},bA (bs.map V.bl) its->its=bs.map Value.bool
 |[],_,.nil=>rfl
 |b::l,_,.cons r t=>by
   rw[aaw,<-we t];cases(show _=Value.bool b from r);rfl
theorem all_range{bs:List Bool}:(List.range bs.length).all (λi=>bs.getD i true)=bs.all id:=by
 rw[aeV,abU,abU]
 constructor
 .intro h b hb;obtain⟨i,hi,e⟩:=ael hb;have:=h i (ad2.mpr hi);rw[aaC,aal hi]at this;rw[<-e];exact this
 .intro h i hi;have hi:=ad2.mp hi;rw[aaC,aal hi];exact h _ (aeE hi)
theorem pf(hc:X.calm=true):fH X (.builtin "all") (λxs H Q=>∃(p:Addr) (bs:List Bool),xs=[.ref p]/\lQ X.K H p (bs.map V.bl)/\Q (.bl (bs.all id)) H):=by
 intro 3
 obtain⟨p,bs,rfl,hq,q⟩:=h
 obtain⟨u,rfl,rx⟩:=vals1 r
 cases rx
 obtain⟨its,rv,pl,_⟩:=I.list hq
 have e:=we rv
 subst e
 have hV:p≠s.heap.objs.size:=by
  obtain⟨o,n,e1,_⟩:=pl;exact aay (aai e1)
 refine call_all_walk (wpAny_pyIter_list pl.isList ?_)
 refine⟨s.heap.objs.size,[s.heap.objs.size,p],[s.heap.objs.size],_,_,_,λi=>bs.getD i true,rfl,Walks.list (A:=X.A.in1) (I.ok.hd hc) _ p hV (bs.map Value.bool).toArray,⟨⟨_,aae _ rfl,rfl,rfl⟩,pl.isList.push _⟩,λi v s' Q' E' hP hQ=>?_,λh' tk k=>?_⟩
 .have YA:(bs.map Value.bool)[i]?=some v:=by simpa using hP
  rw[aas]at YA;cases eb:bs[i]? with
  |none=>rw[eb]at YA;cases YA
  |some b=>
    rw[eb]at YA;cases YA;have hQ':Q' (bs.getD i true) s':=hQ;rw[aaC,eb]at hQ';exact ach hQ'
 .have e:(List.range (bs.map Value.bool).toArray.size).all (λi=>bs.getD i true)=bs.all id:=by rw[<-all_range];simp
  rw[e];refine⟨.bl _,H,I.kept (t':=tk) λb o e=>k b o (λz=>?_) (aaa _ e),rfl,q⟩;rw[abA]at z;exact absurd (aai e) (by rw[z];exact abF _)
theorem Ay:bootBuiltins "all"=some (.builtin "all"):=⋯
noncomputable def jb:List D->Option (List Bool)
 |[]=>some []
 |.bool i::l=>(jb l).map (i::·)
 |_::_=>none
theorem jX:∀(ns:List Bool),jb (ns.map .bool)=some ns
 |[]=>rfl
 |n::ns=>by rw[aaw,jb,jX ns];rfl
theorem ur:∀{l:List D} {ns:List Bool},jb l=some ns->l=ns.map .bool
 |[],_,h=>by cases h;rfl
 |d::l,ns,h=>by
   cases d with
   |bool i=>
     rw[jb]at h;cases e:jb l with
     |none=>rw[e]at h;cases h
     |some m=>rw[e]at h;cases h;rw[ur e];rfl
   |_=>cases h
theorem cY.toBools{K:ao}:∀{ns:List Bool} {xs:List V},cY K H xs (ns.map PyData.bool)->xs=ns.map V.bl
 |[],_,h=>by cases h;rfl
 |n::ns,_,h=>by
   cases h with
   |cons a t=>cases a;rw[cY.toBools t];rfl
def Az:List D->Option D
 |[.list l]=>(jb l).map λbs=>.bool (bs.all id)
 |_=>none
set_option tactic.hygienic true in
theorem vn{K:ao}:uH K (λxs H Q=>∃(p:Addr) (bs:List Bool),xs=[.ref p]/\lQ K H p (bs.map V.bl)/\Q (.bl (bs.all id)) H) Az:=by
 intro 5
 unfold Az at e
 split at e
 .rename_i l;cases eb:jb l with
  |none=>rw[eb]at e;cases e
  |some bs=>
    rw[eb]at e;cases e;obtain⟨v,rfl,h1⟩:=Iw h;obtain⟨p,xs,rfl,h2,h3⟩:=h1.list;rw[ur eb]at h3;rw[h3.toBools]at h2;exact⟨p,bs,rfl,h2.sq,q _ H (aG.refl H) (.bl _)⟩
 .cases e
section
variable {X:Cx}
def EB(K:ao):R2:=λx y H Q=>∃a b ys,x=.ref a/\y=.ref b/\kz K H a []/\kz K H b ys/\Q (.ref b) H
theorem Lx:jP X (binaryOp .Add) (EB X.K):=by
 intro 2
 obtain⟨a,b,ys,rfl,rfl,ha,hb,q⟩:=h
 cases rx
 cases ry
 obtain⟨its,r1,p1,_⟩:=I.tuple ha
 obtain⟨yc,r2,p2,_⟩:=I.tuple hb
 have e:=r1.ve.mpr rfl
 subst e
 obtain⟨⟨c1,d1,dt1,sl1⟩,ho,hc,n,hd⟩:=id p1
 obtain⟨⟨c2,d2,dt2,Z0⟩,q8,hc2,n2,hd2⟩:=id p2
 subst hc hd hc2 hd2
 exact concat_meets ⟨_,ho,rfl⟩ ⟨_,q8,rfl⟩ noFill_tuple_add seq_tuple_add ae5 ae2 (aeN _ _) (tuple_addW0 a b #[] yc.toArray n n2 d1 d2 sl1 Z0 ⇑11) ⟨ho,q8,⟨.ref b,H,I,rfl,q⟩⟩
end
def aA(a b:D):Option D:=match a,b with
 |.tuple [],.tuple l=>some (.tuple l)
 |a,b=>TV a b
theorem aI:jP X (binaryOp .Add) (λx y H Q=>Gv X.K x y H Q\/EB X.K x y H Q):=Ow.or Lx
theorem ax{K:ao}:jo K (λx y H Q=>Gv K x y H Q\/EB K x y H Q) aA:=by
 intro 4
 unfold aA at e
 split at e
 .cases e;have hf:=hy.fz;obtain⟨a,xs,rfl,h1,h2⟩:=hx.tuple;obtain⟨b,zs,rfl,h3,h4⟩:=hy.tuple;cases h2;exact .inr ⟨a,b,zs,rfl,rfl,h1,h3,q _ H (aG.refl H) hf⟩
 .exact .inl (Ox A H x y _ _ d Q al hx hy e q)
def YB(K:ao)(a:Addr):It:=
 ⟨λi H=>∃xs x,kz K H a xs/\xs[i]?=some x,λi H x H'=>∃p v,H p=none/\x=.ref p/\H'=upd H p (.tup [.int i,v])/\∀xs,kz K H a xs->xs[i]?=some v,λi H=>∃xs,kz K H a xs/\xs.length=i⟩
theorem EC{K:ao}(a e it:Addr)(iw:e≠it):Turn P w K (.Tuple es kk qc) (YB K a) [e,it] e (λi h=>(∃old,IsEnum h e it i old)/\h.IsTupleIter it a i) where
 mem:=by simp
 obj:=λi h st b hb=>by
  obtain⟨⟨old,he⟩,o,ho,c,d⟩:=st;rcases aaj.mp hb with z|z;.grind
  .grind
 keep:=λi h h' st k=>by
  obtain⟨⟨old,he⟩,lG⟩:=st;exact⟨⟨old,k e ⇑11 _ he⟩,lG.at λo eo=>k it ⇑11 o eo⟩
 item:=by
  intro 0;subst hP hw hK;obtain⟨xs,x,hq,hx⟩:=hg;obtain⟨its,rv,p,hz⟩:=I.tuple hq;obtain⟨u,hu,ru⟩:=rv.get hx;obtain⟨⟨old,he⟩,lG⟩:=st;have hp:=p;have hea:e≠a:=λz=>by
   obtain⟨o,ho,sX,_⟩:=hp;rw[<-z]at ho;have:=ho.symm.trans he;cases this;exact absurd (ad3 sX) ⇑0
  have Uo:a≠it:=λz=>by
   obtain⟨o,ho,sX,_⟩:=hp;obtain⟨o2,q8,wg,_⟩:=lG;rw[z]at ho;have:=ho.symm.trans q8;cases this;rw[sX]at wg;exact absurd (ad3 wg) ⇑0
  have Ly:i<its.toArray.size:=by grind
  refine wpAny_pyNext_enum_itemD (gW (A:=X.A.in1) (I.ok.hd hc) it a Uo its.toArray) he ⟨lG,hp⟩ Ly iw (by simp[iw,hea]) λy h1 tk hy Kf Lz Yd OG IC=>?_;have hyu:y=u:=by grind
  subst hyu;refine⟨_,rfl,aez Kf λh2 Q0 ra=>?_⟩;have Ye:=aai he;have I1:Inv X pins σ H {s with heap:=h2,toks:=tk+1}:=I.kC (t':=tk+1) (ch:=[e,it]) (λb o hb eo=>by
   simp at hb;exact(ra.2 b hb.1).trans (IC b o hb.1 hb.2 eo)) hf;have T9:IsTup h2 s.heap.objs.size [Value.int i tk,y].toArray:=⟨_,(ra.2 _ (aer Ye)).trans Yd,rfl,_,rfl⟩;have l7:=I.bU.fresh (aah _);have fo:=I.sv (H':=H) (aah _) l7;have I2:Inv X pins σ (upd H s.heap.objs.size (.tup [.int i,x])) {s with heap:=h2,toks:=tk+1}:=I1.An l7 (aa6 I.sz (aah _)) fo.2.1 fo.2.2.2.2.1 fo.2.2.2.2.2 T9 (.cons ⟨_,rfl⟩ (.cons ru .nil)) (by show 2<=sizeLine;decide);refine⟨.ref s.heap.objs.size,_,I2,rfl,⟨_,x,l7,rfl,rfl,λys hy=>by rw[I.o6 hy hq];exact hx⟩,⟨⟨y,Q0⟩,Lz.1.extBut ra.extBut (acw iw)⟩,λ9=>?_⟩;have hV:b<s.heap.objs.size:=by
   rcases aaj.mp hb with z|z;.grind
   .have z:b=it:=by simpa using z
    subst z;obtain⟨o,ho,_⟩:=lG;exact aai ho
  rw[av (aay hV)];exact(hf b hb).1
 done:=by
  intro 0;subst hP hw hK;obtain⟨xs,hq,hx⟩:=hg;obtain⟨its,rv,p,hz⟩:=I.tuple hq;obtain⟨⟨old,he⟩,lG⟩:=st;have hp:=p;have Uo:a≠it:=λz=>by
   obtain⟨o,ho,sX,_⟩:=hp;obtain⟨o2,q8,wg,_⟩:=lG;rw[z]at ho;have:=ho.symm.trans q8;cases this;rw[sX]at wg;exact absurd (ad3 wg) ⇑0
  have hl:=rv.length;have hsz:its.toArray.size=i:=by rw[aaA,<-hl];exact hx
  refine wpAny_pyNext_enum_endD (gW (A:=X.A.in1) (I.ok.hd hc) it a Uo its.toArray) he ⟨by rw[hsz];exact lG,hp⟩ λh1 eb=>⟨rfl,?_⟩;exact I.kC (t':=s.toks) (ch:=[e,it]) (λb o hb eo=>eb b o (λz=>hb (by simp[z])) eo) hf
 self:=λ_ _ _ _ _ st h=>by
  obtain⟨⟨old,he⟩,_⟩:=st;exact aef he h
section
variable {X:Cx}{O:List Nat}{a:Expr}{ge:bj}{p pos:Pos}{es:List Expr}{kk}{qc:Pos}
def Up(K:ao)(ta:TA):TI:=λσ H R=>ta σ H λvs H1=>∃a xs,vs=[.ref a]/\kz K H1 a xs/\R (YB K a) H1
theorem LA(hg:Gl X "enumerate")(hm:X.mg "enumerate"=none)(ha:PA X [a] ta)(hs:starEach [a] X.env=[(false,eval a X.env)]:=by rfl):PI X (.Tuple es kk qc) (.Call (.Name "enumerate" p) [a] [] pos) (Up X.K ta):=by
 intro 9
 refine Call_ (lV I hg hm l8 (aci (dq (ha pos pins s σ H _ I h) λus s1 ⟨vs,H1,I1,r1,q1⟩=>?_) hs rfl))
 obtain⟨b,xs,e,hq,q⟩:=q1
 subst e
 obtain⟨u,rfl,ru⟩:=vals1 r1
 cases ru
 obtain⟨its,rv,pl,hz⟩:=I1.tuple hq
 refine Ep (show s1.heap.IsTuple b its.toArray from pl) λh' he hit hsz hk=>?_
 refine aef he ?_
 refine⟨s1.heap.objs.size+1,[s1.heap.objs.size+1,s1.heap.objs.size],_,_,H1,rfl,I1.kept (t':=s1.toks) hk,EC b _ s1.heap.objs.size (agc _),⟨⟨_,he⟩,hit⟩,λ9=>?_,q⟩
 have hle:s1.heap.objs.size<=b:=by grind
 exact I1.sv hle (I1.bU.fresh hle)
def ED(g:bj):cC:=λδ=>(g δ).bind λ|.tuple l=>some (jU l)|_=>none
theorem Ce(hm:X.mg "enumerate"=none)(ha:PE X a (tE X.K O ge))(hg:Gl X "enumerate":=by rfl)(hs:starEach [a] X.env=[(false,eval a X.env)]:=by rfl)(Ao:starEach ([]:List Expr) X.env=[]:=by rfl):PI X (.Tuple es kk qc) (.Call (.Name "enumerate" p) [a] [] pos) (tI X.K O (ED ge)):=
 (LA hg hm (bz ha cX (by rw[hs,Ao])) hs).mono λ4=>by
  obtain⟨x,e1,e2⟩:=bind1 ed;cases x with
  |tuple l=>
    cases e2;refine⟨U,A0,δ,_,R,e1,λv H' s h=>?_⟩;cases h with
    |tup hq h=>
      refine⟨_,_,rfl,.inl (cg.ng hq),q _ H' s ?_⟩;intro A' i H2 s2 al;have h2:=h.same s2;have hL:kz X.K H2 _ _:=.inl (cg.ng (s2.ng hq));refine⟨λd hd=>?_,λhi=>⟨_,hL,by rw[hi,sQ,h2.len]⟩⟩;obtain⟨y,hy,rfl⟩:=zu hd;obtain⟨v,hv,Yh⟩:=h2.get hy;refine⟨⟨_,v,hL,hv⟩,λz H3 hz=>?_⟩;obtain⟨p,v',hp,rfl,rfl,JZ⟩:=hz;have:=JZ _ hL;rw[hv]at this;cases this;exact⟨cU hp _,HD.Ai al hp (.cons (.int _) (.cons Yh .nil))⟩
  |_=>cases e2
end
end L2
namespace L2
open PySem PySem.Spec PyProof.Rows
noncomputable def Uq:D->Option Key
 |.int i=>some (.inl i)
 |.str x=>some (.inr x)
 |_=>none
def keysOf:List D->Option (List Key)
 |[]=>some []
 |d::ds=>(Uq d).bind λk=>(keysOf ds).bind λks=>some (k::ks)
def keyOf:D->Option (List Key)
 |.tuple ds=>keysOf ds
 |_=>none
theorem jY:∀k:List Key,keysOf (k.map rm)=some k
 |[]=>rfl
 |.inl i::k=>by rw[aaw,keysOf,jY k];rfl
 |.inr i::k=>by rw[aaw,keysOf,jY k];rfl
theorem zA{K:ao}:∀{xs:List V} {ds:List D} {k:List Key},cY K H xs ds->keysOf ds=some k->xs=k.map kV
 |_,_,_,.nil,e=>by cases e;rfl
 |_,_,_,.cons h t,e=>by
   obtain⟨a,e1,e2⟩:=bind1 e;obtain⟨b,e3,e4⟩:=bind1 e2;cases e4;rw[zA t e3,aaw];cases h with
   |int i=>cases e1;rfl
   |str x=>cases e1;rfl
   |_=>cases e1
def dX(kds:fS)(k:List Key):Option D:=(kds.find? λp=>decide (keyOf p.1=some k)).map (·.2)
def jl(kds:fS)(k:List Key)(d:D):fS:=
 if(kds.any λp=>decide (keyOf p.1=some k))=true then kds.map (λp=>if keyOf p.1=some k then(p.1,d)else p)else kds++[(.tuple (k.map rm),d)]
theorem gm(e:keyOf p.1=some k):dX (p::r) k=some p.2:=by simp[dX,e]
theorem gn(e:¬keyOf p.1=some k):dX (p::r) k=dX r k:=by simp[dX,e]
theorem ph(k:List Key):∀kds:fS,(kds.any λp=>decide (keyOf p.1=some k))=(dX kds k).isSome
 |[]=>rfl
 |p::r=>by
   rw[aeP];by_cases e:keyOf p.1=some k;.simp only[gm e,aaq e,Bool.true_or,Option.isSome_some]
   .rw [gn e,aaG e,Bool.false_or];exact ph k r
theorem zB(k j:List Key)(y:D):∀kds:fS,dX (kds.map λp=>if keyOf p.1=some k then(p.1,y)else p) j=(dX kds j).map λx=>if j=k then y else x
 |[]=>rfl
 |p::r=>by
   have ih:=zB k j y r;rw[aaw];by_cases h:keyOf p.1=some k
   .rw [aav h];by_cases e:keyOf p.1=some j;.rw [gm (p:=(p.1,y)) e,gm e,ad5,aav (abH (e.symm.trans h))]
    .rw [gn (p:=(p.1,y)) e,gn e,ih]
   .rw [aaB h];by_cases e:keyOf p.1=some j;.rw [gm (p:=p) e,gm e,ad5,aaB (λz=>h (by rw[e,z]))]
    .rw [gn (p:=p) e,gn e,ih]
theorem zC(j:List Key):∀a b:fS,dX (a++b) j=(dX a j).or (dX b j)
 |[],b=>by rw[ad7];rfl
 |p::r,b=>by
   rw[aeq];by_cases e:keyOf p.1=some j;.rw [gm e,gm e];rfl
   .rw [gn e,gn e];exact zC j r b
theorem IQ(kds:fS)(k j:List Key)(d:D):dX (jl kds k d) j=if j=k then some d else dX kds j:=by
 unfold jl
 by_cases a:(kds.any λp=>decide (keyOf p.1=some k))=true
 .rw [aav a,zB];rw[ph]at a;by_cases e:j=k
  .obtain ⟨x,hx⟩:=Option.isSome_iff_exists.mp a;rw[aav e,e,hx,ad5,aav rfl]
  .simp_all
 .rw [aaB a,zC];rw[ph]at a;have hk:keyOf (.tuple (k.map rm))=some k:=jY k;by_cases e:j=k
  .subst e;have:dX kds j=none:=by simp_all
   rw[aav rfl,this,gm hk];rfl
  .rw [aaB e,gn (by rw[hk];exact λz=>e (abH z).symm)];exact Option.or_none
theorem pj(kds:fS)(k:List Key)(d:D):(jl kds k d).length<=kds.length+1:=by
 unfold jl
 split
 .grind
 .grind
inductive DK(K:ao)(H:Hp):List (List Key×V)->List (D×D)->Prop
 |nil:DK K H [] []
 |cons {k:List Key} {v:V} {d:D} {r:List (List Key×V)} {s:fS}:HD K H v d->DK K H r s->DK K H ((k,v)::r) ((.tuple (k.map rm),d)::s)
section
variable {K:ao}{H H':Hp}{A:List Addr}
theorem DK.of:∀{bb:List (List Key×V)} {kds:fS},kds.map (·.1)=bb.map (λp=>PyData.tuple (p.1.map rm))->cY K H (bb.map (·.2)) (kds.map (·.2))->DK K H bb kds
 |[],[],_,_=>.nil
 |[],_::_,e,_=>by simp at e
 |_::_,[],e,_=>by simp at e
 |(k,v)::r,(x,d)::s,e,h=>by
   simp only[aaw,List.cons.injEq]at e;obtain⟨e1,e2⟩:=e;subst e1;cases h with
   |cons h1 h2=>exact .cons h1 (DK.of e2 h2)
theorem DK.keys:∀{bb:List (List Key×V)} {kds:fS},DK K H bb kds->kds.map (·.1)=bb.map (λp=>PyData.tuple (p.1.map rm))
 |_,_,.nil=>rfl
 |_,_,.cons _ t=>by rw[aaw,aaw,DK.keys t]
theorem DK.vals:∀{bb:List (List Key×V)} {kds:fS},DK K H bb kds->cY K H (bb.map (·.2)) (kds.map (·.2))
 |_,_,.nil=>.nil
 |_,_,.cons h t=>.cons h (DK.vals t)
theorem DK.own(h:DK K H bb kds):Ei K H (.dT bb) (.dict kds):=.vg h.keys h.vals
theorem DK.same(s:aG H H')(h:DK K H bb kds):DK K H' bb kds:=DK.of h.keys (h.vals.same s)
theorem DK.len:∀{bb:List (List Key×V)} {kds:fS},DK K H bb kds->bb.length=kds.length
 |_,_,.nil=>rfl
 |_,_,.cons _ t=>by rw[aaz,aaz,DK.len t]
theorem DK.look(k:List Key):∀{bb:List (List Key×V)} {kds:fS},DK K H bb kds->(∀d,dX kds k=some d->∃v,nc bb k=some v/\HD K H v d)/\(dX kds k=none->nc bb k=none)
 |_,_,.nil=>⟨λd e=>(by cases e),λ_=>rfl⟩
 |_,_,.cons (k:=j) (v:=v) (d:=d) (r:=r) (s:=s) h t=>by
   have hj:keyOf (.tuple (j.map rm))=some j:=jY j;by_cases e:j=k;.subst e;rw[gm (p:=(PyData.tuple (j.map rm),d)) hj,ny (p:=(j,v)) rfl];exact⟨λd' q=>by cases q;exact⟨v,rfl,h⟩,λq=>by cases q⟩
   .rw [gn (p:=(PyData.tuple (j.map rm),d)) (by rw[hj];exact λz=>e (abH z)),nz (p:=(j,v)) e];exact DK.look k t
theorem DK.rep(k:List Key)(hv:HD K H v d):∀{bb:List (List Key×V)} {kds:fS},DK K H bb kds->DK K H (bb.map λkv=>if kv.1=k then(kv.1,v)else kv) (kds.map λp=>if keyOf p.1=some k then(p.1,d)else p)
 |_,_,.nil=>.nil
 |_,_,.cons (k:=j) h t=>by
   have hj:keyOf (.tuple (j.map rm))=some j:=jY j;rw[aaw,aaw];by_cases e:j=k;.subst e;rw[aav rfl,aav hj];exact .cons hv (DK.rep j hv t)
   .rw [aaB e,aaB (by rw[hj];exact λz=>e (abH z))];exact .cons h (DK.rep k hv t)
theorem DK.app:∀{a:List (List Key×V)} {b:fS} {a':List (List Key×V)} {b':fS},DK K H a b->DK K H a' b'->DK K H (a++a') (b++b')
 |_,_,_,_,.nil,q=>q
 |_,_,_,_,.cons h t,q=>.cons h (DK.app t q)
theorem DK.put(h:DK K H bb kds)(k:List Key)(hv:HD K H v d):DK K H (putK bb k v) (jl kds k d):=by
 have e:(bb.any λkv=>decide (kv.1=k))=kds.any λp=>decide (keyOf p.1=some k):=by
  rw[vM,ph];cases q:dX kds k with
  |none=>rw[(h.look k).2 q];rfl
  |some x=>obtain⟨w,hw,_⟩:=(h.look k).1 x q;rw[hw];rfl
 unfold putK jl
 rw[e]
 split
 .exact h.rep k hv
 .exact h.app (.cons hv .nil)
theorem jk.dk(h:jk K A H x (.dict kds))(hf:Ip kds=false):∃a bb,x=.ref a/\H a=some (.dT bb)/\DK K (wo H A) bb kds:=
 let⟨a,bb,e,h1,h2,h3⟩:=h.dict hf;⟨a,bb,e,h1,DK.of h2 h3⟩
theorem jk.key(h:jk K A H y d)(e:keyOf d=some k):∃b,y=.ref b/\fD H b (k.map kV):=by
 cases d with
 |tuple ds=>
   obtain⟨b,ys,rfl,hb,hd⟩:=h.X2;exact⟨b,rfl,by rw[<-zA hd e];exact hb⟩
 |_=>cases e
end
def Cf(gd gk:bj):bj:=λδ=>(gd δ).bind λx=>(gk δ).bind λy=>match x with
 |.dict kds=>if Ip kds=true then none else(keyOf y).bind λk=>dX kds k
 |_=>none
def ma(gd gk ge:bj):bj:=λδ=>(gd δ).bind λx=>(gk δ).bind λy=>(ge δ).bind λz=>match x with
 |.dict kds=>if Ip kds=true then none else(keyOf y).bind λk=>some ((dX kds k).getD z)
 |_=>none
def zD(i:Nat)(gk ge:bj):bo:=λδ=>(ge δ).bind λd=>(ae i δ).bind λx=>(gk δ).bind λy=>match x with
 |.dict kds=>(keyOf y).bind λk=>if kds.length<100000 then some (.nx (δ.set i (some (.dict (jl kds k d)))))else none
 |_=>none
noncomputable def LB(i:Nat)(g:DS->Option (fS)):bo:=λδ=>(g δ).bind λd=>some (.nx (δ.set i (some (.dict d))))
def EE(gk ge:bj):DS->Option (fS):=λδ=>(gk δ).bind λy=>(ge δ).bind λd=>(keyOf y).bind λk=>some [(.tuple (k.map rm),d)]
def tNd(K:ao)(O:List Nat)(g:DS->Option (fS)):TE:=λ7=>∃U A0 δ kds,Rel K O U A0 σ δ H/\g δ=some kds/\
 ∀r bb H',aG H H'->H r=none->H' r=some (.dT bb)->DK K (wo H' (r::(U++A0))) bb kds->Q (.ref r) H'
theorem tNd.e{K:ao}  {GG:Prop}(hh:tNd K O g σ H Q)(kk:∀U A0 δ kds,(Rel K O U A0 σ δ H)->(g δ=some kds)->(∀r bb H',aG H H'->H r=none->H' r=some (.dT bb)->DK K (wo H' (r::(U++A0))) bb kds->Q (.ref r) H')->GG):GG:=by obtain⟨U,A0,δ,kds,x0,x1,x2⟩:=hh;exact kk U A0 δ kds x0 x1 x2
section
variable {X:Cx}{O:List Nat}{fr:Fr}{st:Stmt}{gd gk ge:bj}{gl:DS->Option (fS)}{o i e f:Expr}{pos apos fE:Pos}
set_option tactic.hygienic true in
theorem OT(hu:X.A.units+1<cLine)(ho:PE X o (iy X.K O gd))(hi:PE X i (iy X.K O gk))(hs:Eg i:=by intro _ _;rfl):PE X (.Subscript o i pos) (tE X.K O (Cf gd gk)):=(Gm hu ho hi hs).mono λ0=>by
 obtain⟨x,e1,e2⟩:=bind1 ed
 obtain⟨y,e3,e4⟩:=bind1 e2
 refine⟨U,A0,δ,x,R,e1,λv H1 s1 h1=>⟨U,A0,δ,y,R.same s1,e3,λv2 H2 s2 h2=>?_⟩⟩
 cases x with
 |dict kds=>
   have e4:(if Ip kds=true then none else(keyOf y).bind λk=>dX kds k)=some d:=e4;split at e4;.grind
   rename_i hf;have hf:=Bool.eq_false_iff.mpr hf;obtain⟨k,e5,e6⟩:=bind1 e4;obtain⟨a,bb,rfl,ha,dk⟩:=(h1.same s2).dk hf;obtain⟨b,rfl,hb⟩:=h2.key e5;obtain⟨w,hw,hd⟩:=(dk.look k).1 d e6;refine⟨a,w,rfl,?_,q w H2 (s1.trans s2) hd⟩;rw[<-hw];exact p5.t ha hb
 |_=>cases e4
set_option tactic.hygienic true in
theorem nM(hu:X.A.units+1<cLine)(ho:PE X o (iy X.K O gd))(hi:PE X e (iy X.K O gk))(hx:PE X f (tE X.K O ge))(m:M2 X o "get" apos e f fE:=by exact⟨rfl,rfl,rfl,rfl⟩):PE X (.Call (.Attribute o "get" apos) [e,f] [] fE) (tE X.K O (ma gd gk ge)):=(KP hu ho hi hx m).mono λ0=>by
 obtain⟨x,e1,e2⟩:=bind1 ed
 obtain⟨y,e3,e4⟩:=bind1 e2
 obtain⟨z,e5,e6⟩:=bind1 e4
 refine⟨U,A0,δ,x,R,e1,λv H1 s1 h1=>?_⟩
 cases x with
 |dict kds=>
   have e6:(if Ip kds=true then none else(keyOf y).bind λk=>some ((dX kds k).getD z))=some d:=e6;split at e6;.lia
   rename_i hf;have hf:=Bool.eq_false_iff.mpr hf;obtain⟨k,e7,e8⟩:=bind1 e6;cases e8;obtain⟨a,bb,rfl,ha,dk⟩:=h1.dk hf;refine⟨a,rfl,.inr ⟨_,.inl ha⟩,U,A0,δ,y,R.same s1,e3,λv2 H2 s2 h2=>⟨U,A0,δ,z,(R.same s1).same s2,e5,λv3 H3 s3 h3=>?_⟩⟩;obtain⟨b,rfl,hb⟩:=(h2.same s3).key e7;have dk3:=dk.same (bR (A:=U++A0) (s2.trans s3));refine⟨nc bb k,p5.t ((s2.trans s3) _ _ ha) hb,q _ H3 (s1.trans (s2.trans s3)) ?_⟩;cases w:dX kds k with
   |none=>rw[(dk3.look k).2 w];exact h3
   |some d'=>obtain⟨w',hw',u9⟩:=(dk3.look k).1 d' w;rw[hw'];exact u9
 |_=>cases e6
set_option tactic.hygienic true in
theorem GC{i:Nat}(h:PS X st (KJ (kU i) (iy X.K O gk) (tE X.K O ge)))(hi:i∈O:=by decide):PS X st (tS X.K O fr (zD i gk ge)):=h.mono λ3=>by
 obtain⟨d,e1,e2⟩:=bind1 ed
 obtain⟨x,e3,e4⟩:=bind1 e2
 obtain⟨y,e5,e6⟩:=bind1 e4
 obtain⟨l,o,hl,hU,h1,h2⟩:=R.ow i x hi (join_some e3)
 cases h2 with
 |lst _=>cases e6
 |vg kk hv=>
   obtain⟨k,e7,e8⟩:=bind1 e6;split at e8
   .rename_i hz;cases e8;refine⟨U,A0,δ,d,R,e1,λv H1 s1 YC=>⟨.ref l,hl,U,A0,δ,y,R.same s1,e5,λv2 H2 s2 h3=>?_⟩⟩;obtain⟨b,rfl,hb⟩:=h3.key e7;have dk:=DK.of kk hv;have hlen:=dk.len;have dk2:=dk.same (bR (A:=U++A0) (s1.trans s2));refine⟨l,_,rfl,Ac.t ((s1.trans s2) _ _ h1) hb (nA ⇑2),?_⟩;exact P U σ _ ((R.same (s1.trans s2)).X5 hi hl hU (dk2.put k (YC.same (bR s2))).own ⟨_,join_some e3⟩) ((F.grow (s1.trans s2)).put hU _)
   .grind
theorem GF{i:Nat}(h:PS X st (su (tNd X.K O gl) (mW i)))(hi:i∈O:=by decide):PS X st (tS X.K O fr (LB i gl)):=h.mono λ3=>by
 obtain⟨d,e1,e2⟩:=bind1 ed
 cases e2
 exact⟨U,A0,δ,d,R,e1,λr bb H' s hr h1 h2=>P (r::U) _ H' (R.X3 s hr h1 h2.own hi) (F.more s hr)⟩
theorem Rel.YD{K:ao}(R:Rel K O U A0 σ δ H)(s:aG H H'){o:HO}(hr:H r=none)(h:H' r=some o)(ho:yg o):Rel K O U (r::A0) σ δ H':=by
 have k:aG (wo H (U++A0)) (wo H' (U++(r::A0))):=λb o q=>by
  obtain⟨h1,h2⟩:=o7 q;rw[bg];.exact s b o h2
  .grind
 exact{
  len:=R.len
  fz:=λi d hi e=>let⟨v,a,b⟩:=R.fz i d hi e;⟨v,a,b.same k⟩
  ow:=λi d hi e=>let⟨l,o,a,c,f,g⟩:=R.ow i d hi e;⟨l,o,a,c,s _ _ f,g.same k⟩
  inj:=R.inj
  al:=⟨λa ha=>by
   simp only[aap,aaj]at ha;rcases ha with z|z|z;.exact (R.al.same s).1 a (by simp[z])
   .grind
   .exact (R.al.same s).1 a (by simp[z]),(R.al.same s).2⟩}
def Ur(tk tv:TE):TE:=λ7=>∀p,H p=none->Eh [(tk,tv)] σ (upd H p (.dT [])) λps H2=>H2 p=some (.dT [])/\∃b ks y,ps=[(.ref b,y)]/\fD H2 b (ks.map kV)/\Q (.ref p) (upd H2 p (.dT [(ks,y)]))
theorem LC{k v:Expr}{tk tv:TE}(hu:X.A.units+1<cLine)(hk:PE X k tk)(hv:PE X v tv):PE X (.Dict [some k] [v] pos) (Ur tk tv):=by
 intro pins s σ H Q I q
 have hn:=I.bU.fresh (aah s.heap.objs.size)
 have I1:=I.laid (a:=s.heap.objs.size) (o:=.dT []) (h':=s.heap.push {cls:=.type "dict",data:=.dict #[]}) (t':=s.toks) (λ_ _ q=>aaa _ q) (aah _) (KN s.heap I.Z2)
 have pp:Z3 X pos [some k] [v] [(tk,tv)]:=KO hk hv Oq
 refine wpAny_Dict_any rfl rfl ⇑11 ⇑11 (dq (pp pins _ σ _ _ I1 (q _ hn)) λws s2 ⟨ps,H2,I2,rel,e,b,ks,y,e2,e4,q2⟩=>?_)
 subst e2
 cases rel with
 |@cons _ w _ _ h t=>
   cases t;obtain⟨u1,u2⟩:=w;obtain⟨r1,r2⟩:=h;cases(show u1=Value.ref b from r1);have hf:storeAll s.heap.objs.size [(Value.ref b,u2)]=(do dictSet s.heap.objs.size (Value.ref b) u2):=by
    unfold storeAll;rw[ad6];simp
   rw[hf];obtain⟨z,hd,xs,rl,dd⟩:=QR I2.bU e;cases rl;refine wpAny_dictSet_heap (show X.A.units<cLine by lia) (sH I2.bU e4) dd (λh' V0 hs=>⟨.ref s.heap.objs.size,_,?_,rfl,q2⟩) (abO _);obtain⟨q,es,ep,hq,h2,h3,h4,_,h5⟩:=V0;have abK:KT H2 [] []:=.nil;refine rk I2 (by rw[e];exact True.intro) hs ⟨q,hq⟩ ⟨small ⇑11,hd,_,(abK.put ks e4 r2).keeps λc ys ec=>?_,q,es,ep,hq,h2,h3,h4,h5⟩;exact ec.dT e
theorem Cg(hu:X.A.units+1<cLine)(hk:PE X k (iy X.K O gk))(hv:PE X v (tE X.K O ge)):PE X (.Dict [some k] [v] pos) (tNd X.K O (EE gk ge)):=(LC hu hk hv).mono λσ H Q ⟨U,A0,δ,d,R,ed,q⟩ p hp=>by
 obtain⟨y,e1,e2⟩:=bind1 ed
 obtain⟨d',e3,e4⟩:=bind1 e2
 obtain⟨ks,e5,e6⟩:=bind1 e4
 cases e6
 have s0:=cU hp (.dT [])
 have R0:Rel X.K O U (p::A0) σ δ (upd H p (.dT [])):=R.YD s0 hp aL trivial
 refine⟨U,p::A0,δ,y,R0,e1,λv H1 s1 h1=>⟨U,p::A0,δ,d',R0.same s1,e3,λw H2 s2 h2=>?_⟩⟩
 obtain⟨b,rfl,hb⟩:=(h1.same s2).key e5
 have Yu:=(s1.trans s2) _ _ aL
 refine⟨Yu,b,ks,w,rfl,hb,q p _ _ (s0.trans (s1.trans s2)|>.upd hp _) hp aL ?_⟩
 have ew:wo (upd H2 p (.dT [(ks,w)])) (p::(U++A0))=wo H2 (p::(U++A0)):=K2 ⇑11
 rw[ew]
 exact .cons (h2.same (i9 λa ha=>by simp only[aap,aaj]at ha ⊢;rcases ha with z|z|z;exact .inr (.inl z);exact .inl z;exact .inr (.inr z))) .nil
end
end L2
namespace LS
open PySem PySem.Spec PyProof.Rows
section
variable {prog:Program}{w:World}{A:Around}{E:eJ}{s:Shared}
theorem abL(ft:TypeCalled T nw "object.__init__")(c1:checkTypeCall T ⟨us,kw⟩=pure ())(c2:checkBuiltinCall nw ⟨.type T::us,kw⟩=pure ())
  (en:entryFor table nw=some Bn)(g:Meets (Bn ⟨.type T::us,kw⟩) S)(c3:∀o,argsOk "object.__init__" ⟨o::us,kw⟩)(gi:∀o,Meets (Builtin.«object.__init__» ⟨o::us,kw⟩) (λ_ R s=>s.TypeIs o T/\R (.ok (.ret .none)) s))
  (h:S A.in1 (wants (λo s1=>s1.TypeIs o T/\Q o s1) E) s):wpAny ⇑10 A (call (.type T) us kw) Q E s:=by
 obtain⟨hc,tl,hm⟩:=ft.mro
 have k1:=ft.made
 have k2:=ft.sub
 have k3:=ft.notType
 have k4:=ft.canCreate
 refine afi (codeAny_of_tree (show wpAny _ _ (callAny (.type T) _) _ _ _ from aag ⟨Code.quiet_builtin _ ⋯,aee F.entry_type_call ?_⟩))
 rw[Around.under_plain (weight_type_call_type T us kw) (units_type_call_type T us kw)]
 repeat any_goals first|assumption|wp_step
 refine adO (afq ft.plain en (af0 c2 (g prog w A.in1 _ s h))) λr s1 hr=>?_
 cases r with
 |error e=>exact hr
 |ok fl=>
   cases fl with
   |ret o=>
     obtain⟨hT,hq⟩:=hr;have k5:=ft.init.lookup;have k6:=ft.init.bind o;repeat any_goals first|assumption|wp_step
     refine adO (afq ft.init.plain F.entry_object_init (ft.init.check _ _ _ _ _ _ _ _ hT (c3 o) (gi o prog w A.in1 (wants (λr s2=>r=.none/\Q o s2) E) s1 ⟨hT,rfl,hq⟩))) λr2 s2 YE=>?_;cases r2 with
     |error e=>exact YE
     |ok f2=>
       cases f2 with
       |ret r=>
         obtain⟨rfl,q2⟩:=YE;repeat any_goals first|assumption|wp_step
       |_=>exact YE.elim
   |_=>exact hr.elim
end
theorem initK(hl:typeLookup (.type T) "__init__"=pure (some (.builtin "object.__init__")))(hm:Bind.madeBy (.type T)=pure (some nw))(iw:(some nw !=some "object.__new__")=true)(u:Value):
  Meets (Builtin.«object.__init__» ⟨o::u::us,kw⟩) (λ_ R s=>s.TypeIs o T/\R (.ok (.ret .none)) s):=by
 refine Meets.of_wp λprog w A R s hs=>?_
 obtain⟨hT,hq⟩:=hs
 repeat any_goals first|assumption|wp_step
 exact⟨_,rfl,hq⟩
theorem tcS(a b:Value):checkTypeCall "enumerate" ⟨[a],[("start",b)]⟩=pure ():=by kernel_rfl
theorem bcS(a b:Value):checkBuiltinCall "enumerate.__new__" ⟨[.type "enumerate",a],[("start",b)]⟩=pure ():=by kernel_rfl
theorem aoS(o a b:Value):argsOk "object.__init__" ⟨[o,a],[("start",b)]⟩:=by kernel_rfl
set_option maxHeartbeats 1000000 in
set_option tactic.hygienic true in
theorem abM(l:Addr)(items:Array Value)(n:Nat)(vg:Option Addr)(sl:Array (Option Value))(t:Tok):
  Meets (Builtin.«enumerate.__new__» ⟨[.type "enumerate",.ref l],[("start",.int 1 t)]⟩) (λ_ R s=>s.heap.get? l=some {cls:=.type "tuple",dict:=vg,data:=.seq items n,slots:=sl}/\
   R (.ok (.ret (.ref (s.heap.push ⇑12).objs.size)))
     {s with heap:=(s.heap.push ⇑12).push {cls:=.type "enumerate",data:=.fields #[.none,.bool false,.ref s.heap.objs.size,rawInt 1,.none,.none]}}):=
 .of_wp λprog w A R s h=>by
  obtain⟨hp,g,d,tk,os⟩:=s;obtain⟨hl,h⟩:=h;have vX:=sub_enumerate;have hL:Heap.IsTuple (Shared.heap ⟨hp,g,d,tk,os⟩) l items:=⟨_,hl,rfl,n,rfl⟩;wp_walk using AutoSeq1.wpAny_loadPart' hl;refine wpAny_stack_any λst=>aag ?_;split
  .rename_i c _ _ _ _ _;cases(c==Value.type "enumerate");.wp_walk using AutoSeq1.wpAny_loadPart' hl,wpAny_pyIter_tuple hL;exact⟨_,rfl,h⟩
   .wp_walk using AutoSeq1.wpAny_loadPart' hl,wpAny_pyIter_tuple hL;exact⟨_,rfl,h⟩
  .wp_walk using AutoSeq1.wpAny_loadPart' hl,wpAny_pyIter_tuple hL;exact⟨_,rfl,h⟩
section
variable {prog:Program}{w:World}{A:Around}{E:eJ}{s:Shared}
theorem EF(hL:s.heap.IsTuple l items)
  (h:∀h',IsEnum h' ⇑24 s.heap.objs.size 1 .none->h'.IsTupleIter s.heap.objs.size l 0->h'.objs.size=s.heap.objs.size+2->(∀b o,s.heap.get? b=some o->h'.get? b=some o)->Q (.ref ⇑24) {s with heap:=h'}):
  wpAny ⇑10 A (call (.type "enumerate") [.ref l] [("start",.int 1 t)]) Q E s:=by
 obtain⟨⟨c,vg,dt,sl⟩,hl,hc,n,hd⟩:=hL
 subst hc hd
 refine abL aej (tcS _ _) (bcS _ _) PySem.F.entry_enumerate_new (abM l items n vg sl t) (λo=>aoS o _ _) (λo=>initK aej.init.lookup aej.made ⇑0 _) ⟨hl,?_⟩
 have hz:(s.heap.push ⇑12).objs.size=s.heap.objs.size+1:=abS ..
 rw[hz]
 have he:IsEnum ((s.heap.push ⇑12).push {cls:=.type "enumerate",data:=.fields #[.none,.bool false,.ref s.heap.objs.size,rawInt 1,.none,.none]}) ⇑24 s.heap.objs.size 1 .none:=by
  have q:=aae (s.heap.push ⇑12) (o:={cls:=.type "enumerate",data:=.fields #[.none,.bool false,.ref s.heap.objs.size,rawInt 1,.none,.none]}) rfl;rw[hz]at q;exact q
 exact⟨⟨_,he,rfl⟩,h _ he ⟨_,aaa _ (aae _ rfl),rfl,rfl⟩ (by rw[abS,hz]) λb o x=>aaa _ (aaa _ x)⟩
theorem Ci{St:Nat->Heap->Prop}(d:Draws prog w A it fp n P St):Draws prog w A it fp (n+1) (λi v=>∃j,i=j+1/\P j v) (λi h=>∃j,i=j+1/\St j h) where
 live:=λ_ h ⟨j,_,q⟩=>d.live j h q
 frame:=λ_ h h' ⟨j,e,q⟩ k=>⟨j,e,d.frame j h h' q k⟩
 item:=λi s Q E hi ⟨j,e,q⟩ hQ=>d.item j s Q E ⇑2 q λx h' tk p st sb=>hQ x h' tk ⟨j,e,p⟩ ⟨j+1,by lia,st⟩ sb
 done:=λs Q E ⟨j,e,q⟩ hE=>d.done s Q E ((show j=n by lia) ▸ q) hE
theorem wj 
  (h:wpAny M A (spliced (backTo pos (starEach (e::es) env))) (λvs s1=>wpAny M A (evalAll ((backToKw pos (keywordEach kws env)).map (·.2))) (λks s2=>wpAny M A (call (.type T) vs (((backToKw pos (keywordEach kws env)).filterMap (·.1)).zip ks)) Q E s2) E s1) E s)
  (he:backTo pos (starEach (e::es) env)=(false,eval e env)::backTo pos (starEach es env))(hp:(backTo pos (starEach (e::es) env)).any (·.1)=false)(ha:(backToKw pos (keywordEach kws env)).all (·.1.isSome)=true)(hk:(backToKw pos (keywordEach kws env)).any (·.1.isNone)=false):
  wpAny M A (callWith pos (.type T) [] (backTo pos (starEach (e::es) env)) (backToKw pos (keywordEach kws env))) Q E s:=by
 have h1:wpAny M A (evalArgs (.type T) true (backTo pos (starEach (e::es) env)) (backToKw pos (keywordEach kws env))) (λa s1=>wpAny M A (call (.type T) a.pos a.kw) Q E s1) E s:=by
  rw[he]at h ⊢;exact evalArgs_kwB ha h
 refine aab (adZ (abu h1 (λa s1 q=>aab (afm ?_)) λ_ _ x=>x))
 simp only[hp,hk,Bool.or_false]
 exact aab (aag (aab (abu q (λr s2 hr=>aab (adZ (wpAny_point (aag hr)))) λ_ _ x=>x)))
end
end LS
namespace L2
open PySem PySem.Spec PyProof.Rows LS
def YF(K:ao)(a:Addr):It:=
 ⟨λi H=>∃xs x,kz K H a xs/\xs[i]?=some x,λi H x H'=>∃p v,H p=none/\x=.ref p/\H'=upd H p (.tup [.int ((i:Int)+1),v])/\∀xs,kz K H a xs->xs[i]?=some v,λi H=>∃xs,kz K H a xs/\xs.length=i⟩
theorem EG{K:ao}(a e it:Addr)(iw:e≠it):Turn P w K (.Tuple es kk qc) (YF K a) [e,it] e (λi h=>(∃old,IsEnum h e it ((i:Int)+1) old)/\h.IsTupleIter it a i) where
 mem:=by simp
 obj:=λi h st b hb=>by
  obtain⟨⟨old,he⟩,o,ho,c,d⟩:=st;rcases aaj.mp hb with z|z;.grind
  .grind
 keep:=λi h h' st k=>by
  obtain⟨⟨old,he⟩,lG⟩:=st;exact⟨⟨old,k e ⇑11 _ he⟩,lG.at λo eo=>k it ⇑11 o eo⟩
 item:=by
  intro 0;subst hP hw hK;obtain⟨xs,x,hq,hx⟩:=hg;obtain⟨its,rv,p,hz⟩:=I.tuple hq;obtain⟨u,hu,ru⟩:=rv.get hx;obtain⟨⟨old,he⟩,lG⟩:=st;have hp:=p;have hea:e≠a:=λz=>by
   obtain⟨o,ho,sX,_⟩:=hp;rw[<-z]at ho;have:=ho.symm.trans he;cases this;exact absurd (ad3 sX) ⇑0
  have Uo:a≠it:=λz=>by
   obtain⟨o,ho,sX,_⟩:=hp;obtain⟨o2,q8,wg,_⟩:=lG;rw[z]at ho;have:=ho.symm.trans q8;cases this;rw[sX]at wg;exact absurd (ad3 wg) ⇑0
  have Ly:i<its.toArray.size:=by grind
  refine wpAny_pyNext_enum_itemD (i:=i+1) (LS.Ci (gW (A:=X.A.in1) (I.ok.hd hc) it a Uo its.toArray)) (by push_cast;exact he) ⟨i,rfl,lG,hp⟩ (Nat.succ_lt_succ Ly) iw (by simp[iw,hea]) λy h1 tk hy Kf Lz Yd OG IC=>?_;obtain⟨j',ej',Lz⟩:=Lz;cases ej';have hyu:y=u:=by grind
  subst hyu;refine⟨_,rfl,aez Kf λh2 Q0 ra=>?_⟩;have Ye:=aai he;have I1:Inv X pins σ H {s with heap:=h2,toks:=tk+1}:=I.kC (t':=tk+1) (ch:=[e,it]) (λb o hb eo=>by
   simp at hb;exact(ra.2 b hb.1).trans (IC b o hb.1 hb.2 eo)) hf;have T9:IsTup h2 s.heap.objs.size [Value.int ((i:Int)+1) tk,y].toArray:=⟨_,(ra.2 _ (aer Ye)).trans Yd,rfl,_,rfl⟩;have l7:=I.bU.fresh (aah _);have fo:=I.sv (H':=H) (aah _) l7;have I2:Inv X pins σ (upd H s.heap.objs.size (.tup [.int ((i:Int)+1),x])) {s with heap:=h2,toks:=tk+1}:=I1.An l7 (aa6 I.sz (aah _)) fo.2.1 fo.2.2.2.2.1 fo.2.2.2.2.2 T9 (.cons ⟨_,rfl⟩ (.cons ru .nil)) (by show 2<=sizeLine;decide);refine⟨.ref s.heap.objs.size,_,I2,rfl,⟨_,x,l7,rfl,rfl,λys hy=>by rw[I.o6 hy hq];exact hx⟩,⟨⟨y,by push_cast;exact Q0⟩,Lz.1.extBut ra.extBut (acw iw)⟩,λ9=>?_⟩;have hV:b<s.heap.objs.size:=by
   rcases aaj.mp hb with z|z;.grind
   .have z:b=it:=by simpa using z
    subst z;obtain⟨o,ho,_⟩:=lG;exact aai ho
  rw[av (aay hV)];exact(hf b hb).1
 done:=by
  intro 0;subst hP hw hK;obtain⟨xs,hq,hx⟩:=hg;obtain⟨its,rv,p,hz⟩:=I.tuple hq;obtain⟨⟨old,he⟩,lG⟩:=st;have hp:=p;have Uo:a≠it:=λz=>by
   obtain⟨o,ho,sX,_⟩:=hp;obtain⟨o2,q8,wg,_⟩:=lG;rw[z]at ho;have:=ho.symm.trans q8;cases this;rw[sX]at wg;exact absurd (ad3 wg) ⇑0
  have hl:=rv.length;have hsz:its.toArray.size=i:=by rw[aaA,<-hl];exact hx
  refine wpAny_pyNext_enum_endD (LS.Ci (gW (A:=X.A.in1) (I.ok.hd hc) it a Uo its.toArray)) he ⟨_,rfl,by rw[hsz];exact lG,hp⟩ λh1 eb=>⟨rfl,?_⟩;exact I.kC (t':=s.toks) (ch:=[e,it]) (λb o hb eo=>eb b o (λz=>hb (by simp[z])) eo) hf
 self:=λ_ _ _ _ _ st h=>by
  obtain⟨⟨old,he⟩,_⟩:=st;exact aef he h
section
variable {X:Cx}{O:List Nat}{a:Expr}{ge:bj}{p pos:Pos}{es:List Expr}{kk}{qc:Pos}
def Us(K:ao)(ta:TA):TI:=λσ H R=>ta σ H λvs H1=>∃a xs,vs=[.ref a]/\kz K H1 a xs/\R (YF K a) H1
theorem LD(hg:Gl X "enumerate")(hm:X.mg "enumerate"=none)(ha:PA X [a] ta)(hs:starEach [a] X.env=[(false,eval a X.env)]:=by rfl):PI X (.Tuple es kk qc) (.Call (.Name "enumerate" p) [a] [⟨some "start",.Constant (.int 1) jj cp,kp⟩] pos) (Us X.K ta):=by
 intro 9
 refine abY (lV I hg hm l8 (LS.wj (dq (ha pos pins s σ H _ I h) λus s1 ⟨vs,H1,I1,r1,q1⟩=>?_) (by rw[hs];rfl) (by rw[hs];rfl) rfl rfl))
 obtain⟨b,xs,e,hq,q⟩:=q1
 subst e
 obtain⟨u,rfl,ru⟩:=vals1 r1
 cases ru
 refine PyProof.Rows.evalAll_cons (aab (dq (bH pins s1 σ H1 (λv H2=>v=V.int 1/\H2=H1) I1 ⟨rfl,rfl⟩) λkv s2 ⟨v,H2,I2,Wb,e1,e2⟩=>aab (afm (aag (PyProof.Rows.evalAll_nil ?_)))))
 subst e1 e2
 obtain⟨t,rfl⟩:=Wb
 obtain⟨its,rv,pl,hz⟩:=I2.tuple hq
 refine LS.EF (show s2.heap.IsTuple b its.toArray from pl) λh' he hit hsz hk=>?_
 refine aef he ?_
 refine⟨s2.heap.objs.size+1,[s2.heap.objs.size+1,s2.heap.objs.size],_,_,H2,rfl,I2.kept (t':=s2.toks) hk,EG b _ s2.heap.objs.size (agc _),⟨⟨_,he⟩,hit⟩,λ9=>?_,q⟩
 have hle:s2.heap.objs.size<=b:=by grind
 exact I2.sv hle (I2.bU.fresh hle)
noncomputable def uu(l:List D):List D:=(l.zipIdx 1).map λp=>.tuple [.int (p.2:Nat),p.1]
theorem IS(l:List D):(uu l).length=l.length:=by unfold uu;simp
theorem IT{i:Nat}(h:(uu l)[i]?=some d):∃x,l[i]?=some x/\d=.tuple [.int ((i:Int)+1),x]:=by
 unfold uu at h
 rw[aas,aeg]at h
 cases e:l[i]? with
 |none=>rw[e]at h;cases h
 |some x=>grind
def LF(g:bj):cC:=λδ=>(g δ).bind λ|.tuple l=>some (uu l)|_=>none
theorem LG(hm:X.mg "enumerate"=none)(ha:PE X a (tE X.K O ge))(hg:Gl X "enumerate":=by rfl)(hs:starEach [a] X.env=[(false,eval a X.env)]:=by rfl)(Ao:starEach ([]:List Expr) X.env=[]:=by rfl):PI X (.Tuple es kk qc) (.Call (.Name "enumerate" p) [a] [⟨some "start",.Constant (.int 1) jj cp,kp⟩] pos) (tI X.K O (LF ge)):=
 (LD hg hm (bz ha cX (by rw[hs,Ao])) hs).mono λ4=>by
  obtain⟨x,e1,e2⟩:=bind1 ed;cases x with
  |tuple l=>
    cases e2;refine⟨U,A0,δ,_,R,e1,λv H' s h=>?_⟩;cases h with
    |tup hq h=>
      refine⟨_,_,rfl,.inl (cg.ng hq),q _ H' s ?_⟩;intro A' i H2 s2 al;have h2:=h.same s2;have hL:kz X.K H2 _ _:=.inl (cg.ng (s2.ng hq));refine⟨λd hd=>?_,λhi=>⟨_,hL,by rw[hi,IS,h2.len]⟩⟩;obtain⟨y,hy,rfl⟩:=IT hd;obtain⟨v,hv,Yh⟩:=h2.get hy;refine⟨⟨_,v,hL,hv⟩,λz H3 hz=>?_⟩;obtain⟨p,v',hp,rfl,rfl,JZ⟩:=hz;have:=JZ _ hL;rw[hv]at this;cases this;exact⟨cU hp _,HD.Ai al hp (.cons (.int _) (.cons Yh .nil))⟩
  |_=>cases e2
end
theorem Ut:bootBuiltins "zip"=some (.type "zip"):=⋯
section
variable {a b:Expr}{kk}
noncomputable def IU(x y:List D):List D:=List.zipWith (λa b=>.tuple [a,b]) x y
end
end L2
namespace L2
open PySem PySem.Spec PyProof.Rows
section
end
def cc(K0:ao):ao:=K0.filter λq=>(eC.lookup q.1).isNone
theorem lJ(b:Addr):∀K0:ao,(cc K0).lookup b=if(eC.lookup b).isNone=true then K0.lookup b else none
 |[]=>by simp[cc]
 |(c,o)::r=>by
   have ih:=lJ b r;unfold cc at ih ⊢;by_cases e:b=c;.grind
   .grind
structure jZ(K0:ao):Prop where
 one:∀p xs,(p,xs)∈eC->eC.lookup p=some xs
 tup:∀p xs,eC.lookup p=some xs->∃(od:Option Addr) (its:Array Value) (n:Nat) (sl:Array (Option Value)),K0.lookup p=some ⟨.type "tuple",od,.seq its n,sl⟩/\xs.length<=sizeLine/\bA xs its.toList
theorem jZ.look(C:jZ K0)(h:K0.lookup b=some o)(n:∀its n,o.data≠.seq its n):(cc K0).lookup b=some o:=by
 rw[lJ]
 cases q:eC.lookup b with
 |none=>exact h
 |some xs=>
   obtain⟨od,its,k,sl,e,_⟩:=C.tup b xs q;rw[h]at e;cases e;exact absurd rfl (n its k)
theorem jZ.func(C:jZ K0){st:Stmt}(F:uG K0 x qual st f fd):uG (cc K0) x qual st f fd:=by
 obtain⟨⟨oc,od,kV,doc,pm,an,de,ct,Oa,e1,e2,e3⟩,kp⟩:=F
 have Wa:=C.look e2 (λits n z=>by cases z)
 refine⟨⟨oc,od,kV,doc,pm,an,de,ct,Oa,e1,Wa,?_⟩,?_⟩
 .unfold PySem.W.codeIn at e3 ⊢;cases de with
  |ref c=>
    simp only at e3 ⊢;cases q:K0.lookup c with
    |none=>rw[q]at e3;exact absurd e3 ⇑11
    |some ob=>
      obtain⟨c1,c2,dt,c4⟩:=ob;rw[q]at e3;cases dt with
      |fields vs=>rw[C.look q (λits n z=>by cases z)];exact e3
      |_=>exact absurd e3 ⇑11
  |_=>exact e3
 .unfold PySem.W.keepIn;simp only[Wa]
def Hc(K0:ao):Hp:=λb=>match eC.lookup b with
 |some xs=>(K0.lookup b).map λob=>HO.xV ob (.tup xs)
 |none=>none
section
end
set_option tactic.hygienic true in
theorem OU(gi:cC)(ix:List Nat)(ge:bj):cb gi ix ge=di gi 1 ix (aN 0) (λ_=>some true) ge:=by
 funext δ
 unfold cb di
 cases gi δ with
 |none=>rfl
 |some ds=>
   rw[aad,aad];split;.induction ds with
    |nil=>rfl
    |cons d ds ih=>
      rename_i h;rw[Lb,qg,ih (by rw[aaz]at h;lia)];show _=Option.bind (Option.map some (ge (some d::eR ix δ))) _;cases ge (some d::eR ix δ)<;>rfl
   .rfl
section
variable {X:Cx}{O:List Nat}{gi:cC}{ix:List Nat}{ge:bj}
theorem PE.xS(h:PE X e (tN X.K O (di gi 1 ix (aN 0) (λ_=>some true) ge))):PE X e (tN X.K O (cb gi ix ge)):=by rw[OU];exact h
end
end L2
namespace L2
open PySem PySem.Spec PyProof.Rows PySem.Calls
set_option maxRecDepth 100000
section
end
section
end
end L2
namespace L2
open PySem PySem.Spec PyProof.Rows
noncomputable def s8(CX:Td)(P:Program)(w:World)(K:ao)(mg:eQ)(base:Heap)(N:List Str)(qual:Str)(scope:Scope)(f:Addr)(cd:Value)(cl:List (Str×Addr))(A:Around)(outer:List Env)(s:Shared)(H:Hp)(E:XK):Cx where
 prog:=P
 w:=w
 K:=K
 mg:=mg
 base:=base
 A:=A.deeper (PySem.W.envX qual scope s.heap.objs.size f cd cl)
 N:=N
 ip:=s
 HN:=H
 env:=PySem.W.envX qual scope s.heap.objs.size f cd cl
 outer:=outer
 stack:=PySem.W.envX qual scope s.heap.objs.size f cd cl::outer
 ex:=[]
 calm:=true
 fn:=λ_=>false
 pn:=[]
 xe:=λe s'=>wpAny (model P w) (A.deeper (PySem.W.envX qual scope s.heap.objs.size f cd cl)) (leaving (PySem.W.envX qual scope s.heap.objs.size f cd cl) e) (λ_ DM=>CX outer H s E e DM) (λe' DM=>CX outer H s E e' DM) s'
structure GH(ps fv:List Str)(sc:Scope)(cl:List (Str×Addr)):Prop where
 kind:sc.kind=.function
 co:sc.isCoroutine=false
 gen:sc.isGenerator=false
 kZ:∀y∈sc.names,y.2≠.cell
 nd:(ps++fv).Nodup
 par:∀x∈ps,sc.names.lookup x=some .local
 fr:∀x∈fv,sc.names.lookup x=some .free
 only:∀x,sc.names.lookup x=some .free->∃c,cl.lookup x=some c
 inj:∀x y c,cl.lookup x=some c->cl.lookup y=some c->x=y
theorem Cj:∀{l:List (Str×Value)},(l.map (·.1)).Nodup->(y,u)∈l->l.lookup y=some u
 |(z,w)::l,nd,h=>by
   rw[aaw,aeT]at nd;rcases aaj.mp h with e|e;.grind
   .have iw:(y==z)=false:=by
     cases q:y==z with
     |false=>rfl
     |true=>rw[<-eq_of_beq q]at nd;exact absurd (aaH.mpr ⟨_,e,rfl⟩) nd.1
    rw[aen,iw];exact Cj nd.2 e
theorem uv:∀(ps:List Str) (us:bZ),((ps.zip us).map (·.1)).Sublist ps
 |[],_=>by simp
 |p::ps,[]=>by simp
 |p::ps,u::us=>by rw[afP,aaw];exact(uv ps us).cons₂ p
theorem Ck{ps:List Str}{i:Nat}{u:Value}(nd:ps.Nodup)(h1:ps[i]?=some y)(h2:us[i]?=some u):(ps.zip us).reverse.lookup y=some u:=by
 refine Cj ?_ (List.mem_reverse.mpr ?_)
 .rw [List.map_reverse];refine List.pairwise_reverse.mpr (List.Pairwise.imp (λh=>acw h) ?_);exact nd.sublist (uv ps us)
 .exact aau (i:=i) (by rw[List.getElem?_zip_eq_some];exact⟨h1,h2⟩)
theorem Rf{w:World}{K:ao}{mg:eQ}{base:Heap}{k:Nat}{params:Arguments} 
  (hf:base.get? f=some (PySem.W.kla_obj name qual params body scope cl pm c' nN))(S:GH ps fv scope cl)(hcv:cvs.length=fv.length)
  (cells:∀(i:Nat) (x:Str) (v:V),fv[i]?=some x->cvs[i]?=some v->∃c u,cl.lookup x=some c/\base.IsCell c (some u)/\RelV v u)
  (LH:∀x c,cl.lookup x=some c->∃v,base.IsCell c v)
  (len:∀vs H Q E,sp vs H Q E->vs.length=ps.length)(code:∀vs H Q E,sp vs H Q E->H c'=some (.code qual))
  (gE:∀(A:Around) (outer:List Env) (s:Shared) (H:Hp) (vs:List V) (Q:VK) (E:XK),cW k ⇑38->sp vs H Q E->
   ∃t,PE (s8 lR P w K mg base (ps++fv) qual scope f (.ref c') cl A outer s H E) body t/\t ((vs++cvs).map some) H Q):
  jR P w K mg base lR (k+1) f (PySem.W.kla_fn name qual params body scope cl pm (.ref c') nN) ps sp:=by
 refine⟨len,λA outer s H args us vs Q E hr e0 hb r xQ=>?_⟩
 have hl:=len _ _ _ _ xQ
 have lim:=e0.mod.nolimit.keeps λb o e=>(e0.bs b o e).1
 have hcr:=e0.bU c' _ (code _ _ _ _ xQ)
 refine PySem.W.kla_callFunE hr.depth (e0.bs f _ hf).1 rfl S.co S.gen rfl hcr (hb _ _ _ _ ?_)
 refine afr S.kZ (λy hy=>S.par y.1 (aeU hy).1) (λh' ns sb=>?_) S.kind
 have kp:∀b o,s.heap.get? b=some o->h'.get? b=some o:=λb o e=>(sb.2 b (aay (aai e))).trans (aaa _ e)
 refine⟨lim.keeps kp,PySem.W.kla_codeExpr ?_⟩
 obtain⟨t,ht,hq⟩:=gE A outer s H vs Q E (hr.deeper _) xQ
 have I:Inv (s8 lR P w K mg base (ps++fv) qual scope f (.ref c') cl A outer s H E) [] ((vs++cvs).map some) H {s with heap:=h',toks:=s.toks+(ps.zip us).length}:=by
  have Ia:∀b:Addr,b∉(s8 lR P w K mg base (ps++fv) qual scope f (.ref c') cl A outer s H E).ex:=λb z=>absurd (show b∈([]:List Addr)from z) ⇑11;refine⟨⟨e0.mod,S.kind,rfl,rfl,aah _,S.inj,λy hy=>?_,λy c h=>(by cases h),λ_=>hr.hd,afp e0.frames,.inr ⟨rfl,rfl⟩,λb z=>absurd z (Ia b),e0.bs,e0.Kh,λb _ _=>Ia b,λb z=>absurd z (Ia b),e0.m9,e0.Nz⟩,
   rfl,e0.bare,Un.kept kp,⟨_,ns,λi y v h1 h2 h3=>?_⟩,λy c h=>?_,e0.bU.fresh (aah _),λy c h=>?_,λp hp=>absurd (show p∈([]:cz)from hp) ⇑11,e0.bU.kept kp,?_⟩
  .have hy:scope.names.lookup y=some .cell\/scope.names.lookup y=some .free:=hy;rcases hy with hy|hy;.exact absurd rfl (S.kZ _ (abv hy))
   .exact S.only y hy
  .have h1:(ps++fv)[i]?=some y:=h1;have ha:(vs++cvs)[i]?=some v:=by
    rw[aas]at h2;cases e:(vs++cvs)[i]? with
    |none=>rw[e]at h2;cases h2
    |some a=>rw[e]at h2;cases h2;rfl
   by_cases hi:i<ps.length
   .rw [acH hi]at h1;rw[acH ⇑2]at ha;obtain⟨u,hu,rv⟩:=r.get ha;exact⟨u,rv,.inl ⟨S.par y (aau h1),Ck (S.nd.sublist (List.sublist_append_left _ _)) h1 hu⟩⟩
   .rw [abI ⇑2]at h1;rw[abI ⇑2,hl]at ha;obtain⟨c,u,e1,⟨o,e2,e3⟩,rv⟩:=cells _ y v h1 ha;exact⟨u,rv,.inr ⟨.inr (S.fr y (aau h1)),c,e1,o,kp _ _ (e0.bs c o e2).1,e3⟩⟩
  .obtain ⟨v,o,e1,e2⟩:=LH y c h;exact⟨v,o,kp _ _ (e0.bs c o e1).1,e2⟩
  .obtain ⟨v,o,e1,e2⟩:=LH y c h;exact(e0.bs c o e1).2
  .show _=(ps++fv).length;rw[aac,aak,aak,hl,hcv]
 refine abu (ht [] _ ((vs++cvs).map some) H _ I hq) (λu s' hs=>?_) λe s' hs=>hs
 obtain⟨v,H',J,rv,q⟩:=hs
 exact⟨v,H',J.os,J.bare,J.base,J.bU,rv,q⟩
section
variable {X:Cx}{pins:cz}{σ:St}{H:Hp}{s:Shared}
def kD(X:Cx)(s:Shared)(H:Hp):Heap:=PySem.W.hideAll (xY s.heap H) (qY X.stack)
theorem LI(e:(kD X s H).get? b=some o):s.heap.get? b=some o/\H b=none:=Ga (PySem.W.of_hideAll _ e)
theorem fu(e:s.heap.get? b=some o)(n:H b=none)(f:b∉qY X.stack):(kD X s H).get? b=some o:=PySem.W.hideAll_get _ (q9 e n) f
theorem Inv.wide(I:⇑1)(e:X.base.get? b=some o):(kD X s H).get? b=some o:=
 fu (I.bs b o e).1 (I.bs b o e).2 λz=>by rw[(I.stack.mem z).1]at e;cases e
theorem Ns.widen{h h':Heap}(k:∀b o,h.get? b=some o->h'.get? b=some o)(n:h.Ns a m):h'.Ns a m:=let⟨o,es,ep,e,r⟩:=n;⟨o,es,ep,k _ _ e,r⟩
theorem Mod.widen{K:ao}(m:Mod K mg h)(k:∀b o,h.get? b=some o->h'.get? b=some o):Mod K mg h':=
 ⟨m.Kg.keeps k,Ns.widen k m.glob,let⟨mb,h1,h2⟩:=m.blt;⟨mb,Ns.widen k h1,h2⟩,m.nolimit.keeps k⟩
theorem zE{h base Rg:Heap}:∀{l:List Env},h.FunFrames base l->(∀b∈qY l,Rg.get? b=none)->h.FunFrames Rg l
 |[],_,_=>trivial
 |env::l,f,n=>by
   obtain⟨h1,⟨L,o,e1,e2,e3⟩,h3⟩:=f;have hL:L∈qY (env::l):=by unfold qY;rw[List.filterMap_cons,e1];exact List.mem_cons_self
   refine⟨h1,⟨L,o,e1,n L hL,e3⟩,zE h3 λ9=>n b ?_⟩;unfold qY at hb ⊢;rw[List.filterMap_cons,e1];exact aat _ hb
theorem Inv.Uu(I:⇑1):BQ X.prog X.w X.K X.mg (kD X s H) X.A X.stack s H:=
 ⟨I.ok.frames,I.ok.mod.widen λ_ _ e=>I.wide e,λ_ _ e=>LI e,by unfold kD;rw[PySem.W.hideAll_size,za];exact Nat.le_refl _,zE I.stack λ_ hb=>PySem.W.hideAll_none _ hb,I.zY,I.bU,I.bare⟩
end
theorem zF:∀(n:Nat) (l:bZ),l.length<=n->TriplesOk l->codeAmong p (l++m)=(codeAmong p l).or (codeAmong p m)
 |_,[],_,_=>by rw[ad7,show codeAmong p []=none from rfl];rfl
 |0,_::_,h,_=>by simp at h
 |n+1,x::l,h,ok=>by
   match x,l,ok with
   |.int a t,.int b u::c::r,ok=>
     show(if(a==p.line&&b==p.col)=true then some c else codeAmong p (r++m))=(if(a==p.line&&b==p.col)=true then some c else codeAmong p r).or _;split;.rfl
     .exact zF n r (by simp at h;lia) ok
theorem zG{pos y:Pos}(ht:TriplesOk l)(h:codeAmong y l=none\/∃c,codeAmong y l=some (.ref c)/\H c=some (.code q))(Cm:H c'=none):codeAmong y (l++[rawInt pos.line,rawInt pos.col,.ref c'])=none\/∃c,codeAmong y (l++[rawInt pos.line,rawInt pos.col,.ref c'])=some (.ref c)/\upd H c' (.code q) c=some (.code q):=by
 rw[zF _ l (aah _) ht]
 rcases h with h|⟨c,h1,h2⟩
 .obtain ⟨b,e⟩:∃b:Bool,codeAmong y [rawInt pos.line,rawInt pos.col,.ref c']=if b=true then some (.ref c')else none:=⟨_,rfl⟩;rw[h,e];cases b;.grind
  .exact .inr ⟨c',rfl,aL⟩
 .rw [h1];exact .inr ⟨c,rfl,by rw[av (aZ h2 Cm)];exact h2⟩
section
variable {X:Cx}{pins:cz}{σ:St}{H:Hp}{s:Shared}
theorem LJ{c P:Addr}(I:⇑1)(hd:defaultsOf params X.env=([],[]))
  (sX:∀y∈scope.names,y.2=.free->∃c,X.env.cells.lookup y.1=some c)(nO:X.env.code=.ref c)(hH:PySem.W.CodeHd s.heap c P){lp:List Pos}(hy:pos∈lp)(hP:H P=some (.lam lp q))(hq:X.env.qual++Str.ofString "<lambda>"=q)(hb:s.heap.BuiltinsAt X.mg P)(hPg:mainGlobals≠P)
  (h:∀(cl:List (Str×Addr)) (f c':Addr) (nN:Value) (s':Shared) (H':Hp),(∀n c,cl.lookup n=some c->X.env.cells.lookup n=some c)->(∀n,(n,NameKind.free)∈scope.names->∃c,cl.lookup n=some c)->Inv X pins σ H' s'->aG H H'->H' c'=some (.code q)->H' f=none->f∉qY X.stack->
   s'.heap.get? f=some (PySem.W.kla_obj (Str.ofString "<lambda>") q params body scope cl ⇑43 c' nN)->Q (.ref f) s'):
  wpAny ⇑3 X.A (eval (.Lambda params body scope pos) X.env) Q E s:=by
 subst hq
 refine PySem.W.kla_eval hd ?_
 obtain⟨cl,e1,h1,h2⟩:=lX sX
 obtain⟨ps,Ri,ht,hc⟩:=(show cP X.prog X.w H s.heap P (.lam lp _)from I.bU P _ hP)
 have GI:=Ns.widen I.bk I.ok.mod.glob
 have l7:∀f:Addr,s.heap.objs.size<=f->f∉qY X.stack:=λf hf z=>by
  obtain⟨_,o,e,_⟩:=I.stack.mem z;exact abF _ (aam (aai e) hf)
 rcases hc pos hy with hn|⟨c',NC,Xj⟩
 .refine PySem.W.kla_makeFunction e1 I.ok.glob GI nO hH Ri ht hn hPg hb λc' nN h' tk ext Uv hV Uw OV=>?_;have Cm:=I.bU.fresh Uv;have un:Un X.fs [] H (upd H c' (.code (X.env.qual++Str.ofString "<lambda>"))) s.heap h':=by
   have kp:∀b o,s.heap.get? b=some o->H b=none->h'.get? b=some o:=λb o e n=>ext b o (λz=>by rw[z,hP]at n;cases n) e;refine⟨λb o e n _ _=>kp b o e n,λb o e n _ _=>⟨o.slots,kp b o e n⟩,λb o e n _=>?_,λb o e _=>?_,λb xs e=>?_,λb o u e=>?_,λb ts e=>⟨#[],?_⟩⟩;.rw [av (aay (aam (aai e) Uv))];exact n
   .by_cases z:b=P;.grind
    .exact ⟨o,ext b o z e⟩
   .rw [av (aZ e Cm)];exact e
   .rw [av (aZ e Cm)];exact e
   .rw [av (aZ e Cm),e];simp
  have ok:pJ X.prog X.w (upd H c' (.code (X.env.qual++Str.ofString "<lambda>"))) h':=λa o e=>by
   by_cases ha:a=c';.subst ha;rw[aL]at e;cases e;exact Uw
   .rw [av ha]at e;by_cases OW:a=P;.subst OW;rw[hP]at e;cases e;exact⟨_,OV,by rw[acg];exact TriplesOk_snoc _ _ _ _ ht,λy hyy=>by
      rw[acg];exact zG ht (hc y hyy) Cm⟩
    .refine (I.bU a o e).vE (λb u YG q=>ext b u ?_ q) (λb q=>by rw[av (aZ q Cm)];exact q) λb xs q=>q.new Cm;rcases YG with z|z;.lia
     .grind
  have I1:=I.un (t':=tk) un ok;have hsz:=adN (abJ Uv hV);have I2:Inv X pins σ (upd H c' (.code (X.env.qual++Str.ofString "<lambda>"))) {s with heap:=h'.push (PySem.W.kla_obj (Str.ofString "<lambda>") (X.env.qual++Str.ofString "<lambda>") params body scope cl ⇑43 c' nN),toks:=tk}:=
   I1.kept (t':=tk) λb o e=>aaa _ e;exact h cl h'.objs.size c' nN _ _ h1 h2 I2 (λb o e=>by rw[av (aZ e Cm)];exact e) aL (ok.fresh (aah _)) (l7 _ hsz) (aae _ rfl)
 .refine PySem.W.kla_makeFunctionHit e1 I.ok.glob GI nO hH Ri ht NC hb λnN h' tk kp hsz=>?_;have I2:Inv X pins σ H {s with heap:=h'.push (PySem.W.kla_obj (Str.ofString "<lambda>") (X.env.qual++Str.ofString "<lambda>") params body scope cl ⇑43 c' nN),toks:=tk}:=
   I.kept (t':=tk) λb o e=>aaa _ (kp b o e);exact h cl h'.objs.size c' nN _ _ h1 h2 I2 (aG.refl H) Xj (I.bU.fresh hsz) (l7 _ hsz) (aae _ rfl)
end
noncomputable def j1(f c:Addr)(q:Str):D:=.dict [(.list [],.tuple [.int (f:Nat),.int (c:Nat),.str q])]
def spV(K:ao)(c:Addr)(q:Str)(n:Nat)(G:List D->Option D):Sp:=λvs H Q E=>H c=some (.code q)/\il K n G vs H Q E
structure YH(P:Program)(w:World)(K:ao)(mg:eQ)(base:Heap)(k:Nat)(f c:Addr)(q:Str)(n:Nat)(G:List D->Option D):Prop where
 fn:PySem.W.FnAt f base
 ok:∃fd ps,jR P w K mg base lR k f fd ps (spV K c q n G)/\Binds K fd ps []
section
variable {X:Cx}{O:List Nat}{i k kk n:Nat}{f c:Addr}{q x:Str}{e:Expr}{es:List Expr}{p pos:Pos}{t:TA}{sp:Sp}{fd:FuncData}{ps:List Str}{G:List D->Option D}{gr:cC}
def Ux(i:Nat)(f:Addr)(sp:Sp)(t:TA):TE:=λ7=>σ[i]?=some (some (.ref f))/\t σ H λvs H1=>sp (vs++[]) H1 Q E0
theorem Co(F:jR X.prog X.w X.K X.mg X.base lR k f fd ps sp)(hf:PySem.W.FnAt f X.base)(hr:cW k X.A)(hb:Binds X.K fd ps [])(ha:PA X (e::es) t)(hN:X.N[i]?=some x)(hv:VU X.env.scope x)(hd:⇑5)(vb:(x==("__classdict__":Str))=false)
  (he:starEach (e::es) X.env=⇑18::starEach es X.env)(iQ:⇑7):PE X ⇑20 (Ux i f sp t):=by
 intro 1
 obtain⟨h1,h2⟩:=h
 have fnAt:∀{s:Shared} {H:Hp} {σ:St},Inv X pins σ H s->PySem.W.FnAt f s.heap:=λ{s H σ} I=>let⟨oc,od,fd,sl,e⟩:=hf;⟨oc,od,fd,sl,I.bk _ _ e⟩
 refine abY (dq (DV hN hv hd vb pins s σ H (λv H'=>v=.ref f/\H'=H) I ⟨_,h1,rfl,rfl⟩) λu s1 ⟨v,H1,I1,r,e1,e2⟩=>?_)
 subst e1 e2
 cases(show u=Value.ref f from r)
 refine PySem.W.callWith_F (fnAt I1) (dq (ha pos pins s1 σ H1 _ I1 h2) λus s2 ⟨vs,H2,I2,r2,q2⟩=>⟨fnAt I2,?_⟩) he iQ
 exact Ec F hr hb .nil Gk I2 r2 q2
def tf(f c:Addr)(q:Str)(G:List D->Option D)(n i:Nat)(g:cC):bj:=λδ=>open Classical in if δ[i]?=some (some (j1 f c q))then(g δ).bind λds=>if ds.length=n then G ds else none else none
set_option tactic.hygienic true in
theorem LK(C:YH X.prog X.w X.K X.mg X.base k f c q n G)(hr:cW kk X.A)(hk:k<=kk)(ha:PA X (e::es) (BY X.K O gr))(hN:X.N[i]?=some x:=by rfl)(hv:Ii (X.env.scope.names.lookup x)=true:=by rfl)(hd:⇑5:=by decide)(vb:(x==("__classdict__":Str))=false:=by decide)
  (he:starEach (e::es) X.env=⇑18::starEach es X.env:=by rfl)(iQ:⇑7:=by rfl)(hi:i∉O:=by decide):PE X ⇑20 (tE X.K O (tf f c q G n i gr)):=by
 obtain⟨fd,ps,F,hb⟩:=C.ok
 refine(Co F C.fn (hr.mono hk) hb ha hN (Ef hv) hd vb he iQ).mono λσ H Q hh=>hh.e λU A0 δ d R ed q'=>?_
 unfold tf at ed
 split at ed
 .rename_i hs;obtain⟨ds,e1,e2⟩:=bind1 ed;split at e2
  .rename_i hn;obtain⟨v,ev,JZ⟩:=R.fz i _ hi hs;have key:v=.ref f/\H c=some (.code q):=by
    cases JZ with
    |fn hc=>exact⟨by simpa using rfl,cg _ _ hc⟩
    |@vg a bb kds h1 kk h3=>
      cases bb with
      |nil=>cases kk
      |cons p r=>simp at kk
   refine⟨by rw[ev,key.1],U,A0,δ,ds,R,e1,λvs H' s h=>?_⟩;show spV X.K c q n G (vs++[]) H' Q E0;rw[abr];exact⟨s _ _ key.2,by rw[h.len];exact hn,U++A0,ds,d,(R.same s).al,h,e2,λv H2 s2 h2=>q' v H2 (s.trans s2) h2⟩
  .grind
 .grind
end
def GJ(mg:eQ)(h:Heap):Prop:=∃bm ob,mg (Str.ofString "__builtins__")=some (.ref bm)/\bm≠builtinsNs/\h.get? bm=some ob/\ob.cls=.type "module"/\ob.dict=some builtinsNs/\ob.data=.plain
noncomputable def Uy:List Nat->DS->Option (List Int)
 |[],_=>some []
 |i::ix,δ=>(δ[i]?).bind λo=>o.bind λd=>match d with
   |.int n=>(Uy ix δ).bind λr=>some (n::r)
   |_=>none
set_option tactic.hygienic true in
theorem AA:∀{ix:List Nat} {δ:DS} {is:List Int},Uy ix δ=some is->is.length=ix.length/\∀(j i:Nat) (n:Int),ix[j]?=some i->is[j]?=some n->δ[i]?=some (some (.int n))
 |[],δ,is,h=>by cases h;exact⟨rfl,λj i n h=>by simp at h⟩
 |i::ix,δ,is,h=>by
   obtain⟨o,e1,h⟩:=bind1 h;obtain⟨d,e2,h⟩:=bind1 h;split at h
   .rename_i n;obtain⟨r,e3,e4⟩:=bind1 h;cases e4;obtain⟨h1,h2⟩:=AA e3;refine⟨by simp[h1],λj i' n' a b=>?_⟩;cases j with
    |zero=>simp at a b;subst a b;rw[e1,e2]
    |succ j=>exact h2 j i' n' (by simpa using a) (by simpa using b)
   .cases h
def LL(gb:bj)(is:List Int):List D->Option D:=λds=>gb ((ds++is.map PyData.int).map some)
def LM(g:Addr->Addr->Option D):Option D:=open Classical in if h:∃d,∀f c,g f c=some d then some h.choose else none
set_option tactic.hygienic true in
theorem Cp(h:LM g=some d)(f c:Addr):g f c=some d:=by
 unfold LM at h
 split at h
 .grind
 .cases h
theorem vo(h:∀f c,g f c=some d):LM g=some d:=by
 unfold LM
 rw[dif_pos ⟨d,h⟩]
 have:=(⟨d,h⟩:∃d,∀f c,g f c=some d).choose_spec 0 0
 rw[h 0 0]at this
 exact this.symm
abbrev GPT:=Addr->Addr->Str->(List D->Option D)->List D->Option D
def Wc(GP:GPT)(q:Str)(ix:List Nat)(gb:bj):bj:=λδ=>(Uy ix δ).bind λis=>LM λf c=>GP f c q (LL gb is) [j1 f c q]
theorem Rel.EH{K:ao}(al:Ls A H)(h:cY K (wo H A) vs ds):Rel K [] [] A (vs.map some) (ds.map some) H where
 len:=by rw[aac,aac,h.len]
 fz:=λi d _ e=>by
  rw[aas]at e;cases q:ds[i]? with
  |none=>rw[q]at e;cases e
  |some d'=>
    rw[q]at e;cases e;obtain⟨v,e1,e2⟩:=h.get q;exact⟨v,by rw[aas,e1];rfl,e2⟩
 ow:=λi d hi=>by simp at hi
 inj:=λi j d e l hi=>by simp at hi
 al:=al
structure IV(ps fv:List Str)(sc:Scope):Prop where
 kind:sc.kind=.function
 co:sc.isCoroutine=false
 gen:sc.isGenerator=false
 kZ:∀y∈sc.names,y.2≠.cell
 nd:(ps++fv).Nodup
 par:∀x∈ps,sc.names.lookup x=some .local
 fr:∀x∈fv,sc.names.lookup x=some .free
def Uz(P:Program)(w:World)(K:ao)(mg:eQ)(k kc n:Nat)(x p:Str)(GP:GPT):Prop:=
 (∃f0,mg x=some (.ref f0)/\PySem.W.keepIn K (.ref f0)=true)/\∀(base:Heap) (f c:Addr) (q:Str) (G:List D->Option D),K.In base->base.Ns mainGlobals mg->YH P w K mg base kc f c q n G->Dn P w K mg base k x [p] (il K 1 (GP f c q G))
section
variable {X:Cx}{pins:cz}{σ:St}{H:Hp}{s:Shared}
theorem UA{ix:List Nat}(I:⇑1)
  (hf:s.heap.get? f=some (PySem.W.kla_obj name qual params body scope cl pm c' nN))(hn:H f=none)(l7:f∉qY X.stack)(h1:⇑39)(h2:⇑29)
  (DU:∀x,X.fn x=true)(S:IV ps fv scope)(vk:ix.map (λi=>X.N[i]?)=fv.map some)(rD:∀x∈fv,X.env.scope.names.lookup x=some .cell)(AB:∀(j i:Nat) (n:Int),ix[j]?=some i->is[j]?=some n->σ[i]?=some (some (.int n)))(hlen:is.length=ix.length)
  (hb:∀us:bZ,us.length=ps.length->bindArgs (PySem.W.kla_fn name qual params body scope cl pm (.ref c') nN) ⟨us,[]⟩=pure (ps.zip us))
  (gE:∀(base:Heap) (A:Around) (outer:List Env) (s:Shared) (H:Hp) (E:XK),cW k ⇑38->PE (s8 lR X.prog X.w X.K X.mg base (ps++fv) qual scope f (.ref c') cl A outer s H E) body (tE X.K [] gb)):
  YH X.prog X.w X.K X.mg (kD X s H) (k+1) f c' qual ps.length (LL gb is):=by
 have YI:fv.length=ix.length:=by have:=congrArg List.length vk;simpa using this.symm
 have DR:∀{x:Str} {c:Addr},X.env.cells.lookup x=some c->c∉qY X.stack:=λ{x c} e z=>by
  rcases aaj.mp (I.lU c z)with y|y;.exact I.NA x c e y
  .obtain ⟨_,o,ho,_⟩:=I.ok.m9.mem y;exact abF _ (aam (aai ho) (I.ok.NY x c (DU x) e))
 have zH:∀{x:Str} {c:Addr} {v:Option Value},X.env.cells.lookup x=some c->s.heap.IsCell c v->(kD X s H).IsCell c v:=λ{x c v} e h=>by
  obtain⟨o,e1,d⟩:=h;exact⟨o,fu e1 (I.ji x c e) (DR e),d⟩
 refine⟨⟨_,_,_,_,fu hf hn l7⟩,_,ps,Rf (cvs:=is.map V.int) (fu hf hn l7) ⟨S.kind,S.co,S.gen,S.kZ,S.nd,S.par,S.fr,λ8=>h2 x (abv hx),λx y c a b=>I.ok.inj x y c (h1 _ _ a) (h1 _ _ b)⟩ (by rw[aac,hlen,YI]) (λj x v e1 e2=>?_) (λx c e=>?_) (λvs H Q E q=>q.2.1) (λvs H Q E q=>q.1) λA outer s' H' vs Q E hr xQ=>?_,Binds.all hb⟩
 .obtain ⟨c,hc⟩:=h2 x (abv (S.fr x (aau e1)));rw[aas]at e2;cases q:is[j]? with
  |none=>rw[q]at e2;cases e2
  |some n=>
    have hj:j<ix.length:=by rw[<-hlen];exact(aar.mp q).1
    have hi:=aal hj;have hN:X.N[ix[j]]?=some x:=by
     have:=abR (λl=>l[j]?) vk;simp only[aas,hi,e1]at this;simpa using this
    obtain⟨m,_,hl⟩:=I.loc;obtain⟨u,ru,lk⟩:=hl _ x _ hN (AB j _ n hi q) (.inr (.inl (rD x (aau e1))));rcases lk with⟨z,_⟩|⟨_,c0,e0,zc⟩
    .have:=rD x (aau e1);unfold Env.kindOf at z;rw[this]at z;cases z
    .grind
 .obtain ⟨v,hv⟩:=I.cell x c (h1 x c e);exact⟨v,zH (h1 x c e) hv⟩
 .obtain ⟨_,hl,A',ds,d,al,hd,e,q⟩:=xQ;exact⟨_,gE _ A outer s' H' E hr,[],A',(ds++is.map PyData.int).map some,d,Rel.EH al (hd.app (cY.ints is)),e,q⟩
end
section
variable {X:Cx}{O:List Nat}
theorem LN(sc:Scope)
  (DP:Uz X.prog X.w X.K X.mg k (kc+1) ps.length x pn GP)(hr:cW kk X.A)(hk:k<=kk)(hB:GJ X.mg X.base)(YJ:PySem.W.codeHdIn X.K c P=true)(hy:pos∈lp)(m:(P,lp,q)∈bS)(S:IV ps fv scope)
  (gE:∀(base:Heap) (f c':Addr) (cl:List (Str×Addr)) (A:Around) (outer:List Env) (s:Shared) (H:Hp) (E:XK),cW kc (A.deeper (PySem.W.envX q scope s.heap.objs.size f (.ref c') cl))->PE (s8 lR X.prog X.w X.K X.mg base (ps++fv) q scope f (.ref c') cl A outer s H E) body (tE X.K [] gb))
  (hb:∀(name qual:Str) (cl:List (Str×Addr)) (pm cd nN:Value) (us:bZ),us.length=ps.length->bindArgs (PySem.W.kla_fn name qual params body scope cl pm cd nN) ⟨us,[]⟩=pure (ps.zip us))
  (nO:X.env.code=.ref c:=by rfl)(hq:X.env.qual++Str.ofString "<lambda>"=q:=by rfl)(vk:ix.map (λi=>X.N[i]?)=fv.map some:=by rfl)(e0:X.env.scope=sc:=by rfl)(rD:∀x∈fv,sc.names.lookup x=some .cell:=by decide +kernel)(l7:∀y∈scope.names,y.2=.free->sc.names.lookup y.1=some .cell:=by decide +kernel)
  (DU:∀x,X.fn x=true:=by intro _;rfl)(hd:defaultsOf params X.env=([],[]):=by rfl)(hg:Gl X x:=by rfl)
  (pK:⇑5:=by decide)(he:starEach [.Lambda params body scope pos] X.env=(false,eval (.Lambda params body scope pos) X.env)::starEach [] X.env:=by rfl)(iQ:(backTo pos' (starEach [] X.env)).any (·.1)=false:=by rfl):
  PE X (.Call (.Name x p) [.Lambda params body scope pos] [] pos') (tE X.K O (Wc GP q ix gb)):=by
 subst e0
 intro pins s σ H Q I ⟨U,A0,δ,d,R,ed,q'⟩
 obtain⟨is,e1,e2⟩:=bind1 ed
 obtain⟨⟨f0,m0,kp⟩,DP⟩:=DP
 obtain⟨hl,AB⟩:=AA e1
 have hP:=R.al.2.2 P lp q m
 obtain⟨ps0,Ri,_⟩:=(show cP X.prog X.w H s.heap P (.lam lp q)from I.bU P _ hP)
 obtain⟨bm,ob,b1,b2,b3,b4,b5,b6⟩:=hB
 have GI:=Ns.widen I.bk I.ok.mod.glob
 have Rj:∀{a:Addr},(∀o es ep,s.heap.get? a=some o->o.data≠.dict es ep)->a≠mainGlobals:=λ{a} h z=>by
  subst z;obtain⟨o,es,ep,e,d,_⟩:=GI;exact h o es ep e d
 have YK:=I.bk _ _ b3
 refine abY (ky I hg m0 ?_ pK)
 refine aes (h₀:=X.base) I.ok.mod.Kg kp ?_ he iQ
 refine adX (LJ I hd (λy hy hf=>I.ok.has _ (.inl (l7 y hy hf))) nO (aeJ I.mV YJ) hy hP hq ⟨bm,ob,b1,b2,Rj λo es ep e z=>?_,λz=>?_,YK,b4,b5,b6⟩ (acw (Rj λo es ep e z=>?_)) λcl f c' nN s1 H1 h1 h2 I1 YL hc hf Wd ye=>aeu ⟨I1.mV,?_⟩)
 .grind
 .grind
 .grind
 .have C:=UA (k:=kc) (gb:=gb) (is:=is) I1 ye hf Wd h1 h2 DU S vk rD (λj i n a b=>by
   obtain⟨v,ev,hv⟩:=R.at (AB j i n a b);rw[ev,hv.int]) hl (hb _ _ _ _ _ _) λbase=>gE base f c' cl;obtain⟨f1,fd,F,m1,_,bi⟩:=DP (kD X s1 H1) f c' q _ (I1.ok.mod.widen λ_ _ e=>I1.wide e).Kg (I1.ok.mod.widen λ_ _ e=>I1.wide e).glob C;rw[m0]at m1;cases m1;have al:=R.al.same YL;have YM:c'∉U++A0:=λz=>by
   obtain⟨o,e,w⟩:=al.1 c' z;rw[hc]at e;cases e;exact w
  have sp:il X.K 1 (GP f c' q (LL gb is)) [V.ref f] H1 Q E0:=⟨rfl,U++A0,[j1 f c' q],d,al,.cons (.fn (by rw[bg YM];exact hc)) .nil,Cp e2 f c',λv H2 s2 h2=>q' v H2 (YL.trans s2) h2⟩;refine afi (adO (F.run X.A X.stack s1 H1 ⟨[.ref f],[]⟩ [.ref f] [V.ref f] Q E0 (hr.mono hk) I1.Uu (bi s1 [.ref f] I1.mV rfl) (.cons rfl .nil) sp) λr s' hq=>?_);cases r with
  |error e=>exact hq.elim
  |ok fl=>
    cases fl with
    |ret u=>exact I1.after hq
    |next=>exact False.elim hq
    |brk=>exact False.elim hq
    |cont=>exact False.elim hq
end
def DO(K:ao)(mg:eQ)(x:Str)(st:Stmt)(ps:List Str)(c:Addr):Prop:=∃f fd,uG K x x st f fd/\fd.code=.ref c/\mg x=some (.ref f)/\Binds K fd ps []
theorem rE{K:ao}{st:Stmt}(O:List Nat)(g:bo)(F:DO K mg x st ps c)(S:az N ps (ah st))
  (body:∀(f:Addr) (A:Around) (outer:List Env) (s:Shared) (H:Hp) (E:XK),cW k (A.deeper (envOfC x (ah st) s.heap.objs.size f (.ref c)))->iP (rb lR P w K mg base N x (ah st) f (.ref c) A outer s H E).BM (cf st) (tS K O (false,λ_ _=>True) g))
  (hO:∀i∈O,ps.length<=i:=by decide)(hN:N.length=n:=by rfl)(hP:ps.length=m:=by rfl):Dn P w K mg base (k+1) x ps (il K m (d9 n g)):=by
 subst hN hP
 obtain⟨f,fd,F,hc,m,b⟩:=F
 have kp:=F.kp
 obtain⟨oc,od,kV,doc,pm,an,de,ct,Oa,rfl,lk,vb⟩:=F.ex
 cases(show de=.ref c from hc)
 refine⟨f,_,QK lk vb S (λvs H Q E h=>h.1) λA outer s H vs Q E hr h=>⟨_,(body f A outer s H E hr).BM,?_⟩,m,kp,b⟩
 obtain⟨hn,A',ds,d,al,hd,e,q⟩:=h
 obtain⟨r,e1,e2⟩:=bind1 e
 refine⟨H,[],A',_,r,Rel.start al hd (λi hi=>by have:=hO i hi;rw[<-hd.len,hn];exact this),Fx.start al,e1,?_⟩
 cases r with
 |nx δ=>cases e2;exact λU σ H' R F'=>q .iu H' F'.same .iu
 |rt d=>cases e2;exact⟨λv H' h=>by unfold yj at h;rw[if_neg Bool.false_ne_true]at h;exact q v H' h.1 h.2,λ_ _ _ _=>trivial⟩
 |bk _=>cases e2
 |ct _=>cases e2
theorem UB{ts:List Addr}(h:(bS.all λt=>ts.contains t.1)=true)(m:(p,y,q)∈bS):p∈ts:=by grind
noncomputable def zJ(f c:Addr)(q:Str)(a:Addr)(ds:List D):D:=.dict [(.list [],.tuple [.int (f:Nat),.int (c:Nat),.str q,.int (a:Nat),.list ds])]
def spX(K:ao)(fd:D)(f:Addr)(n:Nat)(G:List D->Option D):Sp:=λvs H Q _=>vs.length=n/\∃A ds d,Ls A H/\HD K (wo H A) (.ref f) fd/\cY K (wo H A) vs ds/\G ds=some d/\∀v H',aG H H'->HD K (wo H' A) v d->Q v H'
structure OX(P:Program)(w:World)(K:ao)(mg:eQ)(base:Heap)(k:Nat)(fd:D)(n:Nat)(G:List D->Option D):Prop where
 ex:∃f,(∀(H:Hp) (v:V),HD K H v fd->v=.ref f)/\PySem.W.FnAt f base/\∃fdd ps,jR P w K mg base lR k f fdd ps (spX K fd f n G)/\Binds K fdd ps []
theorem wm{K:ao}(h:HD K H v (zJ f c q a ds)):v=.ref f/\H c=some (.code q)/\HD K H (.ref a) (.list ds):=by
 cases h with
 |XZ hc hl hd=>exact⟨by simpa using rfl,hc,.lst hl hd⟩
 |@vg a bb kds h1 kk h3=>
   cases bb with
   |nil=>cases kk
   |cons p r=>simp at kk
section
variable {X:Cx}{O:List Nat}{i k kk n:Nat}{x:Str}{e:Expr}{es:List Expr}{p pos:Pos}{G:List D->Option D}{gr:cC}{fd:D}
def tj(fd:D)(G:List D->Option D)(n i:Nat)(g:cC):bj:=λδ=>open Classical in if δ[i]?=some (some fd)then(g δ).bind λds=>if ds.length=n then G ds else none else none
set_option tactic.hygienic true in
theorem LP(C:OX X.prog X.w X.K X.mg X.base k fd n G)(hr:cW kk X.A)(hk:k<=kk)(ha:PA X (e::es) (BY X.K O gr))(hN:X.N[i]?=some x:=by rfl)(hv:Ii (X.env.scope.names.lookup x)=true:=by rfl)(hd:⇑5:=by decide)(vb:(x==("__classdict__":Str))=false:=by decide)
  (he:starEach (e::es) X.env=⇑18::starEach es X.env:=by rfl)(iQ:⇑7:=by rfl)(hi:i∉O:=by decide):PE X ⇑20 (tE X.K O (tj fd G n i gr)):=by
 obtain⟨f,hfd,fa,fdd,ps,F,hb⟩:=C.ex
 refine(Co F fa (hr.mono hk) hb ha hN (Ef hv) hd vb he iQ).mono λσ H Q hh=>hh.e λU A0 δ d R ed q'=>?_
 unfold tj at ed
 split at ed
 .rename_i hs;obtain⟨ds,e1,e2⟩:=bind1 ed;split at e2
  .rename_i hn;obtain⟨v,ev,JZ⟩:=R.fz i _ hi hs;cases hfd _ _ JZ;refine⟨ev,U,A0,δ,ds,R,e1,λvs H' s h=>?_⟩;show spX X.K fd f n G (vs++[]) H' Q E0;rw[abr];exact⟨by rw[h.len];exact hn,U++A0,ds,d,(R.same s).al,JZ.same (bR s),h,e2,λv H2 s2 h2=>q' v H2 (s.trans s2) h2⟩
  .grind
 .grind
end
def UC(P:Program)(w:World)(K:ao)(mg:eQ)(k kc n:Nat)(x:Str)(ps:List Str)(GP:D->(List D->Option D)->List D->Option D):Prop:=
 (∃f0,mg x=some (.ref f0)/\PySem.W.keepIn K (.ref f0)=true)/\∀(base:Heap) (fd:D) (G:List D->Option D),K.In base->base.Ns mainGlobals mg->OX P w K mg base kc fd n G->Dn P w K mg base k x ps (il K 2 (GP fd G))
def LQ(gb:bj)(ix:List Nat)(ds:List D):List D->Option D:=λxs=>gb ((xs++ix.map λ_=>PyData.list ds).map some)
def LR(g:Addr->Addr->Addr->Option D):Option D:=open Classical in if h:∃d,∀f c a,g f c a=some d then some h.choose else none
set_option tactic.hygienic true in
theorem LU(h:LR g=some d)(f c a:Addr):g f c a=some d:=by
 unfold LR at h
 split at h
 .grind
 .cases h
theorem OY(h:∀f c a,g f c a=some d):LR g=some d:=by
 unfold LR
 rw[dif_pos ⟨d,h⟩]
 have:=(⟨d,h⟩:∃d,∀f c a,g f c a=some d).choose_spec 0 0 0
 rw[h 0 0 0]at this
 exact this.symm
def UD(GP:D->(List D->Option D)->List D->Option D)(q:Str)(i:Nat)(ix:List Nat)(ga gb:bj):bj:=λδ=>(ga δ).bind λd1=>(δ[i]?).bind λo=>o.bind λd=>match d with
 |.list ds=>LR λf c a=>GP (zJ f c q a ds) (LQ gb ix ds) [d1,zJ f c q a ds]
 |_=>none
theorem cY.many{K:ao}(h:HD K H v d):∀ix:List Nat,cY K H (ix.map λ_=>v) (ix.map λ_=>d)
 |[]=>.nil
 |_::ix=>.cons h (cY.many h ix)
section
variable {X:Cx}{pins:cz}{σ:St}{H:Hp}{s:Shared}
theorem OZ(I:⇑1)
  (hf:s.heap.get? f=some (PySem.W.kla_obj name qual params body scope cl pm c' nN))(hn:H f=none)(l7:f∉qY X.stack)(h1:⇑39)(h2:⇑29)
  (DU:∀x,X.fn x=true)(S:IV ps fv scope)(vk:ix.map (λi=>X.N[i]?)=fv.map some)(rD:∀x∈fv,X.env.scope.names.lookup x=some .cell)(AB:∀i∈ix,σ[i]?=some (some (.ref a)))
  (hb:∀us:bZ,us.length=ps.length->bindArgs (PySem.W.kla_fn name qual params body scope cl pm (.ref c') nN) ⟨us,[]⟩=pure (ps.zip us))
  (gE:∀(base:Heap) (A:Around) (outer:List Env) (s:Shared) (H:Hp) (E:XK),cW k ⇑38->PE (s8 lR X.prog X.w X.K X.mg base (ps++fv) qual scope f (.ref c') cl A outer s H E) body (tE X.K [] gb)):
  OX X.prog X.w X.K X.mg (kD X s H) (k+1) (zJ f c' qual a ds) ps.length (LQ gb ix ds):=by
 have YI:fv.length=ix.length:=by have:=congrArg List.length vk;simpa using this.symm
 have DR:∀{x:Str} {c:Addr},X.env.cells.lookup x=some c->c∉qY X.stack:=λ{x c} e z=>by
  rcases aaj.mp (I.lU c z)with y|y;.exact I.NA x c e y
  .obtain ⟨_,o,ho,_⟩:=I.ok.m9.mem y;exact abF _ (aam (aai ho) (I.ok.NY x c (DU x) e))
 have zH:∀{x:Str} {c:Addr} {v:Option Value},X.env.cells.lookup x=some c->s.heap.IsCell c v->(kD X s H).IsCell c v:=λ{x c v} e h=>by
  obtain⟨o,e1,d⟩:=h;exact⟨o,fu e1 (I.ji x c e) (DR e),d⟩
 refine⟨f,λH v h=>(wm h).1,⟨_,_,_,_,fu hf hn l7⟩,_,ps,Rf (cvs:=ix.map λ_=>V.ref a) (fu hf hn l7) ⟨S.kind,S.co,S.gen,S.kZ,S.nd,S.par,S.fr,λ8=>h2 x (abv hx),λx y c a b=>I.ok.inj x y c (h1 _ _ a) (h1 _ _ b)⟩ (by rw[aac,YI]) (λj x v e1 e2=>?_) (λx c e=>?_) (λvs H Q E q=>q.1) (λvs H Q E q=>?_) λA outer s' H' vs Q E hr xQ=>?_,Binds.all hb⟩
 .obtain ⟨c,hc⟩:=h2 x (abv (S.fr x (aau e1)));rw[aas]at e2;cases q:ix[j]? with
  |none=>rw[q]at e2;cases e2
  |some i=>
    have hN:X.N[i]?=some x:=by
     have:=abR (λl=>l[j]?) vk;simp only[aas,q,e1]at this;simpa using this
    obtain⟨m,_,hl⟩:=I.loc;obtain⟨u,ru,lk⟩:=hl _ x _ hN (AB i (aau q)) (.inr (.inl (rD x (aau e1))));rcases lk with⟨z,_⟩|⟨_,c0,e0,zc⟩;.have:=rD x (aau e1);unfold Env.kindOf at z;rw[this]at z;cases z
    .grind
 .obtain ⟨v,hv⟩:=I.cell x c (h1 x c e);exact⟨v,zH (h1 x c e) hv⟩
 .obtain ⟨_,A',X0,d,al,hf',_⟩:=q;exact cg _ _ (wm hf').2.1
 .obtain ⟨hl,A',X0,d,al,hf',hd,e,q⟩:=xQ;exact⟨_,gE _ A outer s' H' E hr,[],A',(X0++ix.map λ_=>PyData.list ds).map some,d,Rel.EH al (hd.app (cY.many (wm hf').2.2 ix)),e,q⟩
end
section
variable {X:Cx}{O:List Nat}
set_option tactic.hygienic true in
theorem GK(sc:Scope)
  (DP:UC X.prog X.w X.K X.mg k (kc+1) ps.length x pn GP)(hr:cW kk X.A)(hk:k<=kk)(hB:GJ X.mg X.base)(YJ:PySem.W.codeHdIn X.K c P=true)(hy:pos∈lp)(m:(P,lp,q)∈bS)(S:IV ps fv scope)(h1:PE X e1 (tE X.K O ga))
  (gE:∀(base:Heap) (f c':Addr) (cl:List (Str×Addr)) (A:Around) (outer:List Env) (s:Shared) (H:Hp) (E:XK),cW kc (A.deeper (PySem.W.envX q scope s.heap.objs.size f (.ref c') cl))->PE (s8 lR X.prog X.w X.K X.mg base (ps++fv) q scope f (.ref c') cl A outer s H E) body (tE X.K [] gb))
  (hb:∀(name qual:Str) (cl:List (Str×Addr)) (pm cd nN:Value) (us:bZ),us.length=ps.length->bindArgs (PySem.W.kla_fn name qual params body scope cl pm cd nN) ⟨us,[]⟩=pure (ps.zip us))
  (hii:∀j∈ix,j=i:=by decide)(hiO:i∉O:=by decide)(nO:X.env.code=.ref c:=by rfl)(hq:X.env.qual++Str.ofString "<lambda>"=q:=by rfl)(vk:ix.map (λi=>X.N[i]?)=fv.map some:=by rfl)(e0:X.env.scope=sc:=by rfl)(rD:∀x∈fv,sc.names.lookup x=some .cell:=by decide +kernel)(l7:∀y∈scope.names,y.2=.free->sc.names.lookup y.1=some .cell:=by decide +kernel)
  (DU:∀x,X.fn x=true:=by intro _;rfl)(hd:defaultsOf params X.env=([],[]):=by rfl)(hg:Gl X x:=by rfl)
  (pK:⇑5:=by decide)(he:starEach [e1,.Lambda params body scope pos] X.env=(false,eval e1 X.env)::starEach [.Lambda params body scope pos] X.env:=by rfl)(Q0:starEach [.Lambda params body scope pos] X.env=(false,eval (.Lambda params body scope pos) X.env)::starEach [] X.env:=by rfl)(iQ:(backTo pos' (starEach [.Lambda params body scope pos] X.env)).any (·.1)=false:=by rfl):
  PE X (.Call (.Name x p) [e1,.Lambda params body scope pos] [] pos') (tE X.K O (UD GP q i ix ga gb)):=by
 subst e0
 intro pins s σ H Q I ⟨U,A0,δ,d,R,ed,q'⟩
 obtain⟨d1,ea,ed1⟩:=bind1 ed
 obtain⟨o,eo,YN⟩:=bind1 ed1
 obtain⟨dl,eo2,YO⟩:=bind1 YN
 subst eo2
 split at YO
 rotate_left
 .grind
 rename_i ds
 obtain⟨⟨f0,m0,kp⟩,DP⟩:=DP
 obtain⟨bm,ob,b1,b2,b3,b4,b5,b6⟩:=hB
 refine abY (ky I hg m0 ?_ pK)
 refine aes (h₀:=X.base) I.ok.mod.Kg kp ?_ he iQ
 rw[he]
 refine adX (dq (h1 pins s σ H _ I ⟨U,A0,δ,d1,R,ea,λv H' s hv=>(⟨s,hv⟩:aG H H'/\HD X.K (wo H' (U++A0)) v d1)⟩) λu1 s1 ⟨v1,H1,I1,r1,sa,YC⟩=>?_)
 have R1:=R.same sa
 have hP:=R1.al.2.2 P lp q m
 obtain⟨ps0,Ri,_⟩:=(show cP X.prog X.w H1 s1.heap P (.lam lp q)from I1.bU P _ hP)
 have GI:=Ns.widen I1.bk I1.ok.mod.glob
 have Rj:∀{a:Addr},(∀o es ep,s1.heap.get? a=some o->o.data≠.dict es ep)->a≠mainGlobals:=λ{a} h z=>by
  subst z;obtain⟨o,es,ep,e,d,_⟩:=GI;exact h o es ep e d
 have YK:=I1.bk _ _ b3
 obtain⟨vl,evl,hvl⟩:=R1.fz i _ hiO eo
 obtain⟨a,xs,rfl,hla,hda⟩:∃a xs,vl=.ref a/\BE X.K (wo H1 (U++A0)) a xs/\cY X.K (wo H1 (U++A0)) xs ds:=by
  cases hvl with
  |lst hl hd=>exact⟨_,_,rfl,hl,hd⟩
 refine adX (LJ I1 hd (λy hy hf=>I1.ok.has _ (.inl (l7 y hy hf))) nO (aeJ I1.mV YJ) hy hP hq ⟨bm,ob,b1,b2,Rj λo es ep e z=>?_,λz=>?_,YK,b4,b5,b6⟩ (acw (Rj λo es ep e z=>?_)) λcl f c' nN s2 H2 T4 T5 I2 s12 hc hf Wd ye=>aeu ⟨I2.mV,?_⟩)
 .grind
 .grind
 .grind
 .have C:=OZ (k:=kc) (gb:=gb) (ds:=ds) (a:=a) I2 ye hf Wd T4 T5 DU S vk rD (λj hj=>by rw[hii j hj];exact evl) (hb _ _ _ _ _ _) λbase=>gE base f c' cl;obtain⟨f1,fd,F,m1,_,bi⟩:=DP (kD X s2 H2) _ _ (I2.ok.mod.widen λ_ _ e=>I2.wide e).Kg (I2.ok.mod.widen λ_ _ e=>I2.wide e).glob C;rw[m0]at m1;cases m1;have al:=R1.al.same s12;have YM:c'∉U++A0:=λz=>by
   obtain⟨o,e,w⟩:=al.1 c' z;rw[hc]at e;cases e;exact w
  have sw:=bR (A:=U++A0) s12;have sp:il X.K 2 (GP (zJ f c' q a ds) (LQ gb ix ds)) [v1,V.ref f] H2 Q E0:=⟨rfl,U++A0,[d1,zJ f c' q a ds],d,al,.cons (YC.same sw) (.cons (.XZ (by rw[bg YM];exact hc) (hla.same sw) (hda.same sw)) .nil),LU YO f c' a,λv H3 s3 h3=>q' v H3 ((sa.trans s12).trans s3) h3⟩;refine afi (adO (F.run X.A X.stack s2 H2 ⟨[u1,.ref f],[]⟩ [u1,.ref f] [v1,V.ref f] Q E0 (hr.mono hk) I2.Uu (bi s2 [u1,.ref f] I2.mV (F.len _ _ _ _ sp).symm.symm) (.cons r1 (.cons rfl .nil)) sp) λr s' hq=>?_);cases r with
  |error e=>exact hq.elim
  |ok fl=>
    cases fl with
    |ret u=>exact I2.after hq
    |next=>exact False.elim hq
    |brk=>exact False.elim hq
    |cont=>exact False.elim hq
end
theorem UE{K:ao} 
  (hf:base.get? f=some (PySem.W.fnMade name qual params body scope cl doc pm c' nN))(S:GH ps fv scope cl)(hcv:cvs.length=fv.length)
  (cells:∀(i:Nat) (x:Str) (v:V),fv[i]?=some x->cvs[i]?=some v->∃c u,cl.lookup x=some c/\base.IsCell c (some u)/\RelV v u)
  (LH:∀x c,cl.lookup x=some c->∃v,base.IsCell c v)
  (len:∀vs H Q E,sp vs H Q E->vs.length=ps.length)(code:∀vs H Q E,sp vs H Q E->H c'=some (.code qual))
  (gE:∀(A:Around) (outer:List Env) (s:Shared) (H:Hp) (vs:List V) (Q:VK) (E:XK),cW k ⇑38->sp vs H Q E->
   ∃t,iP (s8 lR P w K mg base (ps++fv) qual scope f (.ref c') cl A outer s H E).BM body t/\t {nx:=λ_ H'=>Q .iu H',rt:=Q} ((vs++cvs).map some) H):
  jR P w K mg base lR (k+1) f (PySem.W.fnX name qual params body scope cl .none .none doc pm none (.ref c') nN) ps sp:=by
 refine⟨len,λA outer s H args us vs Q E hr e0 hb r xQ=>?_⟩
 have hl:=len _ _ _ _ xQ
 have lim:=e0.mod.nolimit.keeps λb o e=>(e0.bs b o e).1
 have hcr:=e0.bU c' _ (code _ _ _ _ xQ)
 refine codeAny_call_function hr.depth (e0.bs f _ hf).1 rfl S.co S.gen rfl hcr (hb _ _ _ _ ?_)
 refine afr S.kZ (λy hy=>S.par y.1 (aeU hy).1) (λh' ns sb=>?_) S.kind
 have kp:∀b o,s.heap.get? b=some o->h'.get? b=some o:=λb o e=>(sb.2 b (aay (aai e))).trans (aaa _ e)
 refine⟨lim.keeps kp,codeAny_func ?_⟩
 obtain⟨t,ht,hq⟩:=gE A outer s H vs Q E (hr.deeper _) xQ
 have I:Inv (s8 lR P w K mg base (ps++fv) qual scope f (.ref c') cl A outer s H E) [] ((vs++cvs).map some) H {s with heap:=h',toks:=s.toks+(ps.zip us).length}:=by
  have Ia:∀b:Addr,b∉(s8 lR P w K mg base (ps++fv) qual scope f (.ref c') cl A outer s H E).ex:=λb z=>absurd (show b∈([]:List Addr)from z) ⇑11;refine⟨⟨e0.mod,S.kind,rfl,rfl,aah _,S.inj,λy hy=>?_,λy c h=>(by cases h),λ_=>hr.hd,afp e0.frames,.inr ⟨rfl,rfl⟩,λb z=>absurd z (Ia b),e0.bs,e0.Kh,λb _ _=>Ia b,λb z=>absurd z (Ia b),e0.m9,e0.Nz⟩,
   rfl,e0.bare,Un.kept kp,⟨_,ns,λi y v h1 h2 h3=>?_⟩,λy c h=>?_,e0.bU.fresh (aah _),λy c h=>?_,λp hp=>absurd (show p∈([]:cz)from hp) ⇑11,e0.bU.kept kp,?_⟩
  .have hy:scope.names.lookup y=some .cell\/scope.names.lookup y=some .free:=hy;rcases hy with hy|hy;.exact absurd rfl (S.kZ _ (abv hy))
   .exact S.only y hy
  .have h1:(ps++fv)[i]?=some y:=h1;have ha:(vs++cvs)[i]?=some v:=by grind
   by_cases hi:i<ps.length
   .rw [acH hi]at h1;rw[acH ⇑2]at ha;obtain⟨u,hu,rv⟩:=r.get ha;exact⟨u,rv,.inl ⟨S.par y (aau h1),Ck (S.nd.sublist (List.sublist_append_left _ _)) h1 hu⟩⟩
   .rw [abI ⇑2]at h1;rw[abI ⇑2,hl]at ha;obtain⟨c,u,e1,⟨o,e2,e3⟩,rv⟩:=cells _ y v h1 ha;exact⟨u,rv,.inr ⟨.inr (S.fr y (aau h1)),c,e1,o,kp _ _ (e0.bs c o e2).1,e3⟩⟩
  .obtain ⟨v,o,e1,e2⟩:=LH y c h;exact⟨v,o,kp _ _ (e0.bs c o e1).1,e2⟩
  .obtain ⟨v,o,e1,e2⟩:=LH y c h;exact(e0.bs c o e1).2
  .show _=(ps++fv).length;rw[aac,aak,aak,hl,hcv]
 refine abu (ht.BM [] _ ((vs++cvs).map some) H _ I hq) (λfl s' hs=>?_) λe s' hs=>hs
 have fin:∀{ck:St} {H':Hp} {v:V} {u:Value},Inv (s8 lR P w K mg base (ps++fv) qual scope f (.ref c') cl A outer s H E) [] ck H' s'->RelV v u->Q v H'->CE outer P w H s Q u s':=
  λ{ck H' v u} J rv q=>⟨v,H',J.os,J.bare,J.base,J.bU,rv,q⟩
 cases fl with
 |ret u=>
   obtain⟨v,ck,H',J,rv,q⟩:=hs;exact fin J rv q
 |next=>
   obtain⟨ck,H',J,q⟩:=hs;exact fin (v:=V.iu) (u:=Value.none) J rfl q
 |brk=>
   obtain⟨ck,H',J,q⟩:=hs;exact q.elim
 |cont=>
   obtain⟨ck,H',J,q⟩:=hs;exact q.elim
def GL(g:bo):bj:=λδ=>(g δ).bind dW
section
variable {X:Cx}{pins:cz}{σ:St}{H:Hp}{s:Shared}{O:List Nat}
theorem UG(I:⇑1) 
  (sX:∀y∈scope.names,y.2=.free->∃c,X.env.cells.lookup y.1=some c)(nO:X.env.code=.ref c)(hH:PySem.W.CodeHd s.heap c P)(hy:pos∈lp)(hP:H P=some (.lam lp q))(hq:X.env.qual++nm=q)(hb:s.heap.BuiltinsAt X.mg P)(hPg:mainGlobals≠P)
  (h:∀(cl:List (Str×Addr)) (f c':Addr) (nN doc:Value) (s':Shared) (H':Hp),(∀n c,cl.lookup n=some c->X.env.cells.lookup n=some c)->(∀n,(n,NameKind.free)∈scope.names->∃c,cl.lookup n=some c)->Inv X pins σ H' s'->aG H H'->H' c'=some (.code q)->H' f=none->f∉qY X.stack->
   s'.heap.get? f=some (PySem.W.fnMade nm q params body scope cl doc ⇑43 c' nN)->Q (.ref f) s'):
  wpAny ⇑3 X.A (makeFunction nm q params (.stmts body) scope X.env [] [] [] pos pos.line) Q E s:=by
 subst hq
 obtain⟨cl,e1,h1,h2⟩:=lX sX
 obtain⟨ps,Ri,ht,hc⟩:=(show cP X.prog X.w H s.heap P (.lam lp _)from I.bU P _ hP)
 have GI:=Ns.widen I.bk I.ok.mod.glob
 have l7:∀f:Addr,s.heap.objs.size<=f->f∉qY X.stack:=λf hf z=>by
  obtain⟨_,o,e,_⟩:=I.stack.mem z;exact abF _ (aam (aai e) hf)
 rcases hc pos hy with hn|⟨c',NC,Xj⟩
 .refine PySem.W.makeFunction_K e1 I.ok.glob GI nO hH Ri ht hn hPg hb λc' nN doc h' tk ext Uv hV Uw OV=>?_;have Cm:=I.bU.fresh Uv;have un:Un X.fs [] H (upd H c' (.code (X.env.qual++nm))) s.heap h':=by
   have kp:∀b o,s.heap.get? b=some o->H b=none->h'.get? b=some o:=λb o e n=>ext b o (λz=>by rw[z,hP]at n;cases n) e;refine⟨λb o e n _ _=>kp b o e n,λb o e n _ _=>⟨o.slots,kp b o e n⟩,λb o e n _=>?_,λb o e _=>?_,λb xs e=>?_,λb o u e=>?_,λb ts e=>⟨#[],?_⟩⟩;.rw [av (aay (aam (aai e) Uv))];exact n
   .by_cases z:b=P;.rw [z];exact⟨_,OV⟩
    .exact ⟨o,ext b o z e⟩
   .rw [av (aZ e Cm)];exact e
   .rw [av (aZ e Cm)];exact e
   .rw [av (aZ e Cm),e];simp
  have ok:pJ X.prog X.w (upd H c' (.code (X.env.qual++nm))) h':=λa o e=>by
   by_cases ha:a=c';.subst ha;rw[aL]at e;cases e;exact Uw
   .rw [av ha]at e;by_cases OW:a=P
    .subst OW;rw[hP]at e;cases e;exact⟨_,OV,by rw[acg];exact TriplesOk_snoc _ _ _ _ ht,λy hyy=>by
      rw[acg];exact zG ht (hc y hyy) Cm⟩
    .refine (I.bU a o e).vE (λb u YG q=>ext b u ?_ q) (λb q=>by rw[av (aZ q Cm)];exact q) λb xs q=>q.new Cm;rcases YG with z|z;.grind
     .grind
  have I1:=I.un (t':=tk) un ok;have hsz:=adN (abJ Uv hV);have I2:Inv X pins σ (upd H c' (.code (X.env.qual++nm))) {s with heap:=h'.push (PySem.W.fnMade nm (X.env.qual++nm) params body scope cl doc ⇑43 c' nN),toks:=tk}:=
   I1.kept (t':=tk) λb o e=>aaa _ e;exact h cl h'.objs.size c' nN doc _ _ h1 h2 I2 (λb o e=>by rw[av (aZ e Cm)];exact e) aL (ok.fresh (aah _)) (l7 _ hsz) (aae _ rfl)
 .refine PySem.W.makeFunction_hit e1 I.ok.glob GI nO hH Ri ht NC hb λnN doc h' tk kp hsz=>?_;have I2:Inv X pins σ H {s with heap:=h'.push (PySem.W.fnMade nm (X.env.qual++nm) params body scope cl doc ⇑43 c' nN),toks:=tk}:=
   I.kept (t':=tk) λb o e=>aaa _ (kp b o e);exact h cl h'.objs.size c' nN doc _ _ h1 h2 I2 (aG.refl H) Xj (I.bU.fresh hsz) (l7 _ hsz) (aae _ rfl)
theorem O0{ix:List Nat}(I:⇑1)
  (hf:s.heap.get? f=some (PySem.W.fnMade name qual params body scope cl doc pm c' nN))(hn:H f=none)(l7:f∉qY X.stack)(h1:⇑39)(h2:⇑29)
  (DU:∀x,X.fn x=true)(S:IV ps fv scope)(vk:ix.map (λi=>X.N[i]?)=fv.map some)(rD:∀x∈fv,X.env.scope.names.lookup x=some .cell)(AB:∀(j i:Nat) (n:Int),ix[j]?=some i->is[j]?=some n->σ[i]?=some (some (.int n)))(hlen:is.length=ix.length)
  (hb:∀us:bZ,us.length=ps.length->bindArgs (PySem.W.fnX name qual params body scope cl .none .none doc pm none (.ref c') nN) ⟨us,[]⟩=pure (ps.zip us))
  (gE:∀(base:Heap) (A:Around) (outer:List Env) (s:Shared) (H:Hp) (E:XK),cW k ⇑38->iP (s8 lR X.prog X.w X.K X.mg base (ps++fv) qual scope f (.ref c') cl A outer s H E).BM body (tS X.K [] (false,λ_ _=>True) g)):
  YH X.prog X.w X.K X.mg (kD X s H) (k+1) f c' qual ps.length (LL (GL g) is):=by
 have YI:fv.length=ix.length:=by have:=congrArg List.length vk;simpa using this.symm
 have DR:∀{x:Str} {c:Addr},X.env.cells.lookup x=some c->c∉qY X.stack:=λ{x c} e z=>by
  rcases aaj.mp (I.lU c z)with y|y;.exact I.NA x c e y
  .obtain ⟨_,o,ho,_⟩:=I.ok.m9.mem y;exact abF _ (aam (aai ho) (I.ok.NY x c (DU x) e))
 have zH:∀{x:Str} {c:Addr} {v:Option Value},X.env.cells.lookup x=some c->s.heap.IsCell c v->(kD X s H).IsCell c v:=λ{x c v} e h=>by
  obtain⟨o,e1,d⟩:=h;exact⟨o,fu e1 (I.ji x c e) (DR e),d⟩
 refine⟨⟨_,_,_,_,fu hf hn l7⟩,_,ps,UE (cvs:=is.map V.int) (fu hf hn l7) ⟨S.kind,S.co,S.gen,S.kZ,S.nd,S.par,S.fr,λ8=>h2 x (abv hx),λx y c a b=>I.ok.inj x y c (h1 _ _ a) (h1 _ _ b)⟩ (by rw[aac,hlen,YI]) (λj x v e1 e2=>?_) (λx c e=>?_) (λvs H Q E q=>q.2.1) (λvs H Q E q=>q.1) λA outer s' H' vs Q E hr xQ=>?_,Binds.all hb⟩
 .obtain ⟨c,hc⟩:=h2 x (abv (S.fr x (aau e1)));rw[aas]at e2;cases q:is[j]? with
  |none=>rw[q]at e2;cases e2
  |some n=>
    rw[q]at e2;cases e2;have hj:j<ix.length:=by rw[<-hlen];exact(aar.mp q).1
    have hi:=aal hj;have hN:X.N[ix[j]]?=some x:=by
     have:=abR (λl=>l[j]?) vk;simp only[aas,hi,e1]at this;simpa using this
    obtain⟨m,_,hl⟩:=I.loc;obtain⟨u,ru,lk⟩:=hl _ x _ hN (AB j _ n hi q) (.inr (.inl (rD x (aau e1))));refine⟨c,u,hc,?_,ru⟩;rcases lk with⟨z,_⟩|⟨_,c0,e0,zc⟩;.have:=rD x (aau e1);unfold Env.kindOf at z;rw[this]at z;cases z
    .rw [h1 x c hc]at e0;cases e0;exact zH (h1 x c hc) zc
 .obtain ⟨v,hv⟩:=I.cell x c (h1 x c e);exact⟨v,zH (h1 x c e) hv⟩
 .obtain ⟨_,hl,A',ds,d,al,hd,e,q⟩:=xQ;obtain⟨r,e1,e2⟩:=bind1 e;refine⟨_,gE _ A outer s' H' E hr,H',[],A',(ds++is.map PyData.int).map some,r,Rel.EH al (hd.app (cY.ints is)),Fx.start al,e1,?_⟩;cases r with
  |nx δ=>cases e2;exact λU σ H' R F'=>q .iu H' F'.same .iu
  |rt d=>cases e2;exact⟨λv H' h=>by unfold yj at h;rw[if_neg Bool.false_ne_true]at h;exact q v H' h.1 h.2,λ_ _ _ _=>trivial⟩
  |bk _=>cases e2
  |ct _=>cases e2
theorem UH(sc:Scope)
  (DP:Uz X.prog X.w X.K X.mg k (kc+1) ps.length x pn GP)(hr:cW kk X.A)(hk:k<=kk)(hB:GJ X.mg X.base)(YJ:PySem.W.codeHdIn X.K c P=true)(hy:pos∈lp)(m:(P,lp,q)∈bS)(S:IV ps fv scope)
  (gE:∀(base:Heap) (f c':Addr) (cl:List (Str×Addr)) (A:Around) (outer:List Env) (s:Shared) (H:Hp) (E:XK),cW kc (A.deeper (PySem.W.envX q scope s.heap.objs.size f (.ref c') cl))->iP (s8 lR X.prog X.w X.K X.mg base (ps++fv) q scope f (.ref c') cl A outer s H E).BM body (tS X.K [] (false,λ_ _=>True) g))
  (hb:∀(name qual:Str) (cl:List (Str×Addr)) (doc pm cd nN:Value) (us:bZ),us.length=ps.length->bindArgs (PySem.W.fnX name qual params body scope cl .none .none doc pm none cd nN) ⟨us,[]⟩=pure (ps.zip us))(hN:X.N.Nodup)
  (nO:X.env.code=.ref c:=by rfl)(hq:X.env.qual++nm=q:=by rfl)(Em:qualnameIn X.env nm nm=q:=by rfl)(hiN:X.N[i]?=some nm:=by rfl)(NI:X.env.scope.names.lookup nm=some .local:=by rfl)(abX:∀j∈ix,j≠i:=by decide)(hd0:params.defaults=[]:=by rfl)(hk0:params.kw_defaults=[]:=by rfl)(ha0:annTrees params none X.env=[]:=by rfl)(vk:ix.map (λi=>X.N[i]?)=fv.map some:=by rfl)(e0:X.env.scope=sc:=by rfl)(rD:∀x∈fv,sc.names.lookup x=some .cell:=by decide +kernel)(l7:∀y∈scope.names,y.2=.free->sc.names.lookup y.1=some .cell:=by decide +kernel)
  (DU:∀x,X.fn x=true:=by intro _;rfl)(hg:Gl X x:=by rfl)
  (pK:⇑5:=by decide)(abZ:(nm==("__debug__":Str))=false:=by decide)(ab0:(nm==("__classdict__":Str))=false:=by decide)(he:starEach [.Name nm p2] X.env=(false,eval (.Name nm p2) X.env)::starEach [] X.env:=by rfl)(iQ:(backTo pos' (starEach [] X.env)).any (·.1)=false:=by rfl):
  iP X [.FunctionDef nm params body [] none [] scope none nm pos,.Return (some (.Call (.Name x p) [.Name nm p2] [] pos')) pr] (tS X.K O (false,xk) (bh (Wc GP q ix (GL g)))):=by
 subst e0
 intro pins s σ H D I ⟨H0,U,A0,δ,r,R,F0,ed,PP⟩
 obtain⟨d,YN,er⟩:=bind1 ed
 cases er
 obtain⟨is,e1,e2⟩:=bind1 YN
 obtain⟨⟨f0,m0,kp⟩,DP⟩:=DP
 obtain⟨hl,AB⟩:=AA e1
 have hP:=R.al.2.2 P lp q m
 obtain⟨ps0,Ri,_⟩:=(show cP X.prog X.w H s.heap P (.lam lp q)from I.bU P _ hP)
 obtain⟨bm,ob,b1,b2,b3,b4,b5,b6⟩:=hB
 have GI:=Ns.widen I.bk I.ok.mod.glob
 have Rj:∀{a:Addr},(∀o es ep,s.heap.get? a=some o->o.data≠.dict es ep)->a≠mainGlobals:=λ{a} h z=>by
  subst z;obtain⟨o,es,ep,e,d,_⟩:=GI;exact h o es ep e d
 have YK:=I.bk _ _ b3
 refine afg (PySem.W.nestDef_K hd0 hk0 ha0 ?_)
 rw[Em]
 refine UG I (λy hy hf=>I.ok.has _ (.inl (l7 y hy hf))) nO (aeJ I.mV YJ) hy hP hq ⟨bm,ob,b1,b2,Rj λo es ep e z=>?_,λz=>?_,YK,b4,b5,b6⟩ (acw (Rj λo es ep e z=>?_)) λcl f c' nN doc s1 H1 h1 h2 I1 YL hc hf Wd ye=>?_
 .grind
 .grind
 .grind
 .have I1p:Inv X ((f,PySem.W.fnMade nm q params body scope cl doc ⇑43 c' nN)::pins) σ H1 s1:=⟨I1.ok,I1.os,I1.bare,I1.base,I1.loc,I1.cell,I1.free,I1.ji,λy hy=>by
    rcases aap.mp hy with z|z;.exact I1.pin y (aax _ z)
    .rcases aaj.mp z with z|z
     .subst z;refine⟨ye,hf,λz=>?_,λz=>Wd ?_,λv z=>by cases z⟩;.obtain ⟨m',⟨o,es,ep,eo,dd,_⟩,_⟩:=I1.loc;rw[<-z,ye]at eo;cases eo;cases dd
      .rcases I1.ok.VW with w|⟨w,wf⟩;.simp_all
       .rw [w];unfold qY;rw[List.filterMap_cons,wf];exact List.mem_cons_of_mem _ z
     .exact I1.pin y (aaf _ z),I1.bU,I1.len⟩;refine vF (v:=.ref f) I1p hN hiN (.inl NI) rfl (λs2 I2p=>?_) (.inr NI);refine afg (wpAny_Return_some ?_);refine abY (ky I2p hg m0 ?_ pK);refine aes (h₀:=X.base) I2p.ok.mod.Kg kp ?_ he iQ;have hσ:i<σ.length:=by rw[I.len];exact(aar.mp hiN).1
  refine adX (dq (DV hiN (.inl NI) abZ ab0 _ s2 _ H1 (λv H'=>v=.ref f/\H'=H1) I2p ⟨_,abl hσ,rfl,rfl⟩) λu s3 ⟨v,H3,IW,rv,ev,eH⟩=>aeu ⟨IW.mV,?_⟩);subst ev eH;cases(show u=Value.ref f from rv);obtain⟨YQ,_,_,_,_⟩:=IW.pin _ (aaf _ aan);have I3:Inv X pins (σ.set i (some (.ref f))) H3 s3:=⟨IW.ok,IW.os,IW.bare,IW.base,IW.loc,IW.cell,IW.free,IW.ji,λy hy=>IW.pin y (by
   rcases aap.mp hy with z|z;.grind
   .exact aaf _ (aat _ z)),IW.bU,IW.len⟩;have C:=O0 (k:=kc) (g:=g) (is:=is) I3 YQ hf Wd h1 h2 DU S vk rD (λj i' n a b=>by
   obtain⟨v,ev,hv⟩:=R.at (AB j i' n a b);rw[aaT (acw (abX i' (aau a))),ev,hv.int]) hl (hb _ _ _ _ _ _ _) λbase=>gE base f c' cl;obtain⟨f1,fd,F,m1,_,bi⟩:=DP (kD X s3 H3) f c' q _ (I3.ok.mod.widen λ_ _ e=>I3.wide e).Kg (I3.ok.mod.widen λ_ _ e=>I3.wide e).glob C;rw[m0]at m1;cases m1;have al:=R.al.same YL;have YM:c'∉U++A0:=λz=>by
   obtain⟨o,e,w⟩:=al.1 c' z;rw[hc]at e;cases e;exact w
  have sp:il X.K 1 (GP f c' q (LL (GL g) is)) [V.ref f] H3 D.rt E0:=⟨rfl,U++A0,[j1 f c' q],d,al,.cons (.fn (by rw[bg YM];exact hc)) .nil,Cp e2 f c',λv H2 s2 h2=>PP.1 v H2 (by
   exact⟨F0.same.trans (YL.trans s2),h2.same (i9 λa ha=>aaf _ ha)⟩)⟩;refine afi (adO (F.run X.A X.stack s3 H3 ⟨[.ref f],[]⟩ [.ref f] [V.ref f] D.rt E0 (hr.mono hk) I3.Uu (bi s3 [.ref f] I3.mV rfl) (.cons rfl .nil) sp) λr s' hq=>?_);cases r with
  |error e=>exact hq.elim
  |ok fl=>
    cases fl with
    |ret u=>
      obtain⟨v,H',J,rv,qv⟩:=I3.after hq;exact⟨v,_,H',J,rv,qv⟩
    |next=>exact False.elim hq
    |brk=>exact False.elim hq
    |cont=>exact False.elim hq
end
section
end
section
end
theorem GN{β:Type}:∀{l:List (Addr×β)} {p:Addr} {x:β},l.lookup p=some x->(p,x)∈l
 |[],_,_,h=>by cases h
 |(q,y)::l,p,x,h=>by
   rw[aen]at h;by_cases e:p=q;.grind
   .rw [show(p==q)=false by simpa using e]at h;exact aat _ (GN h)
structure Cq(K:ao):Prop where
 one:∀p y q,(p,y,q)∈bS->bS.lookup p=some (y,q)
 out:∀p y q,(p,y,q)∈bS->K.lookup p=none/\∃c,PySem.W.codeHdIn K c p=true
def Hl:Hp:=λb=>(bS.lookup b).map λt=>HO.lam t.1 t.2
theorem O6(h:Hl b=some o):∃y q,o=.lam y q/\(b,y,q)∈bS:=by
 unfold Hl at h
 cases e:bS.lookup b with
 |none=>rw[e]at h;cases h
 |some t=>rw[e]at h;cases h;exact⟨t.1,t.2,rfl,GN e⟩
set_option tactic.hygienic true in
theorem wq{K:ao}(C:jZ K)(h:PySem.W.codeHdIn K c p=true):PySem.W.codeHdIn (cc K) c p=true:=by
 have e:(cc K).lookup c=K.lookup c:=by
  cases q:K.lookup c with
  |none=>rw[lJ,q];split<;>rfl
  |some o=>
    refine C.look q λits n z=>?_;unfold PySem.W.codeHdIn at h;split at h;.grind
    .cases h
 unfold PySem.W.codeHdIn at h ⊢
 rw[e];exact h
theorem IX{P:Program}{w:World}{K:ao}{mg mb:eQ}{k:Nat}{fa a:Addr}{fd:FuncData}{x:Str}{sp:Sp}{bV:Shared}{vs:bZ}{ns:List Int}(CC:jZ K)(C:Cq K)
  (KX:K.In bV.heap)(hT:∀p y q,(p,y,q)∈bS->bV.heap.get? p=some (PySem.W.tabObj #[]))(GI:bV.heap.Ns mainGlobals mg)(hb:bV.heap.Ns builtinsNs mb)(YG:∀x:Str,x≠"__name__"->mb x=bootBuiltins x)(ab2:bV.heap.NoLimit)(hbm:GJ mg bV.heap)(hg:bV.gens=#[])
  (ha:bV.heap.get? a=some {cls:=.type "list",data:=.seq vs.toArray})(hi:IntsAre vs ns)(hl:ns.length<=sizeLine)(hr:cW k callerA)
  (F:∀base:Heap,(cc K).In base->base.Ns mainGlobals mg->GJ mg base->jR P w (cc K) mg base lR k fa fd [x] sp)(YR:∀(s:Shared) (u:Value),BindsTo s fd ⟨[u],[]⟩ [(x,u)])
  (xQ:∀H:Hp,BE (cc K) H a (ns.map V.int)->(∀p xs,(p,xs)∈eC->fD H p xs)->(∀p y q,(p,y,q)∈bS->H p=some (.lam y q))->sp [.ref a] H (λv H'=>v=.bl true/\aG H H') λ_ _ _=>False):
  codeAny (model P w) callerA (.call (.ref fa) ⟨[.ref a],[]⟩) (λr s'=>r=.ok (.ret (.bool true))/\OldK bV.heap s'.heap/\s'.os=bV.os/\AllBare s'.gens) bV:=by
 have rv:=zk hi
 have ab3:=hi.length
 have tab:∀p y q,(p,y,q)∈bS->isCodeTable bV.heap p:=λp y q m=>by
  obtain⟨_,c,hc⟩:=C.out p y q m;obtain⟨o,vs,_,_,_,_,_,_,_,h1,h2,h3,h4,_⟩:=aeJ KX hc;exact⟨c,o,vs,h1,h2,h3,h4⟩
 have core:∀H:Hp,(∀b o,H b=some o->(∃ob u,o=.xV ob u/\∀es ep,ob.data≠.dict es ep/\ob.data≠.plain)\/∃y q,o=.lam y q/\(b,y,q)∈bS)->BE (cc K) H a (ns.map V.int)->pJ P w H bV.heap->(∀p xs,(p,xs)∈eC->fD H p xs)->(∀p y q,(p,y,q)∈bS->H p=some (.lam y q))->(∀b,H b≠none->(cc K).lookup b=none)->
   codeAny (model P w) callerA (.call (.ref fa) ⟨[.ref a],[]⟩) (λr s'=>r=.ok (.ret (.bool true))/\OldK bV.heap s'.heap/\s'.os=bV.os/\AllBare s'.gens) bV:=by
  intro H hO hS bU hCT hL hK;have dat:∀{b:Addr} {o:Obj} {u:HO},H b=some u->bV.heap.get? b=some o->(∀es ep,o.data≠.dict es ep)/\o.data≠.plain:=λ{b o u} e h=>by
   rcases hO b u e with⟨ob,z,rfl,hd⟩|⟨y,q,rfl,m⟩
   .obtain ⟨e1,_⟩:=bU b _ e;rw[h]at e1;cases e1;exact⟨λes ep=>(hd es ep).1,(hd #[] 0).2⟩
   .rw [hT b y q m]at h;cases h;exact⟨λes ep z=>(by cases z),λz=>(by cases z)⟩
  have Ia:∀{b:Addr} {o:Obj} {es:Array DictEntry} {ep:Nat},bV.heap.get? b=some o->o.data=.dict es ep->H b=none:=λ{b o es ep} e d=>by
   cases q:H b with
   |none=>rfl
   |some u=>exact absurd d ((dat q e).1 es ep)
  have nsK:∀{b:Addr} {m:eQ},bV.heap.Ns b m->(xY bV.heap H).Ns b m:=λ{b m} ⟨o,es,ep,e,d,r⟩=>⟨o,es,ep,q9 e (Ia e d),d,r⟩;have hKb:(cc K).In (xY bV.heap H):=λb o e=>by
   have e0:K.lookup b=some o:=by
    rw[lJ]at e;split at e;.exact e
    .cases e
   refine q9 (KX b o e0) ?_;cases q:H b with
   |none=>rfl
   |some u=>rw[hK b (by rw[q];simp)]at e;cases e
  have hBb:GJ mg (xY bV.heap H):=by
   obtain⟨bm,ob,b1,b2,b3,b4,b5,b6⟩:=hbm;refine⟨bm,ob,b1,b2,q9 b3 ?_,b4,b5,b6⟩;cases q:H bm with
   |none=>rfl
   |some u=>exact absurd b6 (dat q b3).2
  have hM:Mod (cc K) mg (xY bV.heap H):=⟨hKb,nsK GI,⟨mb,nsK hb,YG⟩,let⟨mc,h1,h2⟩:=ab2;⟨mc,nsK h1,h2⟩⟩;have e0:BQ P w (cc K) mg (xY bV.heap H) callerA [] bV H:=⟨rfl,hM,λb o e=>Ga e,Nat.le_of_eq (za _ _),trivial,λ9=>absurd (show b∈([]:List Addr)from hb) ⇑11,bU,.of_eq hg⟩;refine adO ((F _ hKb (nsK GI) hBb).run callerA [] bV H ⟨[.ref a],[]⟩ [.ref a] [.ref a] _ _ hr e0 (YR bV (.ref a)) (.cons rfl .nil) (xQ H hS hCT hL)) λr s' h=>?_;cases r with
  |error e=>exact h.elim
  |ok fl=>
    cases fl with
    |next=>exact False.elim h
    |brk=>exact False.elim h
    |cont=>exact False.elim h
    |ret u=>
      obtain⟨v,H',os,bare,un,YS,r',rfl,sm⟩:=h;obtain rfl:u=Value.bool true:=r';have was:∀b o,bV.heap.get? b=some o->asItWas bV.heap s'.heap b o:=λb o e=>by
       cases q:H b with
       |none=>exact .inl (un.keep b o e q (by intro z;exact absurd (show b∈([]:List Addr)from z) ⇑11) ⇑11)
       |some u=>
         rcases hO b u q with⟨ob,z,rfl,_⟩|⟨y,q',rfl,m⟩;.obtain ⟨e1,_⟩:=bU b _ q;obtain⟨e2,_⟩:=YS b _ (un.xX b ob _ q);rw[e]at e1;cases e1;exact .inl e2
         .rw [hT b y q' m]at e;cases e;obtain⟨ps,e2,_⟩:=(show cP P w H' s'.heap b (.lam y q')from YS b _ (sm _ _ q));exact .inr (.inl ⟨tab b y q' m,rfl,#[],ps,rfl,by rw[e2,Array.empty_append]⟩)
      exact⟨rfl,⟨was,λb o e=>un.there b o e ⇑11⟩,os,bare⟩
 have hlO:∀(H:Hp) b y q,(b,y,q)∈bS->cP P w H bV.heap b (.lam y q):=λH b y q m=>⟨#[],hT b y q m,trivial,λ_ _=>.inl rfl⟩
 have hc1:∀b,Hc K b=none\/∃ob xs od its n sl,Hc K b=some (.xV ob (.tup xs))/\eC.lookup b=some xs/\K.lookup b=some ob/\ob=⟨.type "tuple",od,.seq its n,sl⟩/\xs.length<=sizeLine/\bA xs its.toList:=by
  intro b;unfold Hc;cases q:eC.lookup b with
  |none=>exact .inl rfl
  |some xs=>
    obtain⟨od,its,n,sl,e,h1,h2⟩:=CC.tup b xs q;refine .inr ⟨_,xs,od,its,n,sl,?_,rfl,e,rfl,h1,h2⟩;show(K.lookup b).map _=_;rw[e];rfl
 have hcT:∀p xs,(p,xs)∈eC->∃ob,Hc K p=some (.xV ob (.tup xs)):=λp xs m=>by
  obtain⟨od,its,n,sl,e,_⟩:=CC.tup p xs (CC.one p xs m);refine⟨⟨.type "tuple",od,.seq its n,sl⟩,?_⟩;unfold Hc;rw[CC.one p xs m];show(K.lookup p).map _=_;rw[e];rfl
 have hlc:∀p y q,(p,y,q)∈bS->Hc K p=none:=λp y q m=>by
  rcases hc1 p with z|⟨_,_,_,_,_,_,_,_,z,_⟩;.exact z
  .rw [(C.out p y q m).1]at z;cases z
 have both:∀b o,(Hc K b).or (Hl b)=some o->(∃ob xs od its n sl,o=.xV ob (.tup xs)/\eC.lookup b=some xs/\K.lookup b=some ob/\ob=⟨.type "tuple",od,.seq its n,sl⟩/\xs.length<=sizeLine/\bA xs its.toList)\/∃y q,o=.lam y q/\(b,y,q)∈bS:=λb o z=>by
  rcases hc1 b with q|⟨ob,xs,od,its,n,sl,q,r⟩;.rw [q,Option.none_or]at z;exact .inr (O6 z)
  .rw [q,Option.some_or]at z;cases z;exact .inl ⟨ob,xs,od,its,n,sl,rfl,r⟩
 have bO:∀(H:Hp) b o,(Hc K b).or (Hl b)=some o->cP P w H bV.heap b o:=λH b o z=>by
  rcases both b o z with⟨ob,xs,od,its,n,sl,rfl,_,e,rfl,h1,h2⟩|⟨y,q,rfl,m⟩
  .have YT:=KX b _ e;exact⟨YT,h1,its.toList,h2,_,YT,rfl,n,by simp⟩
  .exact hlO H b y q m
 have bF:∀b o,(Hc K b).or (Hl b)=some o->(∃ob u,o=.xV ob u/\∀es ep,ob.data≠.dict es ep/\ob.data≠.plain)\/∃y q,o=.lam y q/\(b,y,q)∈bS:=λb o z=>by
  rcases both b o z with⟨ob,xs,od,its,n,sl,rfl,_,e,rfl,_⟩|h;.exact .inl ⟨_,_,rfl,λes ep=>⟨λy=>(by cases y),λy=>(by cases y)⟩⟩
  .exact .inr h
 have bK:∀b,(Hc K b).or (Hl b)≠none->(cc K).lookup b=none:=λb z=>by
  cases q:(Hc K b).or (Hl b)with
  |none=>exact absurd q z
  |some o=>
    rw[lJ];rcases both b o q with⟨ob,xs,od,its,n,sl,rfl,e0,_⟩|⟨y,q',rfl,m⟩;.rw [e0];rfl
    .rw [(C.out b y q' m).1];split<;>rfl
 have bT:∀p xs,(p,xs)∈eC->∃ob,(Hc K p).or (Hl p)=some (.xV ob (.tup xs)):=λp xs m=>by
  obtain⟨ob,e⟩:=hcT p xs m;exact⟨ob,by rw[e,Option.some_or]⟩
 have bL:∀p y q,(p,y,q)∈bS->(Hc K p).or (Hl p)=some (.lam y q):=λp y q m=>by
  rw[hlc p y q m,Option.none_or];unfold Hl;rw[C.one p y q m];rfl
 have hna:(Hc K a).or (Hl a)=none:=by
  cases q:(Hc K a).or (Hl a)with
  |none=>rfl
  |some o=>
    rcases both a o q with⟨ob,xs,od,its,n,sl,rfl,_,e,rfl,_⟩|⟨y,q',rfl,m⟩;.have:=KX a _ e;rw[ha]at this;have:=abR Obj.cls (abH this);exact absurd (ad3 this) ⇑0
    .have:=hT a y q' m;rw[ha]at this;cases this
 cases hk:(cc K).lookup a with
 |some o=>
   have e0:K.lookup a=some o:=by
    rw[lJ]at hk;split at hk;.exact hk
    .cases hk
   have e:=KX a o e0;rw[ha]at e;cases e;exact core (λb=>(Hc K b).or (Hl b)) bF (.inr ⟨vs,_,hk,by rw[ab3];exact hl,rv⟩) (λb u z=>bO _ b u z) (λp xs m=>.inr (bT p xs m)) bL bK
 |none=>
   refine core (λb=>if b=a then some (.xV {cls:=.type "list",data:=.seq vs.toArray} (.lst (ns.map V.int)))else(Hc K b).or (Hl b)) (λb o z=>?_) (.inl (.inr ⟨{cls:=.type "list",data:=.seq vs.toArray},aav rfl⟩)) (λb u z=>?_) (λp xs m=>?_) (λp y q m=>?_) λb z=>?_
   .by_cases hb:b=a
    .have z':=(aav hb).symm.trans z;cases z';exact .inl ⟨_,_,rfl,λes ep=>⟨λy=>(by cases y),λy=>(by cases y)⟩⟩
    .exact bF b o ((aaB hb).symm.trans z)
   .by_cases hb:b=a
    .have z':=(aav hb).symm.trans z;cases z';subst hb;exact⟨ha,by rw[aac];exact hl,vs,_,rv,ha⟩
    .exact bO _ b u ((aaB hb).symm.trans z)
   .obtain ⟨ob,q⟩:=bT p xs m;have hb:p≠a:=λe=>by rw[e,hna]at q;cases q
    exact .inr ⟨ob,(aaB hb).trans q⟩
   .have hb:p≠a:=λe=>by have:=bL p y q m;rw[e,hna]at this;cases this
    exact(aaB hb).trans (bL p y q m)
   .by_cases hb:b=a;.subst hb;exact hk
    .exact bK b λq=>z ((aaB hb).trans q)
theorem LV{l:PySem.W.OpenLaw}{K:Params->ao}{sp:World->Sp} 
  (hn:l.most=some n)(ZY:n<=sizeLine)(XT:d.params.defaults=[])(hr:cW k callerA)(hY:∀(w:World) (h:Heap),YP w h->(K w.params).In h/\∀p y q,(p,y,q)∈bS->h.get? p=some (PySem.W.tabObj #[]))
  (F:∀(w:World) (mg:eQ) (fa:Addr) (h:Heap),(K w.params).In h->h.Ns mainGlobals mg->mg d.name=some (.ref fa)->jZ (K w.params)/\Cq (K w.params)/\
   ∃fd:FuncData,(∀(s:Shared) (u:Value),BindsTo s fd ⟨[u],[]⟩ [(x,u)])/\∀base:Heap,(cc (K w.params)).In base->base.Ns mainGlobals mg->GJ mg base->jR l.prog w (cc (K w.params)) mg base lR k fa fd [x] (sp w))
  (xQ:∀(w:World) (H:Hp) (a:Addr) (ns:List Int),ns.length<=n->BE (cc (K w.params)) H a (ns.map V.int)->(∀p xs,(p,xs)∈eC->fD H p xs)->(∀p y q,(p,y,q)∈bS->H p=some (.lam y q))->sp w [.ref a] H (λv H'=>v=.bl true/\aG H H') λ_ _ _=>False):
  PySem.W.WalkO q loose XP YP l.row.toRowW d [] (λf vs=>PySem.call f vs):=by
 refine Att.BV hn XT λw ip bV mg mb fa o pm cd doc a vs ns G Y ho hd vb XU ye hints hlen hg=>?_
 obtain⟨KX,KT⟩:=hY w _ Y
 obtain⟨CC,C,fd,hb,hF⟩:=F w mg fa _ KX G.T.g XU
 exact IX CC C KX KT G.T.g G.T.b G.T.builtins G.T.nolimit G.T.bmain hg ye hints (aa6 hlen ZY) hr hF hb (λH hS hC hT=>xQ w H a ns hlen hS hC hT)
def Itx(x:Str):It:=⟨λi _=>i<x.cps.size,λi H v H'=>H'=H/\∃c,x.cps[i]?=some c/\v=.str ⟨#[c]⟩,λi _=>x.cps.size<=i⟩
theorem IY{K:ao}(x:Str)(t:Tok)(it:Addr):Turn P w K tg (Itx x) [it] it (λi h=>h.IsStrIter it "str_ascii_iterator" x t i) where
 mem:=by simp
 obj:=λi h st b hb=>by
  have e:b=it:=by simpa using hb
  subst e;obtain⟨o,e,c,d⟩:=st;exact⟨o,e,λv z=>by rw[d]at z;cases z⟩
 keep:=λi h h' st k=>by
  obtain⟨o,e,r⟩:=st;exact⟨o,k it ⇑11 o e,r⟩
 item:=by
  intro 0;obtain⟨c,hx⟩:∃c,x.cps[i]?=some c:=⟨x.cps[i]'hg,abW hg⟩;obtain⟨f0,f1,f2,f3,f4,f5⟩:=hf it ⇑11;refine wpAny_pyNext_ascii_item st hx λh' DL sb=>?_;have I1:=I.turned (t':=s.toks+1) (λb o hb e=>(sb.2 b hb).trans e) f0 f1 f3 f4 f5;obtain⟨o,e,c',d⟩:=id DL;exact⟨_,rfl,BN (s:={s with heap:=h',toks:=s.toks+1}) e c' d ⇑0 ⟨.str ⟨#[c]⟩,H,I1,⟨_,rfl⟩,⟨rfl,c,hx,rfl⟩,DL,λ9=>(hf b hb).1⟩⟩
 done:=by
  intro 0;obtain⟨f0,f1,f2,f3,f4,f5⟩:=hf it ⇑11;exact wpAny_pyNext_ascii_end (I.ok.hd hc) st (afa hg) λh' eb=>⟨rfl,I.turned (t':=s.toks) (λb o hb e=>eb b o hb e) f0 f1 f3 f4 f5⟩
 self:=λ_ _ _ _ _ st h=>wpAny_pyIter_striter_ascii st h
def ab4(tl:TE):TI:=λσ H R=>tl σ H λv H1=>∃x,v=.str x/\x.cps.all (·<128)=true/\R (Itx x) H1
noncomputable def nP(x:Str):List D:=x.cps.toList.map λc=>.str ⟨#[c]⟩
def md(g:bj):cC:=λδ=>(g δ).bind λ|.str x=>if x.cps.all (·<128)=true then some (nP x)else none|_=>none
section
variable {X:Cx}{O:List Nat}{tg e o y:Expr}{ge go:bj}{apos fE:Pos}
theorem O7(hl:PE X l tl):PI X tg l (ab4 tl):=by
 intro 9
 refine dq (hl pins s σ H _ I h) λv s1 ⟨x,H1,I1,r1,z,e,ha,q⟩=>?_
 subst e
 obtain⟨t,rfl⟩:=r1
 refine wpAny_pyIter_ascii ha ?_
 refine⟨s1.heap.objs.size,[s1.heap.objs.size],_,_,H1,rfl,I1.kept (t':=s1.toks) λb o e=>aaa _ e,IY z t _,⟨_,aae _ rfl,rfl,rfl⟩,λ9=>?_,q⟩
 have e:b=s1.heap.objs.size:=by simpa using hb
 subst e
 exact I1.sv (aah _) (I1.bU.fresh (aah _))
theorem HD.text{K:ao}(h:HD K H v (.str x)):v=.str x:=by cases h;rfl
theorem Cr(h:PE X e (tE X.K O ge)):PI X tg e (tI X.K O (md ge)):=(O7 h).mono λ4=>by
 obtain⟨x,e1,e2⟩:=bind1 ed
 cases x with
 |str x=>
   replace e2:(if x.cps.all (·<128)=true then some (nP x)else none)=some ds:=e2;by_cases ha:x.cps.all (·<128)=true
   .rw [aav ha]at e2;cases e2;refine⟨U,A0,δ,_,R,e1,λv H' s h=>⟨x,h.text,ha,q _ H' s ?_⟩⟩;intro A' i H2 s2 _;refine⟨λd hd=>?_,λhi=>?_⟩;.rw [nP,aas,Array.getElem?_toList]at hd;cases hc:x.cps[i]? with
     |none=>rw[hc]at hd;cases hd
     |some c=>
       rw[hc]at hd;cases hd;refine⟨(aeB.mp hc).1,λv H3 hy=>?_⟩;obtain⟨rfl,c',NC,rfl⟩:=hy;rw[hc]at NC;cases NC;exact⟨aG.refl _,.str _⟩
    .show x.cps.size<=i;rw[hi,nP,aac,aaD];exact aah _
   .grind
 |_=>cases e2
noncomputable def j2:List D->Option D
 |[.int i]=>if i.natAbs<1000000000 then some (.str (toString i:String))else none
 |_=>none
set_option tactic.hygienic true in
theorem iH{K:ao}:uH K (λxs H Q=>∃i:Int,xs=[.int i]/\i.natAbs.log2<1920/\Q (.str (toString i:String)) H) j2:=by
 intro 5
 unfold j2 at e
 split at e
 .rename_i i;split at e
  .rename_i hz;cases e;obtain⟨v,rfl,h1⟩:=Iw h;refine⟨i,by rw[h1.int],?_,q _ H (aG.refl H) (.str _)⟩;have:i.natAbs.log2<30:=by
    by_cases h0:i.natAbs=0;.simp_all
    .exact (Nat.log2_lt h0).mpr (Nat.lt_trans hz ⇑0)
   lia
  .cases e
 .cases e
noncomputable def GO:List D->Option D
 |[.str x]=>if x.length<=640 then(PySem.intText? x).map .int else none
 |_=>none
theorem zK:fH X (.type "int") (λxs H Q=>∃x n,xs=[.str x]/\x.length<=640/\PySem.intText? x=some n/\Q (.int n) H):=by
 intro 3
 obtain⟨x,n,rfl,hl,hn,q⟩:=h
 obtain⟨u,rfl,t,rfl⟩:=vals1 r
 exact PySem.W.KIN.call_text hn hl ⟨.int _,H,I.tok _,⟨_,rfl⟩,q⟩
theorem jk.text{K:ao}(h:jk K A H v (.str x)):v=.str x:=by
 rcases h with h|⟨l,o,rfl,e,q⟩
 .exact h.text
 .cases q
set_option tactic.hygienic true in
theorem Cs{K:ao}:uH K (λxs H Q=>∃x n,xs=[.str x]/\x.length<=640/\PySem.intText? x=some n/\Q (.int n) H) GO:=by
 intro 5
 unfold GO at e
 split at e
 .rename_i x;split at e
  .rename_i hz;obtain⟨n,hn,rfl⟩:=acu.mp e;obtain⟨v,rfl,h1⟩:=Iw h;exact⟨x,n,by rw[h1.text],hz,hn,q _ H (aG.refl H) (.int _)⟩
  .cases e
 .cases e
noncomputable def yt(b:Bool):D->D->Option D:=λx y=>match x,y with
 |.str i,.str j=>some (.bool ((!(Builtin.Str.occurrences j i 0 j.length 1).isEmpty)==b))
 |_,_=>none
set_option tactic.hygienic true in
theorem GQ{K:ao}:jo K (λx y H Q=>∃i j,x=.str i/\y=.str j/\Q (.bl (!(Builtin.Str.occurrences j i 0 j.length 1).isEmpty)) H) (yt true):=by
 intro 4
 unfold yt at e
 split at e
 .rename_i i j;cases e;refine⟨i,j,hx.text,hy.text,?_⟩;have:=q (.bl (!(Builtin.Str.occurrences j i 0 j.length 1).isEmpty)) H (aG.refl H) (by rw[beq_true];exact .bl _);exact this
 .cases e
noncomputable def tm:List D->Option (List Str)
 |[]=>some []
 |.str x::l=>(tm l).map (x::·)
 |_::_=>none
theorem wt:∀(xs:List Str),tm (xs.map .str)=some xs
 |[]=>rfl
 |n::ns=>by rw[aaw,tm,wt ns];rfl
theorem uw:∀{l:List D} {ns:List Str},tm l=some ns->l=ns.map .str
 |[],_,h=>by cases h;rfl
 |d::l,ns,h=>by
   cases d with
   |str x=>
     obtain⟨r,hr,rfl⟩:=acu.mp h;rw[aaw,uw hr]
   |_=>cases h
theorem cY.toTexts{K:ao}:∀{ns:List Str} {xs:List V},cY K H xs (ns.map .str)->xs=ns.map .str
 |[],_,h=>by rw[agj]at h;cases h;rfl
 |n::ns,_,h=>by
   cases h with
   |cons a t=>rw[a.text,cY.toTexts t];rfl
theorem wu:∀{ns:List Str} {us:bZ},bA (ns.map V.str) us->∃l:List (Str×Tok),us=strValues l/\l.map (·.1)=ns
 |[],_,r=>by rw[agj]at r;cases r;exact⟨[],rfl,rfl⟩
 |n::ns,_,r=>by
   cases r with
   |cons h t=>
     obtain⟨k,rfl⟩:=h;obtain⟨l,rfl,e⟩:=wu t;exact⟨(n,k)::l,rfl,by rw[aaw,e]⟩
def rJoin(K:ao):V->List V->Hp->VK->Prop:=λx vs H Q=>∃sep p ns,x=.str sep/\vs=[.ref p]/\lQ K H p (ns.map V.str)/\JoinOk sep ns=true/\Q (.str (Txt.join sep ns)) H
theorem O8:VY X "str.join" (rJoin X.K):=by
 intro 7
 obtain⟨sep,p,ns,rfl,rfl,hq,hj,q⟩:=h
 obtain⟨t,rfl⟩:=rx
 obtain⟨u,rfl,ru⟩:=vals1 rv
 cases ru
 obtain⟨its,r',pl,hz⟩:=I.list hq
 obtain⟨l,rfl,hl⟩:=wu r'
 exact SC.join pl.isList hl hj λt' k=>⟨.str _,H,I.tok _,⟨_,rfl⟩,q⟩
def jm(go ge:bj):bj:=λδ=>(go δ).bind λs=>(ge δ).bind λx=>match s,x with
 |.str sep,.list l=>(tm l).bind λns=>if JoinOk sep ns=true then some (.str (Txt.join sep ns))else none
 |_,_=>none
set_option tactic.hygienic true in
theorem kE(ho:PE X o (iy X.K O go))(he:PE X e (tE X.K O ge))(rh:attributeBase o "join" X.env (eval o X.env)=eval o X.env:=by rfl)
  (Ab:((backTo fE (starEach [e] X.env)).all (λx=> !x.1)&&(backToKw fE (keywordEach [] X.env)).all (λx=>x.1.isSome)&&decide ([e].length+([]:List Keyword).length+(if([]:List Keyword).isEmpty then 0 else 1)<30))=true:=by rfl)
  (rj:(apos.endLine==fE.line)=true:=by rfl)(hs:starEach [e] X.env=[⇑18]:=by rfl)(Ao:starEach ([]:List Expr) X.env=[]:=by rfl):
  PE X (.Call (.Attribute o "join" apos) [e] [] fE) (tE X.K O (jm go ge)):=
 (iR aet PySem.F.slot_str_join PySem.F.type_str_join O8 ho (bz he cX (by rw[hs,Ao])) rh Ab rj (by rw[hs,Ao]) (by rw[Ao];rfl)).mono λ0=>by
  obtain⟨s,e1,ed⟩:=bind1 ed;obtain⟨x,e2,ed⟩:=bind1 ed;cases s with
  |str sep=>
    cases x with
    |list l=>
      obtain⟨ns,e3,ed⟩:=bind1 ed;split at ed
      .rename_i hj;cases ed;refine⟨U,A0,δ,_,R,e1,λv H1 s1 h1=>?_⟩;rw[h1.text];refine⟨rfl,U,A0,δ,_,R.same s1,e2,λw H2 s2 h2=>?_⟩;cases h2 with
       |lst hq h=>
         rw[uw e3]at h;rw[h.toTexts]at hq;exact⟨sep,_,ns,rfl,rfl,(hq.same cg).sq,hj,q _ H2 (s1.trans s2) (.str _)⟩
      .grind
    |_=>cases ed
  |_=>cases ed
theorem IZ{x y:Str}(hy:(y.length==0)=false)(hsz:x.length<=sizeLine)
  (ab5:(Builtin.Str.partsBetween x (Builtin.Str.occurrences x y 0 x.length (x.length+1)) y.length).length<=sizeLine)
  (hq:∀(l:List (Str×Tok)) k,l.map (·.1)=Txt.split x y->Q ⇑25 {s with heap:=s.heap.push {cls:=.type "list",data:=.seq (strValues l).toArray},toks:=k}):
  wpAny (model M w) A (call (.builtin "str.split") [.str x t,.str y u]) Q E s:=by
 cases h1:(decide (x.length<y.length)||decide (Builtin.Str.strKind x<Builtin.Str.strKind y))
 .cases hf:(Builtin.Str.occurrences x y 0 x.length (x.length+1)).isEmpty
  .refine afF ad8 (afE _ _ _) ae3 (aeR _ _) (meets_str_split_sep x y t u h1 hy hf hsz ab5) ?_;rw[strsFrom_eq];exact hq (numbered s.toks _) _ ((numbered_texts _ _).trans ((aaB (afy h1)).trans (aaB (afy hf))).symm)
  .exact afF ad8 (afE _ _ _) ae3 (aeR _ _) (meets_str_split_not_found x y t u h1 hy hf) (hq [(x,t)] s.toks ((aaB (afy h1)).trans (aav hf)).symm)
 .exact afF ad8 (afE _ _ _) ae3 (aeR _ _) (meets_str_split_cannot_occur x y t u h1) (hq [(x,t)] s.toks (aav h1).symm)
theorem qh:∀(l:List (Str×Tok)),bA ((l.map (·.1)).map V.str) (strValues l)
 |[]=>.nil
 |p::l=>.cons ⟨p.2,rfl⟩ (qh l)
def UI:V->List V->Hp->VK->Prop:=λx vs H Q=>∃a b,x=.str a/\vs=[.str b]/\(b.length==0)=false/\a.length<=sizeLine/\
 (Builtin.Str.partsBetween a (Builtin.Str.occurrences a b 0 a.length (a.length+1)) b.length).length<=sizeLine/\(Txt.split a b).length<=sizeLine/\∀p,H p=none->Q (.ref p) (upd H p (.lst ((Txt.split a b).map V.str)))
theorem LW:VY X "str.split" UI:=by
 intro 7
 obtain⟨a,b,rfl,rfl,hy,hz,hz2,hz3,q⟩:=h
 obtain⟨t,rfl⟩:=rx
 obtain⟨u,rfl,t',rfl⟩:=vals1 rv
 refine IZ hy hz hz2 λl k hl=>?_
 have J:=I.laid (t':=k) (o:=.lst ((Txt.split a b).map V.str)) (h':=s.heap.push {cls:=.type "list",data:=.seq (strValues l).toArray}) (a:=s.heap.objs.size) (λ_ _ z=>aaa _ z) (aah _)
  ⟨by rw[aac];exact hz3,strValues l,0,by rw[<-hl];exact qh l,aae _ rfl⟩
 exact⟨.ref _,_,J,rfl,q _ (I.bU.fresh (aah _))⟩
noncomputable def me(a b:Str):Bool:=(b.length==0)==false&&decide (a.length<=100000)&&decide ((Builtin.Str.partsBetween a (Builtin.Str.occurrences a b 0 a.length (a.length+1)) b.length).length<=100000)&&decide ((Txt.split a b).length<=100000)
def jc(go ge:bj):cC:=λδ=>(go δ).bind λs=>(ge δ).bind λx=>match s,x with
 |.str a,.str b=>if me a b=true then some ((Txt.split a b).map .str)else none
 |_,_=>none
theorem cY.texts{K:ao}:∀(ns:List Str),cY K H (ns.map V.str) (ns.map .str)
 |[]=>.nil
 |n::ns=>.cons (.str n) (cY.texts ns)
theorem wx(ho:PE X o (iy X.K O go))(he:PE X e (iy X.K O ge))(rh:attributeBase o "split" X.env (eval o X.env)=eval o X.env:=by rfl)
  (Ab:((backTo fE (starEach [e] X.env)).all (λx=> !x.1)&&(backToKw fE (keywordEach [] X.env)).all (λx=>x.1.isSome)&&decide ([e].length+([]:List Keyword).length+(if([]:List Keyword).isEmpty then 0 else 1)<30))=true:=by rfl)
  (rj:(apos.endLine==fE.line)=true:=by rfl)(hs:starEach [e] X.env=[⇑18]:=by rfl)(Ao:starEach ([]:List Expr) X.env=[]:=by rfl):
  PE X (.Call (.Attribute o "split" apos) [e] [] fE) (tN X.K O (jc go ge)):=
 (iR aet ad8 PySem.F.type_str_split LW ho (bz he cX (by rw[hs,Ao])) rh Ab rj (by rw[hs,Ao]) (by rw[Ao];rfl)).mono λ0=>by
  obtain⟨s,e1,ed⟩:=bind1 ed;obtain⟨x,e2,ed⟩:=bind1 ed;cases s with
  |str a=>
    cases x with
    |str b=>
      replace ed:(if me a b=true then some ((Txt.split a b).map PyData.str)else none)=some d:=ed;by_cases bU:me a b=true
      .rw [aav bU]at ed;cases ed;unfold me at bU;simp at bU;obtain⟨⟨⟨k1,k2⟩,k3⟩,k4⟩:=bU;refine⟨U,A0,δ,_,R,e1,λv H1 s1 h1=>?_⟩;rw[h1.text];refine⟨rfl,U,A0,δ,_,R.same s1,e2,λw H2 s2 h2=>?_⟩;rw[h2.text];refine⟨a,b,rfl,rfl,by simpa using k1,Nat.le_of_lt (nA k2),Nat.le_of_lt (nA k3),Nat.le_of_lt (nA k4),λp hp=>?_⟩;exact q p _ _ ((s1.trans s2).trans (cU hp _)) ((s1.trans s2).free hp) aL (cY.texts _)
      .grind
    |_=>cases ed
  |_=>cases ed
end
section
variable {X:Cx}{O:List Nat}{e:Expr}{ga:bj}{lo hi:Option Expr}{gl gh:DS->Option (Option Int)}{pos p2:Pos}
theorem part_of(h:IsPart v i):∃l:Option (Int×Tok),v=partValue l/\l.map (·.1)=i:=by
 cases h with
 |none=>exact⟨none,rfl,rfl⟩
 |int i t=>exact⟨some (i,t),rfl,rfl⟩
def ab6:V->Option Int->Option Int->Hp->VK->Prop:=λx lo hi H Q=>∃a,x=.str a/\a.length<=sizeLine/\Q (.str (Txt.slice a lo hi)) H
theorem UJ:SlR X ab6:=by
 intro pins s σ H x v vl vu lo hi sl Q I rx hs pl pu h
 obtain⟨a,rfl,hz,q⟩:=h
 obtain⟨t,rfl⟩:=rx
 obtain⟨l,rfl,rfl⟩:=part_of pl
 obtain⟨u,rfl,rfl⟩:=part_of pu
 obtain⟨ob,h1,h2,h3⟩:=hs
 exact⟨"str",_,PySem.F.slot_str_getitem.lookup,afE _ _ _,wpAny_getItem_str_slice (l:=l) (u:=u) (st:=none) ⟨ob,h1,h2,h3⟩ rfl (post_val_or_str ⟨aa6 (Txt.slice_le a _ _) hz,λt' k=>⟨.str _,H,I.tok k,⟨t',rfl⟩,q⟩⟩)⟩
noncomputable def EI(a:bj)(lo hi:DS->Option (Option Int)):bj:=λδ=>(a δ).bind λx=>(lo δ).bind λl=>(hi δ).bind λh=>match x with
 |.str z=>if z.length<=100000 then some (.str (Txt.slice z l h))else none
 |_=>none
set_option tactic.hygienic true in
theorem LX(ha:PE X e (iy X.K O ga))(hl:PO X lo (Q2 X.K O gl))(hh:PO X hi (Q2 X.K O gh)):PE X (.Subscript e (.Slice lo hi none p2) pos) (tE X.K O (EI ga gl gh)):=(BS UJ ha hl hh).mono λ0=>by
 obtain⟨x,e1,e2⟩:=bind1 ed
 obtain⟨l,e3,e4⟩:=bind1 e2
 obtain⟨h,e5,e6⟩:=bind1 e4
 cases x with
 |str z=>
   simp only at e6;split at e6
   .rename_i hz;cases e6;refine⟨U,A0,δ,_,R,e1,λv H1 s1 h1=>⟨U,A0,δ,l,R.same s1,e3,λH2 s2=>⟨U,A0,δ,h,R.same (s1.trans s2),e5,λH3 s3=>?_⟩⟩⟩;exact⟨z,h1.str,adN (nA hz),q _ H3 ((s1.trans s2).trans s3) (.str _)⟩
   .grind
 |_=>cases e6
end
end L2
namespace L2
open PySem PySem.Spec PySem.W PyProof.Rows
section
variable {X:Cx}{O:List Nat}{o e:Expr}{go ge:bj}{fE apos:Pos}
def O9:V->List V->Hp->VK->Prop:=λx vs H Q=>∃a b,x=.str a/\vs=[.str b]/\Q (.bl (Txt.startswith a b)) H
theorem Ja:VY X "str.startswith" O9:=by
 intro 7
 obtain⟨a,b,rfl,rfl,q⟩:=h
 obtain⟨t,rfl⟩:=rx
 obtain⟨u,rfl,t',rfl⟩:=vals1 rv
 exact SC.startswith ⟨.bl _,H,I,rfl,q⟩
noncomputable def AD(go ge:bj):bj:=λδ=>(go δ).bind λs=>(ge δ).bind λx=>match s,x with
 |.str a,.str b=>some (.bool (Txt.startswith a b))
 |_,_=>none
theorem Jb(ho:PE X o (iy X.K O go))(he:PE X e (iy X.K O ge))(rh:attributeBase o "startswith" X.env (eval o X.env)=eval o X.env:=by rfl)
  (Ab:((backTo fE (starEach [e] X.env)).all (λx=> !x.1)&&(backToKw fE (keywordEach [] X.env)).all (λx=>x.1.isSome)&&decide ([e].length+([]:List Keyword).length+(if([]:List Keyword).isEmpty then 0 else 1)<30))=true:=by rfl)
  (rj:(apos.endLine==fE.line)=true:=by rfl)(hs:starEach [e] X.env=[⇑18]:=by rfl)(Ao:starEach ([]:List Expr) X.env=[]:=by rfl):
  PE X (.Call (.Attribute o "startswith" apos) [e] [] fE) (tE X.K O (AD go ge)):=
 (iR aet PySem.F.slot_str_startswith PySem.F.type_str_startswith Ja ho (bz he cX (by rw[hs,Ao])) rh Ab rj (by rw[hs,Ao]) (by rw[Ao];rfl)).mono<|by
  rintro σ H Q ⟨U,A0,δ,d,R,ed,q⟩;obtain⟨s,e1,ed⟩:=bind1 ed;obtain⟨x,e2,ed⟩:=bind1 ed;cases s with
  |str a=>
    cases x with
    |str b=>
      cases ed;refine⟨U,A0,δ,_,R,e1,λv H1 s1 h1=>⟨by rw[h1.str];rfl,U,A0,δ,_,R.same s1,e2,λv2 H2 s2 h2=>?_⟩⟩;rw[h1.str,h2.str];exact⟨a,b,rfl,rfl,q _ H2 (s1.trans s2) (.bl _)⟩
    |_=>cases ed
  |_=>cases ed
end
end L2
namespace L2
open PySem PySem.Spec PyProof.Rows
section
end
end L2
namespace L2
open PySem PySem.Spec PySem.W PyProof.Rows
section
end
end L2
namespace L2
open PySem
end L2
namespace L2
open PySem PySem.Spec PySem.W PyProof.Rows
section
end
section
end
section
end
end L2
namespace L2
open PySem PySem.Spec PySem.W PyProof.Rows PySem.Builtin PySem.Builtin.ObjectAttr PySem.Builtin.Getset_descriptor
section
end
end L2
namespace L2
open PySem PySem.Spec PySem.W PyProof.Rows
section
end
section
end
section
end
section
end
section
end
section
end
section
end
section
end
section
end
section
end
section
end
theorem Jc:swapsWith (.List es p) t l env=pure false:=rfl
noncomputable def GR:List Expr->Option (List Str)
 |[]=>some []
 |.Constant (.str n) _ _::es=>(GR es).map (n::·)
 |_=>none
def Rk(ns:List Str):cC:=λ_=>some (ns.map .str)
set_option tactic.hygienic true in
theorem Ct:∀{es:List Expr} {ns:List Str},GR es=some ns->PA X es (BY X.K O (Rk ns))
 |[],ns,h=>by
   cases h;exact ai
 |e::es,ns,h=>by
   unfold GR at h;split at h;.grind
   .rename_i n k p BJ he;cases he;cases q:GR es with
    |none=>rw[q]at h;cases h
    |some ms=>
      rw[q]at h;cases h;exact af (aK aM) (Ct q) rfl
   .cases h
section
end
section
end
end L2
namespace L2
open PySem PySem.Spec PyProof.Rows
structure xT(S:Type) where
 P:PySem.W.Frag->Hp->Hp->List Addr->S->Prop
 own:∀{K H Hw B s},P K H Hw B s->∀x∈B,∃o,H x=some o/\yg o
 mono:∀{K H H' Hw EJ B s},P K H Hw B s->(∀x∈B,H' x=H x)->aG Hw EJ->P K H' EJ B s
def fi(cl:List Addr)(H H':Hp):Prop:=∀b o,b∉cl->H b=some o->H' b=some o
theorem fi.of(s:aG H H'):fi cl H H':=λb o _ h=>s b o h
theorem fi.trans(s:fi cl H H')(t:fi cl H' H2):fi cl H H2:=λb o n h=>t b o n (s b o n h)
theorem Cu(h:∀x,x∈A↔x∈B):wo H A=wo H B:=by
 funext x
 by_cases q:x∈A
 .rw [fQ q,fQ ((h x).mp q)]
 .rw [bg q,bg λz=>q ((h x).mpr z)]
section
variable {S:Type}{K:ao}{O:List Nat}{Γ:xT S}{B U U1 A0:List Addr}{σ BC:St}{δ fg:DS}{H H' H0 H1:Hp}{s:S}
structure ee(K:ao)(O:List Nat)(Γ:xT S)(B U A0:List Addr)(σ:St)(δ:DS)(H:Hp)(s:S):Prop where
 r:Rel K O U (B++A0) σ δ H
 p:Γ.P K H (wo H (U++(B++A0))) B s
 dj:∀x∈U,x∉B
 da:∀x∈A0,x∉B
structure pM(H0:Hp)(A0 U B:List Addr)(H:Hp):Prop where
 same:aG H0 H
 new:∀a∈U,H0 a=none
 uJ:∀a∈B,H0 a=none
 old:Ls A0 H0
theorem xT.at(p:Γ.P K H (wo H U) B s)(e:aG H H'):∀x∈B,H' x=H x:=λ8=>by
 obtain⟨o,h,_⟩:=Γ.own p x hx
 rw[h,e x o h]
theorem ee.same(R:ee K O Γ B U A0 σ δ H s)(e:aG H H'):ee K O Γ B U A0 σ δ H' s:=⟨R.r.same e,Γ.mono R.p (xT.at R.p e) (bR e),R.dj,R.da⟩
theorem pM.grow(F:pM H0 A0 U B H)(e:fi B H H'):pM H0 A0 U B H':=⟨λb o h=>e b o (λz=>by rw[F.uJ b z]at h;cases h) (F.same b o h),F.new,F.uJ,F.old⟩
theorem pM.GS(F:pM H0 A0 U B H)(e:fi B H H')(n:∀x∈B',x∈B\/H x=none):pM H0 A0 U B' H':=⟨(F.grow e).same,F.new,λ8=>(n x hx).elim (F.uJ x) λz=>F.same.free z,F.old⟩
theorem LY(h:Ls (U++B) H)(n:∀x∈B,x∉U):Ls B (wo H U):=by
 refine⟨λ8=>?_,λp xs m=>?_,λp y q m=>?_⟩
 rotate_left 2
 .have t:=h.2.2 p y q m;rw[bg λz=>?_];.exact t
  .obtain ⟨o,e,w⟩:=h.1 p (aax _ z);rw[t]at e;cases e;exact w
 .obtain ⟨o,e,w⟩:=h.1 x (aaf _ hx);exact⟨o,by rw[bg (n x hx)];exact e,w⟩
 .have t:=h.2.1 p xs m;refine t.wo λz=>?_;obtain⟨o,e,w⟩:=h.1 p (aax _ z);exact t.apart e w rfl
theorem ee.fx(R:ee K O Γ B U A0 σ δ H s)(F:pM H0 A0 U B H):Fx (wo H U) (B++A0) U H:=⟨cg,λ_ h=>fQ h,LY R.r.al λx hx hu=>by
 rcases aap.mp hx with z|z
 .exact R.dj x hu z
 .obtain ⟨o,e,_⟩:=F.old.1 x z;rw[F.new x hu]at e;cases e⟩
theorem ee.keep(R:ee K O Γ B U A0 σ δ H s)(F1:Fx (wo H U) (B++A0) U1 H1):(∀x∈B,H1 x=H x)/\aG (wo H (U++(B++A0))) (wo H1 (U1++(B++A0)))/\∀x∈U1,x∉B:=by
 have c:∀x∈B,∃o,H x=some o/\wo H U x=some o:=λ8=>by
  obtain⟨o,e,_⟩:=Γ.own R.p x hx;exact⟨o,e,by rw[bg λz=>R.dj x z hx];exact e⟩
 refine⟨λ8=>?_,λb o hb=>?_,λx hx hc=>?_⟩
 .obtain ⟨o,e,e'⟩:=c x hx;rw[F1.same x o e',e]
 .have nb:b∉U++(B++A0):=λz=>by rw[fQ z]at hb;cases hb
  rw[bg nb]at hb;have h1:wo H U b=some o:=by rw[bg λz=>nb (aax _ z)];exact hb
  rw[bg λz=>?_];.exact F1.same b o h1
  .rcases aap.mp z with y|y;.rw [F1.new b y]at h1;cases h1
   .grind
 .obtain ⟨o,_,e'⟩:=c x hc;rw[F1.new x hx]at e';cases e'
theorem ee.up(R:ee K O Γ B U A0 σ δ H s)(F:pM H0 A0 U B H)(R1:Rel K O U1 (B++A0) BC fg H1)(F1:Fx (wo H U) (B++A0) U1 H1):ee K O Γ B U1 A0 BC fg H1 s/\pM H0 A0 U1 B H1:=by
 obtain⟨k1,k2,k3⟩:=R.keep F1
 refine⟨⟨R1,Γ.mono R.p k1 k2,k3,R.da⟩,⟨λb o h=>?_,λ8=>?_,F.uJ,F.old⟩⟩
 .refine F1.same b o ?_;rw[bg λz=>by rw[F.new b z]at h;cases h];exact F.same b o h
 .by_cases z:x∈U;.exact F.new x z
  .have:=F1.new x hx;rw[bg z]at this;exact F.same.free this
end
section
variable {S:Type}
def YU(K:ao)(O:List Nat)(Γ:xT S)(xk:Str->Hp->Prop)(H0:Hp)(A0:List Addr)(E:Ends)(s:S):Res->Prop
 |.nx δ=>∀B U σ H,ee K O Γ B U A0 σ δ H s->pM H0 A0 U B H->E.nx σ H
 |.bk δ=>∀B U σ H,ee K O Γ B U A0 σ δ H s->pM H0 A0 U B H->E.bk σ H
 |.ct δ=>∀B U σ H,ee K O Γ B U A0 σ δ H s->pM H0 A0 U B H->E.ct σ H
 |.rt d=>(∀B v H,aG H0 H->(∀x∈B,H0 x=none)->Γ.P K H (wo H (B++A0)) B s->HD K (wo H (B++A0)) v d->E.rt v H)/\∀B c H,d=rxD c->aG H0 H->(∀x∈B,H0 x=none)->Γ.P K H (wo H (B++A0)) B s->xk c H
abbrev GD(S:Type):=DS->S->Option (Res×S)
def tq(K:ao)(O:List Nat)(Γ:xT S)(xk:Str->Hp->Prop)(g:GD S):TS:=λE σ H=>∃H0 B U A0 δ s r s',ee K O Γ B U A0 σ δ H s/\pM H0 A0 U B H/\g δ s=some (r,s')/\YU K O Γ xk H0 A0 E s' r
noncomputable def nQ(g:bo):GD S:=λδ s=>(g δ).bind λr=>some (r,s)
variable {X:Cx}{O:List Nat}{Γ:xT S}{xk:Str->Hp->Prop}{st:Stmt}{rest a b:List Stmt}{c e:Expr}{pos:Pos}
theorem gI(h:PS X st (tS X.K O (false,xk) g)):PS X st (tq X.K O Γ xk (nQ g)):=h.mono λE σ H ⟨H0,B,U,A0,δ,s,r,s',R,F,ed,P⟩=>by
 obtain⟨r',e1,e2⟩:=bind1 ed
 cases e2
 refine⟨wo H U,U,B++A0,δ,r,R.r,R.fx F,e1,?_⟩
 cases r with
 |nx δ'=>exact λU1 BC H1 R1 F1=>P B U1 BC H1 (R.up F R1 F1).1 (R.up F R1 F1).2
 |bk δ'=>exact λU1 BC H1 R1 F1=>P B U1 BC H1 (R.up F R1 F1).1 (R.up F R1 F1).2
 |ct δ'=>exact λU1 BC H1 R1 F1=>P B U1 BC H1 (R.up F R1 F1).1 (R.up F R1 F1).2
 |rt d=>
   have G:∀H1,aG (wo H U) H1->aG H0 H1/\Γ.P X.K H1 (wo H1 (B++A0)) B s:=λH1 e=>by
    have F1:Fx (wo H U) (B++A0) [] H1:=⟨e,λ_ z=>(nomatch z),(R.fx F).old⟩;obtain⟨k1,k2,_⟩:=R.keep F1;refine⟨λb o h=>e b o ?_,Γ.mono R.p k1 k2⟩;rw[bg λz=>by rw[F.new b z]at h;cases h];exact F.same b o h
   refine⟨λv H1 h=>?_,λc H1 hd e=>P.2 B c H1 hd (G H1 e).1 F.uJ (G H1 e).2⟩;exact P.1 B v H1 (G H1 h.1).1 F.uJ (G H1 h.1).2 h.2
noncomputable def e9(f g:GD S):GD S:=λδ s=>(f δ s).bind λr=>match r.1 with|.nx δ'=>g δ' r.2|_=>some r
theorem cS(h1:PS X st (tq X.K O Γ xk f))(h2:iP X rest (tq X.K O Γ xk g)):iP X (st::rest) (tq X.K O Γ xk (e9 f g)):=(lE h1 h2).mono λE σ H ⟨H0,B,U,A0,δ,s,r,s',R,F,ed,P⟩=>by
 obtain⟨⟨r1,s1⟩,e1,e2⟩:=bind1 ed
 cases r1 with
 |nx δ'=>exact⟨H0,B,U,A0,δ,s,.nx δ',s1,R,F,e1,λB' U' ck H' R' F'=>⟨H0,B',U',A0,δ',s1,r,s',R',F',e2,P⟩⟩
 |rt d=>cases e2;exact⟨H0,B,U,A0,δ,s,_,_,R,F,e1,P⟩
 |bk d=>cases e2;exact⟨H0,B,U,A0,δ,s,_,_,R,F,e1,P⟩
 |ct d=>cases e2;exact⟨H0,B,U,A0,δ,s,_,_,R,F,e1,P⟩
theorem et(h1:PS X st (tq X.K O Γ xk f)):iP X [st] (tq X.K O Γ xk f):=zZ h1
def j3:GD S:=λδ s=>some (.nx δ,s)
theorem iI:iP X [] (tq X.K O Γ xk j3):=Gb.mono λE σ H ⟨H0,B,U,A0,δ,s,r,s',R,F,ed,P⟩=>by cases ed;exact P B U σ H R F
def NJ(K:ao)(O:List Nat)(Γ:xT S)(g:DS->S->Option (Bool×S)):TT:=λ7=>∃B U A0 δ s b s',ee K O Γ B U A0 σ δ H s/\g δ s=some (b,s')/\∀B' H',fi B H H'->(∀x∈B',x∈B\/H x=none)->ee K O Γ B' U A0 σ δ H' s'->Q b H'
def GU(K:ao)(O:List Nat)(Γ:xT S)(g:DS->S->Option (D×S)):TE:=λ7=>∃B U A0 δ s d s',ee K O Γ B U A0 σ δ H s/\g δ s=some (d,s')/\∀B' v H',fi B H H'->(∀x∈B',x∈B\/H x=none)->ee K O Γ B' U A0 σ δ H' s'->HD K (wo H' (U++(B'++A0))) v d->Q v H'
noncomputable def Jd{α:Type}(g:DS->Option α):DS->S->Option (α×S):=λδ s=>(g δ).bind λr=>some (r,s)
theorem wy(h:PT X c (tT X.K O g)):PT X c (NJ X.K O Γ (Jd g)):=h.mono λσ H Q ⟨B,U,A0,δ,s,b,s',R,ed,q⟩=>by
 obtain⟨r',e1,e2⟩:=bind1 ed
 cases e2
 exact⟨U,B++A0,δ,b,R.r,e1,λH' e=>q B H' (.of e) (λ_ z=>.inl z) (R.same e)⟩
theorem UK(h:PE X e (tE X.K O g)):PE X e (GU X.K O Γ (Jd g)):=h.mono λσ H Q ⟨B,U,A0,δ,s,b,s',R,ed,q⟩=>by
 obtain⟨r',e1,e2⟩:=bind1 ed
 cases e2
 exact⟨U,B++A0,δ,b,R.r,e1,λv H' e hv=>q B v H' (.of e) (λ_ z=>.inl z) (R.same e) hv⟩
noncomputable def AE(c:DS->S->Option (Bool×S))(a b:GD S):GD S:=λδ s=>(c δ s).bind λx=>if x.1=true then a δ x.2 else b δ x.2
theorem k8(hc:PT X c (NJ X.K O Γ gc))(ha:iP X a (tq X.K O Γ xk ga))(hb:iP X b (tq X.K O Γ xk gb)):PS X (.If c a b pos) (tq X.K O Γ xk (AE gc ga gb)):=(QC hc ha hb).mono λE σ H ⟨H0,B,U,A0,δ,s,r,s',R,F,ed,P⟩=>by
 obtain⟨⟨x,s1⟩,e1,e2⟩:=bind1 ed
 refine⟨B,U,A0,δ,s,x,s1,R,e1,λB' H' e n R'=>?_⟩
 cases x with
 |true=>exact⟨H0,B',U,A0,δ,s1,r,s',R',F.GS e n,e2,P⟩
 |false=>exact⟨H0,B',U,A0,δ,s1,r,s',R',F.GS e n,e2,P⟩
noncomputable def Cv(g:DS->S->Option (D×S)):GD S:=λδ s=>(g δ s).bind λx=>some (.rt x.1,x.2)
theorem ee.pr{K:ao}(R:ee K O Γ B U A0 σ δ H s):Γ.P K H (wo H (B++A0)) B s:=Γ.mono R.p (λ_ _=>rfl) (i9 λa ha=>aaf _ ha)
theorem vp(h:PE X e (GU X.K O Γ g)):PS X (.Return (some e) pos) (tq X.K O Γ xk (Cv g)):=(z0 h).mono λE σ H ⟨H0,B,U,A0,δ,s,r,s',R,F,ed,P⟩=>by
 obtain⟨⟨d,s1⟩,e1,e2⟩:=bind1 ed
 cases e2
 exact⟨B,U,A0,δ,s,d,s1,R,e1,λB' v H' e n R' hv=>P.1 B' v H' (F.grow e).same (F.GS e n).uJ R'.pr (hv.same (i9 λa ha=>aaf _ ha))⟩
end
section
variable {S:Type}{K:ao}{O:List Nat}{Γ:xT S}{B B' U U1 A0:List Addr}{σ:St}{δ:DS}{H H' H0 H1:Hp}{s s':S}
theorem fi.wo(e:fi B H H')(h:∀x∈B,x∈A):aG (wo H A) (wo H' A):=λb o hb=>by
 have nb:b∉A:=λz=>by rw[fQ z]at hb;cases hb
 rw[bg nb]at hb ⊢
 exact e b o (λz=>nb (h b z)) hb
theorem ee.V9:∀x∈B,x∈U++(B++A0):=by grind
theorem ee.grow(R:ee K O Γ B U A0 σ δ H s)(e:fi B H H')(p:Γ.P K H' (wo H' (U++(B++A0))) B s'):ee K O Γ B U A0 σ δ H' s':=by
 have k:=e.wo (A:=U++(B++A0)) ee.V9
 refine⟨⟨R.r.len,λi d hi ed=>?_,λi d hi ed=>?_,R.r.inj,λ8=>?_,λq xs m=>?_,λq y z m=>?_⟩,p,R.dj,R.da⟩
 rotate_left 4
 .have t:=R.r.al.2.2 q y z m;refine e q _ (λw=>?_) t;obtain⟨o,h,x⟩:=Γ.own R.p q w;rw[t]at h;cases h;exact x
 .obtain ⟨v,a,b⟩:=R.r.fz i d hi ed;exact⟨v,a,b.same k⟩
 .obtain ⟨l,o,a,b,c,w⟩:=R.r.ow i d hi ed;exact⟨l,o,a,b,e l o (R.dj l b) c,w.same k⟩
 .by_cases z:x∈B;.exact Γ.own p x z
  .obtain ⟨o,h,w⟩:=R.r.al.1 x hx;exact⟨o,e x o z h,w⟩
 .have t:=R.r.al.2.1 q xs m;have n:q∉B:=λz=>by
   obtain⟨o,h,w⟩:=Γ.own R.p q z;exact t.apart h w rfl
  rcases t with t|⟨ob,t⟩;.exact .inl (e q _ n t)
  .exact .inr ⟨ob,e q _ n t⟩
theorem ee.here(R:ee K O Γ B U A0 σ δ H s)(F:pM H0 A0 U B H):pM (wo H (U++B)) A0 U B H:=⟨cg,λ_ h=>fQ (aax _ h),λ_ h=>fQ (aaf _ h),LY (by rw[abt];exact R.r.al) λx hx hz=>by
 rcases aap.mp hz with z|z
 .obtain ⟨o,e,_⟩:=F.old.1 x hx;rw[F.new x z]at e;cases e
 .exact R.da x hx z⟩
theorem pM.over(F:pM H0 A0 U B H)(e:aG (wo H (U++B)) H'):aG H0 H':=λb o h=>e b o (by
 rw[bg λz=>?_]
 .exact F.same b o h
 .rcases aap.mp z with y|y;.rw [F.new b y]at h;cases h
  .rw [F.uJ b y]at h;cases h)
theorem pM.none(F:pM H0 A0 U B H)(this:wo H (U++B) x=none):H0 x=none:=by
 by_cases z:x∈U
 .exact F.new x z
 .by_cases y:x∈B;.exact F.uJ x y
  .rw [bg λq=>(aap.mp q).elim z y]at this;exact F.same.free this
theorem pM.trans(F:pM H0 A0 U B H)(G:pM (wo H (U++B)) A0 U1 B' H'):pM H0 A0 U1 B' H':=by
 exact⟨F.over G.same,λ8=>F.none (G.new x hx),λ8=>F.none (G.uJ x hx),F.old⟩
theorem pM.keeps(G:pM (wo H1 (U++B)) A0 U1 B' H):aG (wo H1 (U++(B++A0))) (wo H (U1++(B'++A0))):=λb o hb=>by
 have nb:b∉U++(B++A0):=λz=>by rw[fQ z]at hb;cases hb
 rw[bg nb]at hb
 have h1:wo H1 (U++B) b=some o:=by
  rw[bg λz=>nb ?_];.grind
  .grind
 rw[bg λz=>?_]
 .exact G.same b o h1
 .rcases aap.mp z with y|y;.rw [G.new b y]at h1;cases h1
  .rcases aap.mp y with y|y;.rw [G.uJ b y]at h1;cases h1
   .grind
end
section
variable {S:Type}
noncomputable def iB(t:D->DS->Option DS)(b:GD S):List D->DS->S->Option (Res×S)
 |[],δ,s=>some (.nx δ,s)
 |d::ds,δ,s=>(t d δ).bind λfg=>(b fg s).bind λr=>match r.1 with|.nx δ'=>iB t b ds δ' r.2|.ct δ'=>iB t b ds δ' r.2|.bk δ'=>some (.nx δ',r.2)|.rt d=>some (.rt d,r.2)
def Pa(gi:cC)(t:D->DS->Option DS)(b:GD S):GD S:=λδ s=>(gi δ).bind λds=>iB t b ds δ s
variable {X:Cx}{O:List Nat}{Γ:xT S}{xk:Str->Hp->Prop}{rest body:List Stmt}{c e tg iter a b:Expr}{pos:Pos}
theorem LZ(hp:PassesOwn ⇑3 X.A X.env X.xe)(hc:X.calm=true)(hi:PI X tg iter (tI X.K O gi))(hg:PG X tg (tG X.K O gt))(hb:iP X body (tq X.K O Γ xk gb))
  (hs:⇑35:=by intro _;rfl):PS X (.For tg iter body [] pos) (tq X.K O Γ xk (Pa gi gt gb)):=(DY hp hc hi hg hb hs).mono λE σ H ⟨H0,B,U,A0,δ,s0,r,s',R,F,ed,P⟩=>by
 obtain⟨ds,e1,e2⟩:=bind1 ed
 refine⟨U,B++A0,δ,ds,R.r,e1,λJ H1 s hw=>?_⟩
 have F1:=F.grow (.of s)
 have R1:=R.same s
 refine⟨λi m σ H=>m=ds.length-i/\i<=ds.length/\∃B2 U2 δ sg,ee X.K O Γ B2 U2 A0 σ δ H sg/\pM H0 A0 U2 B2 H/\pM (wo H1 (U++B)) A0 U2 B2 H/\iB gt gb (ds.drop i) δ sg=some (r,s'),⟨ds.length,by simp,Nat.zero_le _,B,U,δ,s0,R1,F1,R1.here F1,by simpa using e2⟩,?_⟩
 rintro i m σ H ⟨rfl,hle,B2,U2,δ,sg,R2,F2,G2,ef⟩
 obtain⟨T6,vW⟩:=hw (U2++(B2++A0)) i H G2.keeps R2.r.al
 by_cases hV:i<ds.length
 .obtain ⟨d,hd⟩:∃d,ds[i]?=some d:=⟨_,aal hV⟩;have B3:ds.drop i=d::ds.drop (i+1):=by
   rw[acB hV];rw[aal hV]at hd;cases hd;rfl
  obtain⟨go,hy⟩:=T6 d hd;rw[B3,iB]at ef;obtain⟨fg,e3,e4⟩:=bind1 ef;obtain⟨⟨q,s1⟩,e5,e6⟩:=bind1 e4;refine .inr ⟨go,λck H'=>∃m',m'<ds.length-i/\(m'=ds.length-(i+1)/\i+1<=ds.length/\∃B2 U2 δ sg,ee X.K O Γ B2 U2 A0 ck δ H' sg/\pM H0 A0 U2 B2 H'/\pM (wo H1 (U++B)) A0 U2 B2 H'/\iB gt gb (ds.drop (i+1)) δ sg=some (r,s')),λ_ _ h=>h,λx H2 y=>?_⟩;obtain⟨s2,hx⟩:=hy x H2 y;have R3:=R2.same s2;have F3:=F2.grow (.of s2);have G3:=G2.grow (.of s2);refine⟨U2,B2++A0,δ,d,fg,R3.r,hx,e3,λck R'=>?_⟩;refine⟨wo H2 (U2++B2),B2,U2,A0,fg,sg,q,s1,⟨R',R3.p,R3.dj,R3.da⟩,R3.here F3,e5,?_⟩;cases q with
  |nx δ'=>exact λB' U' ck H' R' F'=>⟨_,by lia,rfl,hV,B',U',δ',s1,R',F3.trans F',G3.trans F',e6⟩
  |ct δ'=>exact λB' U' ck H' R' F'=>⟨_,by lia,rfl,hV,B',U',δ',s1,R',F3.trans F',G3.trans F',e6⟩
  |bk δ'=>cases e6;exact λB' U' ck H' R' F'=>P B' U' ck H' R' (F3.trans F')
  |rt d=>cases e6;exact⟨λB' v H' h n p hv=>P.1 B' v H' (F3.over h) (λ8=>F3.none (n x hx)) p hv,λB' c H' e h n p=>P.2 B' c H' e (F3.over h) (λ8=>F3.none (n x hx)) p⟩
 .have hi:i=ds.length:=by lia
  subst hi;rw[aeo,iB]at ef;cases ef;exact .inl ⟨vW rfl,P B2 U2 σ H R2 F2⟩
noncomputable def d2(f:D->D->Option D)(ga:DS->S->Option (D×S))(gb:bj):DS->S->Option (D×S):=λδ s=>(ga δ s).bind λx=>(gb δ).bind λy=>(f x.1 y).bind λz=>some (z,x.2)
noncomputable def dB(g:DS->S->Option (D×S)):DS->S->Option (Bool×S):=λδ s=>(g δ s).bind λx=>match x.1 with|.bool b=>some (b,x.2)|_=>none
theorem Rl{K:ao}(imp:jo K r f):GU K O Γ (d2 f ga gb) σ H Q->S0 r (GU K O Γ ga) (iy K O gb) σ H Q:=λ⟨B,U,A0,δ,s,d,s',R,ed,q⟩=>by
 obtain⟨⟨x,s1⟩,e1,e2⟩:=bind1 ed
 obtain⟨y,e3,e4⟩:=bind1 e2
 obtain⟨z,e5,e6⟩:=bind1 e4
 cases e6
 exact⟨B,U,A0,δ,s,x,s1,R,e1,λB1 v1 H1 k1 n1 R1 h1=>⟨U,B1++A0,δ,y,R1.r,e3,λv2 H2 k2 h2=>imp _ H2 v1 v2 x y _ Q (R1.same k2).r.al (.of (h1.same (bR k2))) h2 e5 λv H' k h=>q B1 v H' (k1.trans (.of (k2.trans k))) n1 (R1.same (k2.trans k)) h⟩⟩
theorem Pb(ho:jP X (compareOp op) r)(imp:jo X.K r f)(ha:PE X a (GU X.K O Γ ga))(hb:PE X b (iy X.K O gb))(hm:behindInMarks op b=false):PE X (.Compare a [op] [b] pos) (GU X.K O Γ (d2 f ga gb)):=(Gd ho ha hb hm).mono λ_ _ _=>Rl imp
theorem rF(ho:jP X (compareOp op) r)(imp:jo X.K r f)(ha:PE X a (GU X.K O Γ ga))(hb:PE X b (iy X.K O gb))(hm:behindInMarks op b=false):PT X (.Compare a [op] [b] pos) (NJ X.K O Γ (dB (d2 f ga gb))):=(Ge ho ha hb hm).mono λσ H Q ⟨B,U,A0,δ,s,b,s',R,ed,q⟩=>by
 obtain⟨⟨d,s1⟩,e1,e2⟩:=bind1 ed
 cases d with
 |bool c=>
   cases e2;exact Rl imp ⟨B,U,A0,δ,s,_,_,R,e1,λB' v H' k n R' h=>by cases h;exact⟨_,rfl,q B' H' k n R'⟩⟩
 |_=>cases e2
noncomputable def Cw(g:DS->S->Option (Bool×S)):DS->S->Option (Bool×S):=λδ s=>(g δ s).bind λx=>some (!x.1,x.2)
theorem L3(ha:PT X a (NJ X.K O Γ g)):PT X (.UnaryOp .Not a pos) (NJ X.K O Γ (Cw g)):=(Kj ha).mono λσ H Q ⟨B,U,A0,δ,s,b,s',R,ed,q⟩=>by
 obtain⟨⟨x,s1⟩,e1,e2⟩:=bind1 ed
 cases e2
 exact⟨B,U,A0,δ,s,x,s1,R,e1,λB' H' k n R'=>q B' H' k n R'⟩
theorem Je(ha:PE X a (GU X.K O Γ g))(he:∀whole,isTrue a X.env whole=(do let v <-whole;standAt a.pos;holding [v] (truthy v)):=by exact λ_=>rfl):PT X a (NJ X.K O Γ (dB g)):=(BP ha he).mono λσ H Q ⟨B,U,A0,δ,s,b,s',R,ed,q⟩=>by
 obtain⟨⟨d,s1⟩,e1,e2⟩:=bind1 ed
 cases d with
 |bool c=>
   cases e2;refine⟨B,U,A0,δ,s,_,_,R,e1,λB' v H' k n R' h=>?_⟩;cases h;exact⟨_,rfl,q B' H' k n R'⟩
 |_=>cases e2
noncomputable def dOr(f g:DS->S->Option (Bool×S)):DS->S->Option (Bool×S):=λδ s=>(f δ s).bind λx=>if x.1=true then some x else g δ x.2
theorem Pc{rest:List Expr}(ha:PT X a (NJ X.K O Γ f))(hb:PW X (.BoolOp .Or (b::rest) pos) (NJ X.K O Γ g)):PW X (.BoolOp .Or (a::b::rest) pos) (NJ X.K O Γ (dOr f g)):=(pw_or ha hb).mono λσ H Q ⟨B,U,A0,δ,s,z,s',R,ed,q⟩=>by
 obtain⟨⟨x,s1⟩,e1,e2⟩:=bind1 ed
 refine⟨B,U,A0,δ,s,x,s1,R,e1,λB' H' k n R'=>?_⟩
 cases x with
 |true=>grind
 |false=>
   refine⟨B',U,A0,δ,s1,z,s',R',e2,λB2 H2 k2 n2 R2=>q B2 H2 (λb o nb hb=>?_) (λ8=>?_) R2⟩
   .refine k2 b o (λy=>(n b y).elim nb λz=>?_) (k b o nb hb);rw[hb]at z;cases z
   .rcases n2 x hx with y|y;.grind
    .by_cases z:x∈B;.grind
     .cases e:H x with
      |none=>exact .inr rfl
      |some o=>rw[k x o z e]at y;cases y
end
end L2
namespace L2
open PySem PySem.Spec PySem.W PyProof.Rows
structure Dk where
 pl:List (Str×D)
 lo:List (Str×D)
noncomputable def dw(a:Addr):D:=.dict [(.list [],.int (a:Nat))]
def TK(K:Frag)(H:Hp)(bb:List (Key×V))(l:List (Str×D)):Prop:=bb.map (·.1)=l.map (λx=>(.inr x.1:Key))/\cY K H (bb.map (·.2)) (l.map (·.2))
theorem TK.same{K:Frag}(h:TK K H bb l)(s:aG H H'):TK K H' bb l:=⟨h.1,h.2.same s⟩
noncomputable def j4(l:List (Str×D))(x:Str):Option D:=(l.find? λp=>decide (p.1=x)).map (·.2)
def kx(l:List (Str×D))(x:Str)(d:D):List (Str×D):=if(l.any λp=>decide (p.1=x))=true then l.map (λp=>if p.1=x then(p.1,d)else p)else l++[(x,d)]
theorem TK.get{K:Frag}(x:Str):∀{bb:List (Key×V)} {l:List (Str×D)},TK K H bb l->(j4 l x=none/\nc bb (.inr x)=none)\/∃d v,j4 l x=some d/\nc bb (.inr x)=some v/\HD K H v d
 |[],[],_=>.inl ⟨rfl,rfl⟩
 |[],_::_,h=>by cases h.1
 |_::_,[],h=>by cases h.1
 |(k,v)::bb,(y,d)::l,h=>by
   obtain⟨h1,h2⟩:=h;have hk:=(aek h1).1;have g1:=(aek h1).2;subst hk;cases h2 with
   |cons hd ht=>
     by_cases q:y=x;.subst q;exact .inr ⟨d,v,by simp[j4],ny rfl,hd⟩
     .have e:¬((.inr y:Key)=.inr x):=λz=>q (Sum.inr.inj z);rw[nz e];have:j4 ((y,d)::l) x=j4 l x:=by simp[j4,q]
      rw[this];exact TK.get x ⟨g1,ht⟩
theorem cY.snoc{K:Frag}:∀{vs:List V} {ds:List D},cY K H vs ds->HD K H v d->cY K H (vs++[v]) (ds++[d])
 |[],[],.nil,h=>.cons h .nil
 |_::_,_::_,.cons a b,h=>.cons a (b.snoc h)
theorem TK.put{K:Frag}(h:TK K H bb l)(hv:HD K H v d):TK K H (putK bb (.inr x) v) (kx l x d):=by
 have ea:∀(bb:List (Key×V)) (l:List (Str×D)),bb.map (·.1)=l.map (λx=>(.inr x.1:Key))->(bb.any λkv=>decide (kv.1=.inr x))=l.any λp=>decide (p.1=x):=λbb l e=>by
  rw[show(bb.any λkv=>decide (kv.1=.inr x))=(bb.map (·.1)).any λk=>decide (k=.inr x)by rw[agm];rfl,e,agm];congr 1;funext p;show decide ((Sum.inr p.1:Key)=.inr x)=_;exact agg.mpr ⟨λz=>Sum.inr.inj z,λz=>by rw[z]⟩
 unfold putK kx
 rw[ea bb l h.1]
 split
 .have mp:∀(bb:List (Key×V)) (l:List (Str×D)),TK K H bb l->TK K H (bb.map λkv=>if kv.1=.inr x then(kv.1,v)else kv) (l.map λp=>if p.1=x then(p.1,d)else p):=by
   intro bb;induction bb with
   |nil=>intro l h;cases l with|nil=>exact⟨rfl,.nil⟩|cons _ _=>cases h.1
   |cons kv bb ih=>
     intro l h;cases l with
     |nil=>cases h.1
     |cons p l=>
       obtain⟨k,u⟩:=kv;obtain⟨y,e⟩:=p;obtain⟨h1,h2⟩:=h;have hk:=(aek h1).1;have g1:=(aek h1).2;subst hk;cases h2 with
       |cons hd ht=>
         obtain⟨i1,i2⟩:=ih l ⟨g1,ht⟩;by_cases q:y=x
         .have e1:(Sum.inr y:Key)=.inr x:=by rw[q]
          simp only[aaw,aav e1,aav q];exact⟨by rw[aaw,aaw,i1],.cons hv i2⟩
         .have e1:¬(Sum.inr y:Key)=.inr x:=λz=>q (Sum.inr.inj z);simp only[aaw,aaB e1,aaB q];exact⟨by rw[aaw,aaw,i1],.cons hd i2⟩
  exact mp bb l h
 .exact ⟨by rw[abj,abj,h.1];rfl,by rw[abj,abj];exact h.2.snoc hv⟩
theorem TK.len{K:Frag}(h:TK K H bb l):bb.length=l.length:=by
 have:=abR List.length h.1
 rwa [aac,aac]at this
def Cy(C:Addr)(K:Frag)(H Hw:Hp)(a dx p q:Addr)(s:Dk):Prop:=H a=some (.ins C dx [("plans",.ref p),("lots",.ref q)])/\H dx=some (.own a)/\(∃kp,H p=some (.dK kp)/\TK K Hw kp s.pl)/\(∃kq,H q=some (.dK kq)/\TK K Hw kq s.lo)/\p≠q
theorem Cy.own{K:Frag}(h:Cy C K H Hw a dx p q s):∀x∈[a,dx,p,q],∃o,H x=some o/\yg o:=λ8=>by
 obtain⟨h1,h2,⟨_,h3,_⟩,⟨_,h4,_⟩,_⟩:=h
 simp at hx
 rcases hx with rfl|rfl|rfl|rfl
 .exact ⟨_,h1,trivial⟩
 .exact ⟨_,h2,trivial⟩
 .exact ⟨_,h3,trivial⟩
 .exact ⟨_,h4,trivial⟩
theorem Cy.mono{K:Frag}(h:Cy C K H Hw a dx p q s)(k:∀x∈[a,dx,p,q],H' x=H x)(e:aG Hw EJ):Cy C K H' EJ a dx p q s:=by
 obtain⟨h1,h2,⟨kp,h3,t3⟩,⟨kq,h4,t4⟩,hn⟩:=h
 exact⟨(k a ⇑11).trans h1,(k dx ⇑11).trans h2,⟨kp,(k p ⇑11).trans h3,t3.same e⟩,⟨kq,(k q ⇑11).trans h4,t4.same e⟩,hn⟩
def Jf(C a dx p q:Addr):xT Dk where
 P K H Hw B s:=B=[a,dx,p,q]/\Cy C K H Hw a dx p q s
 own h x hx:=h.2.own x (by rw[<-h.1];exact hx)
 mono h k e:=⟨h.1,h.2.mono (by rw[<-h.1];exact k) e⟩
structure Cz{S:Type}(Γ:xT S)(C a dx p q:Addr)(get:S->Dk)(set:S->Dk->S):Prop where
 sp:∀{K H Hw B s},Γ.P K H Hw B s->∃B2,(∀x,x∈B↔x∈[a,dx,p,q]++B2)/\(∀x∈B2,x∉[a,dx,p,q])/\Cy C K H Hw a dx p q (get s)/\∀{H' EJ:Hp} {k':Dk},Cy C K H' EJ a dx p q k'->(∀x∈B2,H' x=H x)->aG Hw EJ->Γ.P K H' EJ B (set s k')
theorem zL:Cz (Jf C a dx p q) C a dx p q id (λ_ k=>k):=⟨λ{K H Hw B s} h=>⟨[],by rw[h.1,abr];exact λ_=>Iff.rfl,λ_ z=>(nomatch z),h.2,λk _ _=>⟨h.1,k⟩⟩⟩
theorem Ls.congr(h:Ls A H)(e:∀x,x∈B->x∈A):Ls B H:=⟨λ8=>h.1 x (e x hx),h.2⟩
def wz(K:Frag)(C:Addr)(n:Nat)(G:Addr->List D->Dk->Option (D×Dk)):Sp:=λvs H Q _=>vs.length=n/\∃a dx p q A ds s d s',Ls ([a,dx,p,q]++A) H/\(∀x∈A,x∉[a,dx,p,q])/\Cy C K H (wo H ([a,dx,p,q]++A)) a dx p q s/\cY K (wo H ([a,dx,p,q]++A)) vs ds/\ds[0]?=some (dw a)/\G a ds s=some (d,s')/\
 ∀v H',fi [a,dx,p,q] H H'->Cy C K H' (wo H' ([a,dx,p,q]++A)) a dx p q s'->HD K (wo H' ([a,dx,p,q]++A)) v d->Q v H'
noncomputable def outD{S:Type}:Res×S->Option (D×S)
 |(.nx _,s)=>some (.none,s)
 |(.rt d,s)=>some (d,s)
 |_=>none
def wA{S:Type}(n:Nat)(g:Addr->GD S)(a:Addr)(ds:List D)(s:S):Option (D×S):=(g a (ds.map some++List.replicate (n-ds.length) none) s).bind outD
section
variable {P:Program}{w:World}{K:Frag}{mg:eQ}{base:Heap}{x qual:Str}{st:Stmt}{N ps:List Str}{k:Nat}{C:Addr}
theorem L4(hO:∀i∈O,ps.length<=i)(hN:N.length=n)(h:wz K C ps.length (wA n g) vs H Q E)(hx:xk=λ_ _=>True):
  ∃a dx p q,tq K O (Jf C a dx p q) xk (g a) {nx:=λ_ H'=>Q .iu H',rt:=Q} (start N vs) H:=by
 subst hN hx
 obtain⟨hn,a,dx,p,q,A,ds,s,d,s',al,dj,hp,hd,_,e,qq⟩:=h
 obtain⟨⟨r,s1⟩,e1,e2⟩:=bind1 e
 refine⟨a,dx,p,q,wo H [a,dx,p,q],[a,dx,p,q],[],A,_,s,r,s1,⟨Rel.start al hd (λi hi=>by have:=hO i hi;rw[<-hd.len,hn];exact this),⟨rfl,hp⟩,λ_ z=>(nomatch z),dj⟩,⟨cg,λ_ z=>(nomatch z),λ_ z=>fQ z,LY al dj⟩,e1,?_⟩
 have sx:∀{H':Hp},aG (wo H [a,dx,p,q]) H'->fi [a,dx,p,q] H H':=λz b o nb hb=>z b o (by rw[bg nb];exact hb)
 cases r with
 |nx δ=>
   cases e2;intro B U σ H' R F';obtain⟨rfl,pk⟩:=R.pr;exact qq .iu H' (sx F'.same) pk .iu
 |rt d=>
   cases e2;refine⟨λB v H' h n pk hv=>?_,λ_ _ _ _ _ _ _=>trivial⟩;obtain⟨rfl,pk⟩:=pk;exact qq v H' (sx h) pk hv
 |bk _=>cases e2
 |ct _=>cases e2
theorem Pd(O:List Nat)(g:Addr->GD Dk)(F:Df K mg x st ps)(S:az N ps (ah st))
  (body:∀(a dx p q f:Addr) (de:Value) (A:Around) (outer:List Env) (s:Shared) (H:Hp) (E:XK),cW k (A.deeper (envOfC x (ah st) s.heap.objs.size f de))->iP (rb lR P w K mg base N x (ah st) f de A outer s H E).BM (cf st) (tq K O (Jf C a dx p q) (λ_ _=>True) (g a)))
  (hO:∀i∈O,ps.length<=i:=by decide)(hN:N.length=n:=by rfl)(hP:ps.length=m:=by rfl):Dn P w K mg base (k+1) x ps (wz K C m (wA n g)):=by
 subst hP
 refine F.ok S (λvs H Q E h=>h.1) (λf de A outer s H vs Q E hr h=>?_)
 obtain⟨a,dx,p,q,t⟩:=L4 hO hN h rfl
 exact⟨_,body a dx p q f de A outer s H E hr,t⟩
def YV(P:Program)(w:World)(K:Frag)(mg:eQ)(base:Heap)(k:Nat)(C:Addr)(m:Str)(ps:List Str)(sp:Sp):Prop:=
 ∃f fd,jR P w K mg base lR k f fd ps sp/\yb K C m f/\Binds K fd ps []
theorem wB(O:List Nat)(g:Addr->GD Dk)(F:uG K x qual st f fd)(M:yb K C x f)(B:Binds K fd ps [])(S:az N ps (ah st))
  (body:∀(a dx p q f:Addr) (de:Value) (A:Around) (outer:List Env) (s:Shared) (H:Hp) (E:XK),cW k (A.deeper (envOfC qual (ah st) s.heap.objs.size f de))->iP (rb lR P w K mg base N qual (ah st) f de A outer s H E).BM (cf st) (tq K O (Jf C a dx p q) (λ_ _=>True) (g a)))
  (hO:∀i∈O,ps.length<=i:=by decide)(hN:N.length=n:=by rfl)(hP:ps.length=m:=by rfl):YV P w K mg base (k+1) C x ps (wz K C m (wA n g)):=by
 subst hP
 refine⟨f,fd,F.ok S (λvs H Q E h=>h.1) (λde A outer s H vs Q E hr h=>?_),M,B⟩
 obtain⟨a,dx,p,q,t⟩:=L4 hO hN h rfl
 exact⟨_,body a dx p q f de A outer s H E hr,t⟩
end
theorem nR{K:Frag}(h:HD K H v (dw a)):v=.ref a:=by
 generalize e:dw a=d at h
 unfold dw at e
 cases h with
 |ptr b=>
   simp at e;rw[show a=b by exact Int.ofNat.inj e]
 |@vg _ bb kds h1 h2 h3=>
   cases e;cases bb with
   |nil=>cases h2
   |cons p r=>cases(aek h2).1
 |exc h1 h2=>cases e
 |_=>cases e
open Classical in
def Jg {S α:Type} (j:Nat) (a:Addr) (g:DS->S->Option α):DS->S->Option α:=λδ s=>if δ[j]?=some (some (dw a))then g δ s else none
theorem js(h:Jg j a g δ s=some r):δ[j]?=some (some (dw a))/\g δ s=some r:=by
 unfold Jg at h
 split at h
 .grind
 .cases h
theorem mf(h:δ[j]?=some (some (dw a)))(e:g δ s=r):Jg j a g δ s=r:=by
 unfold Jg
 rw[aav h];exact e
noncomputable def CA{S:Type}(get:S->Dk)(set:S->Dk->S)(f:Dk->Option (D×Dk))(s:S):Option (D×S):=(f (get s)).bind λr=>some (r.1,set s r.2)
def kF{S:Type}(get:S->Dk)(set:S->Dk->S)(j:Nat)(a:Addr)(G:Addr->List D->Dk->Option (D×Dk))(n:Nat)(gr:cC):DS->S->Option (D×S):=Jg j a λδ s=>(gr δ).bind λds=>if ds.length+1=n then CA get set (G a (dw a::ds)) s else none
section
variable {S:Type}{Γ:xT S}{get:S->Dk}{set:S->Dk->S}{X:Cx}{O:List Nat}{C a dx p q:Addr}{k kk n j:Nat}{m x:Str}{ps:List Str}{G:Addr->List D->Dk->Option (D×Dk)}{gr:cC}{apos pos pos':Pos}{o e i value:Expr}{es:List Expr}{xk:Str->Hp->Prop}
theorem L5(hd:Cz Γ C a dx p q get set)(R:ee X.K O Γ B U A0 σ δ H s)(sm:aG H H')(hn:ds.length=n)(h0:ds[0]?=some (dw a))(hs:cY X.K (wo H' (U++(B++A0))) vs ds)(e:CA get set (G a ds) s=some (d,s'))
  (qq:∀B' v H',fi B H H'->(∀x∈B',x∈B\/H x=none)->ee X.K O Γ B' U A0 σ δ H' s'->HD X.K (wo H' (U++(B'++A0))) v d->Q v H'):wz X.K C n G vs H' Q E0:=by
 have R':=R.same sm
 obtain⟨⟨d1,k1⟩,e1,e2⟩:=bind1 e
 cases e2
 obtain⟨B2,hB,hdj,hp,ab7⟩:=hd.sp R'.p
 have mem:∀x,x∈U++(B++A0)↔x∈[a,dx,p,q]++(U++(B2++A0)):=λx=>by grind
 have ew:∀h:Hp,wo h (U++(B++A0))=wo h ([a,dx,p,q]++(U++(B2++A0))):=λh=>Cu mem
 have sub:=λ8=>(hB x).mpr (aax _ hx)
 refine⟨by rw[hs.len];exact hn,a,dx,p,q,U++(B2++A0),ds,get s,d1,k1,R'.r.al.congr (λ8=>(mem x).mpr hx),λ8=>?_,ew H' ▸ hp,ew H' ▸ hs,h0,e1,λv H2 k2 p2 h2=>?_⟩
 .rcases aap.mp hx with z|z;.exact λy=>R.dj x z (sub x y)
  .rcases aap.mp z with z|z;.grind
   .exact λy=>R.da x z (sub x y)
 .rw [<-ew]at p2 h2;have sx:fi B H' H2:=λb o nb hb=>k2 b o (λz=>nb (sub b z)) hb;refine qq B v H2 ((fi.of sm).trans sx) (λ_ z=>.inl z) (R'.grow sx (ab7 p2 (λ8=>?_) (sx.wo ee.V9))) h2;obtain⟨o,ho,_⟩:=Γ.own R'.p x ((hB x).mpr (aaf _ hx));rw[ho,k2 x o (hdj x hx) ho]
set_option tactic.hygienic true in
theorem j5(hd:Cz Γ C a dx p q get set)(F:YV X.prog X.w X.K X.mg X.base k C m ps (wz X.K C n G))(c:ya X.K C)(hr:cW kk X.A)(hk:k<=kk)(hv:PE X o (kU j))(ha:PA X (e::es) (BY X.K O gr))(hj:j∉O:=by decide)(hl:∀u w:V,([("plans",u),("lots",w)]:List (Str×V)).lookup m=none:=by intro _ _;rfl)
  (N1:starEach (e::es) X.env=⇑18::starEach es X.env:=by rfl)(iQ:⇑7:=by rfl)
  (ht:eval (.Call (.Attribute o m apos) (e::es) [] pos) X.env=(do
   let ov <-eval o X.env
   standAt apos.atName
   let(f,first) <-holding [ov] (getMethod ov m pl)
   callWith pos f first (backTo pos (starEach (e::es) X.env)) (backToKw pos (keywordEach [] X.env))):=by rfl):
  PE X (.Call (.Attribute o m apos) (e::es) [] pos) (GU X.K O Γ (kF get set j a G n gr)):=by
 obtain⟨f,fd,F,M,B⟩:=F
 refine(N9 (pl:=pl) hv c M F (hr.mono hk) B .nil Gk ha N1 iQ ht).mono λσ H Q ⟨B,U,A0,δ,s,d,s',R,ed,qq⟩=>?_
 obtain⟨h0,ed⟩:=js ed
 obtain⟨ds,e1,e2⟩:=bind1 ed
 split at e2
 rotate_left
 .grind
 rename_i hn
 obtain⟨v,hv,hp⟩:=R.r.fz j (dw a) hj h0
 obtain rfl:=nR hp
 obtain⟨_,_,_,hpk,_⟩:=hd.sp R.p
 refine⟨.ref a,hv,a,dx,_,rfl,hpk.1,hl _ _,U,B++A0,δ,ds,R.r,e1,λvs H' sm hs=>?_⟩
 show wz X.K C n G (.ref a::(vs++[])) H' Q E0
 rw[abr]
 exact L5 (ds:=dw a::ds) hd R sm hn rfl (.cons (.ptr a) hs) e2 qq
open Classical in
noncomputable def Pe (b:Bool):Str:=if b=true then "plans" else "lots"
def Dk.fld(s:Dk)(b:Bool):List (Str×D):=if b=true then s.pl else s.lo
def Dk.put(s:Dk)(b:Bool)(l:List (Str×D)):Dk:=if b=true then⟨l,s.lo⟩else⟨s.pl,l⟩
theorem AF{K:Frag}(b:Bool)(h:Cy C K H Hw a dx p q s):∃r kv,H a=some (.ins C dx [("plans",.ref p),("lots",.ref q)])/\([("plans",.ref p),("lots",.ref q)]:List (Str×V)).lookup (Pe b)=some (.ref r)/\r∈[a,dx,p,q]/\H r=some (.dK kv)/\TK K Hw kv (s.fld b)/\
  ∀{H' EJ:Hp} {UL:List (Key×V)} {l':List (Str×D)},H'=upd H r (.dK UL)->aG Hw EJ->TK K EJ UL l'->Cy C K H' EJ a dx p q (s.put b l'):=by
 obtain⟨h1,h2,⟨kp,h3,t3⟩,⟨kq,h4,t4⟩,hn⟩:=h
 have n1:a≠p:=λz=>by rw[<-z,h1]at h3;cases h3
 have n2:a≠q:=λz=>by rw[<-z,h1]at h4;cases h4
 have n3:dx≠p:=λz=>by rw[<-z,h2]at h3;cases h3
 have n4:dx≠q:=λz=>by rw[<-z,h2]at h4;cases h4
 cases b with
 |true=>
   refine⟨p,kp,h1,rfl,by simp,h3,t3,?_⟩;rintro H' EJ UL l' rfl s t;exact⟨by rw[av n1];exact h1,by rw[av n3];exact h2,⟨UL,aL,t⟩,⟨kq,by rw[av (acw hn)];exact h4,t4.same s⟩,hn⟩
 |false=>
   refine⟨q,kq,h1,rfl,by simp,h4,t4,?_⟩;rintro H' EJ UL l' rfl s t;exact⟨by rw[av n2];exact h1,by rw[av n4];exact h2,⟨kp,by rw[av hn];exact h3,t3.same s⟩,⟨UL,aL,t⟩,hn⟩
theorem wC{K:Frag}(h:HD K H v (.str y)):v=.str y:=by cases h;rfl
def GV(b:Bool)(j:Nat)(a:Addr)(gk:bj)(gv:DS->Dk->Option (D×Dk)):GD Dk:=Jg j a λδ s=>(gv δ s).bind λd=>(gk δ).bind λy=>match y with
 |.str x=>if(d.2.fld b).length<100000 then some (.nx δ,d.2.put b (kx (d.2.fld b) x d.1))else none
 |_=>none
set_option tactic.hygienic true in
theorem Pf(b:Bool)(hf:f=Pe b)(c:ya X.K C)(na:fP X.K C f)(hu:X.A.units+1<cLine)(hv:PE X o (kU j))(hi:PE X i (tE X.K O gk))(IF:PE X value (GU X.K O (Jf C a dx p q) gv))(hj:j∉O:=by decide)
  (hb:attributeBase o f X.env (eval o X.env)=eval o X.env:=by rfl)(hs:swapsWith value (some (.Subscript (.Attribute o f apos) i pos')) pos.line X.env=pure false:=by rfl):
  PS X (.Assign [.Subscript (.Attribute o f apos) i pos'] value pos) (tq X.K O (Jf C a dx p q) xk (GV b j a gk gv)):=(vf hu (D9 hv hb) hi IF hs).mono λE σ H ⟨H0,B,U,A0,δ,s,r,s',R,F,ed,P⟩=>by
 subst hf
 obtain⟨h0,ed⟩:=js ed
 obtain⟨⟨d,s1⟩,e1,e2⟩:=bind1 ed
 obtain⟨y,e3,e4⟩:=bind1 e2
 cases y with
 |str z=>
   have e4:(if(s1.fld b).length<100000 then some (Res.nx δ,s1.put b (kx (s1.fld b) z d))else none)=some (r,s'):=e4;split at e4;rotate_left;.grind
   rename_i hl;cases e4;refine⟨B,U,A0,δ,s,d,s1,R,e1,λB1 v H1 k1 n1 R1 YC=>?_⟩;obtain⟨rfl,pk1⟩:=R1.p;obtain⟨u,L6,hd⟩:=R1.r.fz j (dw a) hj h0;obtain rfl:=nR hd;obtain⟨r,kv,ea,el,hr,hk,tk,put⟩:=AF b pk1;refine⟨.ref a,L6,a,C,dx,_,.ref r,rfl,ea,c,na,el,U,[a,dx,p,q]++A0,δ,_,R1.r,e3,λyv H2 k2 hy=>?_⟩;obtain rfl:=wC hy;have R2:=R1.same k2;have V3:=k2 r _ hk;have sx:fi [a,dx,p,q] H2 (upd H2 r (.dK (putK kv (.inr z) v))):=λb o nb hb=>by rw[av λw=>nb (by rw[w];exact hr)];exact hb
   have sw:=sx.wo (A:=U++([a,dx,p,q]++A0)) ee.V9;have YW:=R2.p.2;obtain⟨r',UL,ea',el',hr',Ub,V7,ab8⟩:=AF b YW;have er:r'=r:=by rw[el]at el';cases el';rfl
   subst er;have F1:=(F.GS k1 n1).grow ((fi.of k2).trans sx);exact⟨r',_,rfl,Ac.k (k:=.inr z) V3 (by rw[tk.len];exact small hl),P _ U σ _ (R2.grow sx ⟨rfl,ab8 rfl sw (((tk.same (bR k2)).same sw).put ((YC.same (bR k2)).same sw))⟩) F1⟩
 |_=>cases e4
def GW(b:Bool)(j:Nat)(a:Addr)(gk:bj):DS->Dk->Option (D×Dk):=Jg j a λδ s=>(gk δ).bind λy=>match y with
 |.str x=>(j4 (s.fld b) x).bind λd=>some (d,s)
 |_=>none
theorem Pg(b:Bool)(hf:f=Pe b)(c:ya X.K C)(na:fP X.K C f)(hu:X.A.units+1<cLine)(hv:PE X o (kU j))(hi:PE X i (tE X.K O gk))(hj:j∉O:=by decide)
  (hb:attributeBase o f X.env (eval o X.env)=eval o X.env:=by rfl)(hs:Eg i:=by intro _ _;rfl):PE X (.Subscript (.Attribute o f apos) i pos) (GU X.K O (Jf C a dx p q) (GW b j a gk)):=(Gm hu (D9 hv hb) hi hs).mono λσ H Q ⟨B,U,A0,δ,s,d,s',R,ed,qq⟩=>by
 subst hf
 obtain⟨rfl,pk⟩:=id R.p
 obtain⟨h0,ed⟩:=js ed
 obtain⟨y,e3,e4⟩:=bind1 ed
 cases y with
 |str z=>
   obtain⟨d',e5,e6⟩:=bind1 e4;cases e6;obtain⟨u,L6,hd⟩:=R.r.fz j (dw a) hj h0;obtain rfl:=nR hd;obtain⟨r,kv,ea,el,hr,hk,tk,_⟩:=AF b pk;refine⟨.ref a,L6,a,C,dx,_,.ref r,rfl,ea,c,na,el,U,[a,dx,p,q]++A0,δ,_,R.r,e3,λyv H2 k2 hy=>?_⟩;obtain rfl:=wC hy;rcases(tk.same (bR k2)).get z with⟨g1,_⟩|⟨d2,v,g1,g2,hv⟩;.grind
   .rw [g1]at e5;cases e5;exact⟨r,v,rfl,by rw[<-g2];exact p5.k (k:=.inr z) (k2 r _ hk),qq _ v H2 (.of k2) (λ_ z=>.inl z) (R.same k2) hv⟩
 |_=>cases e4
def GX(b:Bool)(j:Nat)(a:Addr)(gk:bj):DS->Dk->Option (Bool×Dk):=Jg j a λδ s=>(gk δ).bind λy=>match y with
 |.str x=>some (!(j4 (s.fld b) x).isSome,s)
 |_=>none
theorem Ph(b:Bool)(hf:f=Pe b)(c:ya X.K C)(na:fP X.K C f)(hu:X.A.units+1<cLine)(hv:PE X o (kU j))(hi:PE X i (tE X.K O gk))(hj:j∉O:=by decide)
  (hb:attributeBase o f X.env (eval o X.env)=eval o X.env:=by rfl)(hm:behindInMarks .NotIn (.Attribute o f apos)=false:=by rfl):PT X (.Compare i [.NotIn] [.Attribute o f apos] pos) (NJ X.K O (Jf C a dx p q) (GX b j a gk)):=(SR (Il hu hi (D9 hv hb)) hm).mono λσ H Q ⟨B,U,A0,δ,s,d,s',R,ed,qq⟩=>by
 subst hf
 obtain⟨rfl,pk⟩:=id R.p
 obtain⟨h0,ed⟩:=js ed
 obtain⟨y,e3,e4⟩:=bind1 ed
 cases y with
 |str z=>
   cases e4;refine⟨U,[a,dx,p,q]++A0,δ,_,R.r,e3,λyv H2 k2 hy=>?_⟩;obtain rfl:=wC hy;have R2:=R.same k2;obtain⟨u,L6,hd⟩:=R2.r.fz j (dw a) hj h0;obtain rfl:=nR hd;obtain⟨r,kv,ea,el,hr,hk,tk,_⟩:=AF b R2.p.2;refine⟨.ref a,L6,a,C,dx,_,.ref r,rfl,ea,c,na,el,?_⟩;refine⟨r,_,rfl,p5.k (k:=.inr z) hk,_,rfl,?_⟩;rcases tk.get z with⟨g1,g2⟩|⟨d2,v,g1,g2,hv⟩;.rw [g2];rw[g1]at qq;exact qq _ H2 (.of k2) (λ_ z=>.inl z) R2
   .rw [g2];rw[g1]at qq;exact qq _ H2 (.of k2) (λ_ z=>.inl z) R2
 |_=>cases e4
end
section
end
def AG(K:Frag)(C:Addr):Sp:=λvs H Q _=>∃x dx,vs=[.ref x]/\H x=some (.ins C dx [])/\H dx=some (.own x)/\∀p q,H p=none->H q=none->p≠q->Q .iu (upd (upd (upd H p (.dK [])) q (.dK [])) x (.ins C dx [("plans",.ref p),("lots",.ref q)]))
def EK:TE:=λ_ H Q=>∀p,H p=none->Q (.ref p) (upd H p (.dK []))
theorem wD:PE X (.Dict [] [] pos) EK:=λpins s σ H Q I h=>
 wpAny_Dict_empty ⟨.ref s.heap.objs.size,_,I.laid (a:=s.heap.objs.size) (o:=.dK []) (t':=s.toks) (λ_ _ q=>aaa _ q) (aah _) (KL s.heap I.Z2),rfl,h _ (I.bU.fresh (aah _))⟩
theorem L7{K:Frag}(c:ya K C)(n1:fP K C "plans")(n2:fP K C "lots")(h:AG K C vs H Q E):
  (λ(D:Ends) σ H=>Ta K (kU 0) EK "plans" {nx:=λBC H1=>Ta K (kU 0) EK "lots" D BC H1,rt:=D.rt,bk:=D.bk,ct:=D.ct} σ H) {nx:=λ_ H'=>Q .iu H',rt:=Q} (start ["self"] vs) H:=by
 obtain⟨x,dx,rfl,h1,h2,q⟩:=h
 intro p hp
 refine⟨.ref x,rfl,x,C,dx,[],rfl,?_,c,n1,by decide,λr hr=>⟨.ref x,rfl,x,C,dx,lH "plans" (.ref p) [],rfl,?_,c,n2,by show 1<1000;decide,?_⟩⟩
 .rw [av λz=>by rw[z,hp]at h1;cases h1];exact h1
 .rw [av λz=>by rw[z]at hr;rw[aL]at hr;cases hr];exact aL
 .have e1:p≠x:=λz=>by rw[z,h1]at hp;cases hp
  have e2:r≠x:=λz=>by rw[z]at hr;rw[aL]at hr;cases hr
  have e3:p≠r:=λz=>by rw[<-z,av e1,aL]at hr;cases hr
  have hr0:H r=none:=by
   rw[av e2,av (acw e3)]at hr;exact hr
  have:=q p r hp hr0 e3;have eh:upd (upd (upd (upd H p (.dK [])) x (.ins C dx (lH "plans" (.ref p) []))) r (.dK [])) x (.ins C dx (lH "lots" (.ref r) (lH "plans" (.ref p) [])))=upd (upd (upd H p (.dK [])) r (.dK [])) x (.ins C dx [("plans",.ref p),("lots",.ref r)]):=by
   funext b;by_cases b1:b=x;.subst b1;rw[aL,aL];rfl
   .rw [av b1,av b1];by_cases b2:b=r;.subst b2;rw[aL,aL]
    .rw [av b2,av b2,av b1]
  rw[eh];exact this
open Classical in
def Jh {α:Type} (g:Addr->Option α):Option α:=if h:∃d,∀a,g a=some d then some h.choose else none
set_option tactic.hygienic true in
theorem CD(h:Jh g=some d)(a:Addr):g a=some d:=by
 unfold Jh at h
 split at h
 .grind
 .cases h
theorem GY(h:∀a,g a=some d):Jh g=some d:=by
 have x:∃d,∀a,g a=some d:=⟨d,h⟩
 unfold Jh
 rw[dif_pos x]
 exact(x.choose_spec 0).symm.trans (h 0)
def ab9{S:Type}:Res×S->Option Res
 |(.rt d,_)=>some (.rt d)
 |_=>none
def AH(j:Nat)(g:Addr->GD Dk):bo:=λδ=>Jh λa=>(g a (δ.set j (some (dw a))) ⟨[],[]⟩).bind ab9
section
variable {X:Cx}{O:List Nat}{C f:Addr}{fd:FuncData}{k kk j:Nat}{x y:Str}{Ji pos L8 pos':Pos}{rest:List Stmt}{xk:Str->Hp->Prop}
theorem Rel.hide{K:Frag}(R:Rel K O U A0 σ δ H)(s:aG H H')(n:∀x∈B,H x=none)(w:∀x∈B,∃o,H' x=some o/\yg o):Rel K O U (B++A0) σ δ H':=by
 have k:aG (wo H (U++A0)) (wo H' (U++(B++A0))):=λb o hb=>by
  have nb:b∉U++A0:=λz=>by rw[fQ z]at hb;cases hb
  rw[bg nb]at hb;rw[bg λz=>?_];.exact s b o hb
  .grind
 refine⟨R.len,λi d hi ed=>?_,λi d hi ed=>?_,R.inj,λ8=>?_,λp xs m=>s.ng (R.al.2.1 p xs m),λp y q m=>s _ _ (R.al.2.2 p y q m)⟩
 .obtain ⟨v,a,b⟩:=R.fz i d hi ed;exact⟨v,a,b.same k⟩
 .obtain ⟨l,o,a,b,c,v⟩:=R.ow i d hi ed;exact⟨l,o,a,b,s l o c,v.same k⟩
 .rcases aap.mp hx with y|y
  .obtain ⟨o,e,v⟩:=R.al.1 x (aax _ y);exact⟨o,s x o e,v⟩
  .rcases aap.mp y with y|y;.grind
   .obtain ⟨o,e,v⟩:=R.al.1 x (aaf _ y);exact⟨o,s x o e,v⟩
theorem L9(M:Mk X.K C f)(F:jR X.prog X.w X.K X.mg X.base lR k f fd ["self"] (AG X.K C))(hr:cW kk X.A)(hk:k+1<=kk)(hm:X.mg x=some (.ref C))(hb:Binds X.K fd ["self"] [])(hN:X.N.Nodup)(hi:X.N[j]?=some y)(hx:Loc X.env.scope y)
  (Ma:∀a dx p q,iP X rest (tq X.K O (Jf C a dx p q) xk (g a)))(hj:j∉O:=by decide)(hg:Gl X x:=by rfl)(pK:⇑5:=by decide)
  (hs:swapsWith (.Call (.Name x Ji) [] [] pos) (some (.Name y L8)) pos'.line X.env=pure false:=by rfl)(hf:X.fn y=true\/X.env.scope.names.lookup y=some .local:=by first|exact .inl rfl|exact .inr rfl):
  iP X (.Assign [.Name y L8] (.Call (.Name x Ji) [] [] pos) pos'::rest) (tS X.K O (false,xk) (AH j g)):=by
 have h2:iP X rest (λE σ H=>∃a dx p q,tq X.K O (Jf C a dx p q) xk (g a) E σ H):=λpins s σ H E I ⟨a,dx,p,q,t⟩=>Ma a dx p q pins s σ H E I t
 refine(lE (eY hN hi hx (KE M F (hr.mono hk) hg hm hb .nil Gk pK) hs hf) h2).mono λE σ H hh=>hh.e λH0 U A0 δ r R F0 ed P=>?_
 intro a dx ha hdx iw
 refine⟨a,dx,rfl,aL,by rw[av iw];exact aL,λp q hp hq hpq=>⟨rfl,a,dx,p,q,?_⟩⟩
 obtain⟨⟨r1,s1⟩,e1,e2⟩:=bind1 (CD ed a)
 have np:p≠a:=λz=>by rw[z,aL]at hp;cases hp
 have nd:p≠dx:=λz=>by rw[z,av iw,aL]at hp;cases hp
 have hp0:H p=none:=by rw[av np,av nd]at hp;exact hp
 have nq:q≠a:=λz=>by rw[z,aL]at hq;cases hq
 have ndq:q≠dx:=λz=>by rw[z,av iw,aL]at hq;cases hq
 have hq0:H q=none:=by rw[av nq,av ndq]at hq;exact hq
 obtain⟨H',eH⟩:∃H',H'=upd (upd (upd (upd (upd H dx (.own a)) a (.ins C dx [])) p (.dK [])) q (.dK [])) a (.ins C dx [("plans",.ref p),("lots",.ref q)]):=⟨_,rfl⟩
 rw[<-eH]
 have k1:H' a=some (.ins C dx [("plans",.ref p),("lots",.ref q)]):=by rw[eH];exact aL
 have k2:H' dx=some (.own a):=by rw[eH,av iw,av (acw ndq),av (acw nd),av iw];exact aL
 have k3:H' p=some (.dK []):=by rw[eH,av np,av hpq];exact aL
 have k4:H' q=some (.dK []):=by rw[eH,av nq];exact aL
 have sm:aG H H':=λb o h=>by
  have f1:b≠a:=λz=>by rw[z,ha]at h;cases h
  have f2:b≠dx:=λz=>by rw[z,hdx]at h;cases h
  have f3:b≠p:=λz=>by rw[z,hp0]at h;cases h
  have f4:b≠q:=λz=>by rw[z,hq0]at h;cases h
  rw[eH,av f1,av f4,av f3,av f1,av f2];exact h
 have dk:∀Hw,Cy C X.K H' Hw a dx p q ⟨[],[]⟩:=λHw=>⟨k1,k2,⟨[],k3,rfl,.nil⟩,⟨[],k4,rfl,.nil⟩,hpq⟩
 have nB:∀z∈[a,dx,p,q],H z=none:=λz hz=>by grind
 have nn:∀A:List Addr,(∀z∈A,∃o,H z=some o/\yg o)->∀z∈A,z∉[a,dx,p,q]:=λA h z hz hB=>by grind
 have R1:=(R.hide (B:=[a,dx,p,q]) sm nB (dk (wo H' [])).own)
 refine⟨H0,[a,dx,p,q],U,A0,_,⟨[],[]⟩,r1,s1,⟨R1.set hj (.ptr a),⟨rfl,dk _⟩,nn U λz hz=>R.al.1 z (aax _ hz),nn A0 λz hz=>R.al.1 z (aaf _ hz)⟩,⟨F0.same.trans sm,F0.new,λz hz=>F0.same.free (nB z hz),F0.old⟩,e1,?_⟩
 cases r1 with
 |rt d=>
   cases e2;refine⟨λB v H2 s2 _ _ hv=>P.1 v H2 ?_,λB c H2 hd s2 _ _=>P.2 c H2 hd s2⟩;exact⟨s2,hv.same (i9 λz hz=>aaf _ hz)⟩
 |_=>cases e2
end
abbrev Fm:=List (Str×Nat×Addr×List Str)
def Mb(P:Params)(t:Fm)(n:Nat):Obj:=⟨.type "dict",none,.dict (t.map λe=>(⟨PyData.keyHash P e.1,.str e.1 e.2.1,.ref e.2.2.1⟩:DictEntry)).toArray n,#[]⟩
structure Pj(w:World)(K:Frag)(mg:eQ)(x:Str)(t:Fm):Prop where
 at_:∃a n,mg x=some (.ref a)/\(a==sysModules)=false/\K.lookup a=some (Mb w.params t n)
 xW:∀e∈t,(e.2.2.1,e.2.2.2.map V.str)∈eC
 nd:(t.map (·.1)).Nodup
theorem GZ{h:Heap}(e:h.get? a=some (Mb w.params t n))(nd:(t.map (·.1)).Nodup):h.DictOf (cZ P w) a (t.map λe=>((.inr e.1:Key),Value.ref e.2.2.1)):=by
 refine⟨_,_,n,e,⟨rfl,rfl,rfl⟩,rfl,λy hy=>?_,?_,?_⟩
 .have hy:y∈t.map λe=>(⟨PyData.keyHash w.params e.1,.str e.1 e.2.1,.ref e.2.2.1⟩:DictEntry):=by simpa using hy
  obtain⟨z,_,rfl⟩:=aaH.mp hy;exact⟨.inr z.1,sr z.1 z.2.1,rfl⟩
 .simp only[List.toList_toArray];clear e nd;induction t with
  |nil=>exact .nil
  |cons z t ih=>exact .cons (sr z.1 z.2.1) rfl ih
 .grind
theorem Mc{t:Fm}:valueAt (t.map λe=>((.inr e.1:Key),Value.ref e.2.2.1)) (.inr x)=(t.find? λe=>decide (e.1=x)).map λe=>Value.ref e.2.2.1:=by
 unfold valueAt
 rw[List.find?_map]
 have:((λkv:Key×Value=>decide (kv.1=.inr x)) ∘ λe:Str×Nat×Addr×List Str=>((.inr e.1:Key),Value.ref e.2.2.1))=λe=>decide (e.1=x):=by grind
 rw[this]
 cases t.find? λe=>decide (e.1=x)<;>rfl
noncomputable def Pk(t:Fm)(g:bj):bj:=λδ=>(g δ).bind λd=>match d with
 |.str x=>some (.bool (t.find? λe=>decide (e.1=x)).isSome)
 |_=>none
noncomputable def G0(t:Fm)(g:bj):bj:=λδ=>(g δ).bind λd=>match d with
 |.str x=>(t.find? λe=>decide (e.1=x)).map λe=>.tuple (e.2.2.2.map .str)
 |_=>none
theorem Md{K:Frag}(l:List Str):cY K H (l.map V.str) (l.map .str):=by
 induction l with
 |nil=>exact .nil
 |cons a l ih=>exact .cons (.str a) ih
section
variable {X:Cx}{O:List Nat}{x:Str}{t:Fm}{i:Expr}{g:bj}{pos np:Pos}
theorem UM(F:Pj X.w X.K X.mg x t)(hi:PE X i (tE X.K O g))(hg:Gl X x:=by rfl)(hd:⇑5:=by decide)(hm:behindInMarks .In (.Name x np)=false:=by rfl):PE X (.Compare i [.In] [.Name x np] pos) (tE X.K O (Pk t g)):=by
 obtain⟨⟨a,n,hx,hs,lk⟩,tp,nd⟩:=F
 refine(SQ (t:=λ7=>tE X.K O g σ H λy H1=>∃z,y=.str z/\Q (.bl (t.find? λe=>decide (e.1=z)).isSome) H1) (λpins s σ H Q I h=>?_) hm).mono λ0=>?_
 .refine dq (hi pins s σ H _ I h) λiv s1 ⟨y,H1,I1,ry,z,ey,q1⟩=>?_;subst ey;refine dq (Q:=λu s2=>u=.ref a/\s2=s1) (ky I1 hg hx ⟨rfl,rfl⟩ hd) λu s2 ⟨e1,e2⟩=>?_;subst e1 e2;have dd:=GZ (P:=X.prog) (w:=X.w) (I1.mV _ _ lk) nd;refine wpAny_in_of (knd:=cZ X.prog X.w) (k:=.inr z) (uo (k:=.inr z) ry) hs dd.mapOf ?_;rw[Mc,afY];exact⟨.bl _,H1,I1.tok _,rfl,q1⟩
 .obtain ⟨y,e1,e2⟩:=bind1 ed;cases y with
  |str z=>
    cases e2;exact⟨U,A0,δ,_,R,e1,λv H' s hv=>by cases hv;exact⟨z,rfl,q _ H' s (.bl _)⟩⟩
  |_=>cases e2
theorem Pm(F:Pj X.w X.K X.mg x t)(hi:PE X i (tE X.K O g))(hg:Gl X x:=by rfl)(hd:⇑5:=by decide)(hs:Eg i:=by intro _ _;rfl):PE X (.Subscript (.Name x np) i pos) (tE X.K O (G0 t g)):=by
 obtain⟨⟨a,n,hx,_,lk⟩,tp,nd⟩:=F
 refine(show PE X (.Subscript (.Name x np) i pos) (λ7=>tE X.K O g σ H λy H1=>∃z e,y=.str z/\(t.find? λe=>decide (e.1=z))=some e/\Q (.ref e.2.2.1) H1)from λpins s σ H Q I h=>?_).mono λ0=>?_
 .refine Ad aeG.lookup hs (dq (Q:=λu s1=>u=.ref a/\s1=s) (ky I hg hx ⟨rfl,rfl⟩ hd) λu s1 ⟨e1,e2⟩=>?_);subst e1 e2;refine dq (hi pins s1 σ H _ I h) λiv s2 ⟨y,H2,I2,ry,z,e,ey,ef,q2⟩=>?_;subst ey;have dd:=GZ (P:=X.prog) (w:=X.w) (I2.mV _ _ lk) nd;refine⟨dd.mapOf.typeIs,wpAny_getItem_of (knd:=cZ X.prog X.w) (k:=.inr z) (uo (k:=.inr z) ry) dd.mapOf (by rw[Mc,ef];rfl) ⟨.ref e.2.2.1,H2,I2.tok _,rfl,q2⟩⟩
 .obtain ⟨y,e1,e2⟩:=bind1 ed;cases y with
  |str z=>
    obtain⟨e,ef,rfl⟩:=acu.mp e2;refine⟨U,A0,δ,_,R,e1,λv H' s hv=>?_⟩;cases hv;refine⟨z,e,rfl,ef,q _ H' s ?_⟩;have R':=R.same s;have tt:=R'.al.2.1 _ _ (tp e (List.mem_of_find?_eq_some ef));refine .tup (tt.wo λhz=>?_) (Md _);obtain⟨o,ho,w⟩:=R'.al.1 _ hz;exact tt.apart ho w rfl
  |_=>cases e2
end
end L2
namespace L2
open PySem PySem.Spec PyProof.Rows
section
variable {X:Cx}{O:List Nat}{o e f:Expr}{go ge gf:bj}{apos fE:Pos}
noncomputable def lK(a b:Str)(k:Int):List Str:=Builtin.Str.partsBetween a (Builtin.Str.occurrences a b 0 a.length (limitOf a k)) b.length
def iW(a b:Str)(k:Int):Bool:=(b.length==0)==false&&!(decide (a.length<b.length)||decide (Builtin.Str.strKind a<Builtin.Str.strKind b))&&!(Builtin.Str.occurrences a b 0 a.length (limitOf a k)).isEmpty&&decide (0<=k)&&decide (k<1000)&&decide (a.length<=100000)&&decide ((lK a b k).length<=100000)
def Pn:V->List V->Hp->VK->Prop:=λx vs H Q=>∃a b k,x=.str a/\vs=[.str b,.int k]/\iW a b k=true/\∀p,H p=none->Q (.ref p) (upd H p (.lst ((lK a b k).map V.str)))
theorem Jj:VY X "str.split" Pn:=by
 intro 7
 obtain⟨a,b,k,rfl,rfl,bU,q⟩:=h
 unfold iW at bU
 simp only[aaX,aa4,af2]at bU
 obtain⟨⟨⟨⟨⟨⟨k1,k2⟩,k3⟩,k4⟩,k5⟩,k6⟩,k7⟩:=bU
 obtain⟨t,rfl⟩:=rx
 obtain⟨u,w,rfl,⟨t',rfl⟩,⟨t2,rfl⟩⟩:=bA.two rv
 have z7:=adN (nA k7)
 refine call_meets PySem.F.slot_str_split (typeIs_str _ _ _) PySem.F.entry_str_split (PySem.F.args_str_split_3 _ _ _) (meets_str_split_sep_max a b k t t' t2 (by simp;lia) k2 (by simpa using k1) k3 (Nat.le_of_lt (nA k6)) z7) ?_
 rw[strsFrom_eq]
 have hl:=numbered_texts s.toks (lK a b k)
 have J:=I.laid (t':=s.toks+(lK a b k).length) (o:=.lst ((lK a b k).map V.str)) (h':=s.heap.push {cls:=.type "list",data:=.seq (strValues (numbered s.toks (lK a b k))).toArray}) (a:=s.heap.objs.size) (λ_ _ z=>aaa _ z) (aah _)
  ⟨by rw[aac];exact z7,strValues (numbered s.toks (lK a b k)),0,by have:=qh (numbered s.toks (lK a b k));rw[hl]at this;exact this,aae _ rfl⟩
 exact⟨.ref _,_,J,rfl,q _ (I.bU.fresh (aah _))⟩
def mh(go ge gf:bj):cC:=λδ=>(go δ).bind λs=>(ge δ).bind λx=>(gf δ).bind λy=>match s,x,y with
 |.str a,.str b,.int k=>if iW a b k=true then some ((lK a b k).map .str)else none
 |_,_,_=>none
theorem Jk(ho:PE X o (iy X.K O go))(he:PE X e (iy X.K O ge))(hf:PE X f (iy X.K O gf))(rh:attributeBase o "split" X.env (eval o X.env)=eval o X.env:=by rfl)
  (Ab:((backTo fE (starEach [e,f] X.env)).all (λx=> !x.1)&&(backToKw fE (keywordEach [] X.env)).all (λx=>x.1.isSome)&&decide ([e,f].length+([]:List Keyword).length+(if([]:List Keyword).isEmpty then 0 else 1)<30))=true:=by rfl)
  (rj:(apos.endLine==fE.line)=true:=by rfl)(ra:starEach [e,f] X.env=[⇑18,(false,eval f X.env)]:=by rfl)(hs:starEach [f] X.env=[(false,eval f X.env)]:=by rfl)(Ao:starEach ([]:List Expr) X.env=[]:=by rfl):
  PE X (.Call (.Attribute o "split" apos) [e,f] [] fE) (tN X.K O (mh go ge gf)):=
 (iR aet ad8 PySem.F.type_str_split Jj ho (bz he (bz hf cX (by rw[hs,Ao])) (by rw[ra,hs])) rh Ab rj (by rw[ra,hs]) (by rw[hs];rfl)).mono λ0=>by
  obtain⟨s,e1,ed⟩:=bind1 ed;obtain⟨x,e2,ed⟩:=bind1 ed;obtain⟨y,e3,ed⟩:=bind1 ed;cases s with
  |str a=>
    cases x with
    |str b=>
      cases y with
      |int k=>
        replace ed:(if iW a b k=true then some ((lK a b k).map PyData.str)else none)=some d:=ed;by_cases bU:iW a b k=true
        .rw [aav bU]at ed;cases ed;refine⟨U,A0,δ,_,R,e1,λv H1 s1 h1=>?_⟩;rw[h1.text];refine⟨rfl,U,A0,δ,_,R.same s1,e2,λw H2 s2 h2=>?_⟩;rw[h2.text];refine⟨U,A0,δ,_,R.same (s1.trans s2),e3,λw3 H3 s3 h3=>?_⟩;rw[h3.int];refine⟨a,b,k,rfl,rfl,bU,λp hp=>?_⟩;have s4:=(s1.trans s2).trans s3;exact q p _ _ (s4.trans (cU hp _)) (s4.free hp) aL (cY.texts _)
        .grind
      |_=>cases ed
    |_=>cases ed
  |_=>cases ed
end
end L2
namespace L2
open PySem PySem.Spec PySem.W PyProof.Rows
section
end
section
end
section
end
section
end
open Classical in
section
end
section
end
def YX(K:Frag)(mg:eQ)(y x:Str)(st:Stmt)(ps:List Str):Prop:=∃f fd,uG K x x st f fd/\mg y=some (.ref f)/\Binds K fd ps []
theorem G1{K:Frag}{st:Stmt}(O:List Nat)(g:bo)(F:YX K mg y x st ps)(S:az N ps (ah st))
  (body:∀(f:Addr) (de:Value) (A:Around) (outer:List Env) (s:Shared) (H:Hp) (E:XK),cW k (A.deeper (envOfC x (ah st) s.heap.objs.size f de))->iP (rb lR P w K mg base N x (ah st) f de A outer s H E).BM (cf st) (tS K O (false,λ_ _=>True) g))
  (hO:∀i∈O,ps.length<=i:=by decide)(hN:N.length=n:=by rfl)(hP:ps.length=m:=by rfl):Dn P w K mg base (k+1) y ps (il K m (d9 n g)):=by
 obtain⟨f,fd,F,e,b⟩:=F
 exact⟨f,fd,Q3 O g F S body hO hN hP,e,F.kp,b⟩
abbrev Tk:=List (Addr×List (Str×Nat))
def tkV(t:Tk):List (Addr×List V):=t.map λe=>(e.1,e.2.map λx=>V.str x.1)
def tkO(l:List (Str×Nat)):Obj:=⟨.type "tuple",none,.seq (l.map λx=>Value.str x.1 x.2).toArray 0,#[]⟩
theorem G4:∀l:List (Str×Nat),bA (l.map λx=>V.str x.1) (l.map λx=>Value.str x.1 x.2)
 |[]=>.nil
 |_::l=>.cons ⟨_,rfl⟩ (G4 l)
theorem G5{α:Type}{x:α}:∀{l:List (Addr×α)},(l.map (·.1)).Nodup->(p,x)∈l->l.lookup p=some x
 |(b,y)::l,nd,m=>by
   rw[aaw,aeT]at nd;rw[aen];rcases aaj.mp m with z|z;.grind
   .have:(p==b)=false:=aa8.mpr λe=>nd.1 (e ▸ (aaH.mpr ⟨_,z,rfl⟩:p∈l.map (·.1)));rw[this];exact G5 nd.2 z
theorem Me{α:Type}{x:α}:∀{l:List (Addr×α)},l.lookup p=some x->(p,x)∈l
 |(b,y)::l,h=>by
   rw[aen]at h;cases q:p==b with
   |true=>rw[q]at h;cases h;rw[eq_of_beq q];exact aan
   |false=>rw[q]at h;exact aat _ (Me h)
theorem YY{K:Frag}:∀{t:Tk},t.map (λe=>K.lookup e.1)=t.map (λe=>some (tkO e.2))->∀e∈t,K.lookup e.1=some (tkO e.2):=by simp
theorem UN{K:Frag}(ct:eC=tkV t)(nd:((tkV t).map (·.1)).Nodup)(h:t.map (λe=>K.lookup e.1)=t.map (λe=>some (tkO e.2)))(hl:∀e∈t,e.2.length<=sizeLine):jZ K:=by
 refine⟨λp xs m=>?_,λp xs m=>?_⟩
 .rw [ct]at m ⊢;exact G5 nd m
 .rw [ct]at m;obtain⟨e,he,q⟩:=aaH.mp (Me m);cases q;refine⟨_,_,_,_,YY h e he,?_,?_⟩;.grind
  .exact G4 e.2
theorem YZ{t:Fm}(ct:eC=tkV k)(e:(t.map λe=>(e.2.2.1,e.2.2.2))=k.map λe=>(e.1,e.2.map (·.1))):∀e∈t,(e.2.2.1,e.2.2.2.map V.str)∈eC:=λ8=>by
 have:(x.2.2.1,x.2.2.2)∈k.map λe=>(e.1,e.2.map (·.1)):=e ▸ List.mem_map_of_mem (f:=λe:Str×Nat×Addr×List Str=>(e.2.2.1,e.2.2.2)) hx
 obtain⟨y,hy,q⟩:=aaH.mp this
 obtain⟨q1,q2⟩:=Prod.mk.inj q
 rw[ct,<-q1,<-q2,ad0]
 exact List.mem_map_of_mem (f:=λe:Addr×List (Str×Nat)=>(e.1,e.2.map λx=>V.str x.1)) hy
end L2
namespace L2
open PySem PySem.Spec PyProof.Rows LS
def J2(k:Nat)(ix O:List Nat):List Nat:=(ix.zipIdx k).filterMap λp=>if p.1∈O then some p.2 else none
set_option tactic.hygienic true in
theorem rG:i∈J2 k ix O↔k<=i/\∃j,ix[i-k]?=some j/\j∈O:=by
 unfold J2
 rw[afD]
 constructor
 .grind
 .rintro ⟨a,j,b,hj⟩;exact⟨(j,i),List.mem_zipIdx_iff_le_and_getElem?_sub.mpr ⟨a,b⟩,aav hj⟩
section
variable {K:ao}{O O':List Nat}{U A0:List Addr}{σ:St}{δ:DS}{H H1:Hp}
theorem wF{α:Type}{c:List (Option α)}(h:k<=i):(List.replicate k none++c)[i]?=c[i-k]?:=by grind
theorem Rel.Y0(R:Rel K O' U A0 σ (own++c) H)(ho:∀i∈O',own.length<=i):Rel K O' U A0 σ (List.replicate own.length none++c) H:=by
 have up:∀i e,(List.replicate own.length none++c)[i]?=some (some e)->(own++c)[i]?=some (some e):=λi e q=>by
  by_cases h:i<own.length
  .rw [List.getElem?_append_left (by simpa using h),List.getElem?_replicate,if_pos h]at q;cases q
  .rw [wF (aea h)]at q;rw[abI (aea h)];exact q
 exact⟨by rw[R.len];simp,λi e hi q=>R.fz i e hi (up i e q),λi e hi q=>R.ow i e hi (up i e q),λi j d e l hi hj n q1 q2=>R.inj i j d e l hi hj n (up i d q1) (up j e q2),R.al⟩
theorem vq{i j:Nat}(hj:ix[i]?=some j)(h:(eR ix δ)[i]?=some (some e)):δ[j]?=some (some e):=by
 unfold eR at h
 rw[aas,hj]at h
 simp only[ad5,af3]at h
 exact join_some h
theorem G6{i j:Nat}(hj:ix[i]?=some j)(h:σ[j]?=some (some v)):(L2.pL ix σ)[i]?=some (some v):=by
 unfold L2.pL
 rw[aas,hj]
 simp[h]
theorem G7{i j:Nat}(hj:ix[i]?=some j)(h:(L2.pL ix σ)[i]?=some (some v)):σ[j]?=some (some v):=by
 unfold L2.pL at h
 rw[aas,hj]at h
 simp only[ad5,af3]at h
 exact join_some h
theorem Rel.Y1(R:Rel K O U A0 σ δ H)(k:Nat)(nd:ix.Nodup):Rel K (J2 k ix O) U A0 (List.replicate k none++L2.pL ix σ) ⇑30 H where
 len:=by simp[L2.pL,eR]
 fz:=λi e hi q=>by
  by_cases h:i<k
  .rw [List.getElem?_append_left (by simpa using h),List.getElem?_replicate,if_pos h]at q;cases q
  .have h:=aea h;rw[wF h]at q ⊢;cases ei:ix[i-k]? with
   |none=>unfold eR at q;rw[List.getElem?_map,ei]at q;cases q
   |some j=>
     obtain⟨u,hu,hd⟩:=R.fz j e (λhj=>hi (rG.mpr ⟨h,j,ei,hj⟩)) (vq ei q);exact⟨u,G6 ei hu,hd⟩
 ow:=λi e hi q=>by
  obtain⟨h,j,ei,hj⟩:=rG.mp hi;rw[wF h]at q ⊢;obtain⟨l,o,a,r⟩:=R.ow j e hj (vq ei q);exact⟨l,o,G6 ei a,r⟩
 inj:=λi i' d e l hi hi' n q q' p p'=>by
  obtain⟨h,j,ei,hj⟩:=rG.mp hi;obtain⟨h',j',ei',hj'⟩:=rG.mp hi';rw[wF h]at q p;rw[wF h']at q' p';refine R.inj j j' d e l hj hj' (λz=>n ?_) (vq ei q) (vq ei' q') (G7 ei p) (G7 ei' p');subst z;have:=(List.getElem?_inj (aar.mp ei).1 nd).mp (ei.trans ei'.symm);lia
 al:=R.al
structure CBo(K:ao)(O':List Nat)(U A0:List Addr)(H1:Hp)(ds xs:List D)(F:D->Option (Option D))(base:DS)(i:Nat)(ys:List V)(τ:St)(H2:Hp)(zs rest:List D):Prop where
 le:i<=ds.length
 s:aG H1 H2
 R:Rel K O' U A0 τ base H2
 yl:ys.length<=i
 hz:cY K (wo H2 (U++A0)) ys zs
 he:qg F (ds.drop i)=some rest
 hx:zs++rest=xs
def acd(K:ao)(O':List Nat)(U A0:List Addr)(H1:Hp)(ds xs:List D)(F:D->Option (Option D))(base:DS)(i m:Nat)(ys:List V)(τ:St)(H2:Hp):Prop:=m=ds.length-i/\∃zs rest,CBo K O' U A0 H1 ds xs F base i ys τ H2 zs rest
theorem Jl(own:OS k gt)(R:Rel K O U A0 σ δ H)(s:aG H H1)(nd:ix.Nodup)(hw:WalksS K (U++A0) H1 J ds)
  (hl:ds.length<=100000)(e:qg (λd=>(gt d ⇑30).bind λfg=>(gc fg).bind λb=>if b=true then(ge fg).map some else some none) ds=some xs)
  (q:∀r ys H',aG H H'->H r=none->H' r=some (.lst ys)->cY K (wo H' (r::(U++A0))) ys xs->Q (.ref r) H'):vj J k ix (tG K (J2 k ix O) gt) (tT K (J2 k ix O) gc) (tE K (J2 k ix O) ge) σ H1 Q:=by
 have Z2:(100000:Nat)<sizeLine:=by decide
 obtain⟨F,hF⟩:∃F:D->Option (Option D),F=λd=>(gt d ⇑30).bind λfg=>(gc fg).bind λb=>if b=true then(ge fg).map some else some none:=⟨_,rfl⟩
 rw[<-hF]at e
 refine⟨acd K (J2 k ix O) U A0 H1 ds xs F ⇑30,⟨ds.length,rfl,[],xs,abO _,aG.refl _,(R.same s).Y1 k nd,aah _,.nil,e,rfl⟩,?_⟩
 rintro i m ys τ H2 ⟨rfl,zs,rest,w⟩
 have hle:=w.le
 have OM:=w.yl
 have he:=w.he
 refine⟨by lia,?_⟩
 obtain⟨T6,vW⟩:=hw i H2 w.s
 by_cases hV:i<ds.length
 .obtain ⟨go,Yz⟩:=T6 _ (aal hV);rw[acB hV,qg]at he;generalize ds[i]=d at Yz he;obtain⟨o,e1,e2⟩:=bind1 he;obtain⟨rs,e3,e4⟩:=bind1 e2;rw[hF]at e1;obtain⟨fg,f1,f2⟩:=bind1 e1;obtain⟨b,f3,f4⟩:=bind1 f2;obtain⟨ir,ol,oe⟩:=own d _ fg f1;refine .inr ⟨go,by lia,λv H3 y=>?_⟩;obtain⟨s3,hv⟩:=Yz v H3 y;refine⟨U,A0,_,d,fg,w.R.same s3,hv,f1,λGB R3=>⟨U,A0,fg,b,R3,f3,λH4 s4=>?_⟩⟩;have wk:∀{H':Hp},aG H3 H'->Rel K (J2 k ix O) U A0 GB ⇑30 H':=λ{H'} s'=>by
   rw[oe]at R3;have t:=(R3.same s').Y0 λi hi=>by rw[ol];exact(rG.mp hi).1
   rw[ol]at t;exact t
  have lt:ds.length-(i+1)<ds.length-i:=Nat.sub_lt_sub_left hV (acx i);cases b with
  |true=>
    rw[aav rfl]at f4;dsimp only;rw[aav rfl];cases eg:ge fg with
    |none=>rw[eg]at f4;cases f4
    |some x=>
      rw[eg]at f4;cases f4;cases e4;exact⟨U,A0,fg,x,R3.same s4,eg,λu H5 s5 hu=>⟨_,lt,rfl,zs++[x],rs,hV,((w.s.trans s3).trans s4).trans s5,wk (s4.trans s5),by rw[aak];exact afj OM,(w.hz.same (bR ((s3.trans s4).trans s5))).app (.cons hu .nil),e3,by rw[<-w.hx,abt];rfl⟩⟩
  |false=>
    cases f4;cases e4;exact⟨_,lt,rfl,zs,rs,hV,(w.s.trans s3).trans s4,wk s4,Nat.le_succ_of_le OM,w.hz.same (bR (s3.trans s4)),e3,w.hx⟩
 .have hi:i=ds.length:=afu hle (aea hV);subst hi;rw[aeo,qg]at he;cases he;have hx:=w.hx;rw[abr]at hx;subst hx;exact .inl ⟨vW rfl,λp hp=>zp (s.trans w.s) q p ys hp w.hz⟩
end
section
variable {X:Cx}{O O':List Nat}{scope:Scope}{elt iter tg:Expr}{ifs:List Expr}{pos:Pos}{gi:cC}{ge:bj}{gt:D->DS->Option DS}{gc:nh}{k:Nat}
set_option tactic.hygienic true in
theorem Mf{K:ao}(own:OS k gt)(nd:ix.Nodup):tN K O (di gi k ix gt gc ge) σ H Q->Ax (Q5 K O gi) k ix (tG K (J2 k ix O) gt) (tT K (J2 k ix O) gc) (tE K (J2 k ix O) ge) σ H Q:=λ⟨U,A0,δ,xs,R,ed,q⟩=>by
 obtain⟨ds,e1,e2⟩:=bind1 ed
 split at e2
 .rename_i hl;exact⟨U,A0,δ,ds,R,e1,λJ H1 s hw=>Jl own R s nd hw hl e2 q⟩
 .grind
theorem Mg(sc:Scope)(N:List Str)(ix:List Nat)(N' xs:List Str)(O':List Nat)(Yv:X.N.Nodup)(Ra:X.N[i]?=some y)(hy:X.env.scope.names.lookup y=some .local)(own:OS k gt)(hi:PI X tg iter (Q5 X.K O gi))
  (hg:∀cl C s2 H2 fp pins,PG ⇑6 tg (tG X.K O' gt))(hf:∀cl C s2 H2 fp pins,PF ⇑6 ifs (tT X.K O' gc))(wc:∀cl C s2 H2 fp pins,PE ⇑6 elt (tE X.K O' ge))
  (hO:J2 k ix O=O':=by rfl)(nd:ix.Nodup:=by decide)(hk:nL sc scope N xs ix N'=true:=by decide +kernel)(hl:xs.length=k:=by rfl)
  (e1:X.env.scope=sc:=by rfl)(e2:X.N=N:=by rfl)(hc:X.calm=true:=by rfl)(hs:⇑35:=by intro _;rfl)(Yw:swapsWith ⇑15 (some (.Name y py)) IM.line X.env=pure true:=by rfl):
  PS X (.Assign [.Name y py] ⇑15 IM) (su (tN X.K O (di gi k ix gt gc ge)) (mW i)):=by
 subst hl hO
 exact(zy (gd:=zd) (qf hk e1 e2) (λ1=>hc) hi hg hf wc hs Yv Ra hy Yw).mono λ_ _ _ h=>Mf own nd h
end
end L2
namespace L2
open PySem PySem.Spec PyProof.Rows
def rtO:Res->Option Res
 |.rt d=>some (.rt d)
 |_=>none
def wG(i:Nat)(ge:bj)(gr:bo):bo:=λδ=>(ge δ).bind λd=>(gr (δ.set i (some d))).bind rtO
theorem Rel.give{K:ao}(R:Rel K O U A0 σ δ H)(hO:∀j,j∈O↔j=i\/j∈O')(hi:i∉O')(hv:HD K (wo H (U++A0)) v d):Rel K O' U A0 (σ.set i (some v)) (δ.set i (some d)) H where
 len:=by rw[aca,aca];exact R.len
 fz:=λj e hj he=>by
  by_cases q:j=i
  .subst q;by_cases hl:j<δ.length
   .rw [abl hl]at he;cases he;exact⟨v,abl (by rw[R.len];exact hl),hv⟩
   .rw [acI (by rw[aca];lia)]at he;cases he
  .rw [aaT (acw q)]at he ⊢;exact R.fz j e (λz=>((hO j).mp z).elim q hj) he
 ow:=λj e hj he=>by
  have q:i≠j:=λz=>hi (by rw[z];exact hj);rw[aaT q]at he ⊢;exact R.ow j e ((hO j).mpr (.inr hj)) he
 inj:=λj k e f l hj hk n h1 h2 h3 h4=>by
  have q1:i≠j:=λz=>hi (by rw[z];exact hj);have q2:i≠k:=λz=>hi (by rw[z];exact hk);rw[aaT q1]at h1 h3;rw[aaT q2]at h2 h4;exact R.inj j k e f l ((hO j).mpr (.inr hj)) ((hO k).mpr (.inr hk)) n h1 h2 h3 h4
 al:=R.al
section
variable {X:Cx}{O O':List Nat}{fr:Fr}{st:Stmt}{rest:List Stmt}{gr:bo}{ge:bj}{i:Nat}
theorem Po(h1:PS X st (su (tE X.K O ge) (mW i)))(h2:iP X rest (tS X.K O' fr gr))(hO:(∀j,j∈O↔j=i\/j∈O'):=by intro j;simp)(hi:i∉O':=by decide):iP X (st::rest) (tS X.K O fr (wG i ge gr)):=(lE h1 h2).mono λ3=>by
 obtain⟨d,e1,e2⟩:=bind1 ed
 obtain⟨r1,e3,e4⟩:=bind1 e2
 cases r1 with
 |rt d'=>
   cases e4;exact⟨U,A0,δ,d,R,e1,λv H' s hv=>⟨H0,U,A0,_,.rt d',(R.same s).give hO hi hv,F.grow s,e3,P⟩⟩
 |_=>cases e4
end
end L2
namespace L2
open PySem PySem.Spec PySem.W PyProof.Rows
structure Kp where
 dk:Dk
 kp:List (Str×D)
def UO(C a dx p q m:Addr):xT Kp where
 P K H Hw B s:=B=[a,dx,p,q]++[m]/\Cy C K H Hw a dx p q s.dk/\∃kv,H m=some (.dK kv)/\TK K Hw kv s.kp
 own h x hx:=by
  obtain⟨rfl,h1,kv,h2,_⟩:=h;rcases aap.mp hx with z|z;.exact h1.own x z
  .rw [abA.mp z];exact⟨_,h2,trivial⟩
 mono h k e:=by
  obtain⟨rfl,h1,kv,h2,h3⟩:=h;exact⟨rfl,h1.mono (λ8=>k x (aax _ hx)) e,kv,(k m ⇑11).trans h2,h3.same e⟩
def rH(P:Program)(w:World)(m:Addr)(vs:List (Key×Value))(ep:Nat):HO:=.ext λh=>h.DictAt (cZ P w) m vs ep
structure KpI(P:Program)(w:World)(m:Addr)(kv:List (Key×V))(vs:List (Key×Value))(ep:Nat)(H:Hp):Prop where
 at':H m=some (rH P w m vs ep)
 rel:KV kv vs
 sys:(m==sysModules)=false
 z:kv.length<=sizeLine
def Pp(P:Program)(w:World)(C a dx p q m:Addr)(kv:List (Key×V))(vs:List (Key×Value))(ep:Nat)(l:List (Str×D)):xT Dk where
 P K H Hw B s:=B=[a,dx,p,q]++[m]/\Cy C K H Hw a dx p q s/\KpI P w m kv vs ep H/\TK K Hw kv l
 own h x hx:=by
  obtain⟨rfl,h1,h2,_⟩:=h;rcases aap.mp hx with z|z;.exact h1.own x z
  .rw [abA.mp z];exact⟨_,h2.at',trivial⟩
 mono h k e:=by
  obtain⟨rfl,h1,h2,h3⟩:=h;exact⟨rfl,h1.mono (λ8=>k x (aax _ hx)) e,⟨(k m ⇑11).trans h2.at',h2.rel,h2.sys,h2.z⟩,h3.same e⟩
structure Off(a dx p q m:Addr):Prop where
 n:m∉[a,dx,p,q]
theorem Y2(o:Off a dx p q m):Cz (UO C a dx p q m) C a dx p q Kp.dk (λs k=>⟨k,s.kp⟩):=⟨λ{K H Hw B s} h=>by
 obtain⟨rfl,h1,kv,h2,h3⟩:=h
 exact⟨[m],λ_=>Iff.rfl,λ8=>by rw[abA.mp hx];exact o.n,h1,λk n e=>⟨rfl,k,kv,(n m ⇑11).trans h2,h3.same e⟩⟩⟩
theorem Y3(o:Off a dx p q m):Cz (Pp P w C a dx p q m kv vs ep l) C a dx p q id (λ_ k=>k):=⟨λ{K H Hw B s} h=>by
 obtain⟨rfl,h1,h2,h3⟩:=h
 exact⟨[m],λ_=>Iff.rfl,λ8=>by rw[abA.mp hx];exact o.n,h1,λk n e=>⟨rfl,k,⟨(n m ⇑11).trans h2.at',h2.rel,h2.sys,h2.z⟩,h3.same e⟩⟩⟩
noncomputable def AI{S:Type}(G:List D->Option D)(n:Nat)(ga:DS->S->Option (D×S))(gr:cC):DS->S->Option (D×S):=λδ s=>(ga δ s).bind λr=>(gr δ).bind λds=>if ds.length+1=n then(G (r.1::ds)).bind λd=>some (d,r.2)else none
section
variable {S:Type}{Γ:xT S}{X:Cx}{O:List Nat}{a e:Expr}{es:List Expr}{pos Ji:Pos}{x:Str}{ps:List Str}{k kk n:Nat}
set_option tactic.hygienic true in
theorem Jm(F:Dn X.prog X.w X.K X.mg X.base k x ps (il X.K n G))(hr:cW kk X.A)(hk:k<=kk)(ha:PE X a (GU X.K O Γ ga))(hb:PA X (e::es) (BY X.K O gr))(hg:Gl X x:=by rfl)
  (pK:⇑5:=by decide)(he:starEach (a::e::es) X.env=(false,eval a X.env)::starEach (e::es) X.env:=by rfl)(iQ:(backTo pos (starEach (e::es) X.env)).any (·.1)=false:=by rfl):
  PE X (.Call (.Name x Ji) (a::e::es) [] pos) (GU X.K O Γ (AI G n ga gr)):=(Gn F hr hk (bz ha hb he) hg pK he iQ).mono λσ H Q ⟨B,U,A0,δ,s,d,s',R,ed,qq⟩=>by
 obtain⟨⟨y,s1⟩,e1,e2⟩:=bind1 ed
 obtain⟨ds,e3,e4⟩:=bind1 e2
 split at e4
 rotate_left
 .grind
 rename_i hn
 obtain⟨d',e5,e6⟩:=bind1 e4
 cases e6
 refine⟨B,U,A0,δ,s,y,s1,R,e1,λB1 v H1 k1 n1 R1 h1=>⟨U,B1++A0,δ,ds,R1.r,e3,λvs H2 s2 h2=>?_⟩⟩
 show il X.K n G ((v::vs)++[]) H2 Q E0
 rw[abr]
 exact⟨by rw[<-hn,<-h2.len];rfl,U++(B1++A0),y::ds,_,(R1.same s2).r.al,.cons (h1.same (bR s2)) h2,e5,λu H3 s3 h3=>qq B1 u H3 (k1.trans (.of (s2.trans s3))) n1 (R1.same (s2.trans s3)) h3⟩
end
noncomputable def ace:Res×Kp->Option (Res×Dk)
 |(.rt d,s)=>some (.rt d,s.dk)
 |_=>none
def EL(j:Nat)(g:Addr->GD Kp):GD Dk:=λδ s=>Jh λm=>(g m (δ.set j (some (dw m))) ⟨s,[]⟩).bind ace
section
variable {X:Cx}{O:List Nat}{C a dx p q m:Addr}{j k n:Nat}{x y:Str}{e1 e2 e3:Expr}{rest:List Stmt}{st:Stmt}{xk:Str->Hp->Prop}{L8 pos' dp:Pos}
theorem Mh(hN:X.N.Nodup)(hi:X.N[j]?=some y)(hx:Loc X.env.scope y)(Ma:∀m,Off a dx p q m->iP X rest (tq X.K O (UO C a dx p q m) xk (g m)))(hj:j∉O:=by decide)
  (hs:swapsWith (.Dict [] [] dp) (some (.Name y L8)) pos'.line X.env=pure false:=by rfl)(hf:X.fn y=true\/X.env.scope.names.lookup y=some .local:=by first|exact .inl rfl|exact .inr rfl):
  iP X (.Assign [.Name y L8] (.Dict [] [] dp) pos'::rest) (tq X.K O (Jf C a dx p q) xk (EL j g)):=by
 have h3:iP X rest (λE σ H=>∃m,Off a dx p q m/\tq X.K O (UO C a dx p q m) xk (g m) E σ H):=λpins s σ H E I ⟨m,o,t⟩=>Ma m o pins s σ H E I t
 refine(lE (eY hN hi hx wD hs hf) h3).mono λE σ H ⟨H0,B,U,A0,δ,s,r,s',R,F,ed,P⟩=>?_
 intro m hm
 obtain⟨rfl,pk⟩:=id R.p
 have sm:aG H (upd H m (.dK [])):=cU hm _
 have nB:∀z∈[m],H z=none:=λz hz=>by rw[abA.mp hz];exact hm
 have nd:m∉[a,dx,p,q]:=λz=>by
  obtain⟨o,e,_⟩:=pk.own m z;rw[hm]at e;cases e
 refine⟨m,⟨nd⟩,?_⟩
 obtain⟨⟨r1,t1⟩,g1,g2⟩:=bind1 (CD ed m)
 have UP:∀x,x∈U++([m]++([a,dx,p,q]++A0))↔x∈U++(([a,dx,p,q]++[m])++A0):=λx=>by
  simp only[aap];exact⟨λz=>z.elim .inl λz=>z.elim (λy=>.inr (.inl (.inr y))) λz=>z.elim (λy=>.inr (.inl (.inl y))) λy=>.inr (.inr y),λz=>z.elim .inl λz=>z.elim (λz=>z.elim (λy=>.inr (.inr (.inl y))) λy=>.inr (.inl y)) λy=>.inr (.inr (.inr y))⟩
 have ow:∀x∈[m],∃o,(upd H m (.dK [])) x=some o/\yg o:=λ8=>by
  rw[abA.mp hx];exact⟨_,aL,trivial⟩
 have Rh:=R.r.hide (B:=[m]) sm nB ow
 have ew:∀h:Hp,wo h (U++([m]++([a,dx,p,q]++A0)))=wo h (U++(([a,dx,p,q]++[m])++A0)):=λh=>Cu UP
 have R3:Rel X.K O U (([a,dx,p,q]++[m])++A0) σ δ (upd H m (.dK [])):=⟨Rh.len,λi d hi ed=>by rw[<-ew];exact Rh.fz i d hi ed,λi d hi ed=>by rw[<-ew];exact Rh.ow i d hi ed,Rh.inj,Rh.al.congr λ8=>(UP x).mpr hx⟩
 have kw:aG (wo H (U++([a,dx,p,q]++A0))) (wo (upd H m (.dK [])) (U++(([a,dx,p,q]++[m])++A0))):=λb o hb=>by
  have nb:b∉U++([a,dx,p,q]++A0):=λz=>by rw[fQ z]at hb;cases hb
  rw[bg nb]at hb;rw[bg λz=>?_];.exact sm b o hb
  .rcases aap.mp ((UP b).mpr z)with y|y;.exact nb (aax _ y)
   .rcases aap.mp y with y|y;.rw [nB b y]at hb;cases hb
    .exact nb (aaf _ y)
 have nn:∀A:List Addr,(∀z∈A,z∉[a,dx,p,q])->(∀z∈A,∃o,H z=some o/\yg o)->∀z∈A,z∉[a,dx,p,q]++[m]:=λA h1 h z hz hB=>by
  rcases aap.mp hB with y|y;.exact h1 z hz y
  .obtain ⟨o,e,_⟩:=h z hz;rw[nB z y]at e;cases e
 refine⟨H0,[a,dx,p,q]++[m],U,A0,_,⟨s,[]⟩,r1,t1,⟨R3.set hj (.ptr m),⟨rfl,pk.mono (xT.at (Γ:=Jf C a dx p q) (K:=X.K) (U:=U++([a,dx,p,q]++A0)) ⟨rfl,pk⟩ sm) kw,[],aL,rfl,.nil⟩,nn U R.dj λz hz=>R.r.al.1 z (aax _ hz),nn A0 R.da λz hz=>R.r.al.1 z (aaf _ (aaf _ hz))⟩,
  ⟨F.same.trans sm,F.new,λz hz=>(aap.mp hz).elim (F.uJ z) λy=>F.same.free (nB z y),F.old⟩,g1,?_⟩
 have back:∀{B:List Addr} {H2:Hp},(UO C a dx p q m).P X.K H2 (wo H2 (B++A0)) B t1->(Jf C a dx p q).P X.K H2 (wo H2 ([a,dx,p,q]++A0)) [a,dx,p,q] t1.dk/\aG (wo H2 (B++A0)) (wo H2 ([a,dx,p,q]++A0))/\∀x∈[a,dx,p,q],x∈B:=λ{B H2} h=>by
  obtain⟨rfl,h1,_⟩:=h;have k:aG (wo H2 (([a,dx,p,q]++[m])++A0)) (wo H2 ([a,dx,p,q]++A0)):=i9 λz hz=>(aap.mp hz).elim (λy=>aax _ (aax _ y)) λy=>aaf _ y;exact⟨⟨rfl,h1.mono (λ_ _=>rfl) k⟩,k,λz hz=>aax _ hz⟩
 cases r1 with
 |rt d=>
   cases g2;refine⟨λB v H2 k2 n2 YW hv=>?_,λB c H2 hc k2 n2 YW=>?_⟩;.obtain ⟨b1,b2,b3⟩:=back YW;exact P.1 _ v H2 k2 (λz hz=>n2 z (b3 z hz)) b1 (hv.same b2)
   .obtain ⟨b1,b2,b3⟩:=back YW;exact P.2 _ c H2 hc k2 (λz hz=>n2 z (b3 z hz)) b1
 |_=>cases g2
def EM(j:Nat)(m:Addr)(gk gv:bj):GD Kp:=Jg j m λδ s=>(gv δ).bind λd=>(gk δ).bind λy=>match y with
 |.str x=>if s.kp.length<100000 then some (.nx δ,⟨s.dk,kx s.kp x d⟩)else none
 |_=>none
set_option tactic.hygienic true in
theorem Mi(o:Off a dx p q m)(h:PS X st (KJ (kU j) (tE X.K O gk) (tE X.K O gv)))(hj:j∉O:=by decide):PS X st (tq X.K O (UO C a dx p q m) xk (EM j m gk gv)):=h.mono λE σ H ⟨H0,B,U,A0,δ,s,r,s',R,F,ed,P⟩=>by
 obtain⟨h0,ed⟩:=js ed
 obtain⟨d,e1,e2⟩:=bind1 ed
 obtain⟨y,e3,e4⟩:=bind1 e2
 cases y with
 |str z=>
   have e4:(if s.kp.length<100000 then some (Res.nx δ,(⟨s.dk,kx s.kp z d⟩:Kp))else none)=some (r,s'):=e4;split at e4;rotate_left;.grind
   rename_i hl;cases e4;obtain⟨rfl,_⟩:=id R.p;refine⟨U,([a,dx,p,q]++[m])++A0,δ,d,R.r,e1,λv H1 k1 hv=>?_⟩;obtain⟨u,L6,hd⟩:=R.r.fz j (dw m) hj h0;obtain rfl:=nR hd;refine⟨.ref m,L6,U,([a,dx,p,q]++[m])++A0,δ,_,(R.same k1).r,e3,λyv H2 k2 hy=>?_⟩;obtain rfl:=wC hy;have R2:=R.same (k1.trans k2);obtain⟨_,pk,kv,hm,tk⟩:=id R2.p;have sx:fi ([a,dx,p,q]++[m]) H2 (upd H2 m (.dK (putK kv (.inr z) v))):=λb o nb hb=>by rw[av λw=>nb (by rw[w];simp)];exact hb
   have sw:=sx.wo (A:=U++(([a,dx,p,q]++[m])++A0)) ee.V9;exact⟨m,_,rfl,Ac.k (k:=.inr z) hm (by rw[tk.len];exact small hl),P _ U σ _ (R2.grow sx ⟨rfl,pk.mono (λ8=>by rw[av λw=>o.n (by rw[<-w];exact hx)]) sw,_,aL,(tk.same sw).put ((hv.same (bR k2)).same sw)⟩) (F.grow ((fi.of (k1.trans k2)).trans sx))⟩
 |_=>cases e4
end
def ItX(P:Program)(w:World)(m:Addr)(vs:List (Key×Value))(ep:Nat):It:=
 ⟨λi H=>H m=some (rH P w m vs ep)/\i<vs.length,λi H x H'=>H'=H/\∃k v,vs[i]?=some (k,v)/\x=kV k,λi H=>H m=some (rH P w m vs ep)/\vs.length<=i⟩
theorem wH(I:⇑1)(h:H m=some (rH X.prog X.w m vs ep)):s.heap.DictAt (cZ X.prog X.w) m vs ep:=(show cP X.prog X.w H s.heap m (rH X.prog X.w m vs ep)from I.bU m _ h).1
theorem Jn{K:Frag}(m it:Addr)(vs:List (Key×Value))(ep:Nat):Turn P w K tg (ItX P w m vs ep) [it] it (λi h=>h.IsKeyIter it m i vs.length ep) where
 mem:=by simp
 obj:=λi h st b hb=>by
  have e:b=it:=by simpa using hb
  subst e;obtain⟨o,e,c,d⟩:=st;exact⟨o,e,λv z=>by rw[d]at z;cases z⟩
 keep:=λi h h' st k=>by
  obtain⟨o,e,r⟩:=st;exact⟨o,k it ⇑11 o e,r⟩
 item:=by
  intro 0;subst hP hw hK;obtain⟨hd,hi⟩:=hg;obtain⟨⟨k,v⟩,hkv⟩:∃q,vs[i]?=some q:=⟨_,aal hi⟩;obtain⟨f0,f1,f2,f3,f4,f5⟩:=hf it ⇑11;refine wpAny_pyNext_dict_item st (wH I hd) hkv λkey h' hk DL sb=>?_;have I1:=I.turned (t':=s.toks) (λb o hb e=>(sb.2 b hb).trans e) f0 f1 f3 f4 f5;obtain⟨o,e,c',dd⟩:=id DL;have r:RelV (kV k) key:=by
   rcases dF hk with⟨i,t,rfl,rfl⟩|⟨x,t,rfl,rfl⟩;.exact ⟨t,rfl⟩
   .exact ⟨t,rfl⟩
  exact⟨_,rfl,BN (s:={s with heap:=h'}) e c' dd ⇑0 ⟨kV k,H,I1,r,⟨rfl,k,v,hkv,rfl⟩,DL,λ9=>(hf b hb).1⟩⟩
 done:=by
  intro 0;subst hP hw hK;obtain⟨hd,hi⟩:=hg;obtain⟨f0,f1,f2,f3,f4,f5⟩:=hf it ⇑11;exact wpAny_pyNext_dict_end (I.ok.hd hc) st (wH I hd) (acI hi) λh' eb=>⟨rfl,I.turned (t':=s.toks) (λb o hb e=>eb b o hb e) f0 f1 f3 f4 f5⟩
 self:=λ_ _ _ _ _ st h=>wpAny_pyIter_keyiter st h
def iKx(P:Program)(w:World)(j:Nat)(m:Addr)(vs:List (Key×Value))(ep:Nat):TI:=λσ H R=>σ[j]?=some (some (.ref m))/\H m=some (rH P w m vs ep)/\(m==sysModules)=false/\R (ItX P w m vs ep) H
def xT.sum{S S':Type}(Γ:xT S)(UQ:xT S'):xT (S ⊕ S') where
 P K H Hw B s:=s.elim (Γ.P K H Hw B) (UQ.P K H Hw B)
 own {K H Hw B s} h:=match s,h with|.inl _,h=>Γ.own h|.inr _,h=>UQ.own h
 mono {K H H' Hw EJ B s} h k e:=match s,h with|.inl _,h=>Γ.mono h k e|.inr _,h=>UQ.mono h k e
theorem ee.chg{K:Frag}{s':S'}(R:ee K O Γ B U A0 σ δ H s)(e:fi B H H')(p:UQ.P K H' (wo H' (U++(B++A0))) B s'):ee K O UQ B U A0 σ δ H' s':=by
 have t:ee K O (Γ.sum UQ) B U A0 σ δ H (.inl s):=⟨R.r,R.p,R.dj,R.da⟩
 have u:ee K O (Γ.sum UQ) B U A0 σ δ H' (.inr s'):=t.grow e p
 exact⟨u.r,u.p,u.dj,u.da⟩
def Y4(j:Nat)(m:Addr)(l:List (Str×D))(gt:D->DS->Option DS)(gb:GD Dk):GD Dk:=Jg j m λδ s=>iB gt gb (l.map λp=>.str p.1) δ s
def EN(j:Nat)(m:Addr)(gt:D->DS->Option DS)(gb:List (Str×D)->GD Dk):GD Kp:=Jg j m λδ s=>(iB gt (gb s.kp) (s.kp.map λp=>.str p.1) δ s.dk).bind λr=>some (r.1,⟨r.2,s.kp⟩)
section
variable {X:Cx}{O:List Nat}{C a dx p q m:Addr}{j j0 k kk n:Nat}{x y:Str}{ps:List Str}{e0 e1 em e3 ie it tg:Expr}{body:List Stmt}{xk:Str->Hp->Prop}{pos Ji Rm:Pos}{kv:List (Key×V)}{vs:List (Key×Value)}{ep:Nat}{l:List (Str×D)}
theorem Pq(hl:PE X it (kU j)):PI X tg it (iKx X.prog X.w j m vs ep):=by
 intro pins s σ H R I ⟨h1,h2,h3,h4⟩
 refine dq (hl pins s σ H (λv H'=>v=.ref m/\H'=H) I ⟨_,h1,rfl,rfl⟩) λv s1 ⟨x,H1,I1,r1,e,eH⟩=>?_
 subst e eH
 cases(show v=Value.ref m from r1)
 refine wpAny_pyIter_dict h3 (wH I1 h2) ?_
 refine⟨s1.heap.objs.size,[s1.heap.objs.size],_,_,H1,rfl,I1.kept (t':=s1.toks) λb o e=>aaa _ e,Jn m _ vs ep,⟨_,aae _ rfl,rfl,rfl⟩,λ9=>?_,h4⟩
 have e:b=s1.heap.objs.size:=by simpa using hb
 subst e
 exact I1.sv (aah _) (I1.bU.fresh (aah _))
theorem Y5(r:KV kv vs):∀{i:Nat} {k:Key} {v:Value},vs[i]?=some (k,v)->(kv.map (·.1))[i]?=some k:=by
 induction r with
 |nil=>intro i k v h;simp at h
 |cons h t ih=>grind
theorem Pr(hp:PassesOwn ⇑3 X.A X.env X.xe)(hc:X.calm=true)(hl:PE X it (kU j))(hg:PG X tg (tG X.K O gt))(hb:iP X body (tq X.K O (Pp X.prog X.w C a dx p q m kv vs ep l) xk gb))(hj:j∉O:=by decide)
  (hs:∀x,foldedSetIterable it X.env x=pure x:=by intro _;rfl):PS X (.For tg it body [] pos) (tq X.K O (Pp X.prog X.w C a dx p q m kv vs ep l) xk (Y4 j m l gt gb)):=(DY hp hc (Pq (m:=m) (vs:=vs) (ep:=ep) hl) hg hb hs).mono λE σ H ⟨H0,B,U,A0,δ,s0,r,s',R,F,ed,P⟩=>by
 obtain⟨h0,ed⟩:=js ed
 obtain⟨_,_,kI,tk⟩:=id R.p
 obtain⟨u,L6,hd⟩:=R.r.fz j (dw m) hj h0
 obtain rfl:=nR hd
 have el:vs.length=l.length:=by rw[<-tk.len,kI.rel.length]
 obtain⟨ds,eds⟩:∃ds:List D,ds=l.map λp=>PyData.str p.1:=⟨_,rfl⟩
 have ele:ds.length=l.length:=by rw[eds,aac]
 rw[<-eds]at ed
 refine⟨L6,kI.at',kI.sys,λi m' σ H=>m'=ds.length-i/\i<=ds.length/\∃B2 U2 δ sg,ee X.K O (Pp X.prog X.w C a dx p q m kv vs ep l) B2 U2 A0 σ δ H sg/\pM H0 A0 U2 B2 H/\iB gt gb (ds.drop i) δ sg=some (r,s'),⟨ds.length,by simp,Nat.zero_le _,B,U,δ,s0,R,F,by simpa using ed⟩,?_⟩
 rintro i m' σ H ⟨rfl,hle,B2,U2,δ,sg,R2,F2,ef⟩
 obtain⟨_,_,kI2,_⟩:=id R2.p
 by_cases hV:i<ds.length
 .obtain ⟨d,hd⟩:∃d,ds[i]?=some d:=⟨_,aal hV⟩;have B3:ds.drop i=d::ds.drop (i+1):=by
   rw[acB hV];rw[aal hV]at hd;cases hd;rfl
  rw[B3,iB]at ef;obtain⟨fg,e3,e4⟩:=bind1 ef;obtain⟨⟨q1,s1⟩,e5,e6⟩:=bind1 e4;refine .inr ⟨⟨kI2.at',by lia⟩,λck H'=>∃m',m'<ds.length-i/\(m'=ds.length-(i+1)/\i+1<=ds.length/\∃B2 U2 δ sg,ee X.K O (Pp X.prog X.w C a dx p q m kv vs ep l) B2 U2 A0 ck δ H' sg/\pM H0 A0 U2 B2 H'/\iB gt gb (ds.drop (i+1)) δ sg=some (r,s')),λ_ _ h=>h,λx H2 y=>?_⟩;obtain⟨rfl,k,v,hk,rfl⟩:=y;have hx:HD X.K (wo H2 (U2++(B2++A0))) (kV k) d:=by
   have t:=Y5 kI.rel hk;rw[tk.1,aas]at t;rw[eds,aas]at hd;cases z:l[i]? with
   |none=>rw[z]at t;cases t
   |some w=>
     rw[z]at t hd;cases t;cases hd;exact .str _
  refine⟨U2,B2++A0,δ,d,fg,R2.r,hx,e3,λck R'=>?_⟩;refine⟨wo H2 (U2++B2),B2,U2,A0,fg,sg,q1,s1,⟨R',R2.p,R2.dj,R2.da⟩,R2.here F2,e5,?_⟩;cases q1 with
  |nx δ'=>exact λB' U' ck H' R' F'=>⟨_,by lia,rfl,hV,B',U',δ',s1,R',F2.trans F',e6⟩
  |ct δ'=>exact λB' U' ck H' R' F'=>⟨_,by lia,rfl,hV,B',U',δ',s1,R',F2.trans F',e6⟩
  |bk δ'=>cases e6;exact λB' U' ck H' R' F'=>P B' U' ck H' R' (F2.trans F')
  |rt d=>cases e6;exact⟨λB' v H' h n p hv=>P.1 B' v H' (F2.over h) (λ8=>F2.none (n x hx)) p hv,λB' c H' e h n p=>P.2 B' c H' e (F2.over h) (λ8=>F2.none (n x hx)) p⟩
 .have hi:i=ds.length:=by lia
  subst hi;rw[aeo,iB]at ef;cases ef;exact .inl ⟨⟨kI2.at',by lia⟩,P B2 U2 σ H R2 F2⟩
theorem UR(h:m∈B):fi B H (upd H m o):=λb o nb hb=>by rw[av λw=>nb (by rw[w];exact h)];exact hb
theorem Mj(hp:PassesOwn ⇑3 X.A X.env X.xe)(hc:X.calm=true)(o:Off a dx p q m)(hl:PE X it (kU j))(hg:PG X tg (tG X.K O gt))(hb:∀kv vs ep l,iP X body (tq X.K O (Pp X.prog X.w C a dx p q m kv vs ep l) (λ_ _=>True) (gb l)))(hj:j∉O:=by decide)
  (hs:∀x,foldedSetIterable it X.env x=pure x:=by intro _;rfl):PS X (.For tg it body [] pos) (tq X.K O (UO C a dx p q m) (λ_ _=>True) (EN j m gt gb)):=by
 intro pins s σ H E I ⟨H0,B,U,A0,δ,s0,r,s',R,F,ed,P⟩
 obtain⟨h0,ed⟩:=js ed
 obtain⟨⟨r1,k1⟩,e1,e2⟩:=bind1 ed
 cases e2
 obtain⟨rfl,pk,kv,hm,tk⟩:=id R.p
 obtain⟨z,hS,vs,rel,dd⟩:=QP I.bU hm
 obtain⟨ep,da⟩:=dd.dictAt
 have mB:m∈[a,dx,p,q]++[m]:=by simp
 have obj:∃u,s.heap.get? m=some u:=let⟨u,_,hu,_⟩:=da;⟨u,hu⟩
 have I1:Inv X pins σ (upd H m (rH X.prog X.w m vs ep)) s:=rk (t':=s.toks) (h':=s.heap) I (by rw[hm];trivial) ⟨rfl,λ_ _=>rfl⟩ obj ⟨da,obj,λh1 h2 ⟨u,es,hu,w⟩ k=>⟨u,es,k u hu,w⟩⟩
 have mono:∀{H1:Hp} {o1:HO} {A:List Addr} {t:Dk} {Hw:Hp},Cy C X.K H1 Hw a dx p q t->aG Hw (wo (upd H1 m o1) A)->Cy C X.K (upd H1 m o1) (wo (upd H1 m o1) A) a dx p q t:=λh e=>h.mono (λ8=>by rw[av λw=>o.n (by rw[<-w];exact hx)]) e
 have sx:∀{H1:Hp} {o1:HO},fi ([a,dx,p,q]++[m]) H1 (upd H1 m o1):=UR mB
 have sw:∀{H1:Hp} {o1:HO} {A:List Addr},m∈A->aG (wo H1 A) (wo (upd H1 m o1) A):=λ{H1 o1 A} h b u hb=>by
  have nb:b∉A:=λz=>by rw[fQ z]at hb;cases hb
  rw[bg nb]at hb ⊢;rw[av λw=>nb (by rw[w];exact h)];exact hb
 have mU:∀U':List Addr,m∈U'++(([a,dx,p,q]++[m])++A0):=λU'=>aaf _ (aax _ mB)
 have R1:ee X.K O (Pp X.prog X.w C a dx p q m kv vs ep s0.kp) ([a,dx,p,q]++[m]) U A0 σ δ (upd H m (rH X.prog X.w m vs ep)) s0.dk:=R.chg sx ⟨rfl,mono pk (sw (mU U)),⟨aL,rel,hS,z⟩,tk.same (sw (mU U))⟩
 have Pt:∀{ck:St} {H':Hp} {DM:Shared},Inv X pins ck H' DM->H' m=some (rH X.prog X.w m vs ep)->Inv X pins ck (upd H' m (.dK kv)) DM:=λ{ck H' DM} I' h=>by
  have d':=wH I' h;exact rk (t':=DM.toks) (h':=DM.heap) I' (by rw[h];trivial) ⟨rfl,λ_ _=>rfl⟩ (let⟨u,_,hu,_⟩:=d';⟨u,hu⟩) ⟨z,hS,vs,rel,d'.dictOf⟩
 refine dq (Pr (kv:=kv) (vs:=vs) (ep:=ep) (l:=s0.kp) hp hc hl hg (hb kv vs ep s0.kp) hj hs pins s σ _ ⟨λck H'=>H' m=some (rH X.prog X.w m vs ep)/\E.nx ck (upd H' m (.dK kv)),λv H'=>H' m=some (rH X.prog X.w m vs ep)/\E.rt v (upd H' m (.dK kv)),λck H'=>H' m=some (rH X.prog X.w m vs ep)/\E.bk ck (upd H' m (.dK kv)),λck H'=>H' m=some (rH X.prog X.w m vs ep)/\E.ct ck (upd H' m (.dK kv))⟩ I1
  ⟨H0,[a,dx,p,q]++[m],U,A0,δ,s0.dk,r1,k1,R1,F.grow sx,mf h0 e1,?_⟩) λf DM hq=>?_
 .have go:∀{B' U':List Addr} {ck:St} {H':Hp} {δ':DS},ee X.K O (Pp X.prog X.w C a dx p q m kv vs ep s0.kp) B' U' A0 ck δ' H' k1->pM H0 A0 U' B' H'->H' m=some (rH X.prog X.w m vs ep)/\ee X.K O (UO C a dx p q m) B' U' A0 ck δ' (upd H' m (.dK kv)) ⟨k1,s0.kp⟩/\pM H0 A0 U' B' (upd H' m (.dK kv)):=λ{B' U' ck H' δ'} R' F'=>by
   obtain⟨rfl,pk',kI,V7⟩:=id R'.p;exact⟨kI.at',R'.chg sx ⟨rfl,mono pk' (sw (mU U')),kv,aL,V7.same (sw (mU U'))⟩,F'.grow sx⟩
  cases r1 with
  |nx δ'=>exact λB' U' ck H' R' F'=>⟨(go R' F').1,P _ _ _ _ (go R' F').2.1 (go R' F').2.2⟩
  |bk δ'=>exact λB' U' ck H' R' F'=>⟨(go R' F').1,P _ _ _ _ (go R' F').2.1 (go R' F').2.2⟩
  |ct δ'=>exact λB' U' ck H' R' F'=>⟨(go R' F').1,P _ _ _ _ (go R' F').2.1 (go R' F').2.2⟩
  |rt d=>
    refine⟨λB' v H' e n pp hv=>?_,λ_ _ _ _ _ _ _=>trivial⟩;obtain⟨rfl,pk',kI,V7⟩:=pp;have mA:m∈([a,dx,p,q]++[m])++A0:=aax _ mB;refine⟨kI.at',P.1 _ v _ (λb u hb=>?_) n ⟨rfl,mono pk' (sw mA),kv,aL,V7.same (sw mA)⟩ (hv.same (sw mA))⟩;rw[av λw=>by rw[w,n m mB]at hb;cases hb];exact e b u hb
 .cases f with
  |next=>obtain⟨ck,H',I',h1,h2⟩:=hq;exact⟨ck,_,Pt I' h1,h2⟩
  |brk=>obtain⟨ck,H',I',h1,h2⟩:=hq;exact⟨ck,_,Pt I' h1,h2⟩
  |cont=>obtain⟨ck,H',I',h1,h2⟩:=hq;exact⟨ck,_,Pt I' h1,h2⟩
  |ret v=>obtain⟨x,ck,H',I',r',h1,h2⟩:=hq;exact⟨x,ck,_,Pt I' h1,r',h2⟩
def US(P:Program)(w:World)(td ty:TE):TE:=λ7=>td σ H λx H1=>ty σ H1 λy H2=>∃m kv vs ep k v,x=.ref m/\KpI P w m kv vs ep H2/\y=kV k/\nc kv k=some v/\Q v H2
theorem Ml(ho:PE X em td)(hi:PE X ie ty)(hs:Eg ie):PE X (.Subscript em ie pos) (US X.prog X.w td ty):=by
 intro 1
 refine Ad aeG.lookup hs (dq (ho pins s σ H _ I h) λu s1 ⟨x,H1,I1,rx,q1⟩=>dq (hi pins s1 σ H1 _ I1 q1) λiv s2 ⟨y,H2,I2,ry,m,kv,vs,ep,k,v,ex,g,ey,hv,q2⟩=>?_)
 subst ex ey
 obtain rfl:u=Value.ref m:=rx
 have dd:=(wH I2 g.at').dictOf
 obtain⟨w',hw,Ic⟩:=lS.some_of (v:=v) (o:=valueAt vs k) (by rw[<-hv];exact g.rel.val k)
 exact⟨dd.typeIs,wpAny_getItem_of (uo ry) dd.mapOf hw ⟨v,H2,I2.tok _,Ic,q2⟩⟩
def Mm(j0 j:Nat)(a m:Addr)(l:List (Str×D))(G:Addr->List D->Dk->Option (D×Dk))(g1 gi g3:bj):DS->Dk->Option (D×Dk):=Jg j m λδ s=>Jg j0 a (λδ s=>(g1 δ).bind λd1=>(gi δ).bind λy=>match y with
 |.str x=>(j4 l x).bind λd2=>(g3 δ).bind λd3=>CA id (λ_ k=>k) (G a [dw a,d1,d2,d3]) s
 |_=>none) δ s
theorem Pu{g1 gi g3:bj}(o:Off a dx p q m)(F:Dn X.prog X.w X.K X.mg X.base k x ps (wz X.K C 4 G))(hr:cW kk X.A)(hk:k<=kk)(h0:PE X e0 (kU j0))(h1:PE X e1 (tE X.K O g1))(hm:PE X em (kU j))(hi:PE X ie (tE X.K O gi))(h3:PE X e3 (tE X.K O g3))(hj0:j0∉O:=by decide)(hj:j∉O:=by decide)
  (hs:Eg ie:=by intro _ _;rfl)(hg:Gl X x:=by rfl)(pK:⇑5:=by decide)
  (Yn:starEach [e0,e1,.Subscript em ie Rm,e3] X.env=(false,eval e0 X.env)::starEach [e1,.Subscript em ie Rm,e3] X.env:=by rfl)(OL:starEach [e1,.Subscript em ie Rm,e3] X.env=(false,eval e1 X.env)::starEach [.Subscript em ie Rm,e3] X.env:=by rfl)
  (lG:starEach [.Subscript em ie Rm,e3] X.env=(false,eval (.Subscript em ie Rm) X.env)::starEach [e3] X.env:=by rfl)(ND:starEach [e3] X.env=(false,eval e3 X.env)::starEach [] X.env:=by rfl)
  (iQ:(backTo pos (starEach [e1,.Subscript em ie Rm,e3] X.env)).any (·.1)=false:=by rfl):
  PE X (.Call (.Name x Ji) [e0,e1,.Subscript em ie Rm,e3] [] pos) (GU X.K O (Pp X.prog X.w C a dx p q m kv vs ep l) (Mm j0 j a m l G g1 gi g3)):=by
 refine(Gn F hr hk (bz h0 (bz h1 (bz (Ml hm hi hs) (bz h3 cX ND) lG) OL) Yn) hg pK Yn iQ).mono λσ H Q ⟨B,U,A0,δ,s,d,s',R,ed,qq⟩=>?_
 obtain⟨Mn,ed0⟩:=js ed
 obtain⟨ha0,ed1⟩:=js ed0
 obtain⟨d1,e1,YN⟩:=bind1 ed1
 obtain⟨y,e2,YO⟩:=bind1 YN
 cases y with
 |str z=>
   obtain⟨d2,e3,ed4⟩:=bind1 YO;obtain⟨d3,e4,ed5⟩:=bind1 ed4;obtain⟨va,hva,hda⟩:=R.r.fz j0 (dw a) hj0 ha0;obtain rfl:=nR hda;obtain⟨vm,hvm,Z5⟩:=R.r.fz j (dw m) hj Mn;obtain rfl:=nR Z5;refine⟨.ref a,hva,U,B++A0,δ,d1,R.r,e1,λv1 H1 s1 J1=>?_⟩;refine⟨.ref m,hvm,U,B++A0,δ,_,(R.same s1).r,e2,λv2 H2 s2 h2=>?_⟩;obtain rfl:=wC h2;have R2:=R.same (s1.trans s2);obtain⟨_,_,kI,tk⟩:=id R2.p;rcases tk.get z with⟨g1,_⟩|⟨d2',v,g1,g2,hv⟩;.grind
   .rw [g1]at e3;cases e3;refine⟨m,kv,vs,ep,.inr z,v,rfl,kI,rfl,g2,U,B++A0,δ,d3,R2.r,e4,λv3 H3 s3 hd3=>?_⟩;exact L5 (ds:=[dw a,d1,d2,d3]) (Y3 o) R ((s1.trans s2).trans s3) rfl rfl (.cons (.ptr a) (.cons (J1.same (bR (s2.trans s3))) (.cons (hv.same (bR s3)) (.cons hd3 .nil)))) ed5 qq
 |_=>cases YO
end
end L2
namespace LS
open PySem PySem.Spec PyProof.Rows
section
variable {prog:Program}{w:World}{A:Around}{E:eJ}{s:Shared}{z TI TO i1 i2:Addr}{f1 f2:List Addr}{n1 n2 i:Nat}{P1 P2:Nat->Value->Prop}{S1 S2:Nat->Heap->Prop}{a b:Value}
structure ZAp(z TI TO i1 i2:Addr)(f1 f2:List Addr):Prop where
 zI:z≠TI
 zO:z≠TO
 z1:z≠i1
 z2:z≠i2
 IO:TI≠TO
 I1:TI≠i1
 I2:TI≠i2
 O1:TO≠i1
 O2:TO≠i2
 fz1:z∉f1
 fz2:z∉f2
 fO1:TO∉f1
 fO2:TO∉f2
 f12:i2∉f1
 f21:i1∉f2
theorem tu(D:Draws prog w A it fp n P S)(hi:i<n)(hs:S i s.heap)
  (hQ:∀x h' tk,P i x->S (i+1) h'->Heap.SameBut it s.heap h'->Q (some x) {s with heap:=h',toks:=tk}):wpAny ⇑10 A ((Builtin.SmallTypes.nextOf (.ref it) >>= λv=>pure (some v)).onRaise k) Q E s:=
 wpAny_onRaise (aab (D.item i s _ _ hi hs λx h' tk p st k=>aag (hQ x h' tk p st k)))
theorem Mo(Z:ZAp z TI TO i1 i2 f1 f2)(D1:Draws prog w A.in1 i1 f1 n1 P1 S1)(D2:Draws prog w A.in1 i2 f2 n2 P2 S2)(h1:i<n1)(h2:i<n2)
  (hz:IsZip s.heap z TI TO .none)(hI:IsPair s.heap TI (.ref i1) (.ref i2))(hO:IsPair s.heap TO a b)(s1:S1 i s.heap)(s2:S2 i s.heap)
  (hQ:∀x y T h' tk,P1 i x->P2 i y->s.heap.objs.size<=T->IsZip h' z TI TO (rawInt T)->IsPair h' TI (.ref i1) (.ref i2)->IsPair h' TO x y->S1 (i+1) h'->S2 (i+1) h'->IsPair h' T x y->(∀c o,c∉[z,TO,i1,i2]->s.heap.get? c=some o->h'.get? c=some o)->Q (some (.ref T)) {s with heap:=h',toks:=tk}):
  wpAny ⇑10 A (pyNext (.ref z)) Q E s:=by
 have hT:s.TypeIs (.ref z) "zip":=⟨_,hz,rfl⟩
 unfold pyNext
 refine aab (aeQ (abT (name:="__next__") hT afv (acf afv hT F.entry_zip_next ?_ (F.args_zip_next_1 _))))
 wp_walk using(wpAny_field hz rfl (x:=.none) (i:=0) rfl),(wpAny_field hz rfl (x:=.bool false) (i:=2) rfl),(wpAny_field hz rfl (x:=.ref TI) (i:=3) rfl),(wpAny_field hz rfl (x:=.ref TO) (i:=4) rfl),(wpAny_seqItems hI rfl),(wpAny_setField_rec hz (x:=.ellipsis) ⇑11)
 intro g1 z1 k1
 have a1:S1 i g1:=D1.frame i _ _ s1 λc hc o e=>k1.extBut c o (λq=>Z.fz1 (q ▸ hc)) e
 have O1:IsPair g1 TO a b:=k1.extBut _ _ Z.zO.symm hO
 refine aab ?_
 show wpAny _ _ (forIn [(Value.ref i1,0),(Value.ref i2,1)] _ _) _ _ _
 simp only[ad6,List.forIn_nil]
 refine aab (aab (tu D1 h1 a1 λx g2 tk2 p2 a2 k2=>?_))
 have O2:IsPair g2 TO a b:=k2.extBut _ _ Z.O1 O1
 wp_walk using(wpAny_seqItems O2 rfl),(wpAny_updateSeq_pair O2),wpAny_letGo
 intro g3 O3 k3
 refine aab (wpAny_letGo (aag ?_))
 have z3:=k3.extBut _ _ Z.zO (k2.extBut _ _ Z.z1 z1)
 have I3:IsPair g3 TI (.ref i1) (.ref i2):=k3.extBut _ _ Z.IO (k2.extBut _ _ Z.I1 (k1.extBut _ _ Z.zI.symm hI))
 have a3:S1 (i+1) g3:=D1.frame _ _ _ a2 λc hc o e=>k3.extBut c o (λq=>Z.fO1 (q ▸ hc)) e
 have b3:S2 i g3:=D2.frame _ _ _ s2 λc hc o e=>k3.extBut c o (λq=>Z.fO2 (q ▸ hc)) (k2.extBut c o (λq=>Z.f21 (q ▸ hc)) (k1.extBut c o (λq=>Z.fz2 (q ▸ hc)) e))
 refine aab (aab (tu D2 h2 b3 λy g4 tk4 p4 b4 k4=>?_))
 have O4:IsPair g4 TO x b:=k4.extBut _ _ Z.O2 O3
 wp_walk using(wpAny_seqItems O4 rfl),(wpAny_updateSeq_pair O4),wpAny_letGo
 intro g5 O5 k5
 replace O5:IsPair g5 TO x y:=O5
 refine aab (wpAny_letGo (aag (aag ?_)))
 have z5:=k5.extBut _ _ Z.zO (k4.extBut _ _ Z.z2 z3)
 have I5:IsPair g5 TI (.ref i1) (.ref i2):=k5.extBut _ _ Z.IO (k4.extBut _ _ Z.I2 I3)
 have a5:S1 (i+1) g5:=D1.frame _ _ _ a3 λc hc o e=>k5.extBut c o (λq=>Z.fO1 (q ▸ hc)) (k4.extBut c o (λq=>Z.f12 (q ▸ hc)) e)
 have b5:S2 (i+1) g5:=D2.frame _ _ _ b4 λc hc o e=>k5.extBut c o (λq=>Z.fO2 (q ▸ hc)) e
 have hsz:g5.objs.size=s.heap.objs.size:=by rw[k5.1,k4.1,k3.1,k2.1];exact k1.1
 wp_walk using(wpAny_seqItems O5 rfl)
 refine⟨_,rfl,aag ?_⟩
 have k6:∀c o,c≠z->g5.get? c=some o->(((g5.push {cls:=Value.type "tuple",data:=Data.seq #[x,y]}).update z (Obj.mapFields λx=>x.setIfInBounds 0 (rawInt g5.objs.size))).update z (Obj.mapFields λx=>x.setIfInBounds 1 (Value.bool false))).get? c=some o:=λc o hc e=>(aeK _ _ _ _ hc).trans ((aeK _ _ _ _ hc).trans (aaa _ e))
 have zT:g5.objs.size≠z:=λq=>absurd (aai z5) (by rw[q];exact abF _)
 refine hQ x y g5.objs.size _ _ p2 p4 (Nat.le_of_eq hsz.symm) ?_ (k6 _ _ Z.zI.symm I5) (k6 _ _ Z.zO.symm O5) (D1.frame _ _ _ a5 λc hc o e=>k6 c o (λq=>Z.fz1 (q ▸ hc)) e) (D2.frame _ _ _ b5 λc hc o e=>k6 c o (λq=>Z.fz2 (q ▸ hc)) e) ?_ λc o hc e=>?_
 .exact abz _ (abz _ (aaa _ z5) rfl) rfl
 .exact (aeK _ _ _ _ zT).trans ((aeK _ _ _ _ zT).trans (aae _ rfl))
 .have n1:c≠z:=λq=>hc (by simp[q]);have n2:c≠TO:=λq=>hc (by simp[q]);have n3:c≠i1:=λq=>hc (by simp[q]);have n4:c≠i2:=λq=>hc (by simp[q]);exact k6 c o n1 (k5.extBut c o n2 (k4.extBut c o n4 (k3.extBut c o n2 (k2.extBut c o n3 (k1.extBut c o n1 e)))))
theorem CF(D:Draws prog w A it fp n P S)(hs:S n s.heap)
  (hE:∀h' e,Heap.ExtBut it s.heap h'->(∃o,h'.get? e=some o/\o.cls=.type "StopIteration")->wpAny ⇑10 A (k (.ref e)) (λ_ s'=>E (.ref e) s') E {s with heap:=h'}):wpAny ⇑10 A ((Builtin.SmallTypes.nextOf (.ref it) >>= λv=>pure (some v)).onRaise k) Q E s:=
 wpAny_onRaise (aab (D.done s _ _ hs λh' e k c=>hE h' e k c))
theorem Pw(Z:ZAp z TI TO i1 i2 f1 f2)(D1:Draws prog w A.in1 i1 f1 n1 P1 S1)(D2:Draws prog w A.in1 i2 f2 n2 P2 S2)(hi:min n1 n2=i)
  (hz:IsZip s.heap z TI TO .none)(hI:IsPair s.heap TI (.ref i1) (.ref i2))(hO:IsPair s.heap TO a b)(s1:S1 i s.heap)(s2:S2 i s.heap)
  (hQ:∀h' tk,(∀c o,c∉[z,TO,i1,i2]->s.heap.get? c=some o->h'.get? c=some o)->Q none {s with heap:=h',toks:=tk}):
  wpAny ⇑10 A (pyNext (.ref z)) Q E s:=by
 have hT:s.TypeIs (.ref z) "zip":=⟨_,hz,rfl⟩
 unfold pyNext
 refine aab (aeQ (abT (name:="__next__") hT afv (acf afv hT F.entry_zip_next ?_ (F.args_zip_next_1 _))))
 wp_walk using(wpAny_field hz rfl (x:=.none) (i:=0) rfl),(wpAny_field hz rfl (x:=.bool false) (i:=2) rfl),(wpAny_field hz rfl (x:=.ref TI) (i:=3) rfl),(wpAny_field hz rfl (x:=.ref TO) (i:=4) rfl),(wpAny_seqItems hI rfl),(wpAny_setField_rec hz (x:=.ellipsis) ⇑11)
 intro g1 z1 k1
 have a1:S1 i g1:=D1.frame i _ _ s1 λc hc o e=>k1.extBut c o (λq=>Z.fz1 (q ▸ hc)) e
 have O1:IsPair g1 TO a b:=k1.extBut _ _ Z.zO.symm hO
 refine aab ?_
 show wpAny _ _ (forIn [(Value.ref i1,0),(Value.ref i2,1)] _ _) _ _ _
 simp only[ad6,List.forIn_nil]
 by_cases h1:i<n1
 .have h2:n2=i:=by lia
  subst h2;refine aab (aab (tu D1 h1 a1 λx g2 tk2 p2 a2 k2=>?_));have O2:IsPair g2 TO a b:=k2.extBut _ _ Z.O1 O1;wp_walk using(wpAny_seqItems O2 rfl),(wpAny_updateSeq_pair O2),wpAny_letGo;intro g3 O3 k3;refine aab (wpAny_letGo (aag ?_));have z3:=k3.extBut _ _ Z.zO (k2.extBut _ _ Z.z1 z1);have b3:S2 n2 g3:=D2.frame _ _ _ s2 λc hc o e=>k3.extBut c o (λq=>Z.fO2 (q ▸ hc)) (k2.extBut c o (λq=>Z.f21 (q ▸ hc)) (k1.extBut c o (λq=>Z.fz2 (q ▸ hc)) e));refine aab (aab (CF D2 b3 λg4 e k4 c4=>?_));refine wpAny_setField_rec (k4 _ _ Z.z2 z3) ⇑11 λg5 z5 k5=>?_;obtain⟨oe,he,ce⟩:=c4;have ez:e≠z:=λq=>by rw[q,k4 _ _ Z.z2 z3]at he;cases he;exact absurd (ad3 ce) ⇑0
  have ty:Shared.TypeIs {s with heap:=g5,toks:=tk2} (.ref e) "StopIteration":=⟨oe,k5.extBut _ _ ez he,ce⟩;wp_walk using(wpAny_isInstance (T:="StopIteration") (b:=true) ty isSubtype_stop);refine hQ _ _ λc o hc e=>?_;have n1:c≠z:=λq=>hc (by simp[q]);have n2:c≠TO:=λq=>hc (by simp[q]);have n3:c≠i1:=λq=>hc (by simp[q]);have n4:c≠i2:=λq=>hc (by simp[q]);exact k5.extBut c o n1 (k4 c o n4 (k3.extBut c o n2 (k2.extBut c o n3 (k1.extBut c o n1 e))))
 .have h2:n1=i:=by lia
  subst h2;refine aab (aab (CF D1 a1 λg4 e k4 c4=>?_));refine wpAny_setField_rec (k4 _ _ Z.z1 z1) ⇑11 λg5 z5 k5=>?_;obtain⟨oe,he,ce⟩:=c4;have ez:e≠z:=λq=>by rw[q,k4 _ _ Z.z1 z1]at he;cases he;exact absurd (ad3 ce) ⇑0
  have ty:Shared.TypeIs {s with heap:=g5} (.ref e) "StopIteration":=⟨oe,k5.extBut _ _ ez he,ce⟩;wp_walk using(wpAny_isInstance (T:="StopIteration") (b:=true) ty isSubtype_stop);refine hQ _ _ λc o hc e=>?_;have n1:c≠z:=λq=>hc (by simp[q]);have n3:c≠i1:=λq=>hc (by simp[q]);exact k5.extBut c o n1 (k4 c o n3 (k1.extBut c o n1 e))
end
structure Y6(h h':Heap)(l t:Addr):Prop where
 zip:IsZip h' (h.objs.size+4) (h.objs.size+2) (h.objs.size+3) .none
 two:IsPair h' (h.objs.size+2) (.ref h.objs.size) (.ref (h.objs.size+1))
 own:IsPair h' (h.objs.size+3) .none .none
 it1:h'.IsListIter h.objs.size l 0
 it2:h'.IsTupleIter (h.objs.size+1) t 0
 keep:∀c o,h.get? c=some o->h'.get? c=some o
theorem Mp(l t:Addr)(xs ts:Array Value):Meets (Builtin.«zip.__new__» ⟨[.type "zip",.ref l,.ref t],[]⟩) (λ_ R s=>s.heap.IsList l xs/\s.heap.IsTuple t ts/\∀h',Y6 s.heap h' l t->R (.ok (.ret (.ref (s.heap.objs.size+4)))) {s with heap:=h'}):=
 .of_wp λprog w A R s h=>by
  obtain⟨hp,g,d,tk,os⟩:=s;obtain⟨hl,ht,h⟩:=h;have vX:=sub_zip;have hL:Heap.IsList (Shared.heap ⟨hp,g,d,tk,os⟩) l xs:=hl;have hT:Heap.IsTuple (Shared.heap ⟨hp.push {cls:=.type "list_iterator",data:=.fields #[.ref l,.int 0 0]},g,d,tk,os⟩) t ts:=ht.at λo e=>aaa _ e;wp_walk using wpAny_pyIter_list hL,wpAny_pyIter_tuple hT;have e1:∀o:Obj,(hp.push o).objs.size=hp.objs.size+1:=λo=>abS ..;have e2:∀o o2:Obj,((hp.push o).push o2).objs.size=hp.objs.size+2:=λo o2=>by rw[abS,e1]
  have e3:∀o o2 o3:Obj,(((hp.push o).push o2).push o3).objs.size=hp.objs.size+3:=λo o2 o3=>by rw[abS,e2]
  have e4:∀o o2 o3 o4:Obj,((((hp.push o).push o2).push o3).push o4).objs.size=hp.objs.size+4:=λo o2 o3 o4=>by rw[abS,e3]
  simp only[e1,e2,e3,e4];refine⟨_,rfl,h _ ?_⟩;constructor;.rw [<-e4];exact aae _ rfl
  .refine aaa _ (aaa _ ?_);show _=_;rw[<-e2];exact aae _ rfl
  .refine aaa _ ?_;rw[<-e3];exact aae _ rfl
  .exact ⟨_,aaa _ (aaa _ (aaa _ (aaa _ (aae _ rfl)))),rfl,rfl⟩
  .exact ⟨_,aaa _ (aaa _ (aaa _ (by rw[<-e1];exact aae _ rfl))),rfl,rfl⟩
  .exact λc o e=>aaa _ (aaa _ (aaa _ (aaa _ (aaa _ e))))
section
variable {prog:Program}{w:World}{A:Around}{E:eJ}{s:Shared}
theorem Jo(hl:s.heap.IsList l xs)(ht:s.heap.IsTuple t ts)(h:∀h',Y6 s.heap h' l t->Q (.ref (s.heap.objs.size+4)) {s with heap:=h'}):wpAny ⇑10 A (call (.type "zip") [.ref l,.ref t]) Q E s:=by
 refine callType_new F.called_zip ⇑0 (F.typeCall_zip_2 _ _) (F.newCall_zip_2 _ _) (λobj=>F.args_object_init_3 obj _ _) F.entry_zip_new (Mp l t xs ts) ⟨hl,ht,λh' n=>⟨⟨_,n.zip,rfl⟩,h h' n⟩⟩
end
end LS
namespace L2
open PySem PySem.Spec PyProof.Rows LS
def Y7(K:ao)(a b:Addr):It:=
 ⟨λi H=>∃xs ys x y,lQ K H a xs/\kz K H b ys/\xs[i]?=some x/\ys[i]?=some y,λi H v H'=>∃p x y,H p=none/\v=.ref p/\H'=upd H p (.tup [x,y])/\(∀xs,lQ K H a xs->xs[i]?=some x)/\∀ys,kz K H b ys->ys[i]?=some y,λi H=>∃xs ys,lQ K H a xs/\kz K H b ys/\min xs.length ys.length=i⟩
theorem Jp{K:ao}(l1 l2 z TI TO i1 i2:Addr)(D:ZAp z TI TO i1 i2 [i1,l1] [i2,l2])(n1:l1≠i1)(n2:l2≠i2):Turn P w K (.Tuple es kk qc) (Y7 K l1 l2) [z,TI,TO,i1,i2] z (λi h=>IsZip h z TI TO .none/\IsPair h TI (.ref i1) (.ref i2)/\(∃a b,IsPair h TO a b)/\h.IsListIter i1 l1 i/\h.IsTupleIter i2 l2 i) where
 mem:=by simp
 obj:=λi h st b hb=>by
  obtain⟨h1,h2,⟨a,c,h3⟩,⟨o4,h4,_,d4⟩,o5,h5,_,d5⟩:=st;simp at hb;rcases hb with rfl|rfl|rfl|rfl|rfl;.grind
  .grind
  .grind
  .grind
  .grind
 keep:=λi h h' st k=>by
  obtain⟨h1,h2,⟨a,c,h3⟩,h4,h5⟩:=st;exact⟨k z ⇑11 _ h1,k TI ⇑11 _ h2,⟨a,c,k TO ⇑11 _ h3⟩,h4.at λo e=>k i1 ⇑11 o e,h5.at λo e=>k i2 ⇑11 o e⟩
 item:=by
  intro 0;subst hP hw hK;obtain⟨xs,ys,x,y,Px,Em,hx,hy⟩:=hg;obtain⟨t1,rv1,p1,OG⟩:=I.list Px;obtain⟨t2,Wb,p2,hz2⟩:=I.tuple Em;obtain⟨u1,L6,ru1⟩:=rv1.get hx;obtain⟨u2,hu2,ru2⟩:=Wb.get hy;obtain⟨s1,s2,⟨ta,tb,s3⟩,s4,s5⟩:=st;have D1:=Draws.list (prog:=X.prog) (w:=X.w) (A:=X.A.in1) (I.ok.hd hc) i1 l1 n1 t1.toArray;have D2:=gW (prog:=X.prog) (w:=X.w) (A:=X.A.in1) (I.ok.hd hc) i2 l2 n2 t2.toArray;have g1:t1.toArray[i]?=some u1:=by simpa using L6
  have g2:t2.toArray[i]?=some u2:=by simpa using hu2
  refine Mo D D1 D2 (aeB.mp g1).1 (aeB.mp g2).1 s1 s2 s3 ⟨s4,p1.isList⟩ ⟨s5,p2⟩ λx' y' T h1 tk e1 e2 hT r1 r2 r3 r4 r5 ht hk=>⟨_,rfl,wpAny_letOwnedTupleGo_zip r1 λh2 z2 k2=>?_⟩;rw[g1]at e1;rw[g2]at e2;cases e1;cases e2;have hTz:T≠z:=λq=>absurd (aai s1) (by rw[<-q];exact Nat.not_lt.mpr hT);have I1:Inv X pins σ H {s with heap:=h2,toks:=tk}:=I.kC (t':=tk) (ch:=[z,TI,TO,i1,i2]) (λb o hb eo=>by
   have OW:b∉[z,TO,i1,i2]:=λq=>hb (by simp at q ⊢;rcases q with q|q|q|q<;>simp[q]);exact k2.extBut b o (λq=>hb (by simp[q])) (hk b o OW eo)) hf;have T9:IsTup h2 T [u1,u2].toArray:=⟨_,k2.extBut _ _ hTz ht,rfl,_,rfl⟩;have l7:=I.bU.fresh hT;have fo:=I.sv (H':=H) hT l7;have I2:=I1.An l7 (aa6 I.sz hT) fo.2.1 fo.2.2.2.2.1 fo.2.2.2.2.2 T9 (.cons ru1 (.cons ru2 .nil)) (by show 2<=sizeLine;decide);refine⟨.ref T,_,I2,rfl,⟨T,x,y,l7,rfl,rfl,λzs hz=>by rw[I.vG hz Px];exact hx,λzs hz=>by rw[I.o6 hz Em];exact hy⟩,⟨z2,k2.extBut _ _ D.zI.symm r2,⟨_,_,k2.extBut _ _ D.zO.symm r3⟩,r4.1.at λo e=>k2.extBut _ _ D.z1.symm e,r5.1.at λo e=>k2.extBut _ _ D.z2.symm e⟩,λ9=>?_⟩;have hV:b<s.heap.objs.size:=by
   obtain⟨o4,s4,_⟩:=s4;obtain⟨o5,s5,_⟩:=s5;simp at hb;rcases hb with q|q|q|q|q;.rw [q];exact aai s1
   .rw [q];exact aai s2
   .rw [q];exact aai s3
   .rw [q];exact aai s4
   .rw [q];exact aai s5
  rw[av (aay (aam hV hT))];exact(hf b hb).1
 done:=by
  intro 0;subst hP hw hK;obtain⟨xs,ys,Px,Em,hx⟩:=hg;obtain⟨t1,rv1,p1,OG⟩:=I.list Px;obtain⟨t2,Wb,p2,hz2⟩:=I.tuple Em;obtain⟨s1,s2,⟨ta,tb,s3⟩,s4,s5⟩:=st;have D1:=Draws.list (prog:=X.prog) (w:=X.w) (A:=X.A.in1) (I.ok.hd hc) i1 l1 n1 t1.toArray;have D2:=gW (prog:=X.prog) (w:=X.w) (A:=X.A.in1) (I.ok.hd hc) i2 l2 n2 t2.toArray;have a1:=rv1.length;have a2:=Wb.length;refine Pw D D1 D2 (by simp only[aaA];lia) s1 s2 s3 ⟨s4,p1.isList⟩ ⟨s5,p2⟩ λh1 tk hk=>⟨rfl,?_⟩;exact I.kC (t':=tk) (ch:=[z,TI,TO,i1,i2]) (λb o hb eo=>hk b o (λq=>hb (by simp at q ⊢;rcases q with q|q|q|q<;>simp[q])) eo) hf
 self:=λ_ _ _ _ _ st h=>wpAny_pyIter_zip st.1 h
section
variable {X:Cx}{O:List Nat}{a b:Expr}{ga gb:bj}{p pos:Pos}{es:List Expr}{kk}{qc:Pos}
def Y8(K:ao)(ta:TA):TI:=λσ H R=>ta σ H λvs H1=>∃a b xs ys,vs=[.ref a,.ref b]/\lQ K H1 a xs/\kz K H1 b ys/\R (Y7 K a b) H1
theorem ack{x a b:Nat}(h1:x≠a)(h2:x≠b):x∉[a,b]:=by simp[h1,h2]
theorem Py{n l1 l2:Nat}(h1:l1<n)(h2:l2<n):ZAp (n+4) (n+2) (n+3) n (n+1) [n,l1] [n+1,l2]:=by
 constructor<;>first|(show @Ne Nat _ _;lia)|exact ack ⇑2 ⇑2
theorem Pz(hg:Gl X "zip")(hm:X.mg "zip"=none)(ha:PA X [a,b] ta)(hs:starEach [a,b] X.env=(false,eval a X.env)::starEach [b] X.env:=by rfl)(ra:(backTo pos (starEach [b] X.env)).any (·.1)=false:=by rfl):PI X (.Tuple es kk qc) (.Call (.Name "zip" p) [a,b] [] pos) (Y8 X.K ta):=by
 intro 9
 refine abY (lV I hg hm Ut (aci (dq (ha pos pins s σ H _ I h) λus s1 ⟨vs,H1,I1,r1,q1⟩=>?_) hs ra))
 obtain⟨l1,l2,xs,ys,e,Px,Em,q⟩:=q1
 subst e
 cases r1 with
 |cons r1 t1=>
   cases t1 with
   |cons r2 t2=>
     cases t2;cases r1;cases r2;obtain⟨t1,rv1,p1,OG⟩:=I1.list Px;obtain⟨t2,Wb,p2,hz2⟩:=I1.tuple Em;have lt1:l1<s1.heap.objs.size:=by obtain⟨o,ho,_⟩:=p1.isList;exact aai ho
     have lt2:l2<s1.heap.objs.size:=by obtain⟨o,ho,_⟩:=id p2;exact aai ho
     refine Jo p1.isList p2 λh' n=>wpAny_pyIter_zip n.zip ?_;refine⟨s1.heap.objs.size+4,[s1.heap.objs.size+4,s1.heap.objs.size+2,s1.heap.objs.size+3,s1.heap.objs.size,s1.heap.objs.size+1],_,_,H1,rfl,I1.kept (t':=s1.toks) n.keep,Jp l1 l2 _ _ _ _ _ (Py lt1 lt2) (aay lt1) (aay (aei lt2)),⟨n.zip,n.two,⟨_,_,n.own⟩,n.it1,n.it2⟩,λ9=>?_,q⟩;have hle:s1.heap.objs.size<=b:=by grind
     exact I1.sv hle (I1.bU.fresh hle)
def zM(ga gb:bj):cC:=λδ=>(ga δ).bind λx=>(gb δ).bind λy=>match x,y with
 |.list x,.tuple y=>some (IU x y)
 |_,_=>none
theorem PB(hm:X.mg "zip"=none)(ha:PE X a (tE X.K O ga))(hb:PE X b (tE X.K O gb))(hg:Gl X "zip":=by rfl)(hs:starEach [a,b] X.env=(false,eval a X.env)::starEach [b] X.env:=by rfl)(NH:starEach [b] X.env=(false,eval b X.env)::starEach [] X.env:=by rfl)(ra:(backTo pos (starEach [b] X.env)).any (·.1)=false:=by rfl):PI X (.Tuple es kk qc) (.Call (.Name "zip" p) [a,b] [] pos) (tI X.K O (zM ga gb)):=
 (Pz hg hm (bz ha (bz hb cX NH) hs) hs ra).mono λ4=>by
  obtain⟨x,e1,e2⟩:=bind1 ed;obtain⟨y,e3,e4⟩:=bind1 e2;refine⟨U,A0,δ,x,R,e1,λv H1 s1 h1=>⟨U,A0,δ,y,R.same s1,e3,λv2 H2 s2 h2=>?_⟩⟩;cases x with
  |list x=>
    cases y with
    |tuple y=>
      cases e4;have T4:=h1.same (bR (A:=U++A0) s2);cases T4 with
      |lst Px d1=>
        cases h2 with
        |tup Em d2=>
          refine⟨_,_,_,_,rfl,(Px.same cg).sq,(.inl (cg.ng Em)),q _ H2 (s1.trans s2) ?_⟩;intro A' i H3 s3 al;have k1:=d1.same s3;have k2:=d2.same s3;have l1:=((Px.same s3).same cg).sq;have l2:kz X.K H3 _ _:=.inl (cg.ng (s3.ng Em));refine⟨λd hd=>?_,λhi=>⟨_,_,l1,l2,by rw[hi,IU,List.length_zipWith,k1.len,k2.len]⟩⟩;rw[IU,List.getElem?_zipWith]at hd;cases ex:x[i]? with
          |none=>rw[ex]at hd;cases hd
          |some dx=>
            cases ey:y[i]? with
            |none=>rw[ex,ey]at hd;cases hd
            |some dy=>
              rw[ex,ey]at hd;cases hd;obtain⟨vx,hvx,hdx⟩:=k1.get ex;obtain⟨vy,hvy,hdy⟩:=k2.get ey;refine⟨⟨_,_,vx,vy,l1,l2,hvx,hvy⟩,λz H4 hz=>?_⟩;obtain⟨p,x',y',hp,rfl,rfl,f1,f2⟩:=hz;have g1:=f1 _ l1;have g2:=f2 _ l2;rw[hvx]at g1;rw[hvy]at g2;cases g1;cases g2;exact⟨cU hp _,HD.Ai al hp (.cons hdx (.cons hdy .nil))⟩
    |_=>cases e4
  |_=>cases e4
end
end L2
namespace Q1
end Q1
namespace Q1
abbrev Qz:Int×Int:=(0,1)
def at0(l:List (Int×Int))(k:Nat):Int×Int:=l.getD k Qz
end Q1
namespace Q1
def qv(q:Int×Int):Rat:=(q.1:Rat)/(q.2:Rat)
end Q1
namespace Q1
def tab(n:Nat)(T:Nat->Int):List Int:=(List.range n).map T
end Q1
namespace aE
open PySem Builtin Builtin.Str PySem.StrLaws
noncomputable def dY(c:Nat):List Nat->List (List Nat)
 |[]=>[[]]
 |a::l=>if a=c then[]::dY c l else match dY c l with
   |h::t=>(a::h)::t
   |[]=>[[a]]
theorem tw(c:Nat):∀l,∃h t,dY c l=h::t
 |[]=>⟨[],[],rfl⟩
 |a::l=>by
   obtain⟨h,t,e⟩:=tw c l;by_cases ha:a=c;.exact ⟨[],_,by rw[dY,aav ha]⟩
   .exact ⟨a::h,t,by rw[dY,aaB ha,e]⟩
noncomputable def uK(c:Nat):Nat->List Nat->List Nat
 |_,[]=>[]
 |o,a::l=>if a=c then o::uK c (o+1) l else uK c (o+1) l
theorem qi(c:Nat)(W:List Nat):∀(l:List Nat) (o s:Nat),W.drop o=l->o<=W.length->s<=o->∀h t,dY c l=h::t->
  ((s::(uK c o l).map (·+1)).zip (uK c o l++[W.length])).map (λ(p:Nat×Nat)=>(W.drop p.1).take (p.2-p.1))=((W.drop s).take (o-s)++h)::t
 |[],o,s,hd,ho,hs,h,t,e=>by
   have hl:=aeC.mp hd;have:o=W.length:=by lia
   subst this;cases e;simp[uK]
 |a::l,o,s,hd,ho,hs,h,t,e=>by
   have hV:o<W.length:=by grind
   have u9:W.drop (o+1)=l:=by rw[<-List.drop_drop,hd];rfl
   obtain⟨h',t',e'⟩:=tw c l;by_cases ha:a=c
   .rw [dY,aav ha]at e;cases e;have ih:=qi c W l (o+1) (o+1) u9 ⇑2 (aah _) h' t' e';rw[agq,afQ,ad7]at ih;rw[uK,aav ha,aaw,aeq,afP,aaw,ih,e',abr]
   .rw [dY,aaB ha,e']at e;obtain⟨i1,i2⟩:=aek e;rw[<-i1,<-i2];have ih:=qi c W l (o+1) s u9 ⇑2 ⇑2 h' t' e';rw[uK,aaB ha,ih];have ek:(W.drop s).take (o+1-s)=(W.drop s).take (o-s)++[a]:=by
     rw[show o+1-s=(o-s)+1 by lia,adV,aeZ,show s+(o-s)=o by lia];have:W[o]?=some a:=by
      have:=aeZ (xs:=W) (i:=o) (j:=0);rw[hd]at this;simpa using this.symm
     rw[this];rfl
    rw[ek,abt];rfl
theorem AJ(x:Str)(c:Nat):∀(l:List Nat) (o:Nat) (found:Array Nat) (free:Nat),x.cps.toList.drop o=l->o<=x.length->free<=o->found.size<=o->
  (forIn (List.range' o (l.length+1)) (found,free) (occBody x ⟨#[c]⟩ x.length (x.length+1))).run.fst.toList=found.toList++uK c o l
 |[],o,found,free,hd,ho,hf,hs=>by
   have hl:=aeC.mp hd;have hx:x.cps.toList.length=x.length:=aaD;rw[aeW,afk,ad6];unfold occBody;rw[aaB (λz=>by have:=z.1.2;have e:(⟨#[c]⟩:Str).length=1:=rfl;lia)];simp[uK]
 |a::l,o,found,free,hd,ho,hf,hs=>by
   have hx:x.cps.toList.length=x.length:=aaD;have hV:o<x.cps.toList.length:=by grind
   have u9:x.cps.toList.drop (o+1)=l:=by rw[<-List.drop_drop,hd];rfl
   rw[aaz,afk,ad6];have vX:subAt x ⟨#[c]⟩ o=decide (a=c):=by
    rw[subAt_eq,hd];show((a::l).take 1==[c])=_;simp[Bool.beq_eq_decide_eq]
   have e1:(⟨#[c]⟩:Str).length=1:=rfl;have key:occBody x ⟨#[c]⟩ x.length (x.length+1) o (found,free)=if a=c then pure (ForInStep.yield (found.push o,o+1))else pure (ForInStep.yield (found,free)):=by
    unfold occBody;by_cases ha:a=c;.grind
    .grind
   rw[key,uK];by_cases ha:a=c
   .rw [aav ha,aav ha];have ih:=AJ x c l (o+1) (found.push o) (o+1) u9 ⇑2 (aah _) (by rw[Array.size_push];lia);show(forIn (List.range' (o+1) (l.length+1)) (found.push o,o+1) (occBody x ⟨#[c]⟩ x.length (x.length+1))).run.fst.toList=_;rw[ih,ae8,abt];rfl
   .rw [aaB ha,aaB ha];exact AJ x c l (o+1) found free u9 ⇑2 ⇑2 ⇑2
theorem G8(x:Str)(c:Nat):occurrences x ⟨#[c]⟩ 0 x.length (x.length+1)=uK c 0 x.cps.toList:=by
 rw[occ_eq]
 have h:=AJ x c x.cps.toList 0 #[] 0 rfl (abO _) (aah _) (aah _)
 have hx:x.cps.toList.length=x.length:=aaD
 rw[hx]at h
 rw[Nat.sub_zero,h];rfl
def gN(l:List Nat):Str:=⟨l.toArray⟩
theorem j6(x:Str):gN x.cps.toList=x:=rfl
theorem tz(x:Str)(c:Nat):partsBetween x (uK c 0 x.cps.toList) 1=(dY c x.cps.toList).map gN:=by
 obtain⟨h,t,e⟩:=tw c x.cps.toList
 have k:=qi c x.cps.toList x.cps.toList 0 0 rfl (abO _) (aah _) h t e
 rw[agq,afQ,ad7,<-e]at k
 rw[<-k,ad0]
 refine aeL λp _=>?_
 show strSub x p.1 p.2=gN ((x.cps.toList.drop p.1).take (p.2-p.1))
 rw[<-strSub_toList,j6]
theorem ux:∀{l:List Nat},c∉l->dY c l=[l]
 |[],_=>rfl
 |a::l,h=>by
   rw[dY,aaB (λz=>h (by rw[z];exact aan)),ux λz=>h (aat _ z)]
theorem j7:∀{l:List Nat},c∉l->dY c (l++c::r)=l::dY c r
 |[],_=>by rw[ad7,dY,aav rfl]
 |a::l,h=>by
   rw[aeq,dY,aaB (λz=>h (by rw[z];exact aan)),j7 λz=>h (aat _ z)]
theorem Rn(h:c<256)(x:Str):decide (Builtin.Str.strKind x<Builtin.Str.strKind ⟨#[c]⟩)=false:=by
 refine aaG ?_
 have e:Builtin.Str.strKind ⟨#[c]⟩=1:=by
  unfold Builtin.Str.strKind;rw[aav (by simp[h])]
 rw[e]
 unfold Builtin.Str.strKind
 split
 .lia
 .grind
set_option tactic.hygienic true in
theorem pq(h:c<256)(x:Str):Txt.split x ⟨#[c]⟩=(dY c x.cps.toList).map gN:=by
 unfold Txt.split
 rw[Rn h x,Bool.or_false]
 have e1:(⟨#[c]⟩:Str).length=1:=rfl
 rw[e1,G8,tz]
 have hx:x.cps.toList.length=x.length:=aaD
 split
 .rename_i hl;have hl:=afb hl;have:x.cps.toList=[]:=adM.mp ⇑2;rw[this];show[x]=[gN []];rw[<-this,j6]
 .split
  .rename_i he;have he:=List.isEmpty_iff.mp he;have k:=tz x c;rw[<-k,he];congr 1;refine aeS ?_;show x.cps=x.cps.extract 0 x.length;rw[show x.length=x.cps.size from rfl,Array.extract_size]
  .rfl
theorem join_cons(sep:Str)(x y:Str)(r:List Str):Txt.join sep (x::y::r)=x++sep++Txt.join sep (y::r):=by
 unfold Txt.join
 rw[glued_eq_join,glued_eq_join];rfl
theorem join_one(sep:Str)(x:Str):Txt.join sep [x]=x:=rfl
theorem nU:∀{ts:List Str},ts≠[]->(∀t∈ts,c∉t.cps.toList)->dY c (Txt.join ⟨#[c]⟩ ts).cps.toList=ts.map (λt=>t.cps.toList)
 |[],h,_=>(h rfl).elim
 |[x],_,h=>by rw[join_one];exact ux (h x aan)
 |x::y::r,_,h=>by
   rw[join_cons,afR,afR,acg,acg];rw[abt,afe,j7 (h x aan),nU ⇑11 λt ht=>h t (aat _ ht)];rfl
theorem wI(hc:c<256)(iw:ts≠[])(h:∀t∈ts,c∉t.cps.toList):Txt.split (Txt.join ⟨#[c]⟩ ts) ⟨#[c]⟩=ts:=by
 rw[pq hc,nU iw h,ad0]
 exact(aeL λt _=>j6 t).trans (List.map_id ts)
theorem mem_join:∀{ts:List Str},c∉sep.cps.toList->(∀t∈ts,c∉t.cps.toList)->c∉(Txt.join sep ts).cps.toList
 |[],_,_=>by
   exact acA
 |[x],_,h=>by rw[join_one];exact h x aan
 |x::y::r,hs,h=>by
   rw[join_cons,afR,afR,acg,acg,aap,aap];have:=mem_join (ts:=y::r) hs λt ht=>h t (aat _ ht);have:=h x aan;simp only[not_or];refine⟨⟨?_,?_⟩,?_⟩<;>assumption
theorem wJ(h:∀t∈ts,t.length<=B):(Txt.join sep ts).length<=ts.length*B+ts.length*sep.length:=by
 unfold Txt.join
 rw[glued_eq_join]
 exact aa6 (StrLaws.join_length_le sep ts) (Nat.add_le_add_right (sumLen_le ts h) _)
theorem wK(c:Nat):∀l:List Nat,(dY c l).length<=l.length+1
 |[]=>aah _
 |a::l=>by
   have ih:=wK c l;rw[dY];split;.grind
   .grind
noncomputable def df(c:Nat):Nat->List Nat->List (List Nat)
 |0,l=>[l]
 |_+1,[]=>[[]]
 |k+1,a::l=>if a=c then[]::df c k l else match df c (k+1) l with
   |h::t=>(a::h)::t
   |[]=>[[a]]
theorem lL(c:Nat):∀k l,∃h t,df c k l=h::t
 |0,l=>⟨l,[],by rw[df]⟩
 |k+1,[]=>⟨[],[],by rw[df]⟩
 |k+1,a::l=>by
   obtain⟨h,t,e⟩:=lL c (k+1) l;by_cases ha:a=c;.exact ⟨[],_,by rw[df,aav ha]⟩
   .exact ⟨a::h,t,by rw[df,aaB ha,e]⟩
noncomputable def posK(c:Nat):Nat->Nat->List Nat->List Nat
 |0,_,_=>[]
 |_+1,_,[]=>[]
 |k+1,o,a::l=>if a=c then o::posK c k (o+1) l else posK c (k+1) (o+1) l
theorem nV(c:Nat)(W:List Nat):∀(k:Nat) (l:List Nat) (o s:Nat),W.drop o=l->o<=W.length->s<=o->∀h t,df c k l=h::t->
  ((s::(posK c k o l).map (·+1)).zip (posK c k o l++[W.length])).map (λ(p:Nat×Nat)=>(W.drop p.1).take (p.2-p.1))=((W.drop s).take (o-s)++h)::t
 |0,l,o,s,hd,ho,hs,h,t,e=>by
   rw[df]at e;cases e;rw[posK];show[(W.drop s).take (W.length-s)]=_;rw[List.take_of_length_le (by rw[aeD];lia),<-hd];rw[show W.drop o=(W.drop s).drop (o-s)by rw[List.drop_drop,show s+(o-s)=o by lia],afd]
 |k+1,[],o,s,hd,ho,hs,h,t,e=>by
   have hl:=aeC.mp hd;have:o=W.length:=by lia
   subst this;cases e;simp[posK]
 |k+1,a::l,o,s,hd,ho,hs,h,t,e=>by
   have hV:o<W.length:=by grind
   have u9:W.drop (o+1)=l:=by rw[<-List.drop_drop,hd];rfl
   by_cases ha:a=c
   .obtain ⟨h',t',e'⟩:=lL c k l;rw[df,aav ha]at e;cases e;have ih:=nV c W k l (o+1) (o+1) u9 ⇑2 (aah _) h' t' e';rw[agq,afQ,ad7]at ih;rw[posK,aav ha,aaw,aeq,afP,aaw,ih,e',abr]
   .obtain ⟨h',t',e'⟩:=lL c (k+1) l;rw[df,aaB ha,e']at e;obtain⟨i1,i2⟩:=aek e;rw[<-i1,<-i2];have ih:=nV c W (k+1) l (o+1) s u9 ⇑2 ⇑2 h' t' e';rw[posK,aaB ha,ih];have ek:(W.drop s).take (o+1-s)=(W.drop s).take (o-s)++[a]:=by
     rw[show o+1-s=(o-s)+1 by lia,adV,aeZ,show s+(o-s)=o by lia];have:W[o]?=some a:=by
      have:=aeZ (xs:=W) (i:=o) (j:=0);rw[hd]at this;simpa using this.symm
     rw[this];rfl
    rw[ek,abt];rfl
theorem rJ(x:Str)(c m:Nat):∀(l:List Nat) (o:Nat) (found:Array Nat) (free:Nat),x.cps.toList.drop o=l->o<=x.length->free<=o->found.size<=m->
  (forIn (List.range' o (l.length+1)) (found,free) (occBody x ⟨#[c]⟩ x.length m)).run.fst.toList=found.toList++posK c (m-found.size) o l
 |[],o,found,free,hd,ho,hf,hs=>by
   have hl:=aeC.mp hd;have hx:x.cps.toList.length=x.length:=aaD;rw[aeW,afk,ad6];unfold occBody;rw[aaB (λz=>by have:=z.1.2;have e:(⟨#[c]⟩:Str).length=1:=rfl;lia)];cases m-found.size<;>simp[posK]
 |a::l,o,found,free,hd,ho,hf,hs=>by
   have hx:x.cps.toList.length=x.length:=aaD;have hV:o<x.cps.toList.length:=by grind
   have u9:x.cps.toList.drop (o+1)=l:=by rw[<-List.drop_drop,hd];rfl
   rw[aaz,afk,ad6];have vX:subAt x ⟨#[c]⟩ o=decide (a=c):=by
    rw[subAt_eq,hd];show((a::l).take 1==[c])=_;simp[Bool.beq_eq_decide_eq]
   have e1:(⟨#[c]⟩:Str).length=1:=rfl;have key:occBody x ⟨#[c]⟩ x.length m o (found,free)=if a=c/\found.size<m then pure (ForInStep.yield (found.push o,o+1))else pure (ForInStep.yield (found,free)):=by
    unfold occBody;by_cases ha:a=c/\found.size<m;.grind
    .grind
   rw[key];by_cases hm:found.size<m
   .obtain ⟨j,hj⟩:∃j,m-found.size=j+1:=⟨m-found.size-1,by lia⟩;rw[hj,posK];by_cases ha:a=c
    .rw [aav ⟨ha,hm⟩,aav ha];have ih:=rJ x c m l (o+1) (found.push o) (o+1) u9 ⇑2 (aah _) (by rw[Array.size_push];lia);show(forIn (List.range' (o+1) (l.length+1)) (found.push o,o+1) (occBody x ⟨#[c]⟩ x.length m)).run.fst.toList=_;rw[ih,ae8,abt,Array.size_push,show m-(found.size+1)=j by lia];rfl
    .rw [aaB (λz=>ha z.1),aaB ha];have ih:=rJ x c m l (o+1) found free u9 ⇑2 ⇑2 hs;rw[hj]at ih;exact ih
   .rw [aaB (λz=>hm z.2)];have ih:=rJ x c m l (o+1) found free u9 ⇑2 ⇑2 hs;rw[show m-found.size=0 by lia]at ih ⊢;rw[posK]at ih ⊢;exact ih
theorem CG(x:Str)(c m:Nat):occurrences x ⟨#[c]⟩ 0 x.length m=posK c m 0 x.cps.toList:=by
 rw[occ_eq]
 have h:=rJ x c m x.cps.toList 0 #[] 0 rfl (abO _) (aah _) (abO _)
 have hx:x.cps.toList.length=x.length:=aaD
 rw[hx]at h
 rw[Nat.sub_zero,h];rfl
theorem EO(x:Str)(c k:Nat):partsBetween x (posK c k 0 x.cps.toList) 1=(df c k x.cps.toList).map gN:=by
 obtain⟨h,t,e⟩:=lL c k x.cps.toList
 have q:=nV c x.cps.toList k x.cps.toList 0 0 rfl (abO _) (aah _) h t e
 rw[agq,afQ,ad7,<-e]at q
 rw[<-q,ad0]
 refine aeL λp _=>?_
 show strSub x p.1 p.2=gN ((x.cps.toList.drop p.1).take (p.2-p.1))
 rw[<-strSub_toList,j6]
theorem fV:∀{l:List Nat},c∉l->df c (k+1) (l++c::r)=l::df c k r
 |[],_=>by rw[ad7,df,aav rfl]
 |a::l,h=>by
   rw[aaj,not_or]at h;rw[aeq,df,aaB (acw h.1),fV h.2]
end aE
namespace aE
theorem G9:∀{l:List Nat} {m o:Nat},c∈l->0<m->posK c m o l≠[]
 |a::l,m+1,o,h,_=>by
   rw[posK];by_cases ha:a=c;.grind
   .rw [aaB ha];rcases aaj.mp h with z|z;.grind
    .exact G9 z (Nat.succ_pos m)
theorem qj(c:Nat):∀(m:Nat) (l:List Nat),(df c m l).length<=l.length+1
 |0,l=>by rw[df];exact Nat.le_add_left _ _
 |m+1,[]=>by rw[df];exact aah _
 |m+1,a::l=>by
   rw[df];by_cases ha:a=c;.rw [aav ha];have:=qj c m l;simp;lia
   .rw [aaB ha];obtain⟨h,t,e⟩:=lL c (m+1) l;have:=qj c (m+1) l;rw[e]at this ⊢;simp at this ⊢;lia
end aE
namespace aE
open PySem L2 Q1
abbrev bt(x:Int):Nat:=Builtin.Int.intBits x
theorem nW(h:x.natAbs<2^m):bt x<=m:=intBits_le_iff.mpr h
theorem CH(h:bt x<=m)(h2:m<=n):bt x<=n:=aa6 h h2
theorem Mq(h1:bt x<=m)(h2:bt y<=n)(h:m+n<=134217728:=by lia):IntMulOk x y:=IntMulOk.of_le h1 h2 h
theorem lM(h:IntMulOk a b):d6 (.int a) (.int b)=some (.int (a*b)):=Ah h
theorem fW(h:0<b):eD (.int a) (.int b)=some (.int (a%b)):=by
 rw[<-Int.fmod_eq_emod_of_nonneg _ (Int.le_of_lt h)]
 exact Ah (C:=λ_ j=>j≠0) ⇑2
theorem CI(h:0<b)(hb:bt b<=9000):gg (.int a) (.int b)=some (.int (a/b)):=by
 rw[<-Int.fdiv_eq_ediv_of_nonneg _ (Int.le_of_lt h)]
 exact Ah (C:=KQ) ⟨by lia,Im hb⟩
theorem Ha{k:Nat}(h:a.natAbs<2^64)(hk:k<=1000000):nD (.int a) (.int k)=some (.int (a^k)):=by
 have:=Ah (C:=S5) (g:=λi j=>.int (i^j.toNat)) (a:=a) (b:=k) ⟨by lia,by lia,h⟩
 simpa using this
theorem acm:so (x::xs) 0=some x:=fJ (j:=0) rfl
theorem acn:so (x::y::xs) 1=some y:=fJ (j:=1) rfl
theorem Hb(h:xs[xs.length-1]?=some x):so xs (-1)=some x:=KW h
def fN{β:Type}(x:Option β)(P:β->Prop):Prop:=∃d,x=some d/\P d
theorem aP(h:fN x λy=>y=d):x=some d:=by
 obtain⟨y,e,rfl⟩:=h;exact e
theorem fN.mk{d:β}(e:x=some d)(h:P d):fN x P:=⟨d,e,h⟩
theorem pw(h:a δ=some (.nx δ')):aH a b δ=b δ':=by
 unfold aH;rw[h];rfl
theorem rK(h:a δ=some (.rt d)):aH a b δ=some (.rt d):=by
 unfold aH;rw[h];rfl
theorem ER(W:Nat->DS->Prop)(Z:DS->Prop)(m:Nat)(h:W m δ)
  (hs:∀m δ,W m δ->(c δ=some false/\Z δ)\/(c δ=some true/\∃δ' m',b δ=some (.nx δ')/\m'<m/\W m' δ')):∃δ',ja c b δ=some (.nx δ')/\Z δ':=by
 obtain⟨q,h1,δ',rfl,h2⟩:=zq W (λ_ q=>∃δ',q=.nx δ'/\Z δ') m δ h (λm δ hW=>by
  rcases hs m δ hW with⟨a,z⟩|⟨a,δ',m',e,l,w⟩;.exact .inl ⟨a,δ,rfl,z⟩
  .exact .inr ⟨a,.inl ⟨δ',m',.inl e,l,w,λq hq=>hq⟩⟩)
 exact⟨δ',h1,h2⟩
theorem CJ(W:Nat->DS->Prop):∀(ds:List D) (k:Nat) {δ:DS},W k δ->(∀i d δ,ds[i]?=some d->W (k+i) δ->∃fg δ',t d δ=some fg/\b fg=some (.nx δ')/\W (k+i+1) δ')->
  ∃δ',kY t b ds δ=some (.nx δ')/\W (k+ds.length) δ'
 |[],k,δ,h,_=>⟨δ,rfl,h⟩
 |d::ds,k,δ,h,hs=>by
   obtain⟨fg,δ',e1,e2,h'⟩:=hs 0 d δ rfl h;obtain⟨δ2,e3,h2⟩:=CJ W ds (k+1) h' (λi d δ e w=>by
    have:=hs (i+1) d δ (by simpa using e) (by rw[show k+(i+1)=k+1+i by lia];exact w);rw[show k+(i+1)+1=k+1+i+1 by lia]at this;exact this);refine⟨δ2,?_,by rw[aaz,show k+(ds.length+1)=k+1+ds.length by lia];exact h2⟩;rw[kY,e1,aad,e2,aad];exact e3
theorem AK{α:Type}(enc:α->D)(W:Nat->DS->Prop)(xs:List α)(h:W 0 δ)
  (hs:∀i x δ,xs[i]?=some x->W i δ->∃fg δ',t (enc x) δ=some fg/\b fg=some (.nx δ')/\W (i+1) δ'):∃δ',kY t b (xs.map enc) δ=some (.nx δ')/\W xs.length δ':=by
 obtain⟨δ',e,w⟩:=CJ (t:=t) (b:=b) W (xs.map enc) 0 h (λi d δ e w=>by
  rw[aas]at e;cases ex:xs[i]? with
  |none=>rw[ex]at e;cases e
  |some x=>
    rw[ex]at e;cases e;rw[afB]at w ⊢;exact hs i x δ ex w)
 rw[afB,aac]at w
 exact⟨δ',e,w⟩
theorem Mr(W:Nat->DS->Prop)(h:W 0 δ)
  (hs:∀i δ,i<n->W i δ->∃fg δ',t (.int (lo+i)) δ=some fg/\b fg=some (.nx δ')/\W (i+1) δ'):∃δ',kY t b (hX lo n) δ=some (.nx δ')/\W n δ':=by
 obtain⟨δ',e,w⟩:=AK (t:=t) (b:=b) (λk:Nat=>PyData.int (lo+k)) W (List.range n) h (λi x δ e w=>by
  have hi:=(aar.mp e).1;rw[aev]at hi;rw[afz hi]at e;cases e;exact hs i δ hi w)
 rw[aev]at w
 exact⟨δ',e,w⟩
theorem zQ{b rest:bo}{R:β->Prop}(W:Nat->DS->Prop)(Z:DS->Prop)(m:Nat)(h:W m δ)
  (hs:∀m δ,W m δ->(c δ=some false/\Z δ)\/(c δ=some true/\∃δ' m',b δ=some (.nx δ')/\m'<m/\W m' δ'))(k:∀δ',Z δ'->fN ((rest δ').bind f) R):fN ((aH (ja c b) rest δ).bind f) R:=by
 obtain⟨δ',h1,h2⟩:=ER W Z m h hs
 rw[pw h1]
 exact k δ' h2
theorem px{α:Type}{b rest:bo}{R:β->Prop}(enc:α->D)(xs:List α)(W:Nat->DS->Prop)(hi:gi δ=some (xs.map enc))(h:W 0 δ)
  (hs:∀i x δ,xs[i]?=some x->W i δ->∃fg δ',t (enc x) δ=some fg/\b fg=some (.nx δ')/\W (i+1) δ')(k:∀δ',W xs.length δ'->fN ((rest δ').bind f) R):fN ((aH (iq gi t b) rest δ).bind f) R:=by
 obtain⟨δ',h1,h2⟩:=AK (t:=t) (b:=b) enc W xs h hs
 rw[pw (δ':=δ') (by unfold iq;rw[hi];exact h1)]
 exact k δ' h2
theorem nX{b rest:bo}{R:β->Prop}(lo:Int)(n:Nat)(W:Nat->DS->Prop)(hi:gi δ=some (hX lo n))(h:W 0 δ)
  (hs:∀i δ,i<n->W i δ->∃fg δ',t (.int (lo+i)) δ=some fg/\b fg=some (.nx δ')/\W (i+1) δ')(k:∀δ',W n δ'->fN ((rest δ').bind f) R):fN ((aH (iq gi t b) rest δ).bind f) R:=by
 obtain⟨δ',h1,h2⟩:=Mr (t:=t) (b:=b) W h hs
 rw[pw (δ':=δ') (by unfold iq;rw[hi];exact h1)]
 exact k δ' h2
theorem bq{a rest:bo}{R:β->Prop}(δ':DS)(h:a δ=some (.nx δ'))(k:fN ((rest δ').bind f) R):fN ((aH a rest δ).bind f) R:=by
 rw[pw h];exact k
theorem bM{a rest:bo}{R:β->Prop}(h:c δ=some false)(k:fN ((rest δ).bind f) R):fN ((aH (gy c a bu) rest δ).bind f) R:=by
 rw[pw (δ':=δ) (by unfold gy;rw[h];rfl)];exact k
theorem cx{a b rest:bo}{R:β->Prop}(x:Bool)(h:c δ=some x)(k1:x=true->fN ((aH a rest δ).bind f) R)(k2:x=false->fN ((aH b rest δ).bind f) R):fN ((aH (gy c a b) rest δ).bind f) R:=by
 have e:gy c a b δ=if x=true then a δ else b δ:=by unfold gy;rw[h];rfl
 cases x with
 |true=>rw[if_pos rfl]at e;have:=k1 rfl;unfold aH at this ⊢;rw[e];exact this
 |false=>rw[if_neg Bool.false_ne_true]at e;have:=k2 rfl;unfold aH at this ⊢;rw[e];exact this
theorem cy{rest:bo}{R:β->Prop}(d:D)(h:g δ=some d)(k:fN (f (.rt d)) R):fN ((aH (bh g) rest δ).bind f) R:=by
 rw[rK (d:=d) (by unfold bh;rw[h];rfl)];exact k
theorem ret(d:D)(h:g δ=some d)(k:fN (f (.rt d)) R):fN ((bh g δ).bind f) R:=by
 unfold bh;rw[h];exact k
theorem cL(δ':DS)(h:a δ=some (.nx δ'))(k:b δ'=r):aH a b δ=r:=(pw h).trans k
theorem wL(h:c δ=some false):gy c a bu δ=some (.nx δ):=by unfold gy;rw[h];rfl
theorem rL{rest:bo}:aH bu rest δ=rest δ:=rfl
theorem seq_assoc:aH (aH a b) c δ=aH a (aH b c) δ:=by
 unfold aH
 cases a δ with
 |none=>rfl
 |some r=>cases r<;>rfl
theorem He{α β:Type}(enc:α->D)(qk:β->D)(h:α->β):∀(l:List α),(∀a∈l,f (enc a)=some (qk (h a)))->Lb f (l.map enc)=some ((l.map h).map qk)
 |[],_=>rfl
 |a::l,hf=>by
   rw[aaw,Lb,hf a aan,aad,He enc qk h l λ9=>hf b (aat _ hb)];rfl
theorem dQ{α β:Type}(enc:α->D)(qk:β->D)(h:α->β)(l:List α)(hi:gi δ=some (l.map enc))(hn:l.length<=100000)
  (hf:∀a∈l,ge (some (enc a)::eR ix δ)=some (qk (h a))):cb gi ix ge δ=some ((l.map h).map qk):=by
 unfold cb
 rw[hi,aad,aav (by rw[aac];exact hn)]
 exact He enc qk h l hf
theorem PD{α:Type}(enc:α->D)(l:List α)(a b:Nat):∃m:List α,cutD (l.map enc) (some (a:Int)) (some (b:Int))=m.map enc/\m.length<=b-a/\m.length<=l.length:=by
 unfold cutD
 refine⟨(l.drop _).take _,by rw[List.map_take,List.map_drop,aac],?_,?_⟩
 .rw [acb,HT.Gf,HT.Gf];lia
 .grind
theorem UT(a b:Int):f9 (.int a) (.int b)=some (.bool (decide (a=b))):=rfl
theorem Ms(a b:Int):DN (.int a) (.int b)=some (.bool (!decide (a=b))):=rfl
theorem AL(h:f9 a b=some (.bool c)):DN a b=some (.bool (!c)):=by unfold DN;rw[h];rfl
theorem jJ(h:g δ=some [.int (n:Nat)])(hn:n<=100000):gM g δ=some (hX 0 n):=by
 unfold gM
 rw[h,aad]
 show(if -(2^62)<=((n:Nat):Int)/\((n:Nat):Int)<2^62 then some (hX 0 ((n:Nat):Int).toNat)else none)=_
 rw[abV,aav ⟨by lia,by lia⟩]
theorem Jq(h:g δ=some [.int a,.int b])(h1:-100000<=a)(h2:a<=100000)(h3:-100000<=b)(h4:b<=100000):vi g δ=some (hX a (b-a).toNat):=by
 unfold vi
 rw[h,aad]
 show(if -(2^62)<=a/\a<2^62/\-(2^62)<=b/\b<2^62 then some (hX a (b-a).toNat)else none)=_
 rw[aav ⟨by lia,by lia,by lia,by lia⟩]
theorem call_of(h:g δ=some ds)(hn:ds.length=n)(hG:G ds=r):aS G n g δ=r:=by
 unfold aS;rw[h,Option.bind_some,if_pos hn];exact hG
theorem eL(h:g δ=some ds)(hn:ds.length=n)(hG:G ds=r):cI G n g δ=r:=by
 unfold cI;rw[h,Option.bind_some,if_pos hn];exact hG
theorem aW(h:g δ=some l):aX g δ=some (.list l):=by unfold aX;rw[h];rfl
theorem cons_of(h:a δ=some x)(h2:r δ=some xs):aa a r δ=some (x::xs):=by unfold aa;rw[h,h2];rfl
theorem bf(h:g δ=some d):bI i g δ=some (.nx (δ.set i (some d))):=by unfold bI;rw[h];rfl
theorem Mt(l:List D):b8 [.list l]=some (.int l.length):=rfl
theorem Y9(l:List D)(i:Int):bN (.list l) (.int i)=so l i:=rfl
theorem CL(h1:a δ=some false)(h2:b δ=r):NG a b δ=r:=by unfold NG;rw[h1];exact h2
theorem nY(h1:a δ=some true)(h2:b δ=r):kX a b δ=r:=by unfold kX;rw[h1];exact h2
theorem gp(h:a δ=some x):iD a δ=some (!x):=by unfold iD;rw[h];rfl
theorem bx(h:g δ=some (.bool b)):gB g δ=some b:=by unfold gB;rw[h];rfl
theorem gq(h:g δ=some (.bool b)):fG g δ=some b:=by unfold fG;rw[h];rfl
theorem aj(h1:a δ=some x)(h2:b δ=some y)(h3:f x y=r):g2 f a b δ=r:=by unfold g2;rw[h1,h2];exact h3
theorem Mu(h1:a δ=some x)(h2:b δ=some y)(h3:f x y=some (.bool true))(h4:c δ=some z)(h5:f' y z=r):dA f f' a b c δ=r:=by
 unfold dA;rw[h1,h2,Option.bind_some,Option.bind_some,h3,Option.bind_some,h4];exact h5
noncomputable abbrev ES:Fm:=[("plan many",856,494,["number"]),("plan till",859,495,["number","number"]),("plan steps",863,496,["number","number or -1","number","number"]),("plan between",869,497,["number","number","number","number","number"]),("show",876,498,[]),("ends",878,499,[]),("ways",880,500,["number","number"]),("odds",884,501,["number","number","fraction"]),("mean",889,502,["fraction"]),("share",892,503,["number","number"]),("judge",896,504,[]),("rule",898,505,["fraction","fraction","fraction"]),("lot",903,506,["name"]),("bad",906,507,[]),("good",908,508,[]),("at",910,509,[])]
noncomputable abbrev fmK:Tk:=[(494,[("number",857)]),(495,[("number",860),("number",861)]),(496,[("number",864),("number or -1",865),("number",866),("number",867)]),(497,[("number",870),("number",871),("number",872),("number",873),("number",874)]),(498,[]),(499,[]),(500,[("number",881),("number",882)]),(501,[("number",885),("number",886),("fraction",887)]),(502,[("fraction",890)]),(503,[("number",893),("number",894)]),(504,[]),(505,[("fraction",899),("fraction",900),("fraction",901)]),(506,[("name",904)]),(507,[]),(508,[]),(509,[])]
abbrev sI(x:Int):Option D:=some (.int x)
abbrev sL(x:List D):Option D:=some (.list x)
abbrev ql:bo:=(bh (fT (yo "int" (ae 0)) (g1 Oy (yo "bool" (ae 0)))))
def gU:List D->Option D:=d9 1 ql
theorem UU(a0:D):gU [a0]=(ql [some a0]).bind dW:=rfl
abbrev qm:bo:=(aH (gy (NG (iD (fG (yo "tuple" (ae 0)))) (gB (g2 f9 (cQ b8 ⇑8) (ay 0)))) (bh (gC (.bool false))) bu)
  (aH (gy (iD (fG (cQ Az (aa (aX (cb (aU (ae 0)) [1] (fT (aS gU 1 ⇑8) (g2 J0 (ae 0) (ae 1))))) ag)))) (bh (gC (.bool false))) bu)
  (bh (g2 f9 (aX (Aj nH ⇑8)) (aX (OR (ae 0)))))))
def dN:List D->Option D:=d9 2 qm
theorem ET(a0 a1:D):dN [a0,a1]=(qm [some a0,some a1]).bind dW:=rfl
abbrev wM:bo:=(bh (aX (OR (aX (K3 yn (aX (Aj nH ⇑8)) (aX (cb (aU (ae 0)) [] (g2 aA (ae 0) (ay 1)))))))))
def dO:List D->fR:=nJ 1 wM
theorem Za(a0:D):dO [a0]=(wM [some a0]).bind nI:=rfl
abbrev tD:bo:=(aH (gy (NG (iD (fG (yo "tuple" (ae 0)))) (iD (gB (dA yk yk (ay 1) (cQ b8 ⇑8) (ay 24))))) (bh (gC (.bool false))) bu)
  (aH (bI 1 (aX (cV (aa (ay 0) ag))))
  (aH (iq (aU (ae 0)) (aN 2)
   (aH ⇑14
  (bI 1 (aX (cI dO 1 ⇑27)))))
  (bh (gC (.bool true))))))
def pz:List D->Option D:=d9 3 tD
theorem Jr(a0:D):pz [a0]=(tD [some a0,none,none]).bind dW:=rfl
abbrev tF:bo:=(aH (bI 2 (g2 aA ⇑23 (g2 bN (ae 1) (ay 1))))
  (bh (fT (dA yk p6 (ay 0) (ae 2) (cQ b8 ⇑8)) (g2 J0 ⇑23 (g2 bN (ae 0) (ae 2))))))
def lN:List D->Option D:=d9 3 tF
theorem Js(a0 a1:D):lN [a0,a1]=(tF [some a0,some a1,none]).bind dW:=rfl
abbrev tH:bo:=(aH (kB 1 (cV (aa (cj (aa (ay 0) (aa (ay 0) ag))) ag)))
  (aH (iq (LF (ae 0)) (iz 2 (cv (aN 2) (cv (aN 3) iU)))
   (IA 1 (cb (aU (aX (cI dO 1 (aa (ae 3) ag)))) [2] (cj (aa (ae 0) (aa (g2 eZ (ae 1) (ae 0)) ag))))))
  (bh (ae 1))))
def jK:List D->fR:=nJ 4 tH
theorem We(a0:D):jK [a0]=(tH [some a0,none,none,none]).bind nI:=rfl
abbrev EU:bo:=(bh (aX (di (aU (aX (cI jK 1 ⇑8))) 1 [0] (aN 0) (iD (fG (aS lN 2 (aa (ae 1) ⇑8)))) (ae 0))))
def AM:List D->fR:=nJ 1 EU
theorem acp(a0:D):AM [a0]=(EU [some a0]).bind nI:=rfl
abbrev qo:bo:=(aH (kB 1 (cV ag))
  (aH (iq (ED (ae 0)) (iz 2 (cv (aN 2) (cv (aN 3) iU)))
   (IA 1 (cb (aU (ae 3)) [2] (cj (aa (ae 0) (aa (g2 eZ (ae 1) (ae 0)) ag))))))
  (bh (ae 1))))
def j8:List D->fR:=nJ 4 qo
theorem UW(a0:D):j8 [a0]=(qo [some a0,none,none,none]).bind nI:=rfl
abbrev mi(f c:Addr)(q:Str)(G:List D->Option D):bo:=(aH (kB 1 (cV ag))
  (aH (bI 2 (aX (cV (aa (ay 0) ag))))
  (ja (fG (gC (.bool true))) (aH (bI 3 (cQ b8 (aa (ae 1) ag)))
  (aH (bI 4 (aX (di (aU (ae 2)) 1 [0,3] (aN 0) (fG (tf f c q G 2 1 (aa (ae 0) ⇑27))) (ae 0))))
  (aH (gy (gB (g2 f9 (cQ b8 (aa (ae 4) ag)) (ay 0))) (bh (cQ gH (aa (ae 1) ag))) bu)
  (aH (gy (gB (g2 f9 (ae 3) (ay 24))) (λ_=>none) bu)
  (aH (qa 1 (cQ gH (aa (ae 4) ag)))
  (bI 2 (aX (cI dO 1 (aa (ae 4) ag))))))))))))
def cu(f c:Addr)(q:Str)(G:List D->Option D):List D->Option D:=d9 5 (mi f c q G)
theorem AN(f c:Addr)(q:Str)(G:List D->Option D)(a0:D):cu f c q G [a0]=(mi f c q G [some a0,none,none,none,none]).bind dW:=rfl
abbrev AO:bo:=(aH (gy (gB (g2 f9 (ae 1) (cD "b"))) (bh (cj (aa (g2 aA (g2 bN (ae 0) (ay 0)) (ay 1)) (aa (g2 bN (ae 0) (ay 1)) ag)))) bu)
  (bh (cj (aa (g2 bN (ae 0) (ay 0)) (aa (g2 aA (g2 bN (ae 0) (ay 1)) (ay 1)) ag)))))
def iJ:List D->Option D:=d9 2 AO
theorem aao(a0 a1:D):iJ [a0,a1]=(AO [some a0,some a1]).bind dW:=rfl
abbrev nZ:bo:=(aH (LB 2 (EE (ae 1) (ay 1)))
  (aH (iq (aU (aX (cI j8 1 ⇑8))) (aN 3)
   (aH (bI 4 (ma (ae 2) (ae 3) (ay 0)))
  (iq (aU (cj (aa (aS iJ 2 (aa (ae 3) (aa (cD "b") ag))) (aa (aS iJ 2 (aa (ae 3) (aa (cD "g") ag))) ag)))) (aN 5)
   (zD 2 (ae 5) (g2 aA (ma (ae 2) (ae 5) (ay 0)) (ae 4))))))
  (bh (ae 2))))
def iX:List D->Option D:=d9 6 nZ
theorem Ro(a0 a1:D):iX [a0,a1]=(nZ [some a0,some a1,none,none,none,none]).bind dW:=rfl
abbrev tJ:bo:=(bh (ma (aS iX 2 (aa (ae 0) (aa (cj (aa (ay 0) (aa (ay 0) ag))) ag))) (ae 1) (ay 0)))
def pA:List D->Option D:=d9 2 tJ
theorem Wf(a0 a1:D):pA [a0,a1]=(tJ [some a0,some a1]).bind dW:=rfl
abbrev n8:bo:=(aH (kB 1 (cV ag))
  (aH (iq (aU (ae 0)) (aN 2)
   (gy (kX (gB (g2 ym (cQ b8 (aa (ae 1) ag)) (ay 0))) (gB (g2 f9 (g2 bN (g2 bN (ae 1) (g1 lZ (ay 1))) (ay 1)) (g2 eZ (ae 2) (ay 1))))) (Am 1 (g1 lZ (ay 1)) (cj (aa (g2 bN (g2 bN (ae 1) (g1 lZ (ay 1))) (ay 0)) ⇑27))) (qa 1 (cj (aa (ae 2) ⇑27)))))
  (bh (ae 1))))
def iY:List D->fR:=nJ 3 n8
theorem Rp(a0:D):iY [a0]=(n8 [some a0,none,none]).bind nI:=rfl
abbrev h8:bo:=(bh (cQ Az (aa (aX (cb (aU (ae 0)) [] (g2 f9 (cQ b8 (aa (aX (cI iY 1 ⇑8)) ag)) (ay 1)))) ag)))
def eu:List D->Option D:=d9 1 h8
theorem Hf(a0:D):eu [a0]=(h8 [some a0]).bind dW:=rfl
abbrev mj:bo:=(bh (jm (cD " ") (aX (cb (aU (ae 0)) [] (cQ j2 ⇑8)))))
def jt:List D->Option D:=d9 1 mj
theorem PH(a0:D):jt [a0]=(mj [some a0]).bind dW:=rfl
abbrev n9:bo:=(bh (jm (cD "|") (aX (cb (aU (ae 0)) [] (aS jt 1 ⇑8)))))
def kG:List D->Option D:=d9 1 n9
theorem Rq(a0:D):kG [a0]=(n9 [some a0]).bind dW:=rfl
abbrev og:bo:=(aH (gy (NG (gB (g2 f9 (ae 0) (cD ""))) (iD (fG (cQ Az (aa (aX (cb (md (ae 0)) [] (g2 (yt true) (ae 0) (cD "0123456789")))) ag))))) (bh (gC (.bool false))) bu)
  (bh (Ir (g2 f9 (ae 0) (cD "0")) (g2 DN (g2 bN (ae 0) (ay 0)) (cD "0")))))
def gX:List D->Option D:=d9 1 og
theorem CM(a0:D):gX [a0]=(og [some a0]).bind dW:=rfl
abbrev k9:bo:=(aH (gy (NG (iD (fG (aS gX 1 ⇑8))) (gB (g2 ym (cQ b8 ⇑8) (ay 2)))) (λ_=>none) bu)
  (bh (cQ GO ⇑8)))
def gJ:List D->Option D:=d9 1 k9
theorem NK(a0:D):gJ [a0]=(k9 [some a0]).bind dW:=rfl
abbrev ml:bo:=(bh (cQ gH (aa (aX (cb (aU (aX (jc (ae 0) (cD " ")))) [] (aS gJ 1 ⇑8))) ag)))
def h9:List D->Option D:=d9 1 ml
theorem PJ(a0:D):h9 [a0]=(ml [some a0]).bind dW:=rfl
abbrev oh:bo:=(aH (bI 1 (cQ gH (aa (aX (cb (aU (aX (jc (ae 0) (cD "|")))) [] (aS h9 1 ⇑8))) ag)))
  (aH (gy (iD (fG (aS pz 1 (aa (ae 1) ag)))) (λ_=>none) bu)
  (bh (ae 1))))
def iZ:List D->Option D:=d9 2 oh
theorem Rr(a0:D):iZ [a0]=(oh [some a0,none]).bind dW:=rfl
abbrev mm:bo:=(bh (jm (cD ",") (aX (cb (aU (ae 0)) [] (cQ j2 ⇑8)))))
def ju:List D->Option D:=d9 1 mm
theorem PK(a0:D):ju [a0]=(mm [some a0]).bind dW:=rfl
abbrev lb:bo:=(bh (jm (cD " ") (aX (cb (aU (ae 0)) [] (aS ju 1 ⇑8)))))
def iK:List D->Option D:=d9 1 lb
theorem NL(a0:D):iK [a0]=(lb [some a0]).bind dW:=rfl
abbrev oi:bo:=(aH (gy (gB (g2 f9 (ae 1) (cD "show"))) (bh (aS kG 1 ⇑8)) bu)
  (aH (gy (gB (g2 f9 (ae 1) (cD "ends"))) (bh (aS iK 1 (aa (aX (cI AM 1 ⇑8)) ag))) bu)
  (aH (gy (gB (g2 f9 (ae 1) (cD "judge"))) (bh (TZ (fG (aS eu 1 ⇑8)) (cD "only") (cD "others"))) bu)
  (aH (gy (gB (g2 f9 (ae 1) (cD "mean"))) (λ_=>none) bu)
  (aH (gy (gB (g2 f9 (ae 1) (cD "rule"))) (λ_=>none) bu)
  (aH (bI 3 (cj (aa (g2 bN (ae 2) (ay 0)) (aa (g2 bN (ae 2) (ay 1)) ag))))
  (aH (gy (gB (g2 f9 (ae 1) (cD "ways"))) (bh (cQ j2 (aa (aS pA 2 (aa (ae 0) (aa (ae 3) ag))) ag))) bu)
  (aH (gy (gB (g2 f9 (ae 1) (cD "share"))) (λ_=>none) bu)
  (λ_=>none)))))))))
def eS:List D->Option D:=d9 4 oi
theorem CN(a0 a1 a2:D):eS [a0,a1,a2]=(oi [some a0,some a1,some a2,none]).bind dW:=rfl
abbrev lg:bo:=(gy (iD (fG (ae 0))) (λ_=>none) bu)
def eE:List D->Option D:=d9 1 lg
theorem NM(a0:D):eE [a0]=(lg [some a0]).bind dW:=rfl
abbrev mn:bo:=(aH (jS (aS eE 1 (aa (fT (aS gX 1 ⇑8) (g2 yk (cQ b8 ⇑8) (ay 30))) ag)))
  (bh (cQ GO ⇑8)))
def jv:List D->Option D:=d9 1 mn
theorem PL(a0:D):jv [a0]=(mn [some a0]).bind dW:=rfl
abbrev oj:bo:=(aH (gy (gB (g2 f9 (ae 1) (cD "name"))) (bh (ae 0)) bu)
  (aH (gy (gB (g2 f9 (ae 1) (cD "fraction"))) (λ_=>none) bu)
  (aH (gy (kX (gB (g2 f9 (ae 1) (cD "number or -1"))) (gB (g2 f9 (ae 0) (cD "-1")))) (bh (g1 lZ (ay 1))) bu)
  (bh (aS jv 1 ⇑8)))))
def eU:List D->Option D:=d9 2 oj
theorem Rt(a0 a1:D):eU [a0,a1]=(oj [some a0,some a1]).bind dW:=rfl
abbrev mo:bo:=(aH (jS (aS eE 1 (aa (Pk ES (ae 0)) ag)))
  (aH (bI 3 (G0 ES (ae 0)))
  (aH (jS (aS eE 1 (aa (g2 f9 (cQ b8 ⇑27) (cQ b8 (aa (ae 3) ag))) ag)))
  (bh (cj (aa (ae 0) (aa (ae 1) (aa (aX (di (zM (ae 2) (ae 3)) 2 [] (iz 2 (cv (aN 0) (cv (aN 1) iU))) (λ_=>some true) (aS eU 2 (aa (ae 0) (aa (ae 1) ag))))) ag))))))))
def dD:List D->Option D:=d9 4 mo
theorem PM(a0 a1 a2:D):dD [a0,a1,a2]=(mo [some a0,some a1,some a2,none]).bind dW:=rfl
abbrev qp:bo:=(aH (bI 1 (aX (mh (ae 0) (cD " ") (ay 3))))
  (aH (gy (kX (gB (g2 f9 (cQ b8 (aa (ae 1) ag)) (ay 4))) (kX (gB (g2 f9 ⇑23 (cD "plan"))) (kX (gB (g2 DN (g2 bN (ae 1) (ay 1)) (cD ""))) (gB (g2 f9 (g2 bN (ae 1) (ay 2)) (cD "hand")))))) (bh (cj (aa (cD "plan hand") (aa (g2 bN (ae 1) (ay 1)) (aa (aX (cV (aa (g2 bN (ae 1) (ay 3)) ag))) ag))))) bu)
  (aH (bI 2 (aX (jc (ae 0) (cD " "))))
  (aH (jS (aS eE 1 (aa (fT (g2 qb (cD "") (ae 2)) (g2 Gs (cQ b8 ⇑27) (ay 2))) ag)))
  (aH (gy (kX (gB (g2 f9 (g2 bN (ae 2) (ay 0)) (cD "plan"))) (gB (g2 Gs (cQ b8 ⇑27) (ay 3)))) (bh (aS dD 3 (aa (g2 aA (cD "plan ") (g2 bN (ae 2) (ay 2))) (aa (g2 bN (ae 2) (ay 1)) (aa (aX (yp (ae 2) (fU (ay 3)) jq)) ag))))) bu)
  (bh (aS dD 3 (aa (g2 bN (ae 2) (ay 0)) (aa (g2 bN (ae 2) (ay 1)) (aa (aX (yp (ae 2) (fU (ay 2)) jq)) ag))))))))))
def dP:List D->Option D:=d9 3 qp
theorem UX(a0:D):dP [a0]=(qp [some a0,none,none]).bind dW:=rfl
abbrev lh:bo:=(gy (iD (fG (ae 0))) (λ_=>none) bu)
def c8:List D->Option D:=d9 1 lh
theorem NN(a0:D):c8 [a0]=(lh [some a0]).bind dW:=rfl
abbrev tK:bo:=(aH (jS (aS c8 1 (aa (dA yk yk (ay 1) (ae 0) (ay 24)) ag)))
  (bh (Wc cu "so_many.<locals>.<lambda>" [0] (g2 p6 (ae 1) (ae 2)))))
def pB:List D->Option D:=d9 1 tK
theorem Wg(a0:D):pB [a0]=(tK [some a0]).bind dW:=rfl
abbrev EV:bo:=(aH (jS (aS c8 1 (aa (fT (dA yk yk (ay 1) (ae 0) (ay 24)) (dA yk yk (ay 1) (ae 1) (ay 24))) ag)))
  (bh (Wc cu "till.<locals>.<lambda>" [0,1] (fT (g2 p6 (ae 0) (ae 2)) (g2 p6 (ae 1) (ae 3))))))
def AQ:List D->Option D:=d9 2 EV
theorem acq(a0 a1:D):AQ [a0,a1]=(EV [some a0,some a1]).bind dW:=rfl
abbrev om:bo:=(aH (jS (aS c8 1 (aa (fT (g2 Gs (ae 0) (ay 1)) (fT (g2 Gs (ae 3) (ay 1)) (g2 yk (g2 aA (ae 0) (ae 3)) (ay 24)))) ag)))
  (aH (jS (aS c8 1 (aa (fT (g2 Gs (ae 1) (g1 lZ (ay 1))) (g2 ym (ae 2) (ae 1))) ag)))
  (bh (Wc cu "two_steps.<locals>.draws_on" [0,1,2,3] (GL (aH (gy (gB (g2 f9 (ae 1) (ae 2))) (bh (dA p6 p6 (ae 3) (ae 0) (ae 4))) bu)
  (bh (g2 p6 (ae 1) (g2 aA (ae 2) (ae 5))))))))))
def kH:List D->Option D:=d9 5 om
theorem Ru(a0 a1 a2 a3:D):kH [a0,a1,a2,a3]=(om [some a0,some a1,some a2,some a3,none]).bind dW:=rfl
abbrev tL:bo:=(aH (jS (aS c8 1 (aa (fT (g2 Gs (ae 0) (ay 0)) (fT (g2 Gs (ae 1) (ay 1)) (fT (g2 Gs (ae 2) (ay 1)) (g2 Gs (ae 3) (ay 1))))) ag)))
  (aH (jS (aS c8 1 (aa (dA yk yk (ay 1) (ae 4) (ay 24)) ag)))
  (bh (Wc cu "between.<locals>.<lambda>" [4,3,2,1,0] (fT (g2 p6 (ae 1) (ae 2)) (dA p6 p6 (g1 lZ (ae 4)) (g2 eZ (g2 d6 (ae 5) (ae 0)) (g2 d6 (ae 6) (ae 1))) (ae 3)))))))
def pC:List D->Option D:=d9 5 tL
theorem Wh(a0 a1 a2 a3 a4:D):pC [a0,a1,a2,a3,a4]=(tL [some a0,some a1,some a2,some a3,some a4]).bind dW:=rfl
abbrev jw:bo:=(gy (NG (iD (gB (dA yk yk (ay 1) (cQ b8 ⇑8) (ay 8)))) (iD (fG (cQ Az (aa (aX (cb (md (ae 0)) [] (g2 (yt true) (ae 0) (cD "abcdefghijklmnopqrstuvwxyz")))) ag))))) (λ_=>none) bu)
def ia:List D->Option D:=d9 1 jw
theorem AR(a0:D):ia [a0]=(jw [some a0]).bind dW:=rfl
abbrev tM:bo:=(aH (gy (gB (g2 f9 (ae 0) (cD "plan many"))) (bh (aS pB 1 (aa ⇑23 ag))) bu)
  (aH (gy (gB (g2 f9 (ae 0) (cD "plan till"))) (bh (aS AQ 2 (aa ⇑23 (aa (g2 bN (ae 1) (ay 1)) ag)))) bu)
  (aH (gy (gB (g2 f9 (ae 0) (cD "plan steps"))) (bh (aS kH 4 (aa ⇑23 (aa (g2 bN (ae 1) (ay 1)) (aa (g2 bN (ae 1) (ay 2)) (aa (g2 bN (ae 1) (ay 3)) ag)))))) bu)
  (aH (gy (gB (g2 f9 (ae 0) (cD "plan between"))) (bh (aS pC 5 (aa ⇑23 (aa (g2 bN (ae 1) (ay 1)) (aa (g2 bN (ae 1) (ay 2)) (aa (g2 bN (ae 1) (ay 3)) (aa (g2 bN (ae 1) (ay 4)) ag))))))) bu)
  (bh (aS iZ 1 (aa ⇑23 ag)))))))
def jL:List D->Option D:=d9 2 tM
theorem pE(a0 a1:D):jL [a0,a1]=(tM [some a0,some a1]).bind dW:=rfl
abbrev qr:bo:=(aH (gy (gB (g2 p6 (ae 1) (cQ b8 ⇑8))) (bh (g2 bN (ae 0) (ae 1))) bu)
  (bh (ay 0)))
def fb:List D->Option D:=d9 2 qr
theorem EW(a0 a1:D):fb [a0,a1]=(qr [some a0,some a1]).bind dW:=rfl
abbrev mq:bo:=(aH (kB 3 (cV ag))
  (aH (iq (gM ⇑27) (aN 4)
   (aH (qa 3 (g2 eD (ae 0) (ae 1)))
  (bI 0 (g2 gg (ae 0) (ae 1)))))
  (bh (ae 3))))
def ib:List D->fR:=nJ 5 mq
theorem AS(a0 a1 a2:D):ib [a0,a1,a2]=(mq [some a0,some a1,some a2,none,none]).bind nI:=rfl
abbrev oo:bo:=(aH (kB 3 (cV ag))
  (aH (iq (gM ⇑27) (aN 4)
   (aH (bI 5 (g2 eD (g2 aA (g2 aA (g2 d6 (g2 eD (ae 0) (ay 1000003)) (ay 48271)) (g2 d6 (g2 d6 (ae 4) (ae 4)) (ay 69621))) (g2 d6 (ae 4) (ay 16807))) (ay 2147483647)))
  (qa 3 (g2 eD (g2 gg (g2 eD (g2 aA (g2 d6 (ae 5) (ay 39373)) (ae 0)) (ay 2147483629)) (ay 13)) (ae 1)))))
  (bh (ae 3))))
def i3:List D->fR:=nJ 6 oo
theorem CO(a0 a1 a2:D):i3 [a0,a1,a2]=(oo [some a0,some a1,some a2,none,none,none]).bind nI:=rfl
abbrev qt:bo:=(aH (bI 2 (g2 gg (ae 0) (ay 4)))
  (aH (bI 3 (g2 aA (ay 100) (g2 d6 (ay 200) (cQ OD (aa (g2 ym (ae 1) (ay 12)) ag)))))
  (aH (bI 4 (aX (cI i3 3 (aa (ae 2) (aa (ay 3) (aa (ae 3) ag))))))
  (aH (gy (gB (g2 Gs (cQ K7 ⇑8) (g2 nD (ay 10) (ay 18)))) (bI 4 (aX (cI ib 3 (aa (ae 2) (aa (ay 3) (aa (ae 3) ag)))))) bu)
  (aH (kB 5 (cV (aa (cj (aa (ay 0) ag)) ag)))
  (aH (bI 6 (aX (cV (aa (ay 0) (aa (ay 1) ag)))))
  (aH (bI 7 (ay 0))
  (aH (ja (kX (gB (g2 p6 (cQ b8 (aa (ae 5) ag)) (ae 1))) (gB (g2 ym (cQ b8 (aa (ae 6) ag)) (ay 0)))) (aH (bI 8 (aX (di (gT (ae 6)) 2 [4,3,7] (iz 2 (cv (aN 0) (cv (aN 1) iU))) (gB (g2 ym (g2 bN (ae 2) (g2 eD (g2 aA (ae 4) (ae 0)) (ae 3))) (ay 0))) (ae 1))))
  (aH (bI 7 (g2 aA (ae 7) (cQ b8 (aa (ae 6) ag))))
  (aH (gy (gB (g2 ym (g2 eD (ae 0) (ay 4)) (ay 1))) (bI 8 (aX (yp (ae 6) (fU (g2 bN (ae 4) (g2 eD (ae 7) (ae 3)))) (fU (cQ BZ (aa (ay 0) (aa (g2 eZ (cQ b8 (aa (ae 6) ag)) (g2 bN (ae 4) (g2 eD (g2 aA (ae 7) (ay 1)) (ae 3)))) ag))))))) bu)
  (aH (bI 6 (aX (OR (aX (K3 yn (ae 8) (aX (cb (aU (ae 8)) [] (g2 aA (ae 0) (ay 1)))))))))
  (gy (gB (g2 ym (cQ b8 (aa (ae 8) ag)) (ay 0))) (qa 5 (cQ gH (aa (ae 8) ag))) bu))))))
  (bh (cQ gH (aa (ae 5) ag)))))))))))
def j9:List D->Option D:=d9 9 qt
theorem UY(a0 a1:D):j9 [a0,a1]=(qt [some a0,some a1,none,none,none,none,none,none,none]).bind dW:=rfl
abbrev lj:bo:=(aH (gy (gB (dA p6 p6 (g1 lZ (g2 nD (ay 10) (ay 18))) (ae 0) (g2 nD (ay 10) (ay 18)))) (aH (bI 2 (aX (cI i3 3 (aa (ae 0) (aa (ay 1000003) (aa (cQ b8 (aa (ae 1) ag)) ag))))))
  (bh (aX (cb (gM (aa (cQ b8 (aa (ae 1) ag)) ag)) [2,1] (g2 eD (g2 bN (ae 1) (ae 0)) (g2 bN (ae 2) (ae 0))))))) bu)
  (aH (kB 3 (cV ag))
  (aH (bI 0 (g2 gg (ae 0) (ay 2)))
  (aH (iq (aU (ae 1)) (aN 4)
   (aH (qa 3 (g2 eD (ae 0) (ae 4)))
  (bI 0 (g2 gg (ae 0) (ae 4)))))
  (bh (ae 3))))))
def gK:List D->fR:=nJ 5 lj
theorem NO(a0 a1:D):gK [a0,a1]=(lj [some a0,some a1,none,none,none]).bind nI:=rfl
abbrev qu:bo:=(aH (kB 1 (cV ag))
  (aH (iq (vi (aa (ay 1) (aa (g2 aA (cQ b8 ⇑8) (ay 1)) ag))) (aN 2)
   (aH (bI 3 (cj ag))
  (aH (gy (gB (g2 p6 (ae 2) (cQ b8 ⇑8))) (bI 3 (g2 bN (ae 0) (ae 2))) bu)
  (aH (bI 4 (aX (OR (aX (K3 yn (aX (Aj nH (aa (g2 bN (ae 0) (g2 eZ (ae 2) (ay 1))) ag))) (aX (cb (aU (g2 bN (ae 0) (g2 eZ (ae 2) (ay 1)))) [] (g2 aA (ae 0) (ay 1)))))))))
  (IA 1 (di (aU (ae 4)) 1 [2,3] (aN 0) (gB (g2 qb (ae 0) (ae 2))) (cj (aa (ae 0) (aa (g2 eZ (ae 1) (ae 0)) ag)))))))))
  (bh (ae 1))))
def ka:List D->fR:=nJ 5 qu
theorem EX(a0:D):ka [a0]=(qu [some a0,none,none,none,none]).bind nI:=rfl
abbrev qw:bo:=(aH (LB 1 (EE (cj (aa (ay 0) (aa (ay 0) ag))) (ay 1)))
  (aH (iq (ED (ae 0)) (iz 2 (cv (aN 2) (cv (aN 3) iU)))
   (iq (aU (ae 3)) (aN 4)
   (aH (bI 5 (Cf (ae 1) (cj (aa (ae 4) (aa (g2 eZ (ae 2) (ae 4)) ag)))))
  (iq (aU ⇑32) (aN 6)
   (zD 1 (ae 6) (g2 aA (ma (ae 1) (ae 6) (ay 0)) (ae 5)))))))
  (bh (ae 1))))
def kb:List D->Option D:=d9 7 qw
theorem UZ(a0:D):kb [a0]=(qw [some a0,none,none,none,none,none,none]).bind dW:=rfl
abbrev ll:bo:=(bh (jm (cD "|") (aX (cb (aU (ae 0)) [] (jm (cD " ") (aX (cb (aU (ae 0)) [] (cQ j2 ⇑8))))))))
def fw:List D->Option D:=d9 1 ll
theorem NP(a0:D):fw [a0]=(ll [some a0]).bind dW:=rfl
abbrev jd:bo:=(bh (jm (cD " ") (aX (cb (aU (ae 0)) [] (g2 aA (g2 aA (cQ j2 (aa (g2 bN (ae 0) (ay 0)) ag)) (cD ",")) (cQ j2 (aa (g2 bN (ae 0) (ay 1)) ag)))))))
def gO:List D->Option D:=d9 1 jd
theorem J3(a0:D):gO [a0]=(jd [some a0]).bind dW:=rfl
abbrev oq:bo:=(aH (bI 1 (cD "abcdefghijklmnopqrstuvwxyz"))
  (aH (gy (gB (g2 f9 (g2 eD (ae 0) (ay 8)) (ay 5))) (aH (bI 2 (aX (cV (Rk ["plan","lot","hand","many","bad","good","at","rule","ends","ways","odds","mean","show"]))))
  (bh (aX (cb (gM (aa (ay 3) ag)) [2,0] (g2 bN (ae 1) (g2 eD (g2 aA (g2 gg (ae 2) (ay 8)) (g2 d6 (ay 5) (ae 0))) (ay 13))))))) bu)
  (aH (bI 3 (cD ""))
  (aH (iq (gM (aa (g2 aA (ay 1) (g2 eD (g2 gg (ae 0) (ay 8)) (ay 8))) ag)) (aN 4)
   (bI 3 (g2 aA (ae 3) (g2 bN (ae 1) (g2 eD (g2 aA (g2 gg (ae 0) (ay 64)) (g2 d6 (ae 4) (g2 gg (ae 0) (ay 1664)))) (ay 26))))))
  (aH (bI 5 (g2 eD (g2 gg (ae 0) (ay 64)) (cQ b8 (aa (ae 3) ag))))
  (aH (kB 6 (cV ag))
  (aH (iq (gM (aa (ay 3) ag)) (aN 4)
   (aH (bI 7 (g2 bN (ae 1) (g2 eD (g2 aA (g2 gg (ae 0) (ay 64)) (g2 d6 (ay 7) (ae 4))) (ay 26))))
  (qa 6 (g2 aA (g2 aA (EI (ae 3) jq (fU (ae 5))) (ae 7)) (EI (ae 3) (fU (g2 aA (ae 5) (ay 1))) jq)))))
  (bh (ae 6)))))))))
def i4:List D->fR:=nJ 8 oq
theorem Rv(a0:D):i4 [a0]=(oq [some a0,none,none,none,none,none,none,none]).bind nI:=rfl
abbrev qx(fd:D)(G:List D->Option D):bo:=(aH (kB 2 (cV ag))
  (aH (bI 3 (aX (cV (aa (ay 0) ag))))
  (aH (ja (kX (gB (g2 p6 (cQ b8 ⇑27) (ae 0))) (gB (g2 ym (cQ b8 (aa (ae 3) ag)) (ay 0)))) (aH (bI 4 (aX (di (aU (ae 3)) 1 [1,2] (aN 0) (fG (tj fd G 2 1 (aa (ae 0) (aa (cQ b8 ⇑27) ag)))) (ae 0))))
  (aH (bI 3 (aX (OR (aX (K3 yn (ae 4) (aX (cb (aU (ae 4)) [] (g2 aA (ae 0) (ay 1)))))))))
  (gy (gB (g2 ym (cQ b8 (aa (ae 4) ag)) (ay 0))) (qa 2 (cQ gH (aa (ae 4) ag))) bu))))
  (bh (cQ gH ⇑27)))))
def eF(fd:D)(G:List D->Option D):List D->Option D:=d9 5 (qx fd G)
theorem U0(fd:D)(G:List D->Option D)(a0 a1:D):eF fd G [a0,a1]=(qx fd G [some a0,some a1,none,none,none]).bind dW:=rfl
abbrev ke:bo:=(aH (gy (gB (g2 f9 (ae 0) (cD "many"))) (bh (UD eF "_law_by_words.<locals>.<lambda>" 1 [] ⇑23 (gC (.bool true)))) bu)
  (aH (gy (gB (g2 f9 (ae 0) (cD "till"))) (bh (UD eF "_law_by_words.<locals>.<lambda>" 1 [1] (g2 bN (ae 1) (ay 1)) (g2 p6 (ae 0) (g2 bN (ae 2) (ay 0))))) bu)
  (aH (gy (gB (g2 f9 (ae 0) (cD "steps"))) (bh (UD eF "_law_by_words.<locals>.<lambda>" 1 [1] (g2 aA ⇑23 (g2 bN (ae 1) (ay 3))) (Ir (g2 DN (ae 1) (g2 bN (ae 2) (ay 0))) (dA p6 p6 (g2 bN (ae 2) (ay 1)) (ae 0) (g2 bN (ae 2) (ay 2)))))) bu)
  (bh (UD eF "_law_by_words.<locals>.<lambda>" 1 [1] (g2 bN (ae 1) (ay 4)) (dA p6 p6 (g1 lZ (g2 bN (ae 2) (ay 2))) (g2 eZ (g2 d6 (g2 bN (ae 2) (ay 1)) (ae 0)) (g2 d6 (g2 bN (ae 2) (ay 0)) (ae 1))) (g2 bN (ae 2) (ay 3))))))))
def bW:List D->Option D:=d9 2 ke
theorem Mv(a0 a1:D):bW [a0,a1]=(ke [some a0,some a1]).bind dW:=rfl
abbrev ou:bo:=(aH (iq (aU (ae 0)) (aN 1)
   (gy (gB (g2 DN (g2 eZ (g2 bN (ae 1) (g1 lZ (ay 1))) ⇑23) (g2 eZ (cQ b8 (aa (ae 1) ag)) (ay 1)))) (bh (cD "others")) bu))
  (bh (cD "only")))
def kJ:List D->Option D:=d9 2 ou
theorem CP(a0:D):kJ [a0]=(ou [some a0,none]).bind dW:=rfl
abbrev qy:bo:=(aH (bI 1 (aX (cI gK 2 (aa (ae 0) (aa (aX (cV (aa (ay 5) (aa (ay 12) (aa (ay 12) (aa (ay 12) (aa (ay 12) (aa (ay 24) (aa (ay 8) ag))))))))) ag)))))
  (aH (bI 2 (g2 aA (ay 1) (g2 bN (ae 1) (ay 1))))
  (aH (gy (gB (g2 f9 (g2 bN (ae 1) (ay 6)) (ay 1))) (bI 2 (g2 aA (ay 1) (g2 bN (ae 1) (ay 5)))) bu)
  (aH (bI 3 (g2 bN (aX (cV (aa (cD "many") (aa (cD "till") (aa (cD "steps") (aa (cD "between") (aa (cD "hand") ag))))))) ⇑23))
  (aH (gy (gB (g2 f9 (ae 3) (cD "hand"))) (aH (bI 4 (aS j9 2 (aa (g2 gg (ae 0) (ay 16)) (aa (g2 aA (ay 1) (g2 eD (g2 bN (ae 1) (ay 1)) (ay 9))) ag))))
  (bh (cj (aa (g2 aA (cD "hand ") (aS fw 1 (aa (ae 4) ag))) (aa (ae 4) ag))))) bu)
  (aH (kB 5 (cV (aa (aX (cV ⇑27)) (aa (aX (cV (aa (g2 aA (ay 1) (g2 bN (ae 1) (ay 2))) ⇑27))) ag))))
  (aH (qa 5 (aX (cV (aa (g2 aA (ay 1) (g2 gg (g2 bN (ae 1) (ay 1)) (ay 2))) (aa (g2 eZ (g2 gg (g2 bN (ae 1) (ay 2)) (ay 2)) (ay 1)) (aa (g2 aA (g2 gg (g2 bN (ae 1) (ay 2)) (ay 2)) (g2 bN (ae 1) (ay 3))) (aa (g2 aA (ay 1) (g2 bN (ae 1) (ay 4))) ag)))))))
  (aH (qa 5 (aX (cV (aa (g2 gg (g2 bN (ae 1) (ay 2)) (ay 3)) (aa (g2 aA (ay 1) (g2 gg (g2 bN (ae 1) (ay 3)) (ay 2))) (aa (g2 aA (ay 1) (g2 bN (ae 1) (ay 4))) (aa (g2 aA (ay 1) (g2 bN (ae 1) (ay 5))) ⇑27)))))))
  (wG 5 (g2 bN (ae 5) (cQ vR (aa (ay 3) (aa ⇑23 ag))))
  ⇑31)))))))))
def kf:List D->Option D:=d9 6 qy
theorem EY(a0:D):kf [a0]=(qy [some a0,none,none,none,none,none]).bind dW:=rfl
abbrev ic(a:Addr):GD Dk:=(e9 (AE (GX true 0 a (ae 1)) (nQ (λ_=>none)) j3)
  (Cv (GW true 0 a (ae 1))))
def fc:Addr->List D->Dk->Option (D×Dk):=wA 2 ic
theorem DQ(a:Addr)(a0 a1:D)(s:Dk):fc a [a0,a1] s=(ic a [some a0,some a1] s).bind outD:=rfl
abbrev je(a:Addr):GD Dk:=(e9 (GV true 0 a (ae 1) (Jd (ae 2)))
  (nQ (bh (cD "ok"))))
def gu:Addr->List D->Dk->Option (D×Dk):=wA 3 je
theorem Hg(a:Addr)(a0 a1 a2:D)(s:Dk):gu a [a0,a1,a2] s=(je a [some a0,some a1,some a2] s).bind outD:=rfl
abbrev qz(a:Addr):GD Dk:=(e9 (nQ (bI 2 (aS dP 1 (aa (ae 1) ag))))
  (e9 (nQ (bI 3 (g2 bN (ae 2) (ay 0))))
  (e9 (nQ (bI 4 (g2 bN (ae 2) (ay 1))))
  (e9 (nQ (bI 5 (g2 bN (ae 2) (ay 2))))
  (e9 (nQ (jS (aS ia 1 (aa (ae 4) ag))))
  (e9 (AE (Jd (fG (AD (ae 3) (cD "plan ")))) (Cv (kF id (λ_ k=>k) 0 a gu 3 (aa (ae 4) (aa (aS jL 2 (aa (ae 3) (aa (ae 5) ag))) ag)))) j3)
  (e9 (AE (Jd (gB (g2 f9 (ae 3) (cD "lot")))) (nQ λ_=>none) j3)
  (e9 (AE (Jd (gB (g2 f9 (ae 3) (cD "at")))) (nQ λ_=>none) j3)
  (e9 (AE (Jd (gB (g2 f9 (ae 3) (cD "bad")))) (nQ λ_=>none) j3)
  (e9 (AE (Jd (gB (g2 f9 (ae 3) (cD "good")))) (nQ λ_=>none) j3)
  (Cv (AI eS 3 (kF id (λ_ k=>k) 0 a fc 2 (aa (ae 4) ag)) (aa (ae 3) (aa (ae 5) ag))))))))))))))
def bB:Addr->List D->Dk->Option (D×Dk):=wA 6 qz
theorem PN(a:Addr)(a0 a1:D)(s:Dk):bB a [a0,a1] s=(qz a [some a0,some a1,none,none,none,none] s).bind outD:=rfl
abbrev qA(a:Addr):GD Dk:=(e9 (AE (dOr (dB (d2 DN (kF id (λ_ k=>k) 0 a bB 2 (aa (g2 aA (cD "show ") (ae 1)) ag)) (aS fw 1 ⇑27))) (dB (d2 DN (kF id (λ_ k=>k) 0 a bB 2 (aa (g2 aA (cD "ends ") (ae 1)) ag)) (aS gO 1 (aa (aX (cI ka 1 ⇑27)) ag))))) (nQ (bh (gC (.bool false)))) j3)
  (e9 (nQ (bI 4 (g2 eD (ae 3) (g2 aA (cQ b8 ⇑27) (ay 2)))))
  (e9 (nQ (bI 5 (g2 eD (g2 gg (ae 3) (ay 32)) (g2 aA (ae 4) (ay 1)))))
  (e9 (nQ (bI 6 (ma (aS kb 1 ⇑27) (cj (aa (ae 5) (aa (g2 eZ (ae 4) (ae 5)) ag))) (ay 0))))
  (e9 (AE (dB (d2 DN (kF id (λ_ k=>k) 0 a bB 2 (aa (g2 aA (g2 aA (g2 aA (g2 aA (g2 aA (cD "ways ") (ae 1)) (cD " ")) (cQ j2 (aa (ae 5) ag))) (cD " ")) (cQ j2 (aa (g2 eZ (ae 4) (ae 5)) ag))) ag)) (cQ j2 (aa (ae 6) ag)))) (nQ (bh (gC (.bool false)))) j3)
  (Cv (d2 f9 (kF id (λ_ k=>k) 0 a bB 2 (aa (g2 aA (cD "judge ") (ae 1)) ag)) (aS kJ 1 ⇑27))))))))
def i5:Addr->List D->Dk->Option (D×Dk):=wA 7 qA
theorem PQ(a:Addr)(a0 a1 a2 a3:D)(s:Dk):i5 a [a0,a1,a2,a3] s=(qA a [some a0,some a1,some a2,some a3,none,none,none] s).bind outD:=rfl
abbrev Mw:bo:=(aH (bI 1 (aX (cI i4 1 (aa (g2 eD (aS fb 2 (aa (ae 0) (aa (ay 0) ag))) (g2 nD (ay 10) (ay 30))) ag))))
  (AH 2 λa=>(EL 3 λm=>(e9 (Pa (gT (aX (K3 yn (aX (yp (ae 0) (fU (ay 1)) (fU (ay 13)))) (aX (cV (aa (aS fb 2 (aa (ae 0) (aa (ay 1) ag))) ag)))))) (iz 2 (cv (aN 4) (cv (aN 5) iU)))
   (e9 (nQ (K8 (aS kf 1 (aa (ae 5) ag)) (iz 2 (cv (aN 6) (cv (aN 7) iU)))))
  (e9 (nQ (bI 8 (g2 bN (ae 1) (g2 eD (g2 aA (g2 gg (ae 5) (ay 3)) (ae 4)) (ay 3)))))
  (e9 (AE (dB (d2 DN (kF Kp.dk (λs k=>⟨k,s.kp⟩) 2 a bB 2 (aa (g2 aA (g2 aA (g2 aA (cD "plan ") (ae 8)) (cD " ")) (ae 6)) ag)) (cD "ok"))) (nQ (bh (gC (.bool false)))) j3)
  (e9 (EM 3 m (ae 8) (ae 7))
  (EN 3 m (aN 9) λl=>(AE (Cw (dB (Mm 2 3 a m l i5 (ae 9) (ae 9) (g2 aA (g2 eD (ae 5) (g2 nD (ay 10) (ay 9))) (g2 d6 (ay 7) (ae 4)))))) (nQ (bh (gC (.bool false)))) j3)))))))
  (nQ (bh (gC (.bool true))))))))
def zR:List D->Option D:=d9 10 Mw
theorem Zb(a0:D):zR [a0]=(Mw [some a0,none,none,none,none,none,none,none,none,none]).bind dW:=rfl
end aE
open L2
namespace aE
open PySem L2 Q1
theorem EZ(ns:List Int)(k:Nat):fb [.list (ns.map .int),.int k]=some (.int (ns.getD k 0)):=by
 rw[EW]
 simp only[aH,gy,gB,g2,ae,List.getElem?_cons_succ,List.getElem?_cons_zero,Option.join_some,cQ,aa,ag,aad,Mt,X8,bh,Y9,aa4]
 rw[aac,aaC]
 by_cases h:k<ns.length
 .rw [aav ⇑2,fJ (v:=.int ns[k]) (by rw[aas,aal h];rfl),aal h];rfl
 .rw [aaB ⇑2,acI ⇑2];rfl
def dR(r:List Int):D:=.tuple (r.map .int)
def cm(p:dz):D:=.tuple (p.map dR)
def oy(l:List Int):Prop:=l.Pairwise (·<·)
def led(r:List Int):List Int:=ss (r++r.map (·+1))
def Nx(r s:List Int):Prop:=s≠[]/\oy s/\∀x∈s,x∈led r
def J4:List Int->List (List Int)->Prop
 |_,[]=>True
 |r,s::q=>Nx r s/\J4 s q
def lst:List Int->List (List Int)->List Int
 |r,[]=>r
 |_,s::q=>lst s q
theorem CQ:∀{q:dz} {r:List Int},J4 r q->Nx (lst r q) s->J4 r (q++[s])
 |[],_,_,h=>⟨h,trivial⟩
 |_::_,_,h1,h2=>⟨h1.1,CQ h1.2 h2⟩
theorem lst_snoc:∀{q:dz} {r:List Int},lst r (q++[s])=s
 |[],_=>rfl
 |_::q,_=>lst_snoc (q:=q)
structure Pl(p:dz):Prop where
 ex:∃q,p=[0]::q/\J4 [0] q
theorem kK:x∈led r↔x∈r\/x-1∈r:=by
 unfold led
 rw[Ex,aap,aaH]
 constructor
 .grind
 .grind
theorem rM:∀{l:List Int} {a b:Int},oy l->(∀x∈l,a<=x/\x<=b)->(l.length:Int)<=max 0 (b-a+1)
 |[],a,b,_,_=>by simp;lia
 |x::l,a,b,h,hb=>by
   obtain⟨h1,h2⟩:=acj.mp h;have hx:=hb x aan;have:=rM (l:=l) (a:=x+1) (b:=b) h2 λy hy=>⟨by have:=h1 y hy;lia,(hb y (aat _ hy)).2⟩;rw[aaz];lia
theorem kg(h1:ae i δ=some (.list ds))(h2:g δ=some d)(h3:ds.length<100000):qa i g δ=some (.nx (δ.set i (some (.list (ds++[d]))))):=by
 unfold qa
 rw[h1,h2]
 show(if ds.length<100000 then _ else _)=_
 rw[aav h3]
theorem Rx(h:g δ=some d)(h2:Uj d=some (ns.map .int))(h3:ns.length<64):OR g δ=some ((ss ns).map .int):=by
 unfold OR
 rw[h,aad,h2,aad,jI,aad,aav h3]
theorem Mx(h1:a δ=some (.list x))(h2:b δ=some (.list y))(h3:x.length+y.length<=100000):K3 yn a b δ=some (x++y):=by
 unfold K3
 rw[h1,h2]
 show(if x.length+y.length<=100000 then _ else _)=_
 rw[aav h3]
theorem kh(x:Bool)(h:c δ=some x)(h1:x=true->a δ=r)(h2:x=false->b δ=r):gy c a b δ=r:=by
 unfold gy
 rw[h]
 cases x with
 |true=>exact h1 rfl
 |false=>exact h2 rfl
theorem My{α:Type}(enc:α->D)(l:List α)(lo hi:Option Int):∃m:List α,cutD (l.map enc) lo hi=m.map enc/\m.Sublist l:=by
 refine⟨(l.drop (HT.vL l.length 0 lo)).take (HT.vL l.length l.length hi-HT.vL l.length 0 lo),?_,(List.take_sublist _ _).trans (List.drop_sublist _ _)⟩
 unfold cutD
 rw[aac,List.map_take,List.map_drop]
theorem eM(h:g δ=some ds)(h2:f ds=r):cQ f g δ=r:=by unfold cQ;rw[h];exact h2
theorem part_of(h:g δ=some (.int i)):fU g δ=some (some i):=by unfold fU;rw[h];rfl
theorem wN(h1:a δ=some (.list (r.map .int)))(h2:b δ=some (.list (r.map .int))\/b δ=some (dR r))(hl:r.length<32):OR (aX (K3 yn a (aX (cb (aU b) [] (g2 aA (ae 0) (gC (.int 1))))))) δ=some ((led r).map .int):=by
 have hi:aU b δ=some (r.map .int):=by
  unfold aU;rcases h2 with h2|h2;.grind
  .rw [h2];rfl
 have hc:cb (aU b) [] (g2 aA (ae 0) (gC (.int 1))) δ=some ((r.map (·+1)).map .int):=dQ PyData.int PyData.int (λx=>x+1) r hi ⇑2 (λx _=>rfl)
 have acr:=Mx h1 (aW hc) (by simp;lia)
 refine Rx (aW acr) ?_ (by simp;lia)
 rw[abj]
 rfl
theorem uy(c b:Int)(n:Nat)(hb:0<b)(hn:n<=1000):fN (i3 [.int c,.int b,.int (n:Nat)]) λds=>∃l:List Int,ds=l.map .int/\l.length=n/\∀x∈l,0<=x/\x<b:=by
 rw[CO]
 refine bq [sI c,sI b,sI (n:Nat),sL ([]),none,none] rfl ?_
 refine nX 0 n (λi δ=>∃(l:List Int) (x y:Option D),δ=[sI c,sI b,sI (n:Nat),sL (l.map .int),x,y]/\l.length=i/\∀x∈l,0<=x/\x<b) (jJ rfl ⇑2) ⟨[],none,none,rfl,rfl,by simp⟩ ?_ ?_
 .rintro i δ hi ⟨l,x,y,rfl,hl,hx⟩;have m1:d6 (.int (c%1000003)) (.int 48271)=some (.int (c%1000003*48271)):=lM (mul_right ⇑0 ⇑0);have m2:d6 (.int (0+(i:Int))) (.int (0+(i:Int)))=some (.int ((0+(i:Int))*(0+(i:Int)))):=lM (mul_right ⇑2 ⇑2);have m3:d6 (.int ((0+(i:Int))*(0+(i:Int)))) (.int 69621)=some (.int ((0+(i:Int))*(0+(i:Int))*69621)):=lM (mul_right ⇑0 ⇑0);have m4:d6 (.int (0+(i:Int))) (.int 16807)=some (.int ((0+(i:Int))*16807)):=lM (mul_right ⇑0 ⇑0);refine⟨_,[sI c,sI b,sI (n:Nat),sL ((l++[_]).map .int),sI (0+(i:Int)),sI ((c%1000003*48271+(0+(i:Int))*(0+(i:Int))*69621+(0+(i:Int))*16807)%2147483647)],rfl,
   cL [sI c,sI b,sI (n:Nat),sL (l.map .int),sI (0+(i:Int)),sI ((c%1000003*48271+(0+(i:Int))*(0+(i:Int))*69621+(0+(i:Int))*16807)%2147483647)]
    (bf (aj (aj (aj (aj (aj rfl rfl (fW ⇑0)) rfl m1) (aj (aj rfl rfl m2) rfl m3) rfl) (aj rfl rfl m4) rfl) rfl (fW ⇑0)))
    ((kg (d:=.int (((c%1000003*48271+(0+(i:Int))*(0+(i:Int))*69621+(0+(i:Int))*16807)%2147483647*39373+c)%2147483629/13%b)) rfl
      (aj (aj (aj (aj (aj rfl rfl (lM (mul_right ⇑0 ⇑0))) rfl rfl) rfl (fW ⇑0)) rfl (CI ⇑0 (CH (nW (m:=4) ⇑0) ⇑0))) rfl (fW hb)) (by simp;lia)).trans (by rw[abj];rfl)),l++[_],_,_,rfl,by simp[hl],?_⟩;intro z hz;rcases aap.mp hz with q|q;.grind
  .rw [abA.mp q];exact⟨aco _ ⇑2,abN _ hb⟩
 .rintro δ' ⟨l,x,y,rfl,hl,hx⟩;exact ret (.list (l.map .int)) rfl (.mk rfl ⟨l,rfl,hl,hx⟩)
theorem AU(c b:Int)(n:Nat)(hb:0<b)(hb2:bt b<=9000)(hn:n<=1000):fN (ib [.int c,.int b,.int (n:Nat)]) λds=>∃l:List Int,ds=l.map .int/\l.length=n/\∀x∈l,0<=x/\x<b:=by
 rw[AS]
 refine bq [sI c,sI b,sI (n:Nat),sL ([]),none] rfl ?_
 refine nX 0 n (λi δ=>∃(c:Int) (l:List Int) (x:Option D),δ=[sI c,sI b,sI (n:Nat),sL (l.map .int),x]/\l.length=i/\∀x∈l,0<=x/\x<b) (jJ rfl ⇑2) ⟨c,[],none,rfl,rfl,by simp⟩ ?_ ?_
 .rintro i δ hi ⟨c,l,x,rfl,hl,hx⟩;refine⟨_,[sI (c/b),sI b,sI (n:Nat),sL ((l++[c%b]).map .int),sI (0+(i:Int))],rfl,
   cL [sI c,sI b,sI (n:Nat),sL ((l++[c%b]).map .int),sI (0+(i:Int))] ((kg (d:=.int (c%b)) rfl (aj rfl rfl (fW hb)) (by simp;lia)).trans (by rw[abj];rfl)) (bf (aj rfl rfl (CI hb hb2))),c/b,l++[c%b],_,rfl,by simp[hl],?_⟩;intro z hz;rcases aap.mp hz with q|q;.grind
  .rw [abA.mp q];exact⟨aco _ ⇑2,abN _ hb⟩
 .rintro δ' ⟨c,l,x,rfl,hl,hx⟩;exact ret (.list (l.map .int)) rfl (.mk rfl ⟨l,rfl,hl,hx⟩)
theorem Hh(hf:∀(k:Nat) (x:Int),∃b:Bool,f (.tuple [.int (k:Nat),.int x])=some (if b=true then some (.int x)else none)):∀(l:List Int) (n:Nat),∃m:List Int,qg f (((l.map PyData.int).zipIdx n).map λp=>.tuple [.int (p.2:Nat),p.1])=some (m.map .int)/\m.Sublist l
 |[],n=>⟨[],rfl,.slnil⟩
 |x::l,n=>by
   obtain⟨m,e,hs⟩:=Hh hf l (n+1);obtain⟨b,hb⟩:=hf n x;rw[aaw,List.zipIdx_cons,aaw,qg,hb,aad,e,aad];cases b with
   |true=>exact⟨x::m,rfl,hs.cons₂ x⟩
   |false=>exact⟨m,rfl,hs.cons x⟩
theorem E1{l:List Int}{i:Int}(h0:0<=i)(h1:i<l.length):∃x,x∈l/\bN (.list (l.map .int)) (.int i)=some (.int x):=by
 obtain⟨k,rfl⟩:∃k:Nat,i=(k:Int):=⟨i.toNat,by lia⟩
 have hk:k<l.length:=by lia
 exact⟨l[k],aeE hk,fJ (by rw[aas,aal hk];rfl)⟩
theorem acs:led [0]=[0,1]:=Ln ⇑11 (by intro z;simp)
noncomputable def sZ(c:Int)(m n:Nat)(x y z u v:Option D):DS:=[some (.int c),some (.int (m:Nat)),some (.int (c/4)),some (.int (n:Nat)),x,y,z,u,v]
def sY(c:Int)(m n:Nat)(dg:List Int)(q:dz)(dE:List Int)(pos:Nat)(z:Option D):DS:=sZ c m n (some (.list (dg.map .int))) (some (.list (([0]::q).map dR))) (some (.list (dE.map .int))) (some (.int (pos:Nat))) z
theorem E2(c:Int)(m:Nat)(hm1:1<=m)(hm:m<=24):fN (j9 [.int c,.int (m:Nat)]) λd=>∃p,d=cm p/\Pl p/\p.length<=m/\∀r∈p,r.length<=25:=by
 have p18:nD (.int 10) (.int 18)=some (.int (10^18)):=Ha (k:=18) ⇑0 ⇑0
 obtain⟨many,Zc,U3,Zd⟩:∃many:Nat,100<=many/\many<=300/\g2 aA (ay 100) (g2 d6 (ay 200) (cQ OD (aa (g2 ym (ae 1) (ay 12)) ag))) [sI c,sI (m:Nat),sI (c/4),none,none,none,none,none,none]=some (.int (many:Nat)):=by
  by_cases h:(12:Int)<(m:Int)
  .refine ⟨300,by decide,by decide,aj rfl (aj rfl (show _=some (.int 1)from ?_) (lM (mul_right ⇑0 ⇑0))) rfl⟩;show some (PyData.int (if decide ((12:Int)<(m:Int))=true then 1 else 0))=_;rw[aaq h];rfl
  .refine ⟨100,by decide,by decide,aj rfl (aj rfl (show _=some (.int 0)from ?_) (lM (mul_right ⇑0 ⇑0))) rfl⟩;show some (PyData.int (if decide ((12:Int)<(m:Int))=true then 1 else 0))=_;rw[aaG h];rfl
 have Mn:(0:Int)<(many:Int):=Int.ofNat_lt.mpr (aam ⇑0 Zc)
 have Mz:many<=1000:=aa6 U3 ⇑0
 refine bq [sI c,sI (m:Nat),sI (c/4),none,none,none,none,none,none] (bf (aj rfl rfl (CI ⇑0 (CH (nW (m:=4) ⇑0) ⇑0)))) ?_
 refine bq (sZ c m many none none none none none) (bf Zd) ?_
 obtain⟨_,e1,l1,rfl,hl1,hx1⟩:=uy (c/4) 3 many ⇑0 Mz
 refine bq (sZ c m many (some (.list (l1.map .int))) none none none none) (bf (aW (eL (cons_of rfl (cons_of rfl ⇑4)) rfl e1))) ?_
 have dig:∃dg:List Int,dg.length=many/\gy (gB (g2 Gs (cQ K7 ⇑8) (g2 nD (ay 10) (ay 18)))) (bI 4 (aX (cI ib 3 (aa (ae 2) (aa (ay 3) (aa (ae 3) ag)))))) bu (sZ c m many (some (.list (l1.map .int))) none none none none)
   =some (.nx (sZ c m many (some (.list (dg.map .int))) none none none none)):=by
  obtain⟨_,e2,l2,rfl,Tq,hx2⟩:=AU (c/4) 3 many ⇑0 (CH (nW (m:=4) ⇑0) ⇑0) Mz;have hc:gB (g2 Gs (cQ K7 ⇑8) (g2 nD (ay 10) (ay 18))) (sZ c m many (some (.list (l1.map .int))) none none none none)=some (decide ((10^18:Int)<=(if c<0 then -c else c))):=bx (aj rfl p18 rfl);by_cases h:((10^18:Int)<=(if c<0 then -c else c));.exact ⟨l2,Tq,kh true (by rw[hc,aaq h]) (λ_=>bf (aW (eL (cons_of rfl (cons_of rfl ⇑4)) rfl e2))) ⇑41⟩
  .exact ⟨l1,hl1,kh false (by rw[hc,aaG h]) ⇑41 (λ_=>rfl)⟩
 obtain⟨dg,hdg,edg⟩:=dig
 refine bq _ edg ?_
 refine zQ (λk δ=>∃(q:dz) (dE:List Int) (pos:Nat) (z:Option D),δ=(sY c m many dg q dE pos z)/\
   J4 [0] q/\q.length+1<=m/\(dE=[]\/dE=led (lst [0] q))/\oy dE/\(∀x∈dE,0<=x/\x<=(q.length:Int)+1)/\(∀r∈q,r.length<=25)/\k=2*(m-q.length)+(if dE=[]then 0 else 1))
  (λδ=>∃(q:dz) (x y z:Option D),δ=(sZ c m many (some (.list (dg.map .int))) (some (.list (([0]::q).map dR))) x y z)/\J4 [0] q/\q.length+1<=m/\∀r∈q,r.length<=25)
  (2*m+1) ⟨[],[0,1],0,none,rfl,trivial,by simpa using hm1,.inr acs.symm,by unfold oy;simp,by intro x hx;simp at hx;rcases hx with h|h<;>subst h<;>decide,by simp,by simp⟩ ?_ ?_
 .rintro k δ ⟨q,dE,pos,z,rfl,hq,hqm,Ze,hr,hb,qZ,rfl⟩;have hlen:dE.length<=q.length+2:=by
   have:=rM hr hb;lia
  have cond:kX (gB (g2 p6 (cQ b8 (aa (ae 5) ag)) (ae 1))) (gB (g2 ym (cQ b8 (aa (ae 6) ag)) (ay 0))) (sY c m many dg q dE pos z)
    =some (decide ((((([0]::q).map dR).length:Nat):Int)<(m:Int))&&decide ((0:Int)<(((dE.map PyData.int).length:Nat):Int))):=by
   by_cases h:((((([0]::q).map dR).length:Nat):Int)<(m:Int));.rw [aaq h,ad1];exact nY (bx (b:=true) (show _=_ from abR (λb=>some (PyData.bool b)) (aaq h))) (bx rfl)
   .rw [aaG h,aey];have h1:gB (g2 p6 (cQ b8 (aa (ae 5) ag)) (ae 1)) (sY c m many dg q dE pos z)=some false:=
     bx (b:=false) (show _=_ from abR (λb=>some (PyData.bool b)) (aaG h));unfold kX;rw[h1];rfl
  rw[cond];cases vb:(decide ((((([0]::q).map dR).length:Nat):Int)<(m:Int))&&decide ((0:Int)<(((dE.map PyData.int).length:Nat):Int)))with
  |false=>exact .inl ⟨rfl,q,_,_,_,rfl,hq,hqm,qZ⟩
  |true=>
    have aha:q.length+1<m:=by grind
    have iw:dE≠[]:=by grind
    have sX:=Ze.resolve_left iw;refine .inr ⟨rfl,?_⟩;have comp:∃r1:List Int,di (gT (ae 6)) 2 [4,3,7] (iz 2 (cv (aN 0) (cv (aN 1) iU))) (gB (g2 ym (g2 bN (ae 2) (g2 eD (g2 aA (ae 4) (ae 0)) (ae 3))) (ay 0))) (ae 1)
      (sY c m many dg q dE pos z)=some (r1.map .int)/\r1.Sublist dE:=by
     obtain⟨f,ef⟩:∃f:D->Option (Option D),f=λd=>(iz 2 (cv (aN 0) (cv (aN 1) iU)) d (List.replicate 2 none++eR [4,3,7] (sY c m many dg q dE pos z))).bind λfg=>
       (gB (g2 ym (g2 bN (ae 2) (g2 eD (g2 aA (ae 4) (ae 0)) (ae 3))) (ay 0)) fg).bind λb=>if b=true then(ae 1 fg).map some else some none:=⟨_,rfl⟩;have hf:∀(k:Nat) (x:Int),∃b:Bool,f (.tuple [.int (k:Nat),.int x])=some (if b=true then some (.int x)else none):=by
      intro k x;obtain⟨y,_,ey⟩:=E1 (l:=dg) (i:=((pos:Nat)+(k:Nat):Int)%(many:Nat)) (aco _ (Int.ne_of_gt Mn)) (by rw[hdg];exact abN _ Mn);refine⟨decide (0<y),?_⟩;rw[ef];show(Option.bind (some [some (PyData.int (k:Nat)),sI x,sL (dg.map .int),sI (many:Nat),sI (pos:Nat)]) _)=_;rw[aad];have hb:gB (g2 ym (g2 bN (ae 2) (g2 eD (g2 aA (ae 4) (ae 0)) (ae 3))) (ay 0)) [some (PyData.int (k:Nat)),sI x,sL (dg.map .int),sI (many:Nat),sI (pos:Nat)]=some (decide (0<y)):=
       bx (aj (aj rfl (aj (aj rfl rfl rfl) rfl (fW Mn)) ey) rfl rfl);rw[hb,aad];cases decide (0<y)<;>rfl
     obtain⟨m1,em1,NH⟩:=Hh hf dE 0;refine⟨m1,?_,NH⟩;unfold di;rw[show gT (ae 6) (sY c m many dg q dE pos z)=some (jU (dE.map .int))from rfl,aad,aav (by rw[sQ,aac];lia)];rw[ef]at em1;exact em1
    obtain⟨r1,er1,NH⟩:=comp;have slice:∃r:List Int,r.Sublist dE/\gy (gB (g2 ym (g2 eD (ae 0) (ay 4)) (ay 1))) (bI 8 (aX (yp (ae 6) (fU (g2 bN (ae 4) (g2 eD (ae 7) (ae 3)))) (fU (cQ BZ (aa (ay 0) (aa (g2 eZ (cQ b8 (aa (ae 6) ag)) (g2 bN (ae 4) (g2 eD (g2 aA (ae 7) (ay 1)) (ae 3)))) ag))))))) bu
      ⇑36
      =some (.nx (sZ c m many (some (.list (dg.map .int))) (some (.list (([0]::q).map dR))) (some (.list (dE.map .int))) ⇑28 ⇑42)):=by
     obtain⟨y1,_,ey1⟩:=E1 (l:=dg) (i:=((pos:Nat)+(dE.map PyData.int).length:Int)%(many:Nat)) (aco _ (Int.ne_of_gt Mn)) (by rw[hdg];exact abN _ Mn);obtain⟨y2,_,ey2⟩:=E1 (l:=dg) (i:=((pos:Nat)+(dE.map PyData.int).length+1:Int)%(many:Nat)) (aco _ (Int.ne_of_gt Mn)) (by rw[hdg];exact abN _ Mn);have hc:gB (g2 ym (g2 eD (ae 0) (ay 4)) (ay 1)) ⇑36=some (decide (1<c%4)):=
      bx (aj (aj rfl rfl (fW ⇑0)) rfl rfl);by_cases h:1<c%4
     .obtain ⟨r2,er2,ra⟩:=My PyData.int dE (some y1) (some (if((dE.map PyData.int).length:Int)-y2>0 then((dE.map PyData.int).length:Int)-y2 else 0));refine⟨r2,ra,kh true (by rw[hc,aaq h]) (λ_=>bf (aW ?_)) ⇑41⟩;have f1:fU (g2 bN (ae 4) (g2 eD (ae 7) (ae 3))) ⇑36=some (some y1):=by
       exact part_of (aj rfl (aj rfl rfl (fW Mn)) ey1)
      have f2:fU (cQ BZ (aa (ay 0) (aa (g2 eZ (cQ b8 (aa (ae 6) ag)) (g2 bN (ae 4) (g2 eD (g2 aA (ae 7) (ay 1)) (ae 3)))) ag))) ⇑36
        =some (some (if((dE.map PyData.int).length:Int)-y2>0 then((dE.map PyData.int).length:Int)-y2 else 0)):=by
       have g:g2 eZ (cQ b8 (aa (ae 6) ag)) (g2 bN (ae 4) (g2 eD (g2 aA (ae 7) (ay 1)) (ae 3))) ⇑36=some (.int (((dE.map PyData.int).length:Int)-y2)):=
        aj rfl (aj rfl (aj (aj rfl rfl rfl) rfl (fW Mn)) ey2) rfl;exact part_of (eM (cons_of rfl (cons_of g rfl)) rfl)
      unfold yp;rw[f1,f2];show some (cutD (dE.map .int) _ _)=_;rw[er2]
     .exact ⟨r1,NH,kh false (by rw[hc,aaG h]) ⇑41 (λ_=>rfl)⟩
    obtain⟨r,hs,esl⟩:=slice;have hrr:=hr.sublist hs;have Wi:r.length<=25:=by have:=hs.length_le;lia
    have e6:=wN (a:=ae 8) (b:=ae 8) (δ:=(sZ c m many (some (.list (dg.map .int))) (some (.list (([0]::q).map dR))) (some (.list (dE.map .int))) ⇑28 ⇑42)) (r:=r) rfl (.inl rfl) ⇑2;by_cases J5:r=[]
    .subst J5;refine⟨(sZ c m many (some (.list (dg.map .int))) (some (.list (([0]::q).map dR))) (some (.list (([]:List Int).map .int))) (some (.int (((pos+dE.length:Nat):Nat):Int))) (some (.list (([]:List Int).map .int)))),2*(m-q.length),?_,by rw[aaB iw];lia,q,[],pos+dE.length,_,rfl,hq,hqm,.inl rfl,.nil,by simp,qZ,by simp⟩;refine cL _ (bf (aW er1)) (cL _ (bf (aj rfl rfl rfl)) (cL _ esl (cL _ (bf (aW e6)) ?_)));rw[aac];rfl
    .have hnx:Nx (lst [0] q) r:=⟨J5,hrr,λ8=>sX ▸ hs.subset hx⟩;refine⟨(sZ c m many (some (.list (dg.map .int))) (some (.list (([0]::(q++[r])).map dR))) (some (.list ((led r).map .int))) (some (.int (((pos+dE.length:Nat):Nat):Int))) ⇑42),2*(m-(q++[r]).length)+(if led r=[]then 0 else 1),?_,?_,q++[r],led r,pos+dE.length,_,rfl,CQ hq hnx,by simp;lia,.inr (by rw[lst_snoc]),jH,?_,?_,rfl⟩
     .refine cL _ (bf (aW er1)) (cL _ (bf (aj rfl rfl rfl)) (cL _ esl (cL _ (bf (aW e6)) ?_)));have U4:(0:Int)<((r.map PyData.int).length:Int):=by
       have:=List.length_pos_iff.mpr J5;simp;lia
      refine(kh true (bx (b:=true) (show _=_ from abR (λb=>some (PyData.bool b)) (aaq U4))) (λ_=>kg (ds:=([0]::q).map dR) (d:=dR r) rfl rfl (by simp;lia)) λz=>nomatch z).trans ?_;rw[aac,<-List.cons_append,abj];rfl
     .have hl:led r≠[]:=λe=>by
       obtain⟨x,hx⟩:=List.exists_mem_of_ne_nil r J5;have:=kK.mpr (.inl hx);rw[e]at this;simp at this
      rw[aaB hl,aaB iw];simp;lia
     .intro x hx;rcases kK.mp hx with h|h;.grind
      .grind
     .grind
 .rintro δ' ⟨q,x,y,z,rfl,hq,hqm,qZ⟩;refine ret (cm ([0]::q)) rfl (.mk rfl ⟨[0]::q,rfl,⟨q,rfl,hq⟩,by simpa using hqm,λr hr=>?_⟩);rcases aaj.mp hr with h|h;.grind
  .grind
theorem Hi{T:List Int}:J0 (.int i) (.list (T.map .int))=some (.bool (decide (i∈T))):=by
 have hf:(nK (.int i)&&(T.map PyData.int).all nK)=true:=by simp[nK]
 show(if(nK (.int i)&&(T.map PyData.int).all nK)=true then some (PyData.bool ((T.map PyData.int).any λz=>T8 z (.int i)))else none)=_
 rw[aav hf,agm]
 congr 2
 rw[aeV,List.any_eq_true,aa4]
 constructor
 .rintro ⟨x,hx,e⟩;rw[Function.comp,Gy,aa4]at e;rw[<-e];exact hx
 .intro h;exact⟨i,h,by rw[Function.comp,Gy];simp⟩
theorem MA:J0 (.int i) (dR T)=some (.bool (decide (i∈T))):=Hi
theorem dd(b:Int)(h:0<b)(h2:b.natAbs<2^70):gg (.int a) (.int b)=some (.int (a/b)):=CI h (CH (nW h2) ⇑0)
theorem AV(h1:a δ=some (.bool x))(h2:x=true->b δ=some (.bool y)):fT a b δ=some (.bool (x&&y)):=by
 unfold fT
 rw[bx h1,aad]
 cases x with
 |true=>rw[aav rfl,h2 rfl];rfl
 |false=>rfl
theorem MB(h0:0<=i)(h1:i<(p.length:Int)):bN (cm p) (.int i)=some (dR (p.getD i.toNat [])):=by
 obtain⟨k,rfl⟩:∃k:Nat,i=(k:Int):=⟨i.toNat,by lia⟩
 have hk:k<p.length:=by lia
 refine fJ ?_
 rw[aas,abV,aaC,aal hk]
 rfl
abbrev WF:=Int->Int->Int
noncomputable def dC(c:Int×Int):D:=.tuple [.int c.1,.int c.2]
noncomputable def eA(F:WF)(c:Int×Int):WF:=λx y=>F x y+(if x=c.1+1/\y=c.2 then F c.1 c.2 else 0)+(if x=c.1/\y=c.2+1 then F c.1 c.2 else 0)
def mr(c:Int×Int):WF:=λx y=>if x=c.1/\y=c.2 then 1 else 0
def qB(n:Nat)(r:List Int):List (Int×Int):=r.map λb=>(b,(n:Int)-b)
def cB:Nat->List (List Int)->List (Int×Int)
 |_,[]=>[]
 |n,r::p=>qB n r++cB (n+1) p
theorem jM(r:List Int):∀(p:dz) (n:Nat),cB n (p++[r])=cB n p++qB (n+p.length) r
 |[],n=>by simp[cB]
 |s::p,n=>by
   rw[aeq,cB,cB,jM r p (n+1),abt,aaz,show n+1+p.length=n+(p.length+1)by lia]
theorem wO:∀(p:dz) (n:Nat),(∀r∈p,r.length<=25)->(cB n p).length<=25*p.length
 |[],_,_=>by simp[cB]
 |r::p,n,h=>by
   have h1:=wO p (n+1) λs hs=>h s (aat _ hs);have h2:=h r aan;rw[cB,aak,aaz,qB,aac];lia
noncomputable def lv(A:Int->Int)(r:List Int)(b:Int):Int:=(if b-1∈r then A (b-1)else 0)+(if b∈r then A b else 0)
theorem U5(A:Int->Int)(b:Int):lv A [] b=0:=by simp[lv]
theorem MC(h:∀x,x∈r↔x∈s)(b:Int):lv A r b=lv A s b:=by simp only[lv,h]
def WW:(Int->Int)->List (List Int)->Nat->Int->Int
 |A,_,0,b=>A b
 |_,[],_+1,_=>0
 |A,r::p,k+1,b=>WW (lv A r) p k b
theorem WW_0(A:Int->Int)(p:dz):WW A p 0=A:=by funext b;cases p<;>rfl
theorem mw:∀(p:dz) (A:Int->Int) (k:Nat) (b:Int),WW A p (k+1) b=lv (WW A p k) (p.getD k []) b
 |[],A,k,b=>by
   rfl
 |r::p,A,0,b=>by
   show WW (lv A r) p 0 b=lv (WW A (r::p) 0) r b;rw[WW_0,WW_0]
 |r::p,A,k+1,b=>by
   exact mw p (lv A r) k b
structure Zf(n:Nat)(F:WF)(A B:Int->Int):Prop where
 at0:∀x y:Int,x+y=(n:Int)->F x y=A x
 at1:∀x y:Int,x+y=(n:Int)+1->F x y=B x
 up:∀x y:Int,(n:Int)+1<x+y->F x y=0
theorem MD(h:Zf n F A (lv A bs))(hb:b∉bs):Zf n (eA F (b,(n:Int)-b)) A (lv A (b::bs))/\∀x y:Int,x+y<(n:Int)->eA F (b,(n:Int)-b) x y=F x y:=by
 have e:∀x y,eA F (b,(n:Int)-b) x y=F x y+(if x=b+1/\y=(n:Int)-b then A b else 0)+(if x=b/\y=(n:Int)-b+1 then A b else 0):=by
  intro x y;unfold eA;rw[h.at0 b ((n:Int)-b) ⇑2]
 refine⟨⟨?_,?_,?_⟩,?_⟩
 .intro x y ON;rw[e,aaB ⇑2,aaB ⇑2,h.at0 x y ON];lia
 .intro x y ON;rw[e,h.at1 x y ON];have e1:(x=b+1/\y=(n:Int)-b)↔x-1=b:=by constructor<;>intro z<;>lia
  have e2:(x=b/\y=(n:Int)-b+1)↔x=b:=by constructor<;>intro z<;>lia
  simp only[lv];by_cases c1:x-1=b;.grind
  .grind
 .intro x y ON;rw[e,aaB ⇑2,aaB ⇑2,h.up x y ON];rfl
 .grind
theorem Hj:∀(r bs:List Int) (F:WF),Zf n F A (lv A bs)->(∀x∈r,x∉bs)->r.Nodup->Zf n ((qB n r).foldl eA F) A (lv A (r++bs))/\∀x y:Int,x+y<(n:Int)->(qB n r).foldl eA F x y=F x y
 |[],bs,F,h,_,_=>⟨h,λ_ _ _=>rfl⟩
 |b::r,bs,F,h,hd,nd=>by
   obtain⟨h1,h2⟩:=MD h (hd b aan);obtain⟨n1,n2⟩:=aeT.mp nd;obtain⟨h3,h4⟩:=Hj r (b::bs) _ h1 (λx hx z=>by
    rcases aaj.mp z with q|q;.grind
    .exact hd x (aat _ hx) q) n2;refine⟨?_,λx y ON=>(h4 x y ON).trans (h2 x y ON)⟩;have:lv A (r++b::bs)=lv A ((b::r)++bs):=by
    funext x;exact MC (λz=>by simp;constructor<;>rintro(q|q|q)<;>simp[q]) x
   rw[<-this];exact h3
theorem wQ:∀(p:dz) (n:Nat) (A:Int->Int) (F:WF),(∀r∈p,r.Nodup)->(∀x y:Int,x+y=(n:Int)->F x y=A x)->(∀x y:Int,(n:Int)<x+y->F x y=0)->
  ∀x y:Int,(x+y<(n:Int)->(cB n p).foldl eA F x y=F x y)/\∀k:Nat,x+y=(n:Int)+(k:Int)->(cB n p).foldl eA F x y=WW A p k x
 |[],n,A,F,_,h0,h1,x,y=>by
   refine⟨λ_=>rfl,λk hk=>?_⟩;cases k with
   |zero=>rw[WW_0];exact h0 x y ⇑2
   |succ k=>exact h1 x y ⇑2
 |r::p,n,A,F,hn,h0,h1,x,y=>by
   have L0:Zf n F A (lv A []):=⟨h0,λx y q=>by rw[U5];exact h1 x y ⇑2,λx y q=>h1 x y ⇑2⟩;obtain⟨L1,K1⟩:=Hj r [] F L0 (λx _ z=>by simp at z) (hn r aan);rw[abr]at L1;have ih:=wQ p (n+1) (lv A r) ((qB n r).foldl eA F) (λs hs=>hn s (aat _ hs)) (λx y q=>L1.at1 x y (by push_cast at q;lia)) (λx y q=>L1.up x y (by push_cast at q;lia)) x y;rw[cB,aew];refine⟨λq=>(ih.1 (by push_cast;lia)).trans (K1 x y q),λk hk=>?_⟩;cases k with
   |zero=>
     rw[WW_0,ih.1 (by push_cast;lia)];exact L1.at0 x y ⇑2
   |succ k=>exact ih.2 k (by push_cast;push_cast at hk;lia)
theorem PR(h:oy l):l.Nodup:=h.imp λz e=>by lia
theorem Hk:∀{q:dz} {r:List Int} {n:Nat},(∀x∈r,0<=x/\x<=(n:Int))->J4 r q->(∀s∈q,s.Nodup)/\∀k,∀x∈q.getD k [],0<=x/\x<=((n+1+k:Nat):Int)
 |[],_,_,_,_=>⟨by simp,λk x hx=>by simp at hx⟩
 |s::q,r,n,hr,hc=>by
   have hs:∀x∈s,0<=x/\x<=((n+1:Nat):Int):=λ8=>by
    rcases kK.mp (hc.1.2.2 x hx)with h|h;.grind
    .grind
   obtain⟨i1,i2⟩:=Hk (n:=n+1) hs hc.2;refine⟨λt ht=>?_,λk x hx=>?_⟩
   .rcases aaj.mp ht with z|z;.rw [z];exact PR hc.1.2.1
    .grind
   .cases k with
    |zero=>exact hs x (by simpa using hx)
    |succ k=>
      have:=i2 k x (by simpa using hx);lia
theorem AW(h:Pl p):(∀s∈p,s.Nodup)/\∀k,∀x∈p.getD k [],0<=x/\x<=(k:Int):=by
 obtain⟨q,rfl,hc⟩:=h.ex
 obtain⟨i1,i2⟩:=Hk (q:=q) (r:=[0]) (n:=0) ⇑11 hc
 refine⟨λs hs=>?_,λk x hx=>?_⟩
 .grind
 .cases k with
  |zero=>simp at hx;subst hx;simp
  |succ k=>
    have:=i2 k x (by simpa using hx);lia
structure Dt(kds:fS)(F:WF):Prop where
 fn:Ip kds=false
 acv:∀b g:Int,(dX kds [.inl b,.inl g]).getD (.int 0)=.int (F b g)
instance {kds:fS}{F:WF}:CoeFun (Dt kds F) (λ_=>∀b g:Int,(dX kds [.inl b,.inl g]).getD (.int 0)=.int (F b g)):=⟨Dt.acv⟩
theorem PU(h:Ip kds=false):Ip (jl kds k d)=false:=by
 unfold jl
 split
 .cases kds with
  |nil=>rfl
  |cons p r=>
    obtain⟨p1,p2⟩:=p;rw[aaw];split<;>(cases p1 with
     |list l=>
       cases l with
       |nil=>cases h
       |cons _ _=>rfl
     |_=>rfl)
 .cases kds with
  |nil=>rfl
  |cons p r=>
    obtain⟨p1,p2⟩:=p;cases p1 with
    |list l=>
      cases l with
      |nil=>cases h
      |cons _ _=>rfl
    |_=>rfl
theorem ki(h1:gd δ=some (.dict kds))(h2:gk δ=some (dC c))(h3:ge δ=some z)(hf:Ip kds=false:=by first|assumption|exact Dt.fn (by assumption)):ma gd gk ge δ=some ((dX kds [.inl c.1,.inl c.2]).getD z):=by
 unfold ma;rw[h1,h2,h3]
 show(if Ip kds=true then none else _)=_
 rw[hf];rfl
theorem PV(h1:gd δ=some (.dict kds))(h2:gk δ=some (dC c))(hf:Ip kds=false:=by first|assumption|exact Dt.fn (by assumption)):Cf gd gk δ=dX kds [.inl c.1,.inl c.2]:=by
 unfold Cf;rw[h1,h2]
 show(if Ip kds=true then none else _)=_
 rw[hf];rfl
theorem vt(h1:ae i δ=some (.dict kds))(h2:gk δ=some (dC c))(h3:ge δ=some d)(h4:kds.length<100000):zD i gk ge δ=some (.nx (δ.set i (some (.dict (jl kds [.inl c.1,.inl c.2] d))))):=by
 unfold zD;rw[h1,h2,h3]
 show(if kds.length<100000 then _ else _)=_
 rw[aav h4]
theorem U6:(([.inl b,.inl g]:List Key)=[.inl x,.inl y])↔b=x/\g=y:=by simp
theorem Zg{t:D->DS->Option DS}{b:bo}{d1 d2:D}{δ:DS}(fg δ2 δ3 δ4:DS)(h1:t d1 δ=some fg)(h2:b fg=some (.nx δ2))(h3:t d2 δ2=some δ3)(h4:b δ3=some (.nx δ4)):kY t b [d1,d2] δ=some (.nx δ4):=by
 simp only[kY,h1,h2,h3,h4,aad]
theorem Dt.put(h:Dt kds F)(x y v:Int):Dt (jl kds [.inl x,.inl y] (.int v)) (λb g=>if b=x/\g=y then v else F b g):=by
 refine⟨PU h.fn,λb g=>?_⟩
 rw[IQ]
 by_cases e:b=x/\g=y
 .grind
 .rw [aaB (λz=>e (U6.mp z)),aaB e];exact h b g
theorem E3(h1:ae i δ=some (.list ds))(h2:g δ=some zs)(h3:ds.length+zs.length<=100000):IA i g δ=some (.nx (δ.set i (some (.list (ds++zs))))):=by
 unfold IA
 rw[h1,h2]
 show(if ds.length+zs.length<=100000 then _ else _)=_
 rw[aav h3]
theorem PX(p:dz):jU (p.map dR)=p.zipIdx.map λx=>.tuple [.int (x.2:Nat),dR x.1]:=by
 unfold jU
 rw[afw,ad0]
 rfl
theorem E4(hl:p.length<=24)(qZ:∀r∈p,r.length<=25):j8 [cm p]=some ((cB 0 p).map dC):=by
 refine aP ?_
 refine px (λx:List Int×Nat=>PyData.tuple [.int (x.2:Nat),dR x.1]) p.zipIdx (λi δ=>∃a b,δ=[some (cm p),sL ((cB 0 (p.take i)).map dC),a,b]) ?_ ⟨none,none,rfl⟩ ?_ ?_
 .show some (jU (p.map dR))=_;rw[PX]
 .rintro i ⟨r,n⟩ δ hi ⟨a,b,rfl⟩;rw[aeg]at hi;cases er:p[i]? with
  |none=>rw[er]at hi;cases hi
  |some r'=>
    rw[er]at hi;simp at hi;obtain⟨rfl,rfl⟩:=hi;have Ly:=(aar.mp er).1;have hr:=qZ r' (aau er);have ht:p.take (i+1)=p.take i++[r']:=by
     rw[adV,er];rfl
    have PY:(p.take i).length=i:=by rw[acb];lia
    have hc0:=wO (p.take i) 0 λs hs=>qZ s (afs hs);refine⟨_,[some (cm p),sL ((cB 0 (p.take (i+1))).map dC),sI (i:Nat),some (dR r')],rfl,?_,_,_,rfl⟩;have hc:cb (aU (ae 3)) [2] (cj (aa (ae 0) (aa (g2 eZ (ae 1) (ae 0)) ag))) [some (cm p),sL ((cB 0 (p.take i)).map dC),sI (i:Nat),some (dR r')]=some ((r'.map λb=>(b,(i:Int)-b)).map dC):=
     dQ PyData.int dC (λb=>(b,(i:Int)-b)) r' rfl ⇑2 λx _=>rfl;refine(E3 rfl hc (by simp only[aac];lia)).trans ?_;rw[ht,jM,PY,afB,abj];rfl
 .rintro δ' ⟨a,b,rfl⟩;refine ret (.list ((cB 0 p).map dC)) ?_ ⇑16;rw[ae0,adY];rfl
theorem cM(ha:PyData.strOk a=true)(hb:PyData.strOk b=true)(hc:(a==b)=c):f9 (.str a) (.str b)=some (.bool c):=by
 unfold f9
 simp[SeqAt.shaped,PyData.canLay0,PyData.depth,PyData.eqv,ha,hb,hc]
theorem Jt(c:Int×Int):iJ [dC c,.str "b"]=some (dC (c.1+1,c.2)):=by
 exact aP (cx true (bx (b:=true) ⇑33) (λ_=>cy (dC (c.1+1,c.2)) rfl ⇑16) λz=>nomatch z)
theorem Ju(c:Int×Int):iJ [dC c,.str "g"]=some (dC (c.1,c.2+1)):=by
 exact aP (bM (bx (b:=false) ⇑33) (ret (dC (c.1,c.2+1)) rfl ⇑16))
theorem CS(hl:p.length<=24)(qZ:∀r∈p,r.length<=25)(c:Int×Int):∃kds,iX [cm p,dC c]=some (.dict kds)/\Dt kds ((cB 0 p).foldl eA (mr c)):=by
 have sX:=wO p 0 qZ
 have main:fN (iX [cm p,dC c]) λd=>∃kds,d=.dict kds/\Dt kds ((cB 0 p).foldl eA (mr c)):=by
  refine bq [some (cm p),some (dC c),some (.dict [(dC c,.int 1)]),none,none,none] rfl ?_;refine px dC (cB 0 p) (λi δ=>∃kds a b e,δ=[some (cm p),some (dC c),some (.dict kds),a,b,e]/\Dt kds (((cB 0 p).take i).foldl eA (mr c))/\kds.length<=1+2*i) ?_ ⟨_,_,_,_,rfl,?_,by simp⟩ ?_ ?_
  .have ec:aX (cI j8 1 ⇑8) [some (cm p),some (dC c),some (.dict [(dC c,.int 1)]),none,none,none]=some (.list ((cB 0 p).map dC)):=aW (eL ⇑4 rfl (E4 hl qZ));unfold aU;rw[ec];rfl
  .refine ⟨rfl,λb g=>?_⟩;exact(Dt.put (kds:=[]) (F:=λ_ _=>0) ⟨rfl,λb g=>rfl⟩ c.1 c.2 1) b g
  .rintro i k δ hi ⟨kds,a,b,e,rfl,hd,hlen⟩;have Ly:=(aar.mp hi).1;obtain⟨F,hF⟩:∃F,F=((cB 0 p).take i).foldl eA (mr c):=⟨_,rfl⟩;rw[<-hF]at hd;have ME:((cB 0 p).take (i+1)).foldl eA (mr c)=eA F k:=by
    rw[adV,hi,aew,<-hF];rfl
   obtain⟨k1,IC⟩:∃k1,k1=jl kds [.inl (k.1+1),.inl k.2] (.int (F (k.1+1) k.2+F k.1 k.2)):=⟨_,rfl⟩;have J1:=hd.put (k.1+1) k.2 (F (k.1+1) k.2+F k.1 k.2);rw[<-IC]at J1;have hd2:=J1.put k.1 (k.2+1) (F k.1 (k.2+1)+F k.1 k.2);have l1:k1.length<=kds.length+1:=by rw[IC];exact pj _ _ _
   have l2:=pj k1 [.inl k.1,.inl (k.2+1)] (.int (F k.1 (k.2+1)+F k.1 k.2));refine⟨_,[some (cm p),some (dC c),some (.dict (jl k1 [.inl k.1,.inl (k.2+1)] (.int (F k.1 (k.2+1)+F k.1 k.2)))),some (dC k),sI (F k.1 k.2),some (dC (k.1,k.2+1))],rfl,?_,_,_,_,_,rfl,?_,by lia⟩
   .refine cL [some (cm p),some (dC c),some (.dict kds),some (dC k),sI (F k.1 k.2),e] (bf ((ki rfl rfl rfl).trans (abR some (hd k.1 k.2)))) ?_;unfold iq;have hit:aU (cj (aa (aS iJ 2 (aa (ae 3) (aa (cD "b") ag))) (aa (aS iJ 2 (aa (ae 3) (aa (cD "g") ag))) ag))) [some (cm p),some (dC c),some (.dict kds),some (dC k),sI (F k.1 k.2),e]=some [dC (k.1+1,k.2),dC (k.1,k.2+1)]:=by
     have e1:aS iJ 2 (aa (ae 3) (aa (cD "b") ag)) [some (cm p),some (dC c),some (.dict kds),some (dC k),sI (F k.1 k.2),e]=some (dC (k.1+1,k.2)):=call_of (cons_of rfl ⇑4) rfl (Jt k);have e2:aS iJ 2 (aa (ae 3) (aa (cD "g") ag)) [some (cm p),some (dC c),some (.dict kds),some (dC k),sI (F k.1 k.2),e]=some (dC (k.1,k.2+1)):=call_of (cons_of rfl ⇑4) rfl (Ju k);unfold aU cj;rw[cons_of e1 (cons_of e2 rfl)];rfl
    rw[hit,aad];refine Zg [some (cm p),some (dC c),some (.dict kds),some (dC k),sI (F k.1 k.2),some (dC (k.1+1,k.2))] [some (cm p),some (dC c),some (.dict k1),some (dC k),sI (F k.1 k.2),some (dC (k.1+1,k.2))] [some (cm p),some (dC c),some (.dict k1),some (dC k),sI (F k.1 k.2),some (dC (k.1,k.2+1))] _ rfl ?_ rfl ?_
    .refine (vt (c:=(k.1+1,k.2)) rfl rfl (aj ((ki (c:=(k.1+1,k.2)) rfl rfl rfl).trans (abR some (hd (k.1+1) k.2))) rfl rfl) ⇑2).trans ?_;rw[IC];rfl
    .have h5:(dX k1 [.inl k.1,.inl (k.2+1)]).getD (.int 0)=.int (F k.1 (k.2+1)):=by
      have:=J1 k.1 (k.2+1);rw[this];rw[aaB ⇑2]
     exact vt (c:=(k.1,k.2+1)) rfl rfl (aj ((ki (c:=(k.1,k.2+1)) rfl rfl rfl).trans (abR some h5)) rfl rfl) ⇑2
   .rw [ME];refine⟨hd2.fn,λx y=>?_⟩;rw[hd2 x y];congr 1;show(if x=k.1/\y=k.2+1 then _ else if x=k.1+1/\y=k.2 then _ else F x y)=F x y+_+_;by_cases c1:x=k.1/\y=k.2+1;.grind
    .grind
  .rintro δ' ⟨kds,a,b,e,rfl,hd,_⟩;rw[adY]at hd;exact ret (.dict kds) rfl (.mk rfl ⟨kds,rfl,hd⟩)
 obtain⟨_,e,kds,rfl,hd⟩:=main
 exact⟨kds,e,hd⟩
theorem Jv(hl:p.length<=24)(qZ:∀r∈p,r.length<=25)(c:Int×Int):pA [cm p,dC c]=some (.int ((cB 0 p).foldl eA (mr (0,0)) c.1 c.2)):=by
 obtain⟨kds,e,hd⟩:=CS hl qZ (0,0)
 exact aP (ret _ ((ki (c:=c) (call_of (cons_of rfl ⇑4) rfl e) rfl rfl).trans (abR some (hd c.1 c.2))) ⇑16)
def A0:Int->Int:=λb=>if b=0 then 1 else 0
theorem MF(h:Pl p){k:Nat}(e:x+y=(k:Int)):(cB 0 p).foldl eA (mr (0,0)) x y=WW A0 p k x:=by
 refine(wQ p 0 A0 (mr (0,0)) (AW h).1 ?_ ?_ x y).2 k (by push_cast;lia)
 .intro x y q;unfold mr A0;by_cases c:x=0;.grind
  .grind
 .intro x y q;unfold mr;lia
theorem E5{α β:Type}(enc:α->D)(qk:β->D)(h:α->β)(P:α->Bool):∀l:List α,(∀a∈l,f (enc a)=some (if P a=true then some (qk (h a))else none))->qg f (l.map enc)=some (((l.filter P).map h).map qk)
 |[],_=>rfl
 |a::l,q=>by
   have ih:=E5 enc qk h P l λ9=>q b (aat _ hb);rw[aaw,qg,q a aan,aad,ih,aad,List.filter_cons];cases P a<;>rfl
theorem rN{α β:Type}(enc:α->D)(qk:β->D)(h:α->β)(P:α->Bool)(l:List α)(hi:gi δ=some (l.map enc))(hl:l.length<=100000)
  (hc:∀a∈l,gc (some (enc a)::eR ix δ)=some (P a))(he:∀a∈l,P a=true->ge (some (enc a)::eR ix δ)=some (qk (h a))):di gi 1 ix (aN 0) gc ge δ=some (((l.filter P).map h).map qk):=by
 unfold di
 rw[hi,aad,aav (by rw[aac];exact hl)]
 refine E5 enc qk h P l λa ha=>?_
 show(Option.bind (some (some (enc a)::eR ix δ)) _)=_
 rw[aad,hc a ha,aad]
 cases q:P a with
 |true=>rw[aav rfl,aav rfl,he a ha q];rfl
 |false=>rfl
theorem pF(h1:a δ=some x)(h2:b δ=some y)(h3:f x y=some (.bool u))(h4:c δ=some w)(h5:f' y w=some (.bool v)):dA f f' a b c δ=some (.bool (u&&v)):=by
 unfold dA
 rw[h1,h2]
 simp only[aad,h3]
 cases u with
 |true=>simp only[h4,aad,h5,ad1]
 |false=>rfl
theorem CT(h:r.length<32):dO [dR r]=some ((led r).map .int):=by
 exact aP (ret (.list ((led r).map .int)) (aW (wN (a:=aX (Aj nH ⇑8)) (b:=ae 0) (r:=r) rfl (.inr rfl) h)) ⇑16)
noncomputable def Ry(p:dz)(c:Int×Int):Bool:=(decide (0<=c.1+c.2)&&decide (c.1+c.2<(p.length:Int)))&&decide (c.1∈p.getD (c.1+c.2).toNat [])
theorem Jw(p:dz)(c:Int×Int):lN [cm p,dC c]=some (.bool (Ry p c)):=by
 rw[Js]
 refine aP ?_
 refine ret (.bool (Ry p c)) ?_ ⇑16
 refine AV (x:=decide (0<=c.1+c.2)&&decide (c.1+c.2<(p.length:Int))) ?_ λh=>?_
 .have e2:p6 (.int (c.1+c.2)) (.int (((p.map dR).length:Nat):Int))=some (.bool (decide (c.1+c.2<(p.length:Int)))):=by
   rw[aac];rfl
  exact pF rfl rfl rfl rfl e2
 .rw [aaX,aa4,aa4]at h;exact aj rfl (aj rfl rfl (MB h.1 h.2)) MA
theorem lO:∀(p:dz) (n:Nat),(∀r∈p,r.length<=50)->(cB n p).length<=50*p.length
 |[],_,_=>by simp[cB]
 |r::p,n,h=>by
   have h1:=lO p (n+1) λs hs=>h s (aat _ hs);have h2:=h r aan;rw[cB,aak,aaz,qB,aac];lia
theorem MG(p:dz):uu (p.map dR)=(p.zipIdx 1).map λx=>.tuple [.int (x.2:Nat),dR x.1]:=by
 unfold uu
 rw[afw,ad0]
 rfl
theorem Hm(x:Int):∀l:List Int,(ins x l).length<=l.length+1
 |[]=>by simp[ins]
 |y::l=>by
   have:=Hm x l;rw[ins];split;.simp
   .grind
theorem MH:∀l:List Int,(ss l).length<=l.length
 |[]=>by simp[ss]
 |x::l=>by
   have h1:=MH l;have h2:=Hm x (ss l);rw[ss,aaz];lia
theorem mx:(led r).length<=2*r.length:=by
 have h:((led r):List Int).length<=(r++r.map (·+1)).length:=MH _
 rw[aak,aac]at h
 lia
theorem Jx(hl:p.length<=24)(qZ:∀r∈p,r.length<=25):jK [cm p]=some (((0,0)::cB 1 (p.map led)).map dC):=by
 refine aP ?_
 refine px (λx:List Int×Nat=>PyData.tuple [.int (x.2:Nat),dR x.1]) (p.zipIdx 1) (λi δ=>∃a b,δ=[some (cm p),sL (((0,0)::cB 1 ((p.take i).map led)).map dC),a,b]) ?_ ⟨none,none,rfl⟩ ?_ ?_
 .show some (uu (p.map dR))=_;rw[MG]
 .rintro i ⟨r,n⟩ δ hi ⟨a,b,rfl⟩;rw[aeg]at hi;cases er:p[i]? with
  |none=>rw[er]at hi;cases hi
  |some r'=>
    rw[er]at hi;simp at hi;obtain⟨rfl,rfl⟩:=hi;have Ly:=(aar.mp er).1;have hr:=qZ r' (aau er);have ht:p.take (i+1)=p.take i++[r']:=by
     rw[adV,er];rfl
    have PY:(p.take i).length=i:=by rw[acb];lia
    have hll:(led r').length<=50:=by have:=mx (r:=r');lia
    have sX:(cB 1 ((p.take i).map led)).length<=1200:=by
     have:=lO ((p.take i).map led) 1 (λs hs=>by
      obtain⟨t,ht,rfl⟩:=aaH.mp hs;have:=mx (r:=t);have:=qZ t (afs ht);lia);rw[aac,PY]at this;lia
    refine⟨_,[some (cm p),sL (((0,0)::cB 1 ((p.take (i+1)).map led)).map dC),sI ((1+i:Nat):Int),some (dR r')],rfl,?_,_,_,rfl⟩;have hc:cb (aU (aX (cI dO 1 (aa (ae 3) ag)))) [2] (cj (aa (ae 0) (aa (g2 eZ (ae 1) (ae 0)) ag))) [some (cm p),sL (((0,0)::cB 1 ((p.take i).map led)).map dC),sI ((1+i:Nat):Int),some (dR r')]=some (((led r').map λb=>(b,((1+i:Nat):Int)-b)).map dC):=by
     refine dQ PyData.int dC (λb=>(b,((1+i:Nat):Int)-b)) (led r') ?_ ⇑2 λx _=>rfl;have ec:aX (cI dO 1 (aa (ae 3) ag)) [some (cm p),sL (((0,0)::cB 1 ((p.take i).map led)).map dC),sI ((1+i:Nat):Int),some (dR r')]=some (.list ((led r').map .int)):=aW (eL ⇑4 rfl (CT ⇑2));unfold aU;rw[ec];rfl
    refine(E3 rfl hc (by simp only[aac,aaz];lia)).trans ?_;have key:cB 1 ((p.take (i+1)).map led)=cB 1 ((p.take i).map led)++qB (1+i) (led r'):=by
     rw[ht,abj,show List.map led [r']=[led r']from rfl,jM,aac,PY]
    simp only[key,aaw,abj];rfl
 .rintro δ' ⟨a,b,rfl⟩;refine ret (.list (((0,0)::cB 1 (p.map led)).map dC)) ?_ ⇑16;rw[ae0,adY];rfl
def jn(p:dz):List (Int×Int):=((0,0)::cB 1 (p.map led)).filter λc=> !Ry p c
theorem U7(hl:p.length<=24)(qZ:∀r∈p,r.length<=25):AM [cm p]=some ((jn p).map dC):=by
 have sX:(cB 1 (p.map led)).length<=1200:=by
  have:=lO (p.map led) 1 (λs hs=>by
   obtain⟨t,ht,rfl⟩:=aaH.mp hs;have:=mx (r:=t);have:=qZ t ht;lia);rw[aac]at this;lia
 have hc:di (aU (aX (cI jK 1 ⇑8))) 1 [0] (aN 0) (iD (fG (aS lN 2 (aa (ae 1) ⇑8)))) (ae 0) [some (cm p)]=some (((((0,0)::cB 1 (p.map led)).filter λc=> !Ry p c).map id).map dC):=by
  refine rN dC dC id (λc=> !Ry p c) ((0,0)::cB 1 (p.map led)) ?_ (by simp only[aaz];lia) (λc _=>?_) λc _ _=>rfl
  .have ec:aX (cI jK 1 ⇑8) [some (cm p)]=some (.list (((0,0)::cB 1 (p.map led)).map dC)):=aW (eL ⇑4 rfl (Jx hl qZ));unfold aU;rw[ec];rfl
  .exact gp (gq (call_of (cons_of rfl ⇑4) rfl (Jw p c)))
 rw[List.map_id]at hc
 exact aP (ret (.list ((jn p).map dC)) (aW hc) ⇑16)
noncomputable def wR(p:dz)(c:Int×Int):Bool:=(decide (0<=c.1+c.2)&&decide (c.1+c.2<(p.length:Int)))&&decide (c.1∈p.getD (c.1+c.2).toNat [])
theorem PZ(p:dz)(n:Nat)(b:Int):wR p (b,(n:Int)-b)=decide (b∈p.getD n []):=by
 unfold wR
 rw[show b+((n:Int)-b)=(n:Int)by lia,abV,aaq (show(0:Int)<=(n:Int)by lia),ad1]
 rcases Nat.lt_or_ge n p.length with q|q
 .grind
 .rw [aaG (show ¬(n:Int)<(p.length:Int)by lia),aey,aaC,acI q];simp
theorem tO(h:L<=24):-100000<=((L:Nat):Int)+1/\((L:Nat):Int)+1<=100000/\((((L:Nat):Int)+1)-1).toNat=L:=by lia
theorem P4{i L:Nat}(h:N=1+(i:Int))(hi:i<L):0<=N/\N.toNat=i+1/\0<=N-1/\N-1<(L:Int)/\(N-1).toNat=i/\(¬N<(L:Int)->L<=i+1):=by lia
theorem P5(h1:a<=50*i)(h2:b<=a)(hi:i<L)(hL:L<=24):b<=1200:=by lia
theorem AX(h:l<=2*r)(hr:r<=25):l<=50/\r<32/\(f<=l->∀a,a<=1200->a+f<=100000):=by lia
theorem E6(hl:p.length<=24)(qZ:∀r∈p,r.length<=25):ka [cm p]=some (((cB 1 (p.map led)).filter λc=> !wR p c).map dC):=by
 rw[EX]
 refine aP ?_
 refine bq [some (cm p),sL ([]),none,none,none] rfl ?_
 refine nX 1 p.length (λi δ=>∃a b c,δ=[some (cm p),sL (((cB 1 ((p.take i).map led)).filter λc=> !wR p c).map dC),a,b,c]) ?_ ⟨none,none,none,rfl⟩ ?_ ?_
 .have e:aa (ay 1) (aa (g2 aA (cQ b8 ⇑8) (ay 1)) ag) [some (cm p),sL ([]),none,none,none]=some [.int 1,.int (((p.length:Nat):Int)+1)]:=by
   show some [PyData.int 1,PyData.int ((((p.map dR).length:Nat):Int)+1)]=_;rw[aac]
  refine(Jq e ⇑0 ⇑0 (tO hl).1 (tO hl).2.1).trans ?_;rw[(tO hl).2.2]
 .rintro i δ hi ⟨a,b,c,rfl⟩;obtain⟨r,er⟩:∃r,p[i]?=some r:=⟨_,aal hi⟩;have hr:=qZ r (aau er);have ht:p.take (i+1)=p.take i++[r]:=by rw[adV,er];rfl
  have PY:(p.take i).length=i:=by rw[acb];exact Nat.min_eq_left (adN hi)
  obtain⟨acc,Ca⟩:∃acc,acc=((cB 1 ((p.take i).map led)).filter λc=> !wR p c).map dC:=⟨_,rfl⟩;rw[<-Ca];have Zh:acc.length<=1200:=by
   have h1:=lO ((p.take i).map led) 1 (λs hs=>by
    obtain⟨t,ht,rfl⟩:=aaH.mp hs;exact(AX (f:=0) (mx (r:=t)) (qZ t (afs ht))).1);rw[aac,PY]at h1;have h2:=aff (λc=> !wR p c) (cB 1 ((p.take i).map led));rw[Ca,aac];exact P5 h1 h2 hi hl
  obtain⟨hll,h32,_⟩:=AX (f:=0) (mx (r:=r)) hr;obtain⟨N,hN⟩:∃N:Int,N=1+(i:Int):=⟨_,rfl⟩;obtain⟨m1,m2,m3,m4,m5,m6⟩:=P4 hN hi;rw[<-hN];obtain⟨on,hon⟩:∃on,on=p.getD (i+1) []:=⟨_,rfl⟩;have st:gy (gB (g2 p6 (ae 2) (cQ b8 ⇑8))) (bI 3 (g2 bN (ae 0) (ae 2))) bu [some (cm p),sL acc,sI N,some (.tuple []),c]=some (.nx [some (cm p),sL acc,sI N,some (dR on),c]):=by
   have hc:gB (g2 p6 (ae 2) (cQ b8 ⇑8)) [some (cm p),sL acc,sI N,some (.tuple []),c]=some (decide (N<(p.length:Int))):=by
    refine bx ?_;show some (PyData.bool (decide (N<(((p.map dR).length:Nat):Int))))=_;rw[aac]
   by_cases q:N<(p.length:Int)
   .refine kh true (hc.trans (abR some (aaq q))) (λ_=>?_) λz=>nomatch z;refine(bf (aj rfl rfl (MB m1 q))).trans ?_;rw[m2,<-hon];rfl
   .refine kh false (hc.trans (abR some (aaG q))) ⇑41 λ_=>?_;have:on=[]:=by rw[hon,aaC,acI (m6 q)];rfl
    rw[this];rfl
  have ix:g2 bN (ae 0) (g2 eZ (ae 2) (ay 1)) [some (cm p),sL acc,sI N,some (dR on),c]=some (dR r):=by
   refine(aj rfl rfl (MB (p:=p) (i:=N-1) m3 m4)).trans ?_;rw[m5,aaC,er];rfl
  have ss4:=wN (a:=aX (Aj nH (aa (g2 bN (ae 0) (g2 eZ (ae 2) (ay 1))) ag))) (b:=g2 bN (ae 0) (g2 eZ (ae 2) (ay 1))) (δ:=[some (cm p),sL acc,sI N,some (dR on),c]) (r:=r) (by
   unfold aX Aj;rw[cons_of ix rfl];rfl) (.inr ix) h32;refine⟨_,[some (cm p),sL (((cB 1 ((p.take (i+1)).map led)).filter λc=> !wR p c).map dC),sI N,some (dR on),sL ((led r).map .int)],rfl,?_,_,_,_,rfl⟩;refine cL [some (cm p),sL acc,sI N,some (.tuple []),c] rfl ?_;refine cL _ st ?_;refine cL [some (cm p),sL acc,sI N,some (dR on),sL ((led r).map .int)] (bf (aW ss4)) ?_;have hcp:di (aU (ae 4)) 1 [2,3] (aN 0) (gB (g2 qb (ae 0) (ae 2))) (cj (aa (ae 0) (aa (g2 eZ (ae 1) (ae 0)) ag))) [some (cm p),sL acc,sI N,some (dR on),sL ((led r).map .int)]=some ((((led r).filter λb=> !decide (b∈on)).map λb=>(b,N-b)).map dC):=by
   refine rN PyData.int dC (λb=>(b,N-b)) (λb=> !decide (b∈on)) (led r) rfl (aa6 hll ⇑0) (λb _=>?_) λb _ _=>rfl;refine bx (aj rfl rfl ?_);unfold qb;rw[MA];rfl
  refine(E3 rfl hcp (by simp only[aac];exact(AX (mx (r:=r)) hr).2.2 (aff (λb=> !decide (b∈on)) (led r)) _ Zh)).trans ?_;have key:((cB 1 ((p.take (i+1)).map led)).filter λc=> !wR p c).map dC=acc++(((led r).filter λb=> !decide (b∈on)).map λb=>(b,N-b)).map dC:=by
   rw[ht,abj,show List.map led [r]=[led r]from rfl,jM,aac,PY,List.filter_append,abj,<-Ca];unfold qB;rw[List.filter_map];have ef:((λc:Int×Int=> !wR p c) ∘ λb:Int=>(b,((1+i:Nat):Int)-b))=λb=> !decide (b∈on):=by
    funext b;show(!wR p (b,((1+i:Nat):Int)-b))=_;rw[PZ,hon,Nat.add_comm 1 i]
   rw[ef];rw[hN];rfl
  rw[key];rfl
 .rintro δ' ⟨a,b,c,rfl⟩;refine ret (.list (((cB 1 (p.map led)).filter λc=> !wR p c).map dC)) ?_ ⇑16;rw[adY];rfl
def TE(n:Nat)(x:D):Prop:=PyData.canLay0 x=true/\PyData.depth x<=n
theorem TE.up(h:TE n x)(hn:n<=m):TE m x:=⟨h.1,aa6 h.2 hn⟩
theorem E7:∀{l:List D},(∀x∈l,TE n x)->PyData.canLayAll0 l=true/\PyData.depthAll l<=n
 |[],_=>⟨rfl,abO _⟩
 |a::l,h=>by
   obtain⟨h1,h2⟩:=h a aan;obtain⟨h3,h4⟩:=E7 λ8=>h x (aat _ hx);refine⟨by rw[PyData.canLayAll0,h1,h3];rfl,?_⟩;exact Nat.max_le.mpr ⟨h2,h4⟩
theorem CU(h:∀x∈l,TE n x):TE (n+1) (.tuple l):=by
 obtain⟨h1,h2⟩:=E7 h
 exact⟨by rw[PyData.canLay0];exact h1,by rw[PyData.depth];lia⟩
theorem Hn(h:∀x∈l,TE n x):TE (n+1) (.list l):=by
 obtain⟨h1,h2⟩:=E7 h
 exact⟨by rw[PyData.canLay0];exact h1,by rw[PyData.depth];lia⟩
theorem U8(i:Int):TE 1 (.int i):=⟨by rw[PyData.canLay0],by rw[PyData.depth];lia⟩
theorem MI(x:Str)(h:PyData.strOk x=true):TE 1 (.str x):=⟨by rw[PyData.canLay0];exact h,by rw[PyData.depth];lia⟩
theorem TE.sh(h:TE n x)(hn:n<=60):SeqAt.shaped x=true:=by
 obtain⟨a,b⟩:=h
 unfold SeqAt.shaped
 rw[a];simp;lia
theorem TE.ty(h:TE n x):tyName x∈dM:=by
 cases x with
 |dict l=>have:=h.1;rw[PyData.canLay0]at this;cases this
 |_=>simp[tyName,dM]
theorem MJ(h1:SeqAt.shaped a=true)(h2:SeqAt.shaped b=true):f9 a b=some (.bool (PyData.eqv a b)):=by
 unfold f9
 split
 .rfl
 .grind
theorem vv(r:List Int):∀x∈r.map PyData.int,TE 1 x:=λ8=>by
 obtain⟨i,_,rfl⟩:=aaH.mp hx
 exact U8 i
theorem uz:∀l m:List Int,PyData.eqvAll (l.map .int) (m.map .int)=decide (l=m)
 |[],[]=>rfl
 |[],_::_=>rfl
 |_::_,[]=>rfl
 |a::l,b::m=>by
   rw[aaw,aaw,PyData.eqvAll,uz l m,PyData.eqv,aeV];simp
theorem AY(h:TE n x)(ht:t∈dM)(hg:g δ=some x):yo t g δ=some (.bool (decide (tyName x=t)||(decide (tyName x="bool")&&decide (t="int")))):=by
 unfold yo
 rw[hg]
 show(if tyName x∈dM/\t∈dM then some _ else none)=_
 rw[aav ⟨h.ty,ht⟩]
def isI:D->Bool
 |.int _=>true
 |_=>false
theorem E8(h:TE n x)(hg:g δ=some x):fT (yo "int" g) (g1 Oy (yo "bool" g)) δ=some (.bool (isI x)):=by
 have h1:=AY h (t:="int") ⇑0 hg
 have h2:=AY h (t:="bool") ⇑0 hg
 have h3:g1 Oy (yo "bool" g) δ=some (.bool (!(decide (tyName x="bool")||(decide (tyName x="bool")&&decide ("bool"="int"))))):=by
  unfold g1;rw[h2];rfl
 unfold fT
 rw[bx h1,aad,h3]
 cases x<;>simp[tyName,isI]
theorem E9(h:TE n x):gU [x]=some (.bool (isI x)):=by
 exact aP (ret _ (E8 h rfl) ⇑16)
def NQ(T:List Int):D->Bool
 |.int i=>decide (i∈T)
 |_=>false
theorem Fb(T:List Int):∀l:List D,l.all (NQ T)=match iV l with|some r=>r.all λx=>decide (x∈T)|none=>false
 |[]=>rfl
 |d::l=>by
   cases d with
   |int i=>
     rw[aeO,Fb T l,iV];cases iV l with
     |none=>simp
     |some r=>simp[NQ]
   |_=>simp[NQ,iV]
def qC:D->Option (List Int)
 |.tuple l=>iV l
 |_=>none
theorem Jy(h:qC d=some r):d=dR r:=by
 cases d with
 |tuple l=>exact abR PyData.tuple (jV h)
 |_=>cases h
open Classical in
def Zi (d:D):Bool:=match qC d with
 |some r=> !r.isEmpty&&decide (oy r)
 |none=>false
def MM(T:List Int)(d:D):Bool:=Zi d&&match qC d with
 |some r=>r.all λx=>decide (x∈T)
 |none=>false
structure TR(d:D):Prop where
 te:TE 4 d
 row:∀l,d=.tuple l->l.length<64/\∀x∈l,TE 3 x
theorem P6:ss r=r↔oy r:=⟨λh=>h ▸ jH,OO⟩
theorem Fc(h:TR d)(T:List Int):dN [d,.list (T.map .int)]=some (.bool (MM T d)):=by
 rw[ET]
 refine aP ?_
 have hi:=AY h.te (t:="tuple") ⇑0 (g:=ae 0) (δ:=[some d,sL (T.map .int)]) rfl
 by_cases ht:∃l,d=.tuple l
 .obtain ⟨l,rfl⟩:=ht;obtain⟨hl,hx⟩:=h.row l rfl;have c1:=gp (x:=true) (gq (hi.trans rfl));have c2:gB (g2 f9 (cQ b8 ⇑8) (ay 0)) [some (.tuple l),sL (T.map .int)]=some (decide ((l.length:Int)=0)):=bx rfl;refine cx (decide ((l.length:Int)=0)) (CL c1 c2) (λe=>?_) λe=>?_
  .have:l=[]:=adM.mp (by have:=afb e;lia);subst this;exact cy (.bool false) rfl (.mk rfl (by simp[MM,Zi,qC,iV]))
  .have iw:l≠[]:=λz=>by subst z;simp at e
   have Zj:cb (aU (ae 0)) [1] (fT (aS gU 1 ⇑8) (g2 J0 (ae 0) (ae 1))) [some (.tuple l),sL (T.map .int)]=some ((l.map (NQ T)).map .bool):=by
    refine dQ id PyData.bool (NQ T) l (by simp;rfl) ⇑2 λx hxl=>?_;have hw:aS gU 1 ⇑8 (some (id x)::eR [1] [some (.tuple l),sL (T.map .int)])=some (.bool (isI x)):=call_of ⇑4 rfl (E9 (hx x hxl));unfold fT;rw[bx hw,aad];cases x with
    |int i=>
      exact aj rfl rfl Hi
    |_=>rfl
   have Tr:fG (cQ Az (aa (aX (cb (aU (ae 0)) [1] (fT (aS gU 1 ⇑8) (g2 J0 (ae 0) (ae 1))))) ag)) [some (.tuple l),sL (T.map .int)]=some (l.all (NQ T)):=by
    refine gq (eM (cons_of (aW Zj) rfl) ?_);show(jb ((l.map (NQ T)).map .bool)).map _=_;rw[jX];simp[List.all_map]
   refine cx (!(l.all (NQ T))) (gp Tr) (λe2=>?_) λe2=>?_
   .refine cy (.bool false) rfl (.mk rfl ?_);have e3:l.all (NQ T)=false:=by simpa using e2
    rw[Fb]at e3;unfold MM;rw[show qC (.tuple l)=iV l from rfl,e3,afG]
   .have e3:l.all (NQ T)=true:=by simpa using e2
    rw[Fb]at e3;cases hr:iV l with
    |none=>rw[hr]at e3;cases e3
    |some r=>
      rw[hr]at e3;dsimp only at e3;have hlr:=jV hr;subst hlr;have Wi:r.length<64:=by simpa using hl
      refine ret (.bool (decide (r=ss r))) (aj (aW rfl) (aW (Rx (ns:=r) rfl rfl Wi)) ?_) (.mk rfl ?_);.rw [MJ ((Hn (vv r)).sh ⇑0) ((Hn (vv (ss r))).sh ⇑0),PyData.eqv,uz]
      .unfold MM Zi;rw[show qC (.tuple (r.map .int))=iV (r.map .int)from rfl,jI];dsimp only;have J5:r.isEmpty=false:=by cases r with|nil=>exact absurd rfl iw|cons _ _=>rfl
       rw[J5,e3];simp only[Bool.not_false,ad1,Bool.and_true];congr 1;rw[aeV,aa4,@aa4 _ (Classical.propDecidable _),<-P6,eq_comm]
 .have hn:tyName d≠"tuple":=λz=>by
   cases d with
   |tuple l=>exact ht ⟨l,rfl⟩
   |_=>simp[tyName]at z
  have c1:=gp (x:=false) (gq (hi.trans (by simp[hn])));refine cx true (by unfold NG;rw[c1];rfl) (λ_=>cy (.bool false) rfl (.mk rfl ?_)) λz=>nomatch z;cases d with
  |tuple l=>exact absurd ⟨l,rfl⟩ ht
  |_=>rfl
theorem CV(W:DS->Prop)(P:D->Bool)(r:D):∀(ds:List D) (δ:DS),W δ->(∀x∈ds,∀δ,W δ->∃fg,t x δ=some fg/\(P x=true->∃δ',b fg=some (.nx δ')/\W δ')/\(P x=false->b fg=some (.rt r)))->
  (ds.all P=true->∃δ',kY t b ds δ=some (.nx δ')/\W δ')/\(ds.all P=false->kY t b ds δ=some (.rt r))
 |[],δ,h,_=>⟨λ_=>⟨δ,rfl,h⟩,λe=>by cases e⟩
 |x::ds,δ,h,hs=>by
   obtain⟨fg,e1,h1,h2⟩:=hs x aan δ h;rw[kY,e1,aad,aeO];cases hp:P x with
   |false=>grind
   |true=>
     obtain⟨δ',e2,h3⟩:=h1 hp;rw[e2,ad1];exact CV W P r ds δ' h3 λy hy=>hs y (aat _ hy)
def NR:List Int->List D->Bool
 |_,[]=>true
 |T,d::l=>MM T d&&NR (led ((qC d).getD [])) l
theorem P7(h:MM T d=true):∃r,qC d=some r/\d=dR r/\r≠[]/\oy r/\∀x∈r,x∈T:=by
 unfold MM Zi at h
 cases hr:qC d with
 |none=>rw[hr]at h;cases h
 |some r=>
   rw[hr]at h;rw[aaX,aaX,@aa4 _ (Classical.propDecidable _),abU]at h;exact⟨r,rfl,Jy hr,λz=>by subst z;simp at h,h.1.2,λ8=>afb (h.2 x hx)⟩
structure Tame(d:D):Prop where
 te:TE 5 d
 pl:∀l,d=.tuple l->l.length<=100/\∀e∈l,TR e
theorem zS:∀(l:List D) (T:List Int) (k:Nat) (x:Option D),(∀e∈l,TR e)->(∀z∈T,0<=z/\z<=(k:Int))->k+l.length<=26->
  (NR T l=true->∃δ',kY (aN 2) (aH ⇑14 (bI 1 (aX (cI dO 1 ⇑27)))) l [some th,sL (T.map .int),x]=some (.nx δ'))/\
  (NR T l=false->kY (aN 2) (aH ⇑14 (bI 1 (aX (cI dO 1 ⇑27)))) l [some th,sL (T.map .int),x]=some (.rt (.bool false)))
 |[],T,k,x,_,_,_=>⟨λ_=>⟨_,rfl⟩,λe=>by cases e⟩
 |d::l,T,k,x,ht,hT,hk=>by
   have hp:=Fc (ht d aan) T;have hc:iD (fG (aS dN 2 (aa (ae 2) (aa (ae 1) ag)))) [some th,sL (T.map .int),some d]=some (!(MM T d)):=gp (gq (call_of (cons_of rfl ⇑4) rfl hp));rw[kY,show aN 2 d [some th,sL (T.map .int),x]=some [some th,sL (T.map .int),some d]from rfl,aad,NR];cases iQ:MM T d with
   |false=>
     rw[iQ]at hc;refine⟨λe=>(nomatch e),λ_=>?_⟩;rw[show aH ⇑14 (bI 1 (aX (cI dO 1 ⇑27))) [some th,sL (T.map .int),some d]=some (.rt (.bool false))from rK (kh true hc (λ_=>rfl) λz=>nomatch z)];rfl
   |true=>
     rw[iQ]at hc;obtain⟨r,er,rfl,iw,hr,vX⟩:=P7 iQ;have hlen:=rM hr λz hz=>hT z (vX z hz);rw[aaz]at hk;have hb:aH ⇑14 (bI 1 (aX (cI dO 1 ⇑27))) [some th,sL (T.map .int),some (dR r)]=some (.nx [some th,sL ((led r).map .int),some (dR r)]):=
      cL _ (wL hc) (bf (aW (eL ⇑4 rfl (CT ⇑2))));rw[hb,aad,ad1,er];refine zS l (led r) (k+1) _ (λe he=>ht e (aat _ he)) (λz hz=>?_) ⇑2;rcases kK.mp hz with h|h;.grind
     .grind
def isP:D->Bool
 |.tuple l=>decide (1<=l.length/\l.length<=24)&&NR [0] l
 |_=>false
theorem Jz(h:Tame d):pz [d]=some (.bool (isP d)):=by
 rw[Jr]
 refine aP ?_
 have hi:=AY h.te (t:="tuple") ⇑0 (g:=ae 0) (δ:=[some d,none,none]) rfl
 by_cases ht:∃l,d=.tuple l
 .obtain ⟨l,rfl⟩:=ht;obtain⟨hl,hx⟩:=h.pl l rfl;have c1:=gp (x:=true) (gq (hi.trans rfl));have c2:iD (gB (dA yk yk (ay 1) (cQ b8 ⇑8) (ay 24))) [some (.tuple l),none,none]=some (!(decide (1<=l.length/\l.length<=24))):=by
   refine gp (bx ?_);show(match(PyData.bool (decide ((1:Int)<=(l.length:Int))))with|.bool true=>some (PyData.bool (decide ((l.length:Int)<=24)))|.bool false=>some (PyData.bool false)|_=>none)=_;by_cases h1:(1:Int)<=(l.length:Int)
   .rw [aaq h1];dsimp only;congr 2;rw[aeV,aa4,aa4];lia
   .grind
  refine cx (!(decide (1<=l.length/\l.length<=24))) (CL c1 c2) (λe=>?_) λe=>?_
  .refine cy (.bool false) rfl (.mk rfl ?_);have e2:decide (1<=l.length/\l.length<=24)=false:=by rw[af2]at e;exact e
   rw[isP,e2,aey]
  .have e2:1<=l.length/\l.length<=24:=by rw[Bool.not_eq_false']at e;exact afb e
   rw[isP,aaq e2,ad1,rL];refine bq [some (.tuple l),sL (([0]:List Int).map .int),none] rfl ?_;obtain⟨k1,k2⟩:=zS (th:=.tuple l) l [0] 0 none hx (by intro z hz;simp at hz;subst hz;decide) ⇑2;have hf:iq (aU (ae 0)) (aN 2) (aH ⇑14 (bI 1 (aX (cI dO 1 ⇑27)))) [some (.tuple l),sL (([0]:List Int).map .int),none]
     =kY (aN 2) (aH ⇑14 (bI 1 (aX (cI dO 1 ⇑27)))) l [some (.tuple l),sL (([0]:List Int).map .int),none]:=rfl;cases hck:NR [0] l with
   |true=>
     obtain⟨δ',e3⟩:=k1 hck;exact bq δ' (hf.trans e3) (ret (.bool true) rfl ⇑16)
   |false=>
     rw[rK (hf.trans (k2 hck))];exact .mk rfl rfl
 .have hn:tyName d≠"tuple":=λz=>by
   cases d with
   |tuple l=>exact ht ⟨l,rfl⟩
   |_=>simp[tyName]at z
  have c1:=gp (x:=false) (gq (hi.trans (by simp[hn])));refine cx true (by unfold NG;rw[c1];rfl) (λ_=>cy (.bool false) rfl (.mk rfl ?_)) λz=>nomatch z;cases d with
  |tuple l=>exact absurd ⟨l,rfl⟩ ht
  |_=>rfl
theorem U9(r:List Int)(h:r.length<64):TR (dR r):=⟨(CU (vv r)).up ⇑0,λl e=>by
 cases e
 exact⟨by simpa using h,λ8=>(vv r x hx).up ⇑0⟩⟩
theorem MN(h1:r≠[])(h2:oy r)(h3:∀x∈r,x∈T):MM T (dR r)=true:=by
 have Lq:qC (dR r)=some r:=jI r
 unfold MM Zi
 rw[Lq]
 rw[aaX,aaX,@aa4 _ (Classical.propDecidable _),abU]
 refine⟨⟨?_,h2⟩,λ8=>aaq (h3 x hx)⟩
 cases r with
 |nil=>exact(h1 rfl).elim
 |cons a l=>rfl
theorem CW:∀{q:dz} {r:List Int},J4 r q->NR (led r) (q.map dR)=true
 |[],_,_=>rfl
 |s::q,r,h=>by
   have Lq:qC (dR s)=some s:=jI s;rw[aaw,NR,MN h.1.1 h.1.2.1 h.1.2.2,ad1,Lq];exact CW h.2
theorem MO(hp:Pl p)(hl:p.length<=24):isP (cm p)=true:=by
 obtain⟨q,rfl,hq⟩:=hp.ex
 show(decide (1<=(([0]::q).map dR).length/\(([0]::q).map dR).length<=24)&&NR [0] (([0]::q).map dR))=true
 rw[decide_eq_true (show 1<=(([0]::q).map dR).length/\(([0]::q).map dR).length<=24 by simp at hl ⊢;exact hl),Bool.true_and,List.map_cons,NR,MN ⇑11 (by unfold oy;simp) ⇑11,Bool.true_and]
 exact CW hq
theorem JA(hl:p.length<=24)(qZ:∀r∈p,r.length<=25):Tame (cm p):=by
 have trp:∀x∈p.map dR,TR x:=λ8=>by
  obtain⟨r,hr,rfl⟩:=aaH.mp hx;exact U9 r (by have:=qZ r hr;lia)
 exact⟨CU λ8=>(trp x hx).te,λl e=>by cases e;exact⟨by simp;lia,trp⟩⟩
theorem sOk(h:∀c∈x.cps.toList,c<128):PyData.strOk x=true/\x.cps.all (·<128)=true:=by
 refine⟨?_,?_⟩
 .show x.cps.all (·<0x110000)=true;rw[Array.all_eq_true_iff_forall_mem];intro c hc;have:=h c (Array.mem_toList_iff.mpr hc);exact aaq ⇑2
 .grind
theorem Fd(hx:PyData.strOk x=true)(hy:PyData.strOk y=true):f9 (.str x) (.str y)=some (.bool (x==y)):=by
 rw[MJ ((MI x hx).sh ⇑0) ((MI y hy).sh ⇑0),PyData.eqv]
theorem wU{x y:Str}(h:x.cps.toList≠y.cps.toList):(x==y)=false:=by lia
noncomputable def nS(b:Int):Str:=Str.ofString (toString b)
noncomputable def nj(m:Nat):List Nat:=(Nat.toDigits 10 m).map Char.toNat
theorem fe(m:Nat):(nS (m:Nat)).cps.toList=nj m:=PySem.W.KIN.signs_num m
def Zk(m:Nat):Bool:=(nj m).all (λc=>decide (48<=c)&&decide (c<=57))&&!(nj m).isEmpty&&decide ((nj m).length<=2)&&(decide (m=0)||(!((nj m)[0]?==some 48)))
theorem Va:∀m,m<26->Zk m=true:=⋯
theorem dg0:nj 0=[48]:=⋯
structure Dg(m:Nat):Prop where
 xP:∀c∈nj m,48<=c/\c<=57
 ne:nj m≠[]
 len:(nj m).length<=2
 hd:m=0\/(nj m)[0]?≠some 48
theorem uA(h:m<26):Dg m:=by
 have k:=Va m h
 unfold Zk at k
 simp at k
 exact⟨k.1.1.1,k.1.1.2,k.1.2,k.2⟩
theorem acy:(("0123456789":Str)).cps.toList=[48,49,50,51,52,53,54,55,56,57]:=⋯
theorem MP:(("":Str)).cps.toList=[]:=⋯
theorem Rz:(("0":Str)).cps.toList=[48]:=⋯
theorem Vb(h1:48<=c)(h2:c<=57):yt true (.str ⟨#[c]⟩) (.str "0123456789")=some (.bool true):=by
 show some (PyData.bool ((!(Builtin.Str.occurrences ("0123456789":Str) ⟨#[c]⟩ 0 ("0123456789":Str).length 1).isEmpty)==true))=_
 rw[PySem.StrLaws.found_one,acy,aaq (by simp;lia)]
 rfl
theorem MQ(h:m<26):∀c∈(nS (m:Nat)).cps.toList,c<128:=λc hc=>by
 rw[fe]at hc
 have:=(uA h).xP c hc
 lia
theorem uB(h:m<26):gX [.str (nS (m:Nat))]=some (.bool true):=by
 rw[CM]
 refine aP ?_
 have g:=uA h
 obtain⟨k1,k2⟩:=sOk (MQ h)
 have o1:PyData.strOk ""=true:=⋯
 have o2:PyData.strOk "0"=true:=⋯
 have c1:gB (g2 f9 (ae 0) (cD "")) [some (.str (nS (m:Nat)))]=some false:=by
  refine bx (aj rfl rfl ((Fd k1 o1).trans ?_));rw[wU (by rw[fe,MP];exact g.ne)]
 have es:md (ae 0) [some (.str (nS (m:Nat)))]=some ((nj m).map λc=>PyData.str ⟨#[c]⟩):=by
  show(if(nS (m:Nat)).cps.all (·<128)=true then some (nP (nS (m:Nat)))else none)=_;rw[aav k2,nP,fe]
 have ec:cb (md (ae 0)) [] (g2 (yt true) (ae 0) (cD "0123456789")) [some (.str (nS (m:Nat)))]=some (((nj m).map λ_=>true).map .bool):=by
  refine dQ (λc:Nat=>PyData.str ⟨#[c]⟩) PyData.bool (λ_=>true) (nj m) es (by have:=g.len;lia) λc hc=>?_;exact aj rfl rfl (Vb (g.xP c hc).1 (g.xP c hc).2)
 have ca:fG (cQ Az (aa (aX (cb (md (ae 0)) [] (g2 (yt true) (ae 0) (cD "0123456789")))) ag)) [some (.str (nS (m:Nat)))]=some true:=by
  refine gq (eM (cons_of (aW ec) rfl) ?_);show(jb (((nj m).map λ_=>true).map .bool)).map _=_;rw[jX];simp
 refine bM (CL c1 (gp ca)) ?_
 refine ret (.bool true) ?_ ⇑16
 have e1:g2 f9 (ae 0) (cD "0") [some (.str (nS (m:Nat)))]=some (.bool (nS (m:Nat)=="0")):=aj rfl rfl (Fd k1 o2)
 unfold Ir
 rw[bx e1,aad]
 by_cases hz:nS (m:Nat)="0"
 .grind
 .rw [aa8.mpr hz,aaB ⇑0];have hm:m≠0:=λz=>hz (by
   subst z;refine aeS (aeF.mp ?_);rw[fe,dg0,Rz]);obtain⟨a,r,er⟩:∃a r,nj m=a::r:=by
   cases hd:nj m with
   |nil=>exact(g.ne hd).elim
   |cons a r=>exact⟨a,r,rfl⟩
  have ha:a≠48:=λz=>by
   rcases g.hd with h0|h0;.grind
   .grind
  have hlen:(nS (m:Nat)).length<=2:=by
   have e:(nS (m:Nat)).cps.toList.length=(nS (m:Nat)).length:=aaD;rw[<-e,fe];exact g.len
  have ix:bN (.str (nS (m:Nat))) (.int 0)=some (.str ⟨#[a]⟩):=by
   show(if(nS (m:Nat)).length<=100000 then(so (nS (m:Nat)).cps.toList 0).map (λc=>PyData.str ⟨#[c]⟩)else none)=_;rw[aav ⇑2,fe,er,show(0:Int)=((0:Nat):Int)from rfl,fJ (v:=a) rfl];rfl
  have oa:PyData.strOk ⟨#[a]⟩=true:=(sOk (x:=⟨#[a]⟩) (λc hc=>by
   have:c=a:=by simpa using hc
   subst this;have:=g.xP c (by rw[er];exact aan);lia)).1;refine aj (aj rfl rfl ix) rfl ?_;refine(AL (Fd oa o2)).trans ?_;rw[wU (by rw[Rz];simpa using ha)];rfl
theorem yu(h:m<26):gJ [.str (nS (m:Nat))]=some (.int (m:Nat)):=by
 refine aP ?_
 have hlen:(nS (m:Nat)).length<=2:=by
  have e:(nS (m:Nat)).cps.toList.length=(nS (m:Nat)).length:=aaD;rw[<-e,fe];exact(uA h).len
 have c1:iD (fG (aS gX 1 ⇑8)) [some (.str (nS (m:Nat)))]=some false:=gp (x:=true) (gq (call_of ⇑4 rfl (uB h)))
 have e2:cQ b8 ⇑8 [some (.str (nS (m:Nat)))]=some (.int ((nS (m:Nat)).length:Nat)):=by
  refine eM ⇑4 ?_;show(if(nS (m:Nat)).length<=100000 then some (PyData.int ((nS (m:Nat)).length:Nat))else none)=_;rw[aav ⇑2]
 have c2:gB (g2 ym (cQ b8 ⇑8) (ay 2)) [some (.str (nS (m:Nat)))]=some false:=by
  refine bx (aj e2 rfl ?_);show some (PyData.bool (decide ((2:Int)<((nS (m:Nat)).length:Nat))))=_;rw[aaG ⇑2]
 refine bM (CL c1 c2) ?_
 refine ret (.int (m:Nat)) (eM ⇑4 ?_) ⇑16
 show(if(nS (m:Nat)).length<=640 then(PySem.intText? (nS (m:Nat))).map PyData.int else none)=_
 rw[aav ⇑2,nS,PySem.W.KIN.num_reads ⇑2 ⇑2]
 rfl
theorem yw:(" ":Str)=⟨#[32]⟩:=⋯
theorem MR:("|":Str)=⟨#[124]⟩:=⋯
structure Ent(r:List Int):Prop where
 ne:r≠[]
 len:r.length<=25
 xP:∀b∈r,0<=b/\b<=24
def rS(r:List Int):Str:=Txt.join ⟨#[32]⟩ (r.map nS)
def pS(p:dz):Str:=Txt.join ⟨#[124]⟩ (p.map rS)
theorem AZ(h:0<=b/\b<=24):∃m:Nat,b=(m:Int)/\m<26:=⟨b.toNat,by lia,by lia⟩
theorem MS(h:0<=b/\b<=24):(nS b).length<=2:=by
 obtain⟨m,rfl,hm⟩:=AZ h
 have e:(nS (m:Nat)).cps.toList.length=(nS (m:Nat)).length:=aaD
 rw[<-e,fe];exact(uA hm).len
theorem RA(h:0<=b/\b<=24)(hc:c<48\/57<c):c∉(nS b).cps.toList:=by
 obtain⟨m,rfl,hm⟩:=AZ h
 rw[fe]
 intro hx
 have:=(uA hm).xP c hx
 lia
theorem Fe(h:Ent r):(rS r).length<=75:=by
 have k:=wJ (sep:=⟨#[32]⟩) (B:=2) (ts:=r.map nS) λt ht=>by
  obtain⟨b,hb,rfl⟩:=aaH.mp ht;exact MS (h.xP b hb)
 rw[aac]at k
 have:=h.len
 have e:(⟨#[32]⟩:Str).length=1:=rfl
 rw[e]at k
 unfold rS
 lia
theorem Zl(h:Ent r):JoinOk ⟨#[32]⟩ (r.map nS)=true:=by
 unfold JoinOk
 rw[ad9 (B:=2) (λt ht=>by
  obtain⟨b,hb,rfl⟩:=aaH.mp ht;exact MS (h.xP b hb)) (by rw[aac];have:=h.len;have e:(⟨#[32]⟩:Str).length=1:=rfl;rw[e];lia)]
 rfl
theorem RB{p:dz}(hl:p.length<=24)(h:∀r∈p,Ent r):JoinOk ⟨#[124]⟩ (p.map rS)=true:=by
 unfold JoinOk
 rw[ad9 (B:=75) (λt ht=>by
  obtain⟨r,hr,rfl⟩:=aaH.mp ht;exact Fe (h r hr)) (by rw[aac];have e:(⟨#[124]⟩:Str).length=1:=rfl;rw[e];lia)]
 rfl
theorem Ff(hl:p.length<=24)(h:∀r∈p,Ent r):(pS p).length<=2000:=by
 have k:=wJ (sep:=⟨#[124]⟩) (B:=75) (ts:=p.map rS) λt ht=>by
  obtain⟨r,hr,rfl⟩:=aaH.mp ht;exact Fe (h r hr)
 rw[aac]at k
 have e:(⟨#[124]⟩:Str).length=1:=rfl
 rw[e]at k
 unfold pS
 lia
theorem RC(h:Ent r)(hc:c<48\/57<c)(h32:c≠32):c∉(rS r).cps.toList:=by
 refine mem_join (by simpa using h32) λt ht=>?_
 obtain⟨b,hb,rfl⟩:=aaH.mp ht
 exact RA (h.xP b hb) hc
theorem Vc(h:∀r∈p,Ent r):∀c∈(pS p).cps.toList,c<128:=λc hc=>by
 rcases Nat.lt_or_ge c 128 with z|z
 .exact z
 .refine absurd hc (mem_join (by simp;lia) λt ht=>?_);obtain⟨r,hr,rfl⟩:=aaH.mp ht;exact RC (h r hr) ⇑2 ⇑2
theorem my(h1:go δ=fk sep)(h2:ge δ=some (.list (ns.map .str)))(h3:JoinOk sep ns=true):jm go ge δ=some (.str (Txt.join sep ns)):=by
 unfold jm
 rw[h1,aad,h2,aad]
 show(tm (ns.map PyData.str)).bind _=_
 rw[wt,aad,aav h3]
theorem Vd(h:0<=b/\b<=24):j2 [.int b]=some (.str (nS b)):=by
 show(if b.natAbs<1000000000 then some (PyData.str (Str.ofString (toString b)))else none)=_
 rw[aav ⇑2];rfl
theorem CY(h:Ent r)(e:g δ=some (dR r)):jm (cD " ") (aX (cb (aU g) [] (cQ j2 ⇑8))) δ=some (.str (rS r)):=by
 refine my (ns:=r.map nS) (show some (PyData.str (" ":Str))=_ by rw[yw]) (aW ?_) (Zl h)
 refine dQ PyData.int PyData.str nS r ?_ (by have:=h.len;lia) λ9=>eM ⇑4 (Vd (h.xP b hb))
 unfold aU;rw[e];rfl
theorem A1(h:Ent r):jt [dR r]=some (.str (rS r)):=by
 exact aP (ret _ (CY h rfl) ⇑16)
theorem CZ(hl:p.length<=24)(h:∀r∈p,Ent r):kG [cm p]=some (.str (pS p)):=by
 refine aP (ret (.str (pS p)) ?_ ⇑16)
 refine my (ns:=p.map rS) (show some (PyData.str ("|":Str))=_ by rw[MR]) (aW ?_) (RB hl h)
 exact dQ dR PyData.str rS p rfl ⇑2 λr hr=>call_of ⇑4 rfl (A1 (h r hr))
theorem pV(hl:p.length<=24)(h:∀r∈p,Ent r):fw [cm p]=some (.str (pS p)):=by
 refine aP (ret (.str (pS p)) ?_ ⇑16)
 refine my (ns:=p.map rS) (show some (PyData.str ("|":Str))=_ by rw[MR]) (aW ?_) (RB hl h)
 exact dQ dR PyData.str rS p rfl ⇑2 λr hr=>CY (h r hr) rfl
theorem rO(hc:c<256)(h1:go δ=fk a)(h2:ge δ=some (.str ⟨#[c]⟩))(h3:a.length<=2000):jc go ge δ=some ((Txt.split a ⟨#[c]⟩).map .str):=by
 have e1:(⟨#[c]⟩:Str).length=1:=rfl
 have hx:a.cps.toList.length=a.length:=aaD
 have hl:=wK c a.cps.toList
 have ok:me a ⟨#[c]⟩=true:=by
  unfold me;rw[e1,G8,tz,pq hc,aac,aaq (show a.length<=100000 by lia),aaq (show(dY c a.cps.toList).length<=100000 by lia)];rfl
 unfold jc
 rw[h1,aad,h2,aad]
 show(if me a ⟨#[c]⟩=true then some ((Txt.split a ⟨#[c]⟩).map PyData.str)else none)=_
 rw[aav ok]
theorem A2(h:Ent r):h9 [.str (rS r)]=some (dR r):=by
 refine aP (ret (dR r) (eM (cons_of (aW (l:=r.map PyData.int) ?_) rfl) rfl) ⇑16)
 have es:jc (ae 0) (cD " ") [some (.str (rS r))]=some ((r.map nS).map .str):=by
  refine(rO (c:=32) ⇑0 rfl (show some (PyData.str (" ":Str))=_ by rw[yw]) (by have:=Fe h;lia)).trans ?_;rw[rS,wI ⇑0 (by simpa using h.ne) λt ht=>?_];obtain⟨b,hb,rfl⟩:=aaH.mp ht;exact RA (h.xP b hb) ⇑2
 have ec:=dQ (λb:Int=>PyData.str (nS b)) PyData.int id r (gi:=aU (aX (jc (ae 0) (cD " ")))) (ix:=[]) (ge:=aS gJ 1 ⇑8) (δ:=[some (.str (rS r))]) (by unfold aU;rw[aW es,List.map_map];rfl) (by have:=h.len;lia) λ9=>by
  obtain⟨m,rfl,hm⟩:=AZ (h.xP b hb);exact call_of ⇑4 rfl (yu hm)
 rw[List.map_id]at ec
 exact ec
theorem C0(hp:Pl p)(hl:p.length<=24)(h:∀r∈p,Ent r):iZ [.str (pS p)]=some (cm p):=by
 refine aP ?_
 have iw:p≠[]:=by obtain⟨q,rfl,_⟩:=hp.ex;simp
 have es:jc (ae 0) (cD "|") [some (.str (pS p)),none]=some ((p.map rS).map .str):=by
  refine(rO (c:=124) ⇑0 rfl (show some (PyData.str ("|":Str))=_ by rw[MR]) (Ff hl h)).trans ?_;rw[pS,wI ⇑0 (by simpa using iw) λt ht=>?_];obtain⟨r,hr,rfl⟩:=aaH.mp ht;exact RC (h r hr) ⇑2 ⇑0
 have ec:=dQ (λr:List Int=>PyData.str (rS r)) dR id p (gi:=aU (aX (jc (ae 0) (cD "|")))) (ix:=[]) (ge:=aS h9 1 ⇑8) (δ:=[some (.str (pS p)),none]) (by unfold aU;rw[aW es,List.map_map];rfl) ⇑2 λr hr=>call_of ⇑4 rfl (A2 (h r hr))
 rw[List.map_id]at ec
 refine bq [some (.str (pS p)),some (cm p)] (bf (eM (cons_of (aW ec) rfl) rfl)) ?_
 have hi:=Jz (JA hl λr hr=>(h r hr).len)
 rw[MO hp hl]at hi
 refine bM (gp (x:=true) (gq (call_of ⇑4 rfl hi))) ?_
 exact ret (cm p) rfl ⇑16
theorem Ho:∀{q:dz} {r:List Int} {n:Nat},(∀x∈r,0<=x/\x<=(n:Int))->J4 r q->∀s∈q,s≠[]/\∀x∈s,0<=x/\x<=((n+q.length:Nat):Int)
 |[],_,_,_,_,_,hs=>absurd hs acA
 |t::q,r,n,hr,hc,s,hs=>by
   have ht:∀x∈t,0<=x/\x<=((n+1:Nat):Int):=λ8=>by
    rcases kK.mp (hc.1.2.2 x hx)with z|z;.grind
    .grind
   rcases aaj.mp hs with rfl|hs;.exact ⟨hc.1.1,λ8=>by have:=ht x hx;rw[aaz];lia⟩
   .obtain ⟨a,b⟩:=Ho ht hc.2 s hs;exact⟨a,λ8=>by have:=b x hx;rw[aaz];lia⟩
theorem Ve(hp:Pl p)(hl:p.length<=24)(qZ:∀r∈p,r.length<=25):∀r∈p,Ent r:=λr hr=>by
 obtain⟨q,rfl,hq⟩:=hp.ex
 rw[aaz]at hl
 rcases aaj.mp hr with rfl|hs
 .exact ⟨by simp,by simp,by simp⟩
 .obtain ⟨a,b⟩:=Ho (n:=0) ⇑11 hq r hs;exact⟨a,qZ r hr,λ8=>by have:=b x hx;lia⟩
theorem Fg(h1:gi δ=some ds)(h2:kY t b ds δ=r):iq gi t b δ=r:=by unfold iq;rw[h1];exact h2
theorem Zm(h:∀x,0<=A x)(b:Int):0<=lv A r b:=by
 have h1:=h (b-1)
 have h2:=h b
 unfold lv
 split<;>split<;>lia
theorem C1(h:∀x,0<=A x):∀(k:Nat) (b:Int),0<=WW A p k b
 |0,b=>by rw[WW_0];exact h b
 |k+1,b=>by rw[mw];exact Zm (C1 h k) b
theorem Hq(x:Int):0<=A0 x:=by unfold A0;split<;>lia
theorem MT(h:∀x,0<=A x)(hr:∀x∈r,0<A x)(hb:b∈led r):0<lv A r b:=by
 unfold lv
 rcases kK.mp hb with z|z
 .grind
 .grind
theorem Hr:∀{q:dz} {r:List Int},J4 r q->∀k x,x∈(r::q).getD (k+1) []->x∈led ((r::q).getD k [])
 |[],_,_,k,x,hx=>by simp at hx
 |s::q,r,hc,0,x,hx=>hc.1.2.2 x (by simpa using hx)
 |s::q,r,hc,k+1,x,hx=>by
   have:=Hr hc.2 k x (by simpa using hx);simpa using this
theorem Vf(h:Pl p)(k:Nat)(x:Int)(hx:x∈p.getD (k+1) []):x∈led (p.getD k []):=by
 obtain⟨q,rfl,hc⟩:=h.ex
 exact Hr hc k x hx
theorem Fh(h:Pl p):∀(k:Nat) (x:Int),x∈p.getD k []->0<WW A0 p k x
 |0,x,hx=>by
   obtain⟨q,rfl,hc⟩:=h.ex;rw[WW_0];have:x=0:=by simpa using hx
   subst this;decide
 |k+1,x,hx=>by
   rw[mw];exact MT (C1 Hq k) (Fh h k) (Vf h k x hx)
theorem Vg(h:Pl p)(k:Nat)(x:Int)(hx:x∈led (p.getD k [])):0<WW A0 p (k+1) x:=by
 rw[mw]
 exact MT (C1 Hq k) (Fh h k) hx
theorem Hs:∀(k:Nat),(∀j,j<k->p.getD j []=q.getD j [])->WW A p k=WW A q k
 |0,_=>by rw[WW_0,WW_0]
 |k+1,h=>by
   funext b;rw[mw,mw,h k ⇑2,Hs k λj hj=>h j ⇑2]
theorem Dt.get(h:Dt kds F)(hp:F b g≠0):dX kds [.inl b,.inl g]=some (.int (F b g)):=by
 have:=h b g
 cases e:dX kds [.inl b,.inl g]with
 |none=>rw[e]at this;exact absurd (by injection this with z;exact z.symm) hp
 |some d=>rw[e]at this;rw[show d=.int (F b g)from this]
def kL(p:dz):WF:=(cB 0 p).foldl eA (mr (0,0))
theorem C2(h:Pl p){k:Nat}(e:x+y=(k:Int)):kL p x y=WW A0 p k x:=MF h e
theorem JB(h:Pl p){n:Nat}(hr:p[n]?=some (bs++cs))(e:x+y=(n:Int)):(qB n bs).foldl eA ((cB 0 (p.take n)).foldl eA (mr (0,0))) x y=WW A0 p n x:=by
 have hn:=(aar.mp hr).1
 have hl:(p.take n).length=n:=by rw[acb];lia
 have e1:(qB n bs).foldl eA ((cB 0 (p.take n)).foldl eA (mr (0,0)))=(cB 0 (p.take n++[bs])).foldl eA (mr (0,0)):=by
  rw[jM,aew,hl,afB]
 rw[e1]
 have nd:=(AW h).1
 have hnd:∀s∈p.take n++[bs],s.Nodup:=by
  intro s hs;rcases aap.mp hs with z|z;.grind
  .rw [abA.mp z];have:=nd _ (aau hr);exact(List.nodup_append.mp this).1
 refine((wQ (p.take n++[bs]) 0 A0 (mr (0,0)) hnd ?_ ?_ x y).2 n (by push_cast;lia)).trans ?_
 .intro x y q;unfold mr A0;by_cases c:x=0;.grind
  .grind
 .intro x y q;unfold mr;lia
 .rw [Hs (q:=p) n λj hj=>?_];rw[aaC,aaC,acH ⇑2,List.getElem?_take_of_lt hj]
theorem MU(p:dz):jU (p.map dR)=p.zipIdx.map λx=>.tuple [.int (x.2:Nat),dR x.1]:=by
 unfold jU
 rw[afw,ad0]
 rfl
theorem wl1(l2:x<=y+1)(l1:y<=z+1)(h:z<=n+2*j):x<=n+2*(j+1):=by lia
theorem wl2(h:z<=1+50*i+2*j)(hi:i<L)(hL:L<=24)(hj:j<r)(hr:r<=25):z+1<100000:=by lia
theorem Fi(hp:Pl p)(hl:p.length<=24)(qZ:∀r∈p,r.length<=25):∃kds,kb [cm p]=some (.dict kds)/\Dt kds (kL p):=by
 have main:fN (kb [cm p]) λd=>∃kds,d=.dict kds/\Dt kds (kL p):=by
  refine bq [some (cm p),some (.dict [(dC (0,0),.int 1)]),none,none,none,none,none] rfl ?_;refine px (λx:List Int×Nat=>PyData.tuple [.int (x.2:Nat),dR x.1]) p.zipIdx (λi δ=>∃kds a b c d e,δ=[some (cm p),some (.dict kds),a,b,c,d,e]/\Dt kds ((cB 0 (p.take i)).foldl eA (mr (0,0)))/\kds.length<=1+50*i) ?_ ⟨_,_,_,_,_,_,rfl,?_,by simp⟩ ?_ ?_
  .show some (jU (p.map dR))=_;rw[MU]
  .refine ⟨rfl,λb g=>?_⟩;have:jl [] [.inl 0,.inl 0] (.int 1)=[(dC (0,0),.int 1)]:=rfl;rw[<-this];exact(Dt.put (kds:=[]) (F:=λ_ _=>0) ⟨rfl,λb g=>rfl⟩ 0 0 1) b g
  .rintro i ⟨r,n⟩ δ hi ⟨kds,a,b,c,d,e,rfl,hd,hlen⟩;rw[aeg]at hi;cases er:p[i]? with
   |none=>rw[er]at hi;cases hi
   |some r'=>
   rw[er]at hi;simp at hi;obtain⟨rfl,rfl⟩:=hi;have Ly:=(aar.mp er).1;have Wi:=qZ r' (aau er);have ht:p.take (i+1)=p.take i++[r']:=by rw[adV,er];rfl
   have PY:(p.take i).length=i:=by rw[acb];lia
   obtain⟨G,hG⟩:∃G,G=(cB 0 (p.take i)).foldl eA (mr (0,0)):=⟨_,rfl⟩;rw[<-hG]at hd;obtain⟨δ',e2,Zn,c2,d2,Wa,rfl,hd2,Yc⟩:=AK (t:=aN 4)
    (b:=(aH (bI 5 (Cf (ae 1) (cj (aa (ae 4) (aa (g2 eZ (ae 2) (ae 4)) ag)))))
     (iq (aU ⇑32) (aN 6)
      (zD 1 (ae 6) (g2 aA (ma (ae 1) (ae 6) (ay 0)) (ae 5)))))) PyData.int
    (λj δ=>∃kds c d e,δ=[some (cm p),some (.dict kds),sI (i:Nat),some (dR r'),c,d,e]/\Dt kds ((qB i (r'.take j)).foldl eA G)/\kds.length<=1+50*i+2*j) r' (δ:=[some (cm p),some (.dict kds),sI (i:Nat),some (dR r'),c,d,e]) ⟨kds,c,d,e,rfl,hd,by lia⟩ (by
     rintro j x δ hj ⟨kds,c,d,e,rfl,hd,hlen⟩;have hjl:=(aar.mp hj).1;have hxr:=aau hj;obtain⟨F,hF⟩:∃F,F=(qB i (r'.take j)).foldl eA G:=⟨_,rfl⟩;rw[<-hF]at hd;obtain⟨k,hk⟩:∃k:Int×Int,k=(x,(i:Int)-x):=⟨_,rfl⟩;have ME:(qB i (r'.take (j+1))).foldl eA G=eA F k:=by
      rw[adV,hj];unfold qB at hF ⊢;rw[abj,aew,<-hF,hk];rfl
     have IF:F k.1 k.2=WW A0 p i x:=by
      rw[hF,hG,hk];exact JB hp (cs:=r'.drop j) (by rw[afd];exact er) (by show x+((i:Int)-x)=_;lia)
     have U4:F k.1 k.2≠0:=by
      have:=Fh hp i x (by rw[aaC,er];exact hxr);lia
     obtain⟨k1,IC⟩:∃k1,k1=jl kds [.inl (k.1+1),.inl k.2] (.int (F (k.1+1) k.2+F k.1 k.2)):=⟨_,rfl⟩;have J1:=hd.put (k.1+1) k.2 (F (k.1+1) k.2+F k.1 k.2);rw[<-IC]at J1;have hd2:=J1.put k.1 (k.2+1) (F k.1 (k.2+1)+F k.1 k.2);have l1:k1.length<=kds.length+1:=by rw[IC];exact pj _ _ _
     have hz:=wl2 hlen Ly hl hjl Wi;have l2:=pj k1 [.inl k.1,.inl (k.2+1)] (.int (F k.1 (k.2+1)+F k.1 k.2));refine⟨_,[some (cm p),some (.dict (jl k1 [.inl k.1,.inl (k.2+1)] (.int (F k.1 (k.2+1)+F k.1 k.2)))),sI (i:Nat),some (dR r'),sI x,sI (F k.1 k.2),some (dC (k.1,k.2+1))],rfl,?_,_,_,_,_,rfl,?_,wl1 l2 l1 hlen⟩
     .refine cL [some (cm p),some (.dict kds),sI (i:Nat),some (dR r'),sI x,sI (F k.1 k.2),e] (bf ((PV (c:=k) rfl (by rw[hk];rfl)).trans (hd.get U4))) ?_;unfold iq;have hit:aU ⇑32 [some (cm p),some (.dict kds),sI (i:Nat),some (dR r'),sI x,sI (F k.1 k.2),e]=some [dC (k.1+1,k.2),dC (k.1,k.2+1)]:=by
       show some [dC (x+1,(i:Int)-x),dC (x,(i:Int)-x+1)]=_;rw[hk]
      rw[hit,aad];refine Zg [some (cm p),some (.dict kds),sI (i:Nat),some (dR r'),sI x,sI (F k.1 k.2),some (dC (k.1+1,k.2))] [some (cm p),some (.dict k1),sI (i:Nat),some (dR r'),sI x,sI (F k.1 k.2),some (dC (k.1+1,k.2))] [some (cm p),some (.dict k1),sI (i:Nat),some (dR r'),sI x,sI (F k.1 k.2),some (dC (k.1,k.2+1))] _ rfl ?_ rfl ?_;.refine (vt (c:=(k.1+1,k.2)) rfl rfl (aj ((ki (c:=(k.1+1,k.2)) rfl rfl rfl).trans (abR some (hd (k.1+1) k.2))) rfl rfl) (Nat.lt_of_succ_lt hz)).trans ?_;rw[IC];rfl
      .have h5:(dX k1 [.inl k.1,.inl (k.2+1)]).getD (.int 0)=.int (F k.1 (k.2+1)):=by
        have:=J1 k.1 (k.2+1);rw[this];rw[aaB ⇑2]
       exact vt (c:=(k.1,k.2+1)) rfl rfl (aj ((ki (c:=(k.1,k.2+1)) rfl rfl rfl).trans (abR some h5)) rfl rfl) (abJ l1 hz)
     .rw [ME];refine⟨hd2.fn,λx y=>?_⟩;rw[hd2 x y];congr 1;show(if x=k.1/\y=k.2+1 then _ else if x=k.1+1/\y=k.2 then _ else F x y)=F x y+_+_;by_cases c1:x=k.1/\y=k.2+1;.grind
      .rw [aaB c1,aaB c1];by_cases c2:x=k.1+1/\y=k.2;.grind
       .rw [aaB c2,aaB c2];lia);refine⟨_,[some (cm p),some (.dict Zn),sI (i:Nat),some (dR r'),c2,d2,Wa],rfl,?_,Zn,_,_,_,_,_,rfl,?_,by lia⟩;.exact Fg rfl e2
   .rw [ht,jM,aew,PY,afB,<-hG];rw[adY]at hd2;exact hd2
  .rintro δ' ⟨kds,a,b,c,d,e,rfl,hd,_⟩;rw[ae0,adY]at hd;exact ret (.dict kds) rfl (.mk rfl ⟨kds,rfl,hd⟩)
 obtain⟨_,e,kds,rfl,hd⟩:=main
 exact⟨kds,e,hd⟩
theorem C3:∀{q:dz} {n:Nat},c∈cB n q->∃k,k<q.length/\c.1∈q.getD k []/\c.1+c.2=((n+k:Nat):Int)
 |[],n,h=>by simp[cB]at h
 |r::q,n,h=>by
   rw[cB,aap]at h;rcases h with h|h;.obtain ⟨b,hb,rfl⟩:=aaH.mp h;exact⟨0,by simp,by simpa using hb,by show b+((n:Int)-b)=_;lia⟩
   .obtain ⟨k,h1,h2,h3⟩:=C3 h;exact⟨k+1,by simpa using h1,by simpa using h2,by rw[h3];lia⟩
theorem Ht:∀(k:Nat) (b:Int),WW A0 p k b<=2^k
 |0,b=>by rw[WW_0];unfold A0;split<;>decide
 |k+1,b=>by
   have h1:=Ht (p:=p) k (b-1);have h2:=Ht (p:=p) k b;have h3:=C1 (p:=p) Hq k (b-1);rw[mw,Int.pow_succ];unfold lv;split<;>split<;>lia
structure RD(p:dz)(c:Int×Int)(b g:Nat):Prop where
 eq:c=((b:Int),(g:Int))
 dr:b+g<=p.length
 d1:1<=b+g
 led:(b:Int)∈led (p.getD (b+g-1) [])
 ww:kL p c.1 c.2=WW A0 p (b+g) b
 pos:0<kL p c.1 c.2
 le:kL p c.1 c.2<=2^(b+g)
theorem P8{k:Nat}(h:(0<=x/\x<=(k:Int))\/(0<=x-1/\x-1<=(k:Int)))(e:x+y=((1+k:Nat):Int)):∃b g:Nat,x=(b:Int)/\y=(g:Int)/\b+g=k+1/\x+y=((b+g:Nat):Int):=⟨x.toNat,y.toNat,by lia,by lia,by lia,by lia⟩
theorem Vh(hp:Pl p)(h:c∈cB 1 (p.map led)):∃b g:Nat,RD p c b g:=by
 obtain⟨k,h1,h2,h3⟩:=C3 h
 rw[aac]at h1
 have e:(p.map led).getD k []=led (p.getD k []):=by grind
 rw[e]at h2
 have hr:=(AW hp).2 k
 obtain⟨b,g,OW,hg',hn,hs⟩:=P8 ((kK.mp h2).imp (hr _) (hr _)) h3
 have hw:kL p c.1 c.2=WW A0 p (b+g) b:=by rw[C2 hp (k:=b+g) hs,OW]
 refine⟨b,g,Prod.ext OW hg',hn ▸ h1,hn ▸ afj (abO k),?_,hw,?_,?_⟩
 .grind
 .rw [hw,hn,<-OW];exact Vg hp k _ h2
 .rw [hw];exact Ht _ _
theorem Hu(hp:Pl p):jn p=(cB 1 (p.map led)).filter λc=> !Ry p c:=by
 obtain⟨q,rfl,_⟩:=hp.ex
 unfold jn
 rw[List.filter_cons_of_neg]
 have:Ry ([0]::q) (0,0)=true:=by unfold Ry;simp
 rw[this];decide
theorem Vi(hp:Pl p)(h:c∈jn p):∃b g:Nat,RD p c b g:=by
 rw[Hu hp]at h
 exact Vh hp (List.mem_filter.mp h).1
theorem wV(hl:p.length<=24)(qZ:∀r∈p,r.length<=25):(jn p).length<=1201:=by
 refine aa6 (aff _ _) ?_
 have:=lO (p.map led) 1 (λs hs=>by
  obtain⟨t,ht,rfl⟩:=aaH.mp hs;have:=mx (r:=t);have:=qZ t ht;lia)
 rw[aac]at this
 rw[aaz];lia
theorem C4(hp:Pl p)(hl:p.length<=24)(qZ:∀r∈p,r.length<=25):ka [cm p]=some ((jn p).map dC):=by
 rw[E6 hl qZ,Hu hp];rfl
def lC(P:Int->Nat->Bool):Nat->List Int->Nat->dz
 |0,_,_=>[]
 |k+1,th,n=>if th.filter (λb=>P b n)=[]then[]else th.filter (λb=>P b n)::lC P k (led (th.filter λb=>P b n)) (n+1)
theorem kM(h:th.filter (λb=>P b n)=[]):∀k,lC P k th n=[]
 |0=>rfl
 |k+1=>by rw[lC,aav h]
theorem kj(h:th.filter (λb=>P b n)≠[]):lC P (k+1) th n=th.filter (λb=>P b n)::lC P k (led (th.filter λb=>P b n)) (n+1):=by rw[lC,aaB h]
theorem rP(h1:∀b n,n<e->P b n=P' b n)(h2:∀b,P b e=false):∀(m k:Nat) (th:List Int) (n:Nat),n+m=e->lC P (m+k) th n=lC P' m th n
 |0,k,th,n,h=>by
   have:n=e:=by lia
   subst this;exact kM (List.filter_eq_nil_iff.mpr λb _=>by rw[h2 b];simp) _
 |m+1,k,th,n,h=>by
   have hf:th.filter (λb=>P b n)=th.filter (λb=>P' b n):=List.filter_congr λb _=>h1 b n ⇑2;rw[show m+1+k=m+k+1 by lia];by_cases q:th.filter (λb=>P b n)=[];.rw [kM q,kM (hf ▸ q)]
   .rw [kj q,kj (by rw[<-hf];exact q),hf,rP h1 h2 m k _ (n+1) ⇑2]
def Rw(th:List Int)(n:Nat):Prop:=oy th/\∀x∈th,0<=x/\x<=(n:Int)
theorem Rw.JY(h:Rw th n)(p:Int->Bool):Rw (th.filter p) n:=⟨h.1.sublist aeM,λ8=>h.2 x (aeM.subset hx)⟩
theorem Rw.led(h:Rw th n):Rw (led th) (n+1):=⟨jH,λ8=>by
 rcases kK.mp hx with q|q
 .have:=h.2 x q;lia
 .have:=h.2 _ q;lia⟩
theorem Rw.len(h:Rw th n):th.length<=n+1:=by
 have:=rM h.1 h.2
 lia
theorem rw0:Rw [0] 0:=⟨by unfold oy;simp,by intro x hx;simp at hx;subst hx;decide⟩
theorem Hv:∀(k:Nat) (th:List Int) (n:Nat),Rw th n->(lC P k th n).length<=k/\∀r∈lC P k th n,r.length<=n+k
 |0,_,_,_=>⟨aah _,λr hr=>by simp[lC]at hr⟩
 |k+1,th,n,h=>by
   by_cases q:th.filter (λb=>P b n)=[];.rw [kM q];exact⟨abO _,λr hr=>by simp at hr⟩
   .obtain ⟨a,b⟩:=Hv (P:=P) k _ (n+1) (h.JY λb=>P b n).led;rw[kj q];refine⟨by rw[aaz];lia,λr hr=>?_⟩;rcases aaj.mp hr with z|z;.subst z;have:=(h.JY λb=>P b n).len;lia
    .grind
theorem P9{l:List Int}:(l.filter p).length<=l.length:=by grind
theorem JC(h:r.length<32):dO [.list (r.map .int)]=some ((led r).map .int):=by
 exact aP (ret (.list ((led r).map .int)) (aW (wN (a:=aX (Aj nH ⇑8)) (b:=ae 0) (r:=r) rfl (.inl rfl) h)) ⇑16)
theorem MV(h0:δ[i]?=some (some (j1 f c q)))(h:g δ=some ds)(hn:ds.length=n)(hG:G ds=r):tf f c q G n i g δ=r:=by
 unfold tf
 rw[aav h0,h,aad,aav hn]
 exact hG
theorem MW(h:g δ=some (.bool b)):fG g δ=some b:=by unfold fG;rw[h];rfl
theorem JD{δ:DS}(W:Nat->DS->Prop)(d:D)(m:Nat)(h:W m δ)
  (hs:∀m δ,W m δ->c δ=some true/\((∃δ' m',b δ=some (.nx δ')/\m'<m/\W m' δ')\/b δ=some (.rt d)))(k:fN (f (.rt d)) R):fN ((ja c b δ).bind f) R:=by
 obtain⟨r,e,hr⟩:=zq W (λ_ r=>r=.rt d) m δ h λm δ w=>by
  obtain⟨h1,h2⟩:=hs m δ w;rcases h2 with⟨δ',m',a,b,c⟩|h2;.exact .inr ⟨h1,.inl ⟨δ',m',.inl a,b,c,λ_ h=>h⟩⟩
  .grind
 subst hr
 rw[e]
 exact k
theorem jx(hG:∀(b:Int) (n:Nat),0<=b->b<=(n:Int)->n<=24->G [.int b,.int (n:Nat)]=some (.bool (P b n)))(hz:∀b,P b 24=false)(f c:Addr)(q:Str):
  cu f c q G [j1 f c q]=some (cm (lC P 25 [0] 0)):=by
 rw[AN]
 refine aP ?_
 refine bq [some (j1 f c q),sL ([]),none,none,none] rfl ?_
 refine bq [some (j1 f c q),sL ([]),sL (([0]:List Int).map .int),none,none] rfl ?_
 refine JD (λm δ=>∃(pl:dz) (th:List Int) (x y:Option D),δ=[some (j1 f c q),sL (pl.map dR),sL (th.map .int),x,y]/\pl.length+m=25/\1<=m/\Rw th pl.length/\pl++lC P m th pl.length=lC P 25 [0] 0)
  (cm (lC P 25 [0] 0)) 25 ⟨[],[0],none,none,rfl,rfl,by decide,rw0,rfl⟩ ?_ ⇑16
 rintro m δ ⟨pl,th,x,y,rfl,hm,hm1,hw,hp⟩
 refine⟨rfl,?_⟩
 have hlen:=hw.len
 have e1:cQ b8 (aa (ae 1) ag) [some (j1 f c q),sL (pl.map dR),sL (th.map .int),x,y]=some (.int (pl.length:Nat)):=by
  show some (PyData.int (((pl.map dR).length:Nat):Int))=_;rw[aac]
 have e2:di (aU (ae 2)) 1 [0,3] (aN 0) (fG (tf f c q G 2 1 (aa (ae 0) ⇑27))) (ae 0) [some (j1 f c q),sL (pl.map dR),sL (th.map .int),sI (pl.length:Nat),y]=some ((th.filter λb=>P b pl.length).map .int):=by
  refine(rN PyData.int PyData.int (λx=>x) (λb=>P b pl.length) th rfl ⇑2 (λ9=>?_) λb _ _=>rfl).trans (by rw[agt]);have:=hw.2 b hb;exact MW (MV rfl (cons_of rfl ⇑4) rfl (hG b pl.length this.1 this.2 ⇑2))
 have hf:=P9 (l:=th) (p:=λb=>P b pl.length)
 have e3:gB (g2 f9 (cQ b8 (aa (ae 4) ag)) (gC (.int 0))) [some (j1 f c q),sL (pl.map dR),sL (th.map .int),sI (pl.length:Nat),sL ((th.filter λb=>P b pl.length).map .int)]=some (decide (th.filter (λb=>P b pl.length)=[])):=by
  refine bx ?_;show some (PyData.bool (decide (((((th.filter λb=>P b pl.length).map PyData.int).length:Nat):Int)=0)))=_;rw[aac];congr 3;rw[<-List.length_eq_zero_iff];simp
 by_cases hq:th.filter (λb=>P b pl.length)=[]
 .have QS:pl=lC P 25 [0] 0:=by rw[kM hq,abr]at hp;exact hp
  rw[<-QS];refine .inr ?_;.refine cL _ (bf e1) (cL _ (bf (aW e2)) ?_);exact rK (kh true (e3.trans (by rw[aaq hq])) (λ_=>rfl) λz=>nomatch z)
 .have hn:pl.length≠24:=λh=>hq (List.filter_eq_nil_iff.mpr λb _=>by rw[h,hz b];simp);obtain⟨k,rfl⟩:∃k,m=k+1:=⟨m-1,by lia⟩;have e4:=JC (r:=th.filter λb=>P b pl.length) ⇑2;refine .inl ⟨[some (j1 f c q),sL ((pl++[th.filter λb=>P b pl.length]).map dR),sL ((led (th.filter λb=>P b pl.length)).map .int),sI (pl.length:Nat),sL ((th.filter λb=>P b pl.length).map .int)],k,?_,by lia,⟨_,_,_,_,rfl,by rw[aak,aaW];lia,by lia,?_,?_⟩⟩
  .refine cL _ (bf e1) (cL _ (bf (aW e2)) (cL [some (j1 f c q),sL (pl.map dR),sL (th.map .int),sI (pl.length:Nat),sL ((th.filter λb=>P b pl.length).map .int)] (wL (e3.trans (by rw[aaG hq]))) (cL [some (j1 f c q),sL (pl.map dR),sL (th.map .int),sI (pl.length:Nat),sL ((th.filter λb=>P b pl.length).map .int)] (wL (bx (b:=false) ?_)) (cL _ (kg (ds:=pl.map dR) (d:=dR (th.filter λb=>P b pl.length)) rfl rfl (by rw[aac];lia)) ?_))))
   .show some (PyData.bool (decide ((pl.length:Int)=24)))=_;rw[aaG ⇑2]
   .refine (bf (aW (eL ⇑4 rfl e4))).trans ?_;rw[abj];rfl
  .rw [aak,aaW];exact(hw.JY _).led
  .rw [aak,aaW,abt,afe,<-kj hq];exact hp
theorem Zo{l:List Int}{k:Nat}(h:l[k]?=some x):bN (.list (l.map .int)) (.int (0+(k:Int)))=some (.int x):=by
 rw[Int.zero_add]
 exact fJ (by rw[aas,h];rfl)
theorem vw{l:List Int}(h:k<l.length):l[k]?=some (l.getD k d):=by grind
theorem wW(c:Int)(bs:List Int)(hb:∀b∈bs,0<b/\b<=10^30)(hl:bs.length<=100):fN (gK [.int c,.list (bs.map .int)]) λds=>∃l:List Int,ds=l.map .int/\l.length=bs.length/\∀(i:Nat) (b x:Int),bs[i]?=some b->l[i]?=some x->0<=x/\x<b:=by
 have p18:nD (.int 10) (.int 18)=some (.int (10^18)):=Ha (k:=18) ⇑0 ⇑0
 have hc:gB (dA p6 p6 (g1 lZ (g2 nD (ay 10) (ay 18))) (ae 0) (g2 nD (ay 10) (ay 18))) [sI c,sL (bs.map .int),none,none,none]=some (decide (-(10^18:Int)<c)&&decide (c<(10^18:Int))):=
  bx (pF (x:=.int (-(10^18:Int))) (by unfold g1;rw[show g2 nD (ay 10) (ay 18) _=_ from aj rfl rfl p18];rfl) rfl rfl (aj rfl rfl p18) rfl)
 have eln:∀x y z:Option D,cQ b8 (aa (ae 1) ag) [sI c,sL (bs.map .int),x,y,z]=some (.int (bs.length:Nat)):=λx y z=>by
  show some (PyData.int (((bs.map PyData.int).length:Nat):Int))=_;rw[aac]
 refine cx _ hc (λ_=>?_) λ_=>?_
 .obtain ⟨_,e1,row,rfl,Wi,_⟩:=uy c 1000003 bs.length ⇑0 ⇑2;rw[seq_assoc];refine bq [sI c,sL (bs.map .int),sL (row.map .int),none,none] (bf (aW (eL (cons_of rfl (cons_of rfl (cons_of (eln _ _ _) rfl))) rfl e1))) ?_;have e2:cb (gM (aa (cQ b8 (aa (ae 1) ag)) ag)) [2,1] (g2 eD (g2 bN (ae 1) (ae 0)) (g2 bN (ae 2) (ae 0))) [sI c,sL (bs.map .int),sL (row.map .int),none,none]=some (((List.range bs.length).map λk=>row.getD k 0%bs.getD k 1).map .int):=by
   refine dQ (λk:Nat=>PyData.int (0+(k:Int))) PyData.int (λk=>row.getD k 0%bs.getD k 1) (List.range bs.length) (jJ (cons_of (eln _ _ _) rfl) ⇑2) (by rw[aev];lia) λk hk=>?_;have hk:=ad2.mp hk;have Vj:=hb (bs.getD k 1) (aau (vw hk));exact aj (aj rfl rfl (Zo (vw (d:=0) ⇑2))) (aj rfl rfl (Zo (vw (d:=1) hk))) (fW Vj.1)
  refine cy _ (aW e2) (.mk rfl ⟨_,rfl,by rw[aac,aev],λi b x h1 h2=>?_⟩);have hi:=(aar.mp h1).1;rw[aas,afz hi]at h2;have h3:=vw (d:=1) hi;rw[h1]at h3;have Vj:=hb b (aau h1);cases h2;show 0<=row.getD i 0%bs.getD i 1/\row.getD i 0%bs.getD i 1<b;rw[<-Option.some.inj h3];exact⟨aco _ ⇑2,abN _ Vj.1⟩
 .rw [rL];refine bq [sI c,sL (bs.map .int),none,sL ([]),none] rfl ?_;refine bq [sI (c/2),sL (bs.map .int),none,sL ([]),none] (bf (aj rfl rfl (dd 2 ⇑0 ⇑0))) ?_;refine px PyData.int bs (λi δ=>∃(c':Int) (l:List Int) (z:Option D),δ=[sI (c'),sL (bs.map .int),none,sL (l.map .int),z]/\l.length=i/\∀(j:Nat) (b x:Int),bs[j]?=some b->l[j]?=some x->0<=x/\x<b) rfl ⟨c/2,[],none,rfl,rfl,λj b x _ h=>by simp at h⟩ ?_ ?_
  .rintro i b δ hi ⟨c',l,z,rfl,Z8,hx⟩;have Vj:=hb b (aau hi);have hib:=(aar.mp hi).1;refine⟨_,[sI (c'/b),sL (bs.map .int),none,sL ((l++[c'%b]).map .int),sI b],rfl,cL [sI (c'),sL (bs.map .int),none,sL ((l++[c'%b]).map .int),sI b] ((kg (d:=.int (c'%b)) rfl (aj rfl rfl (fW Vj.1)) (by rw[aac];lia)).trans (by rw[abj];rfl)) (bf (aj rfl rfl (CI Vj.1 (CH (nW (m:=100) ⇑2) ⇑0)))),c'/b,_,_,rfl,by rw[aak,aaW,Z8],λj b' x h1 h2=>?_⟩;by_cases hj:j<l.length;.grind
   .have hj2:j<(l++[c'%b]).length:=(aar.mp h2).1;rw[aak,aaW]at hj2;have:j=i:=by lia
    subst this;rw[abI ⇑2,show j-l.length=0 by lia]at h2;cases h2;rw[hi]at h1;cases h1;exact⟨aco _ ⇑2,abN _ Vj.1⟩
  .rintro δ' ⟨c',l,z,rfl,Z8,hx⟩;exact ret (.list (l.map .int)) rfl (.mk rfl ⟨l,rfl,Z8,hx⟩)
theorem yx(c:Int)(bs:List Int)(hb:∀b∈bs,0<b/\b<=1000)(hl:bs.length<=100):fN (gK [.int c,.list (bs.map .int)]) λds=>∃l:List Int,ds=l.map .int/\l.length=bs.length/\∀(i:Nat) (b x:Int),bs[i]?=some b->l[i]?=some x->0<=x/\x<b:=
 wW c bs (λb h=>⟨(hb b h).1,Int.le_trans (hb b h).2 ⇑0⟩) hl
theorem gP(h:g δ=some d):jS g δ=some (.nx δ):=by unfold jS;rw[h];rfl
theorem lq(h1:a δ=some (.bool true))(h2:b δ=some (.bool r)):fT a b δ=some (.bool r):=(AV h1 λ_=>h2).trans (by rw[ad1])
theorem wX(h1:a δ=some (.int x))(h2:b δ=some (.int y))(h:y<=x):g2 Gs a b δ=some (.bool true):=aj h1 h2 (by
 show some (PyData.bool (decide (y<=x)))=_
 rw[aaq h])
theorem jN:c8 [.bool true]=some .none:=rfl
theorem c24(e:g δ=some (.int (n:Nat)))(a:1<=n)(b:n<=24):dA yk yk (gC (.int 1)) g (gC (.int 24)) δ=some (.bool true):=Mu rfl e (show some (PyData.bool (decide ((1:Int)<=(n:Int))))=_ by rw[aaq ⇑2]) rfl (show some (PyData.bool (decide ((n:Int)<=24)))=_ by rw[aaq ⇑2])
theorem JE(h4:1<=d)(h5:d<=24):pB [.int (d:Nat)]=some (cm (lC (λ_ _=>true) d [0] 0)):=by
 refine aP ?_
 refine bq _ (gP (call_of (cons_of (c24 rfl h4 h5) rfl) rfl jN)) ?_
 refine ret _ ?_ ⇑16
 show(some [(d:Int)]).bind _=_
 rw[aad,<-rP (P:=λ_ n=>decide ((n:Int)<(d:Int))) (P':=λ_ _=>true) (e:=d) (λb n hn=>aaq ⇑2) (λb=>aaG ⇑2) d (25-d) _ 0 ⇑2,show d+(25-d)=25 by lia]
 exact vo λf c=>jx (P:=λ_ n=>decide ((n:Int)<(d:Int))) (λb n _ _ _=>rfl) (λb=>aaG ⇑2) f c _
theorem Vk(h1:1<=m)(h2:m<=24)(h4:1<=d)(h5:d<=24):AQ [.int (m:Nat),.int (d:Nat)]=some (cm (lC (λb _=>decide (b<(m:Int))) d [0] 0)):=by
 refine aP ?_
 refine bq _ (gP (call_of (cons_of (lq (c24 rfl h1 h2) (c24 rfl h4 h5)) rfl) rfl jN)) ?_
 refine ret _ ?_ ⇑16
 show(some [(m:Int),(d:Int)]).bind _=_
 rw[aad,<-rP (P:=λb n=>decide (b<(m:Int))&&decide ((n:Int)<(d:Int))) (e:=d) (λb n hn=>by rw[aaq (show(n:Int)<(d:Int)by lia),Bool.and_true]) (λb=>by rw[aaG (show ¬(d:Int)<(d:Int)by lia),afG]) d (25-d) _ 0 ⇑2,show d+(25-d)=25 by lia]
 exact vo λf c=>jx (P:=λb n=>decide (b<(m:Int))&&decide ((n:Int)<(d:Int))) (λb n _ _ _=>AV rfl λ_=>rfl) (λb=>by rw[aaG (show ¬(((24:Nat):Int)<(d:Int))by lia),afG]) f c _
def NS(f:Nat)(low high:Int)(b:Int)(n:Nat):Bool:=if n=f then decide (low<b)&&decide (b<high)else true
theorem C5(h1:1<=f)(h2:1<=s)(h3:f+s<=24)(h4:-1<=low)(h5:low<high):
  kH [.int (f:Nat),.int low,.int high,.int (s:Nat)]=some (cm (lC (NS f low high) (f+s) [0] 0)):=by
 refine aP ?_
 refine bq _ (gP (call_of (cons_of (lq (wX rfl rfl (show(1:Int)<=(f:Int)by lia)) (lq (wX rfl rfl (show(1:Int)<=(s:Int)by lia)) (aj (aj rfl rfl rfl) rfl (show some (PyData.bool (decide ((f:Int)+(s:Int)<=24)))=_ by rw[aaq ⇑2])))) rfl) rfl jN)) ?_
 refine bq _ (gP (call_of (cons_of (lq (wX rfl (show g1 lZ (gC (.int 1)) _=some (.int (-1))from rfl) h4) (aj rfl rfl (show some (PyData.bool (decide (low<high)))=_ by rw[aaq h5]))) rfl) rfl jN)) ?_
 refine ret _ ?_ ⇑16
 show(some [(f:Int),low,high,(s:Int)]).bind _=_
 rw[aad,<-rP (P:=λb n=>if n=f then decide (low<b)&&decide (b<high)else decide ((n:Int)<(f:Int)+(s:Int))) (P':=NS f low high) (e:=f+s) (λb n hn=>by
  unfold NS;split;.rfl
  .exact aaq ⇑2) (λb=>by rw[aaB ⇑2];exact aaG ⇑2) (f+s) (25-(f+s)) [0] 0 ⇑2,show f+s+(25-(f+s))=25 by lia]
 refine vo λfa c=>jx (P:=λb n=>if n=f then decide (low<b)&&decide (b<high)else decide ((n:Int)<(f:Int)+(s:Int))) (λb n hb hbn hn=>?_) (λb=>?_) fa c _
 .refine aP ?_;refine cx (decide ((n:Int)=(f:Int))) (bx (aj rfl rfl rfl)) (λh=>?_) λh=>?_
  .rw [aa4]at h;have hn:n=f:=by lia
   refine cy _ (pF rfl rfl rfl rfl rfl) (.mk rfl ?_);rw[aav hn]
  .rw [decide_eq_false_iff_not]at h;rw[rL];refine ret _ (aj rfl (aj rfl rfl rfl) rfl) (.mk rfl ?_);rw[aaB ⇑2]
 .grind
noncomputable def hgt(rise run b n:Int):Int:=run*b-rise*n
def Vl(rise run below above:Int)(b:Int)(n:Nat):Bool:=decide (-below<hgt rise run b n)&&decide (hgt rise run b n<above)
theorem RE{g:bj}{rise run below above b:Int}{n:Nat}(e1:x1 δ=some (.int run))(e2:x2 δ=some (.int b))(e3:x3 δ=some (.int rise))(e4:x4 δ=some (.int (n:Nat)))(e5:x5 δ=some (.int below))(e6:x6 δ=some (.int above))(hb:0<=b)(hbn:b<=(n:Int))(hn:n<=24):
  dA p6 p6 (g1 lZ x5) (g2 eZ (g2 d6 x1 x2) (g2 d6 x3 x4)) x6 δ=some (.bool (Vl rise run below above b n)):=by
 have m1:d6 (.int run) (.int b)=some (.int (run*b)):=lM (mul_right ⇑2 ⇑2)
 have m2:d6 (.int rise) (.int (n:Nat))=some (.int (rise*(n:Nat))):=lM (mul_right ⇑2 ⇑2)
 exact pF (x:=.int (-below)) (by unfold g1;rw[e5];rfl) (aj (aj e1 e2 m1) (aj e3 e4 m2) rfl) rfl e6 rfl
theorem JF{rise run below above:Int}(h0:0<=rise)(h1:1<=run)(h2:1<=below)(h3:1<=above)(h4:1<=d)(h5:d<=24):
  pC [.int rise,.int run,.int below,.int above,.int (d:Nat)]=some (cm (lC (Vl rise run below above) d [0] 0)):=by
 refine aP ?_
 refine bq _ (gP (call_of (cons_of (lq (wX rfl rfl h0) (lq (wX rfl rfl h1) (lq (wX rfl rfl h2) (wX rfl rfl h3)))) rfl) rfl jN)) ?_
 refine bq _ (gP (call_of (cons_of (c24 rfl h4 h5) rfl) rfl jN)) ?_
 refine ret _ ?_ ⇑16
 show(some [(d:Int),above,below,run,rise]).bind _=_
 rw[aad,<-rP (P:=λb n=>decide ((n:Int)<(d:Int))&&Vl rise run below above b n) (e:=d) (λb n hn=>by rw[aaq ⇑2,ad1]) (λb=>by rw[aaG ⇑2,aey]) d (25-d) [0] 0 ⇑2,show d+(25-d)=25 by lia]
 refine vo λf c=>jx (λb n hb hbn hn=>?_) (λb=>by rw[aaG ⇑2,aey]) f c _
 exact AV (x:=decide ((n:Int)<(d:Int))) rfl λ_=>RE (g:=ae 0) rfl rfl rfl rfl rfl rfl hb hbn hn
theorem MX(k n:Nat):lC P k [] n=[]:=kM rfl k
theorem MY(h0:δ[i]?=some (some fd))(h:g δ=some ds)(hn:ds.length=n)(hG:G ds=r):tj fd G n i g δ=r:=by
 unfold tj
 rw[aav h0,h,aad,aav hn]
 exact hG
noncomputable def sW(fd:D)(d:Nat)(pl:dz)(th:List Int)(x:Option D):DS:=[some (.int (d:Nat)),some fd,some (.list (pl.map dR)),some (.list (th.map .int)),x]
theorem gt0:some (PyData.bool (decide ((0:Int)<(((l.map PyData.int).length:Nat):Int))))=some (.bool (decide (l≠[]))):=by
 congr 3
 rw[<-List.length_pos_iff]
 simp
theorem Fj(h5:d<=24)(hG:∀(b:Int) (n:Nat),0<=b->b<=(n:Int)->n<=24->G [.int b,.int (n:Nat)]=some (.bool (P b n))):
  eF fd G [.int (d:Nat),fd]=some (cm (lC P d [0] 0)):=by
 refine aP ?_
 refine zQ (λm δ=>∃(pl:dz) (th:List Int) (x:Option D),δ=sW fd d pl th x/\pl.length<=d/\Rw th pl.length/\pl++lC P (d-pl.length) th pl.length=lC P d [0] 0/\m=2*(d-pl.length)+(if th=[]then 0 else 1))
  (λδ=>∃(th:List Int) (x:Option D),δ=sW fd d (lC P d [0] 0) th x) (2*d+1) ⟨[],[0],none,rfl,abO _,rw0,rfl,by simp⟩ ?_ ?_
 .rintro m δ ⟨pl,th,x,rfl,hpd,hw,hp,hm⟩;have hlen:=hw.len;have el:∀x:Option D,cQ b8 ⇑27 (sW fd d pl th x)=some (.int (pl.length:Nat)):=λx=>by
   show some (PyData.int (((pl.map dR).length:Nat):Int))=_;rw[aac]
  have c1:gB (g2 p6 (cQ b8 ⇑27) (ae 0)) (sW fd d pl th x)=some (decide ((pl.length:Int)<(d:Int))):=bx (aj (el _) rfl rfl);have c2:gB (g2 ym (cQ b8 (aa (ae 3) ag)) (gC (.int 0))) (sW fd d pl th x)=some (decide (th≠[])):=bx gt0;by_cases hd:pl.length<d
  .by_cases ht:th=[]
   .refine .inl ⟨nY (c1.trans (by rw[decide_eq_true ⇑2])) (c2.trans (by rw[decide_eq_false (by simpa using ht)])),?_⟩;rw[ht,MX,abr]at hp;rw[<-hp];exact⟨_,_,rfl⟩
   .refine .inr ⟨nY (c1.trans (by rw[decide_eq_true ⇑2])) (c2.trans (by rw[decide_eq_true (by simpa using ht)])),?_⟩;obtain⟨k,hk⟩:∃k,d-pl.length=k+1:=⟨d-pl.length-1,by lia⟩;obtain⟨r,er⟩:∃r,r=th.filter (λb=>P b pl.length):=⟨_,rfl⟩;have hrw:Rw r pl.length:=by rw[er];exact hw.JY _
    have Wi:=hrw.len;have e2:di (aU (ae 3)) 1 [1,2] (aN 0) (fG (tj fd G 2 1 (aa (ae 0) (aa (cQ b8 ⇑27) ag)))) (ae 0) (sW fd d pl th x)=some (r.map .int):=by
     refine(rN PyData.int PyData.int (λx=>x) (λb=>P b pl.length) th rfl ⇑2 (λ9=>?_) λb _ _=>rfl).trans (by rw[agt,<-er]);have:=hw.2 b hb;refine MW (MY (ds:=[.int b,.int (pl.length:Nat)]) rfl (cons_of rfl (cons_of ?_ rfl)) rfl (hG b pl.length this.1 this.2 ⇑2));show some (PyData.int (((pl.map dR).length:Nat):Int))=_;rw[aac]
    have e6:=wN (a:=ae 4) (b:=ae 4) (δ:=sW fd d pl th ⇑42) (r:=r) rfl (.inl rfl) ⇑2;have c7:gB (g2 ym (cQ b8 (aa (ae 4) ag)) (gC (.int 0))) (sW fd d pl (led r) ⇑42)=some (decide (r≠[])):=bx gt0;by_cases J5:r=[]
    .have hl:led r=[]:=by rw[J5];rfl
     refine⟨sW fd d pl (led r) ⇑42,_,cL (sW fd d pl th ⇑42) (bf (aW e2)) (cL (sW fd d pl (led r) ⇑42) (bf (aW e6)) (wL (c7.trans (by rw[decide_eq_false (by simpa using J5)])))),?_,pl,led r,_,rfl,hpd,?_,?_,rfl⟩;.grind
     .grind
     .rw [hl,MX];rw[kM (by rw[<-er];exact J5)]at hp;exact hp
    .refine ⟨sW fd d (pl++[r]) (led r) ⇑42,_,cL (sW fd d pl th ⇑42) (bf (aW e2)) (cL (sW fd d pl (led r) ⇑42) (bf (aW e6)) (kh true (c7.trans (by rw[decide_eq_true (by simpa using J5)])) (λ_=>(kg (ds:=pl.map dR) (d:=dR r) rfl rfl (by rw[List.length_map];lia)).trans (by unfold sW;rw[List.map_append];rfl)) λz=>nomatch z)),?_,pl++[r],led r,_,rfl,by rw[List.length_append,List.length_singleton];lia,?_,?_,rfl⟩;.grind
     .rw [aak,aaW];exact hrw.led
     .rw [aak,aaW,abt,afe,show d-(pl.length+1)=k by lia];rw[hk,kj (by rw[<-er];exact J5),<-er]at hp;exact hp
  .refine .inl ⟨?_,?_⟩;.unfold kX;rw[c1,aaG ⇑2];rfl
   .rw [show d-pl.length=0 by lia]at hp;have QS:pl=lC P d [0] 0:=by rw[lC,abr]at hp;exact hp
    rw[<-QS];exact⟨_,_,rfl⟩
 .rintro δ' ⟨th,x,rfl⟩;exact ret _ rfl ⇑16
theorem Hx:∀(k:Nat) (r:List Int) (n:Nat),J4 r (lC P k (led r) n)
 |0,_,_=>trivial
 |k+1,r,n=>by
   by_cases q:(led r).filter (λb=>P b n)=[];.rw [kM q];trivial
   .rw [kj q];exact⟨⟨q,List.Pairwise.sublist aeM jH,λ8=>aeM.subset hx⟩,Hx k _ _⟩
theorem Vm(h:P 0 0=true)(h1:1<=d)(h2:d<=24):Pl (lC P d [0] 0)/\(lC P d [0] 0).length<=24/\∀r∈lC P d [0] 0,r.length<=25:=by
 obtain⟨k,rfl⟩:∃k,d=k+1:=⟨d-1,by lia⟩
 have e:([0]:List Int).filter (λb=>P b 0)=[0]:=by simp[h]
 have l:=Hv (P:=P) (k+1) [0] 0 rw0
 refine⟨⟨_,by rw[kj (by rw[e];simp),e],Hx k [0] 1⟩,by lia,λr hr=>by have:=l.2 r hr;lia⟩
theorem Zp(h1:a δ=some (.bool x))(h2:b δ=some (.bool y)):Ir a b δ=some (.bool (x||y)):=by
 unfold Ir gB
 rw[h1]
 cases x
 .grind
 .rfl
theorem Hy(h1:ga δ=some (.int (d:Nat)))(h2:δ[i]?=some (some (.list ds)))(hd:d<=24)
  (hb:∀(b:Int) (n:Nat),0<=b->b<=(n:Int)->n<=24->gb (([PyData.int b,PyData.int (n:Nat)]++ix.map λ_=>PyData.list ds).map some)=some (.bool (P b n))):UD eF q i ix ga gb δ=some (cm (lC P d [0] 0)):=by
 unfold UD
 rw[h1,aad,h2]
 exact OY λf c a=>Fj hd hb
theorem Fk(hk:PyData.strOk k=true):gB (g2 f9 (ae 0) (gC (.str k))) [fk k,some x]=some true:=bx (aj rfl rfl (cM hk hk (afl k)))
theorem uL(hk:PyData.strOk k=true)(hl:PyData.strOk l=true)(h:(k==l)=false):gB (g2 f9 (ae 0) (gC (.str l))) [fk k,some x]=some false:=bx (aj rfl rfl (cM hk hl h))
theorem Qa{d:Nat}(hd:d<=24):bW [.str "many",.list (([(d:Int)]:List Int).map PyData.int)]=some (cm (lC (λ_ _=>true) d [0] 0)):=by
 exact aP (cx true (Fk ⋯) (λ_=>cy _ (Hy (P:=λ_ _=>true) (ds:=([(d:Int)]:List Int).map PyData.int) rfl rfl hd λb n _ _ _=>rfl) ⇑16) λz=>nomatch z)
theorem Qb{d:Nat}(hd:d<=24):bW [.str "till",.list (([m,(d:Int)]:List Int).map PyData.int)]=some (cm (lC (λb _=>decide (b<m)) d [0] 0)):=by
 refine aP (bM (uL ⋯ ⋯ ⋯) ?_)
 exact cx true (Fk ⋯) (λ_=>cy _ (Hy (P:=λb _=>decide (b<m)) (ds:=([m,(d:Int)]:List Int).map PyData.int) rfl rfl hd λb n _ _ _=>rfl) ⇑16) λz=>nomatch z
theorem MZ{f s:Nat}(hd:f+s<=24):bW [.str "steps",.list (([(f:Int),lo,hi,(s:Int)]:List Int).map PyData.int)]=some (cm (lC (NS f lo hi) (f+s) [0] 0)):=by
 refine aP (bM (uL ⋯ ⋯ ⋯) (bM (uL ⋯ ⋯ ⋯) ?_))
 refine cx true (Fk ⋯) (λ_=>cy _ (Hy (P:=NS f lo hi) (d:=f+s) (ds:=([(f:Int),lo,hi,(s:Int)]:List Int).map PyData.int) rfl rfl hd λb n _ _ _=>?_) ⇑16) λz=>nomatch z
 have e:NS f lo hi b n=((!decide ((n:Int)=(f:Int)))||(decide (lo<b)&&decide (b<hi))):=by
  unfold NS;by_cases h:n=f;.grind
  .grind
 rw[e]
 exact Zp (aj (x:=.int (n:Nat)) (y:=.int (f:Nat)) rfl rfl (Ms _ _)) (pF (x:=.int lo) (y:=.int b) (w:=.int hi) rfl rfl rfl rfl rfl)
theorem Fl{rise run below above:Int}{d:Nat}(hd:d<=24):bW [.str "between",.list (([rise,run,below,above,(d:Int)]:List Int).map PyData.int)]=some (cm (lC (Vl rise run below above) d [0] 0)):=by
 refine aP (bM (uL ⋯ ⋯ ⋯) (bM (uL ⋯ ⋯ ⋯) (bM (uL ⋯ ⋯ ⋯) ?_)))
 exact ret _ (Hy (P:=Vl rise run below above) (ds:=([rise,run,below,above,(d:Int)]:List Int).map PyData.int) rfl rfl hd λb n hb hn RF=>RE (g:=ae 0) rfl rfl rfl rfl rfl rfl hb hn RF) ⇑16
theorem tP(hc:c<256)(h1:go δ=fk a)(h2:ge δ=some (.str ⟨#[c]⟩))(h3:gf δ=some (.int (m:Nat)))(hm:0<m)(V6:m<1000)(hl:a.length<=2500)(Z7:c∈a.cps.toList):
  mh go ge gf δ=some (((df c m a.cps.toList).map gN).map .str):=by
 have e1:(⟨#[c]⟩:Str).length=1:=rfl
 have hx:a.cps.toList.length=a.length:=aaD
 have h0:0<a.length:=by rw[<-hx];exact List.length_pos_of_mem Z7
 have el:limitOf a (m:Nat)=m:=by
  rfl
 have hk:=qj c m a.cps.toList
 have ec:lK a ⟨#[c]⟩ (m:Nat)=(df c m a.cps.toList).map gN:=by
  unfold lK;rw[el,CG,e1,EO]
 have ne:(posK c m 0 a.cps.toList).isEmpty=false:=by
  cases q:posK c m 0 a.cps.toList with
  |nil=>exact absurd q (G9 Z7 hm)
  |cons _ _=>rfl
 have ok:iW a ⟨#[c]⟩ (m:Nat)=true:=by
  unfold iW;rw[ec,el,CG,e1,ne,Rn hc,aac,aaG (show ¬a.length<1 by lia),aaq (show(0:Int)<=(m:Nat)by lia),aaq (show((m:Nat):Int)<1000 by lia),aaq (show a.length<=100000 by lia),aaq (show(df c m a.cps.toList).length<=100000 by lia)];rfl
 unfold mh
 rw[h1,aad,h2,aad,h3,aad]
 show(if iW a ⟨#[c]⟩ (m:Nat)=true then some ((lK a ⟨#[c]⟩ (m:Nat)).map PyData.str)else none)=_
 rw[aav ok,ec]
structure Nm(x:Str):Prop where
 len:1<=x.cps.toList.length/\x.cps.toList.length<=8
 xP:∀c∈x.cps.toList,97<=c/\c<=122
theorem Nm.no(h:Nm x):32∉x.cps.toList:=λz=>by have:=h.xP 32 z;lia
theorem Nm.lo(h:Nm x):∀c∈x.cps.toList,c<128:=λc z=>by have:=h.xP c z;lia
theorem app_list(x y:Str):(x++y).cps.toList=x.cps.toList++y.cps.toList:=by
 show(x.cps++y.cps).toList=_
 rw[acg]
theorem eO(h1:x.length+y.length<=100000):aA (.str x) (.str y)=some (.str (x++y)):=by
 show(if x.length+y.length<=100000 then some (PyData.str (x++y))else none)=_
 rw[aav h1]
theorem wY(h1:a δ=some true)(h2:b δ=some true):kX a b δ=some true:=by unfold kX;rw[h1];exact h2
theorem Fn(h1:a δ=some false):kX a b δ=some false:=by unfold kX;rw[h1];rfl
theorem Fo:gN [112,108,97,110]=("plan":Str):=⋯
theorem Vn:gN [104,97,110,100]=("hand":Str):=⋯
theorem M0:("plan ":Str).cps.toList=[112,108,97,110]++[32]:=⋯
theorem Vo:(" hand ":Str).cps.toList=32::([104,97,110,100]++[32]):=⋯
theorem yy(h:∀c∈x.cps.toList,c<128):PyData.strOk x=true:=(sOk h).1
theorem Nm.ne(h:Nm x):(x==("":Str))=false:=wU (by rw[MP];intro z;have:=h.len.1;rw[z]at this;exact absurd this ⇑0)
def A3(n t:Str):Str:=("plan "++n)++" hand "++t
theorem pG(n t:Str):(A3 n t).cps.toList=[112,108,97,110]++32::(n.cps.toList++32::([104,97,110,100]++32::t.cps.toList)):=by
 unfold A3
 rw[app_list,app_list,app_list,M0,Vo]
 simp
theorem C6(hn:Nm n)(hl:t.length<=2000):dP [.str (A3 n t)]=some (.tuple [.str "plan hand",.str n,.list [.str t]]):=by
 have hlen:(A3 n t).length<=2500:=by
  have e:(A3 n t).cps.toList.length=(A3 n t).length:=aaD;have e2:t.cps.toList.length=t.length:=aaD;have:=hn.len.2;rw[<-e,pG];simp only[aak,aaz,aeW];lia
 have e:mh (ae 0) (cD " ") (ay 3) [some (.str (A3 n t)),none,none]=some ([.str "plan",.str n,.str "hand",.str t]:List D):=by
  refine(tP (c:=32) (m:=3) ⇑0 rfl (by rw[<-yw];rfl) rfl ⇑0 ⇑0 hlen (by rw[pG];simp)).trans ?_;rw[pG,fV ⇑0,fV hn.no,fV ⇑0,df];show some [PyData.str (gN [112,108,97,110]),.str n,.str (gN [104,97,110,100]),.str t]=_;rw[Fo,Vn]
 refine aP ?_
 refine bq [some (.str (A3 n t)),some (.list [.str "plan",.str n,.str "hand",.str t]),none] (bf (aW e)) ?_
 refine cx true ?_ (λ_=>cy (.tuple [.str "plan hand",.str n,.list [.str t]]) rfl ⇑16) ⇑41
 refine wY rfl (wY ?_ (wY ?_ ?_))
 .exact bx ⇑33
 .exact bx (aj rfl rfl (AL (c:=false) (cM (yy hn.lo) ⋯ hn.ne)))
 .exact bx ⇑33
section
variable {S:Type}{f g:GD S}{δ δ':DS}{s s':S}{d e:D}{r:Option (Res×S)}
theorem dU(h:f δ s=some (.nx δ',s'))(k:g δ' s'=r):e9 f g δ s=r:=by unfold e9;rw[h];exact k
theorem Qc(h:f δ s=some (.rt d,s')):e9 f g δ s=some (.rt d,s'):=by unfold e9;rw[h];rfl
theorem Zq(h:c δ s=some (true,s'))(k:f δ s'=r):AE c f g δ s=r:=by unfold AE;rw[h];exact k
theorem zU(h:c δ s=some (false,s'))(k:g δ s'=r):AE c f g δ s=r:=by unfold AE;rw[h];exact k
theorem jf(h:p δ=some x):nQ p δ s=some (x,s):=by unfold nQ;rw[h];rfl
theorem Fp(h:p δ=some x):Jd p δ s=some (x,s):=by unfold Jd;rw[h];rfl
theorem vz(h:p δ s=some (d,s')):Cv p δ s=some (.rt d,s'):=by unfold Cv;rw[h];rfl
theorem C7(h:p δ s=some (.bool b,s')):dB p δ s=some (b,s'):=by unfold dB;rw[h];rfl
theorem C8(h:p δ s=some (d,s'))(h2:p2 δ=some e)(h3:q d e=some x):d2 q p p2 δ s=some (x,s'):=by unfold d2;rw[h,Option.bind_some,h2,Option.bind_some,h3];rfl
theorem Qd(h:p δ s=some (b,s')):Cw p δ s=some (!b,s'):=by unfold Cw;rw[h];rfl
theorem Zr{r:Option (Bool×S)}(h:p δ s=some (false,s'))(k:p2 δ s'=r):dOr p p2 δ s=r:=by unfold dOr;rw[h];exact k
theorem kl{get:S->Dk}{set:S->Dk->S}(hj:δ[j]?=some (some (dw a)))(hg:gr δ=some ds)(hn:ds.length+1=n)(h:G a (dw a::ds) (get s)=some (d,k)):kF get set j a G n gr δ s=some (d,set s k):=by
 refine mf hj ?_
 rw[hg,aad,aav hn]
 unfold CA
 rw[h];rfl
end
theorem lP:eE [.bool true]=some .none:=rfl
theorem gA(x:Str):x.cps.toList.length=x.length:=aaD
theorem Vp(n:Int):f9 (.int n) (.int n)=some (.bool true):=by
 show some (PyData.bool (decide (n=n)))=_
 rw[aaq rfl]
theorem A4(h:g δ=some xs)(hl:xs.length<=100000):cj g δ=some (.tuple xs):=by
 unfold cj
 rw[h,aad,aav hl]
theorem Qe(h1:ga δ=some (.list xs))(h2:gb δ=some (.tuple ys)):zM ga gb δ=some (IU xs ys):=by unfold zM;rw[h1,h2];rfl
theorem Vq(h0:ae 0 δ=fk w)(h:(ES.find? λe=>decide (e.1=w)).map (·.2.2.2)=some ks):Pk ES (ae 0) δ=some (.bool true)/\G0 ES (ae 0) δ=some (.tuple (ks.map .str)):=by
 obtain⟨e,h1,h2⟩:=acu.mp h
 subst h2
 unfold Pk G0
 rw[h0]
 show some (PyData.bool (ES.find? λe=>decide (e.1=w)).isSome)=_/\(ES.find? λe=>decide (e.1=w)).map _=_
 rw[h1]
 exact⟨rfl,rfl⟩
theorem Hz(hf:(ES.find? λe=>decide (e.1=w)).map (·.2.2.2)=some ks)(hl:xs.length=ks.length)
  (hc:di (zM (ae 2) (ae 3)) 2 [] (iz 2 (cv (aN 0) (cv (aN 1) iU))) (λ_=>some true) (aS eU 2 (aa (ae 0) (aa (ae 1) ag))) [fk w,fk n,sL xs,some (.tuple (ks.map .str))]=some us):
  dD [.str w,.str n,.list xs]=some (.tuple [.str w,.str n,.list us]):=by
 obtain⟨f1,f2⟩:=Vq (δ:=[fk w,fk n,sL xs,none]) rfl hf
 refine aP ?_
 refine bq _ (gP (call_of (cons_of f1 rfl) rfl lP)) ?_
 refine bq [fk w,fk n,sL xs,some (.tuple (ks.map .str))] (bf f2) ?_
 refine bq _ (gP (call_of (cons_of (x:=.bool true) (aj (x:=.int (xs.length:Nat)) (y:=.int ((ks.map PyData.str).length:Nat)) rfl rfl ?_) rfl) rfl lP)) ?_
 .rw [hl,aac];exact Vp _
 .exact ret _ (A4 (cons_of rfl (cons_of rfl (cons_of (aW hc) rfl))) (by show 3<=100000;decide)) ⇑16
theorem M1(hf:(ES.find? λe=>decide (e.1=w)).map (·.2.2.2)=some []):dD [.str w,.str n,.list []]=some (.tuple [.str w,.str n,.list []]):=
 Hz hf rfl rfl
theorem JG(h:iZ [.str t]=some d):jL [.str "plan hand",.list [.str t]]=some d:=by
 have no:∀x:Str,("plan hand"==x)=false->PyData.strOk x=true->gB (g2 f9 (ae 0) (gC (.str x))) [fk "plan hand",sL ([.str t])]=some false:=λx e o=>bx (aj rfl rfl (cM ⋯ o e))
 refine aP ?_
 refine bM (no _ ⋯ ⋯) ?_
 refine bM (no _ ⋯ ⋯) ?_
 refine bM (no _ ⋯ ⋯) ?_
 refine bM (no _ ⋯ ⋯) ?_
 exact ret d (call_of ⇑4 rfl h) ⇑16
theorem rQ(h:b.natAbs<1000000000):j2 [.int b]=some (.str (nS b)):=by
 show(if b.natAbs<1000000000 then some (PyData.str (Str.ofString (toString b)))else none)=_
 rw[aav h];rfl
theorem rR(h:m<26):jv [.str (nS (m:Nat))]=some (.int (m:Nat)):=by
 refine aP ?_
 have hlen:(nS (m:Nat)).length<=2:=by rw[<-gA,fe];exact(uA h).len
 have e2:cQ b8 ⇑8 [some (.str (nS (m:Nat)))]=some (.int ((nS (m:Nat)).length:Nat)):=by
  refine eM ⇑4 ?_;show(if(nS (m:Nat)).length<=100000 then some (PyData.int ((nS (m:Nat)).length:Nat))else none)=_;rw[aav ⇑2]
 refine bq _ (gP (call_of (cons_of (lq (call_of ⇑4 rfl (uB h)) (aj e2 rfl ?_)) rfl) rfl lP)) ?_
 .show some (PyData.bool (decide (((nS (m:Nat)).length:Int)<=30)))=_;rw[aaq ⇑2]
 refine ret (.int (m:Nat)) (eM ⇑4 ?_) ⇑16
 show(if(nS (m:Nat)).length<=640 then(PySem.intText? (nS (m:Nat))).map PyData.int else none)=_
 rw[aav ⇑2,nS,PySem.W.KIN.num_reads ⇑2 ⇑2]
 rfl
theorem Vr:(nS (-1)).cps.toList=[45,49]:=rfl
theorem Zs:nS (-1)=("-1":Str):=by unfold nS;decide +kernel
def JH(k:Str)(x:Int):Prop:=(k="number"/\0<=x/\x<26)\/(k="number or -1"/\-1<=x/\x<26)
theorem A5(h0:0<=x)(h1:x<26):∃m:Nat,x=(m:Int)/\m<26:=⟨x.toNat,by lia,by lia⟩
theorem Zt(h:m<26):(nS (m:Nat)==("-1":Str))=false:=wU (by
 rw[<-Zs,Vr,fe]
 intro z
 have:=(uA h).xP 45 (by rw[z];simp)
 lia)
theorem Fq(h:JH k x):eU [.str (nS x),.str k]=some (.int x):=by
 rcases h with⟨rfl,h0,h1⟩|⟨rfl,h0,h1⟩
 .obtain ⟨m,rfl,hm⟩:=A5 h0 h1;refine aP ?_;refine bM (bx ⇑33) ?_;refine bM (bx ⇑33) ?_;refine bM (Fn (bx ⇑33)) ?_;exact ret _ (call_of ⇑4 rfl (rR hm)) ⇑16
 .refine aP ?_;refine bM (bx ⇑33) ?_;refine bM (bx ⇑33) ?_;have t:gB (g2 f9 (ae 1) (cD "number or -1")) [some (.str (nS x)),fk "number or -1"]=some true:=bx ⇑33;by_cases hx:x= -1
  .subst hx;refine cx true (wY t (bx (aj rfl rfl ?_))) (λ_=>cy _ rfl ⇑16) ⇑41;exact cM ⋯ ⋯ ⋯
  .obtain ⟨m,rfl,hm⟩:=A5 (x:=x) ⇑2 h1;refine bM ((nY t (bx (aj rfl rfl (cM (yy (MQ hm)) ⋯ (Zt hm)))))) ?_;exact ret _ (call_of ⇑4 rfl (rR hm)) ⇑16
theorem HA{α:Type}(f g:α->D):∀l:List α,IU (l.map f) (l.map g)=l.map λp=>.tuple [f p,g p]
 |[]=>rfl
 |p::l=>by
   show PyData.tuple [f p,g p]::IU (l.map f) (l.map g)=_;rw[HA f g l];rfl
theorem Qf{l:List (Int×Str)}(h:∀p∈l,JH p.2 p.1)(hl:l.length<=10):
  di (zM (ae 2) (ae 3)) 2 [] (iz 2 (cv (aN 0) (cv (aN 1) iU))) (λ_=>some true) (aS eU 2 (aa (ae 0) (aa (ae 1) ag))) [fk w,fk n,sL (l.map λp=>.str (nS p.1)),some (.tuple (l.map λp=>.str p.2))]=some (l.map λp=>.int p.1):=by
 unfold di
 rw[Qe (xs:=l.map λp=>.str (nS p.1)) (ys:=l.map λp=>.str p.2) rfl rfl,aad,HA,aav (by rw[aac];lia)]
 refine(E5 (λp:Int×Str=>PyData.tuple [.str (nS p.1),.str p.2]) (λp:Int×Str=>PyData.int p.1) (λp=>p) (λ_=>true) l λp hp=>?_).trans ?_
 .show ((aS eU 2 (aa (ae 0) (aa (ae 1) ag)) [some (.str (nS p.1)),fk p.2]).map some)=_;rw[show aS eU 2 (aa (ae 0) (aa (ae 1) ag)) [some (.str (nS p.1)),fk p.2]=some (.int p.1)from call_of (cons_of rfl ⇑4) rfl (Fq (h p hp))];rfl
 .rw [List.filter_eq_self.mpr λ_ _=>rfl,agt]
theorem uC{l:List (Int×Str)}(hf:(ES.find? λe=>decide (e.1=w)).map (·.2.2.2)=some (l.map (·.2)))(h:∀p∈l,JH p.2 p.1)(hl:l.length<=10):dD [.str w,.str n,.list (l.map λp=>.str (nS p.1))]=some (.tuple [.str w,.str n,.list (l.map λp=>.int p.1)]):=by
 refine Hz hf (by rw[aac,aac]) ?_
 rw[ad0]
 exact Qf h hl
structure Wo(x:Str):Prop where
 no:32∉x.cps.toList
 ne:(x==("":Str))=false
 len:x.length<=10
theorem Nm.wo(h:Nm x):Wo x:=⟨h.no,h.ne,by rw[<-gA];have:=h.len.2;lia⟩
theorem tQ(h0:-1<=x)(h1:x<26):Wo (nS x):=by
 by_cases hx:x= -1
 .subst hx;exact⟨by rw[Vr];decide,by rw[Zs];decide +kernel,by rw[<-gA,Vr];decide⟩
 .obtain ⟨m,rfl,hm⟩:=A5 (x:=x) ⇑2 h1;have d:=uA hm;refine⟨by rw[fe];intro z;have:=d.xP 32 z;lia,wU (by rw[MP,fe];exact d.ne),by rw[<-gA,fe];have:=d.len;lia⟩
theorem HB{ws:List Str}(h:∀w∈ws,(w==("":Str))=false):qb (.str "") (.list (ws.map .str))=some (.bool true):=by
 have e:J0 (.str "") (.list (ws.map .str))=some (.bool false):=by
  unfold J0;dsimp only;rw[aav (by rw[aaX,abU];exact⟨rfl,λ8=>by obtain⟨w,_,rfl⟩:=aaH.mp hx;rfl⟩)];rw[show((ws.map PyData.str).any λz=>T8 z (.str ""))=false from List.any_eq_false.mpr λ8=>by
   obtain⟨w,hw,rfl⟩:=aaH.mp hx;show ¬(w==("":Str))=true;rw[h w hw];simp]
 unfold qb
 rw[e];rfl
theorem acC:cutD (a::b::c::l) (some 3) none=l:=by
 show l.take (l.length+1+1+1-3)=l
 rw[show l.length+1+1+1-3=l.length by lia,adY]
theorem acD:cutD (a::b::l) (some 2) none=l:=by
 show l.take (l.length+1+1-2)=l
 rw[show l.length+1+1-2=l.length by lia,adY]
theorem Fs(h:ae i δ=some (.list ws))(hk:k<=(ws.length:Int)):g2 Gs (cQ b8 (aa (ae i) ag)) (gC (.int k)) δ=some (.bool true):=by
 refine aj (x:=.int (ws.length:Nat)) (eM (cons_of h rfl) rfl) rfl ?_
 show some (PyData.bool (decide (k<=(ws.length:Int))))=_
 rw[aaq hk]
theorem RG(iw:ts≠[])(ht:∀t∈ts,Wo t):(dY 32 (Txt.join ⟨#[32]⟩ ts).cps.toList).map gN=ts:=by
 rw[nU iw λt h=>(ht t h).no,ad0]
 exact(aeL λt _=>j6 t).trans (agt ts)
theorem A6(ht:∀t∈ts,Wo t)(hl:ts.length<=10):(Txt.join ⟨#[32]⟩ ts).length<=110:=by
 have:=wJ (sep:=⟨#[32]⟩) (B:=10) λt h=>(ht t h).len
 have e:(⟨#[32]⟩:Str).length=1:=rfl
 rw[e]at this
 lia
theorem Zu(h1:a δ=some x)(h2:b δ=some false):kX a b δ=some false:=by
 unfold kX
 rw[h1]
 cases x
 .rfl
 .grind
theorem RH(h:ae i δ=some (.list ws))(hx:ws[k]?=some x):g2 bN (ae i) (gC (.int (k:Nat))) δ=some x:=aj h rfl (fJ hx)
theorem Ft(hr:r.cps.toList=[112,108,97,110]++32::(n.cps.toList++32::(k.cps.toList++32::(Txt.join ⟨#[32]⟩ ts).cps.toList)))(hn:Nm n)(hk:Nm k)(hh:(k==("hand":Str))=false)(iw:ts≠[])(ht:∀t∈ts,Wo t)(hl:ts.length<=10)(h:dD [.str ("plan "++k),.str n,.list (ts.map .str)]=some v):dP [.str r]=some v:=by
 have hlen:r.length<=2000:=by
  have h1:=hn.len.2;have h2:=hk.len.2;have h3:=A6 ht hl;rw[<-gA,hr];simp only[aak,aaz,aeW,gA];rw[gA]at h1 h2;lia
 have e:mh (ae 0) (cD " ") (ay 3) [fk r,none,none]=some ([.str "plan",.str n,.str k,.str (Txt.join ⟨#[32]⟩ ts)]:List D):=by
  refine(tP (c:=32) (m:=3) ⇑0 rfl (by rw[<-yw];rfl) rfl ⇑0 ⇑0 ⇑2 (by rw[hr];simp)).trans ?_;rw[hr,fV ⇑0,fV hn.no,fV hk.no,df];show some [PyData.str (gN [112,108,97,110]),.str n,.str k,.str (Txt.join ⟨#[32]⟩ ts)]=_;rw[Fo]
 obtain⟨W,eW⟩:∃W:List Str,W=("plan":Str)::n::k::ts:=⟨_,rfl⟩
 have e2:jc (ae 0) (cD " ") [fk r,some (.list [.str "plan",.str n,.str k,.str (Txt.join ⟨#[32]⟩ ts)]),none]=some (W.map .str):=by
  refine(rO (c:=32) ⇑0 rfl (by rw[<-yw];rfl) hlen).trans ?_;have m:([112,108,97,110]::n.cps.toList::k.cps.toList::dY 32 (Txt.join ⟨#[32]⟩ ts).cps.toList).map gN=W:=by
   rw[eW,aaw,aaw,aaw,RG iw ht,Fo];rfl
  rw[pq ⇑0,hr,j7 ⇑0,j7 hn.no,j7 hk.no,m]
 refine aP ?_
 refine bq [fk r,some (.list [.str "plan",.str n,.str k,.str (Txt.join ⟨#[32]⟩ ts)]),none] (bf (aW e)) ?_
 refine bM (nY rfl (nY ?_ (nY ?_ ?_))) ?_
 .exact bx ⇑33
 .exact bx (aj rfl rfl (AL (c:=false) (cM (yy hn.lo) ⋯ hn.ne)))
 .exact bx (aj rfl rfl (cM (yy hk.lo) ⋯ hh))
 refine bq [fk r,some (.list [.str "plan",.str n,.str k,.str (Txt.join ⟨#[32]⟩ ts)]),sL (W.map .str)] (bf (aW e2)) ?_
 have hW:∀w∈W,(w==("":Str))=false:=λw hw=>by
  rw[eW]at hw;rcases aaj.mp hw with rfl|hw;.decide +kernel
  .rcases aaj.mp hw with rfl|hw;.exact hn.ne
   .rcases aaj.mp hw with rfl|hw;.exact hk.ne
    .exact (ht w hw).ne
 have Z1:W.length=ts.length+3:=by rw[eW];rfl
 refine bq _ (gP (call_of (cons_of (lq (aj rfl rfl (HB hW)) (Fs rfl (by rw[aac];lia))) rfl) rfl lP)) ?_
 refine cx true (wY (bx (aj (x:=.str "plan") (RH (k:=0) rfl (by rw[eW];rfl)) rfl (cM ⋯ ⋯ ⋯))) (bx (Fs rfl (by rw[aac];lia)))) (λ_=>?_) ⇑41
 refine cy v (call_of (cons_of (aj (y:=.str k) rfl (RH (k:=2) rfl (by rw[eW];rfl)) (eO ?_)) (cons_of (x:=.str n) (RH (k:=1) rfl (by rw[eW];rfl)) (cons_of (aW (l:=ts.map .str) ?_) rfl))) rfl h) ⇑16
 .have h2:=hk.len.2;rw[gA]at h2;have e5:("plan ":Str).length=5:=⋯
  lia
 .unfold yp;rw[eW];exact abR some acC
theorem uD(hr:r.cps.toList=(Txt.join ⟨#[32]⟩ (w::n::ts)).cps.toList)(hw:Nm w)(hn:Nm n)(hp:(w==("plan":Str))=false)(ht:∀t∈ts,Wo t)(hl:ts.length<=8)(h:dD [.str w,.str n,.list (ts.map .str)]=some v):dP [.str r]=some v:=by
 have hA:∀t∈w::n::ts,Wo t:=λt h=>by
  rcases aaj.mp h with rfl|h;.exact hw.wo
  .rcases aaj.mp h with rfl|h;.exact hn.wo
   .grind
 have hlen:r.length<=2000:=by
  have:=A6 hA (by simp;lia);rw[<-gA,hr,gA];lia
 have YE:∃z,r.cps.toList=w.cps.toList++32::z:=by
  rw[hr,join_cons,app_list,app_list];exact⟨_,by rw[abt];rfl⟩
 obtain⟨z,hz⟩:=YE
 obtain⟨X,e⟩:∃X,mh (ae 0) (cD " ") (ay 3) [fk r,none,none]=some (.str w::X):=by
  refine⟨((df 32 2 z).map gN).map .str,(tP (c:=32) (m:=3) ⇑0 rfl (by rw[<-yw];rfl) rfl ⇑0 ⇑0 ⇑2 (by rw[hz];simp)).trans ?_⟩;rw[hz,fV hw.no];rfl
 have e2:jc (ae 0) (cD " ") [fk r,sL (.str w::X),none]=some ((w::n::ts).map .str):=by
  refine(rO (c:=32) ⇑0 rfl (by rw[<-yw];rfl) hlen).trans ?_;rw[pq ⇑0,hr,RG ⇑11 hA]
 have iQ:gB (g2 f9 ⇑23 (cD "plan")) [fk r,sL (.str w::X),none]=some false:=bx (aj (x:=.str w) (RH (k:=0) rfl rfl) rfl (cM (yy hw.lo) ⋯ hp))
 refine aP ?_
 refine bq [fk r,sL (.str w::X),none] (bf (aW e)) ?_
 refine bM (Zu (x:=decide ((((PyData.str w::X).length:Nat):Int)=4)) (bx (aj rfl rfl rfl)) (Fn iQ)) ?_
 refine bq [fk r,sL (.str w::X),sL ((w::n::ts).map .str)] (bf (aW e2)) ?_
 refine bq _ (gP (call_of (cons_of (lq (aj rfl rfl (HB λt h=>(hA t h).ne)) (Fs rfl (by simp;lia))) rfl) rfl lP)) ?_
 refine bM (Fn (bx (aj (x:=.str w) (RH (k:=0) rfl rfl) rfl (cM (yy hw.lo) ⋯ hp)))) ?_
 refine ret v (call_of (cons_of (RH (k:=0) rfl rfl) (cons_of (RH (k:=1) rfl rfl) (cons_of (aW (l:=ts.map .str) ?_) rfl))) rfl h) ⇑16
 exact abR some acD
structure Good(p:dz):Prop where
 pl:Pl p
 len:p.length<=24
 Qg:∀r∈p,r.length<=25
theorem Good.ent(h:Good p):∀r∈p,Ent r:=Ve h.pl h.len h.Qg
theorem vA(h:P 0 0=true)(h1:1<=d)(h2:d<=24):Good (lC P d [0] 0):=let⟨a,b,c⟩:=Vm h h1 h2;⟨a,b,c⟩
structure Made(t:Str)(p:dz):Prop where
 good:Good p
 rd:∀n,Nm n->∃(lr:Str) (told:D),dP [.str (("plan "++n)++" "++t)]=some (.tuple [.str lr,.str n,told])/\Txt.startswith lr "plan "=true/\jL [.str lr,told]=some (cm p)
 len:t.length<=2010
theorem M3:(" ":Str).cps.toList=[32]:=⋯
theorem Zv:("hand ":Str).cps.toList=[104,97,110,100]++[32]:=⋯
theorem C9(n t:Str):((("plan ":Str)++n)++" "++t).cps.toList=[112,108,97,110]++32::(n.cps.toList++32::t.cps.toList):=by
 rw[app_list,app_list,app_list,M0,M3]
 simp
theorem JI(h:Good p):Made (("hand ":Str)++pS p) p:=by
 have hl:=Ff h.len h.ent
 refine⟨h,λn hn=>⟨"plan hand",.list [.str (pS p)],?_,⋯,JG (C0 h.pl h.len h.ent)⟩,?_⟩
 .have e:(("plan ":Str)++n)++" "++(("hand ":Str)++pS p)=A3 n (pS p):=aeS (aeF.mp (by rw[C9,pG,app_list,Zv];simp));rw[e];exact C6 hn hl
 .rw [<-gA,app_list,aak,Zv,gA];simp;lia
theorem mz{l:List (Int×Str)}(hk:Nm k)(hh:(k==("hand":Str))=false)(ed:("plan ":Str)++k=dk)(hs:Txt.startswith dk "plan "=true)(hf:(ES.find? λe=>decide (e.1=dk)).map (·.2.2.2)=some ks)(hks:l.map (·.2)=ks)(hN:∀q∈l,JH q.2 q.1)(hl:1<=l.length/\l.length<=10)(hp:jL [.str dk,.list (l.map λq=>.int q.1)]=some (cm p))(h:Good p):
  Made (k++" "++Txt.join ⟨#[32]⟩ (l.map λq=>nS q.1)) p:=by
 have ht:∀t∈l.map (λq=>nS q.1),Wo t:=λt ht=>by
  obtain⟨q,hq,rfl⟩:=aaH.mp ht;rcases hN q hq with⟨_,a,b⟩|⟨_,a,b⟩;.exact tQ ⇑2 b
  .exact tQ a b
 refine Made.mk h (λn hn=>⟨dk,.list (l.map λq=>PyData.int q.1),?_,?_,?_⟩) ?_
 rotate_left
 .exact hs
 .exact hp
 rotate_left
 .refine Ft (n:=n) (k:=k) (ts:=l.map λq=>nS q.1) ?_ hn hk hh (λz=>?_) ht (by rw[aac];exact hl.2) ?_;.rw [C9,app_list,app_list,M3];simp
  .have:=abR List.length z;rw[aac]at this;have h0:([]:List Str).length=0:=rfl;lia
  .rw [ed,ad0];exact uC (by rw[hks];exact hf) hN hl.2
 .have:=A6 ht (by rw[aac];exact hl.2);have h2:=hk.len.2;rw[gA]at h2;rw[<-gA,app_list,app_list,aak,aak,M3,gA,gA];simp only[aaz,aeW];lia
theorem km(h:(decide (1<=x.cps.toList.length)&&decide (x.cps.toList.length<=8)&&x.cps.toList.all λc=>decide (97<=c)&&decide (c<=122))=true):Nm x:=by
 simp only[aaX,aa4,abU]at h
 exact⟨h.1,h.2⟩
theorem n1(h0:0<=x)(h1:x<26):JH "number" x:=.inl ⟨rfl,h0,h1⟩
theorem n2(h0:-1<=x)(h1:x<26):JH "number or -1" x:=.inr ⟨rfl,h0,h1⟩
theorem JJ{d:Nat}(h1:1<=d)(h2:d<=24):Made (("many":Str)++" "++Txt.join ⟨#[32]⟩ [nS (d:Int)]) (lC (λ_ _=>true) d [0] 0):=by
 refine mz (k:="many") (dk:="plan many") (ks:=["number"]) (l:=[((d:Int),("number":Str))]) (km ⋯) ⋯ ⋯ ⋯ ⋯ rfl (λq hq=>?_) ⟨by simp,by simp⟩ ?_ (vA rfl h1 h2)
 .rw [abA.mp hq];exact n1 ⇑2 ⇑2
 .rw [pE];exact aP (cx true (Fk ⋯) (λ_=>cy _ (call_of ⇑4 rfl (JE h1 h2)) ⇑16) λz=>nomatch z)
theorem JK{m d:Nat}(h1:1<=m)(h2:m<=24)(h3:1<=d)(h4:d<=24):Made (("till":Str)++" "++Txt.join ⟨#[32]⟩ [nS (m:Int),nS (d:Int)]) (lC (λb _=>decide (b<(m:Int))) d [0] 0):=by
 refine mz (k:="till") (dk:="plan till") (ks:=["number","number"]) (l:=[((m:Int),("number":Str)),((d:Int),("number":Str))]) (km ⋯) ⋯ ⋯ ⋯ ⋯ rfl (λq hq=>?_) ⟨by simp,by simp⟩ ?_ (vA (aaq ⇑2) h3 h4)
 .simp at hq;rcases hq with rfl|rfl<;>exact n1 (by show(0:Int)<=_;lia) (by show(_:Int)<26;lia)
 .rw [pE];exact aP (bM (uL ⋯ ⋯ ⋯) (cx true (Fk ⋯) (λ_=>cy _ (call_of (cons_of rfl ⇑4) rfl (Vk h1 h2 h3 h4)) ⇑16) λz=>nomatch z))
theorem Fu{f s:Nat}(h1:1<=f)(h2:1<=s)(h3:f+s<=24)(h4:-1<=lo)(h5:lo<hi)(h6:hi<26):Made (("steps":Str)++" "++Txt.join ⟨#[32]⟩ [nS (f:Int),nS lo,nS hi,nS (s:Int)]) (lC (NS f lo hi) (f+s) [0] 0):=by
 refine mz (k:="steps") (dk:="plan steps") (ks:=["number","number or -1","number","number"]) (l:=[((f:Int),("number":Str)),(lo,("number or -1":Str)),(hi,("number":Str)),((s:Int),("number":Str))]) (km ⋯) ⋯ ⋯ ⋯ ⋯ rfl (λq hq=>?_) ⟨by simp,by simp⟩ ?_ (vA (by unfold NS;rw[if_neg ⇑2]) ⇑2 h3)
 .simp at hq;rcases hq with rfl|rfl|rfl|rfl;.exact n1 (by show(0:Int)<=_;lia) (by show(_:Int)<26;lia)
  .exact n2 h4 (by show lo<26;lia)
  .exact n1 (by show(0:Int)<=hi;lia) h6
  .exact n1 (by show(0:Int)<=_;lia) (by show(_:Int)<26;lia)
 .rw [pE];exact aP (bM (uL ⋯ ⋯ ⋯) (bM (uL ⋯ ⋯ ⋯) (cx true (Fk ⋯) (λ_=>cy _ (call_of (cons_of rfl (cons_of rfl (cons_of rfl ⇑4))) rfl (C5 h1 h2 h3 h4 h5)) ⇑16) λz=>nomatch z)))
theorem A7{rise run below above:Int}{d:Nat}(h0:0<=rise)(h1:1<=run)(h2:1<=below)(h3:1<=above)(h4:1<=d)(h5:d<=24)(k0:rise<26)(k1:run<26)(k2:below<26)(k3:above<26):Made (("between":Str)++" "++Txt.join ⟨#[32]⟩ [nS rise,nS run,nS below,nS above,nS (d:Int)]) (lC (Vl rise run below above) d [0] 0):=by
 refine mz (k:="between") (dk:="plan between") (ks:=["number","number","number","number","number"]) (l:=[(rise,("number":Str)),(run,("number":Str)),(below,("number":Str)),(above,("number":Str)),((d:Int),("number":Str))]) (km ⋯) ⋯ ⋯ ⋯ ⋯ rfl (λq hq=>?_) ⟨by simp,by simp⟩ ?_ (vA (by
  unfold Vl hgt;rw[show run*0-rise*((0:Nat):Int)=0 by simp,aaq ⇑2,aaq ⇑2];rfl) h4 h5)
 .simp at hq;rcases hq with rfl|rfl|rfl|rfl|rfl;.exact n1 h0 k0
  .exact n1 (by show(0:Int)<=run;lia) k1
  .exact n1 (by show(0:Int)<=below;lia) k2
  .exact n1 (by show(0:Int)<=above;lia) k3
  .exact n1 (by show(0:Int)<=_;lia) (by show(_:Int)<26;lia)
 .rw [pE];exact aP (bM (uL ⋯ ⋯ ⋯) (bM (uL ⋯ ⋯ ⋯) (bM (uL ⋯ ⋯ ⋯) (cx true (Fk ⋯) (λ_=>cy _ (call_of (cons_of rfl (cons_of rfl (cons_of rfl (cons_of rfl ⇑4)))) rfl (JF h0 h1 h2 h3 h4 h5)) ⇑16) λz=>nomatch z))))
theorem HC(h1:a δ=some x)(h2:b δ=some y):cj (aa a (aa b ag)) δ=some (.tuple [x,y]):=by
 unfold cj;rw[cons_of h1 (cons_of h2 rfl)];rfl
theorem Zw(ht:∀t∈ts,Wo t)(hl:ts.length<=10):JoinOk ⟨#[32]⟩ ts=true:=by
 unfold JoinOk
 rw[ad9 (B:=10) (λt h=>(ht t h).len) (by have e:(⟨#[32]⟩:Str).length=1:=rfl;rw[e];lia)]
 rfl
theorem M4{R:β->Prop}(d v:D)(h:ge δ=some d)(h2:g (δ.set i (some d))=some v)(k:fN (f (.rt v)) R):fN ((wG i ge (bh g) δ).bind f) R:=by
 have e:wG i ge (bh g) δ=some (.rt v):=by
  unfold wG bh;rw[h,aad,h2];rfl
 rw[e];exact k
def Vs(rows:dz):D:=.list (rows.map λr=>.list (r.map .int))
def sM(c:Int)(nu:List Int)(x:Option D)(k:Str)(y z:Option D):DS:=[some (.int c),some (.list (nu.map .int)),x,fk k,y,z]
theorem l1s:(" ":Str).length=1:=⋯
theorem JL{i:Nat}(hk:k.length<=8)(hi:(nu.map PyData.int)[0]?=some (.int (i:Nat)))(h3:i<=3)(hr:rows[i]?=some r)(hN:∀b∈r,-1<=b/\b<26)(hl:r.length<=10)(hw:bW [.str k,.list (r.map .int)]=some (cm p))(hm:Made (k++" "++Txt.join ⟨#[32]⟩ (r.map nS)) p):
  fN ((wG 5 (g2 bN (ae 5) (cQ vR (aa (ay 3) (aa ⇑23 ag))))
   ⇑31 (sM c nu x k y (some (Vs rows)))).bind dW) λd=>∃(t:Str) (p:dz),d=.tuple [.str t,cm p]/\Made t p:=by
 have ht:∀t∈r.map nS,Wo t:=λt ht=>by
  obtain⟨b,hb,rfl⟩:=aaH.mp ht;exact tQ (hN b hb).1 (hN b hb).2
 have hj:=A6 ht (by rw[aac];exact hl)
 have emin:cQ vR (aa (ay 3) (aa ⇑23 ag)) (sM c nu x k y (some (Vs rows)))=some (.int (i:Nat)):=by
  refine eM (cons_of rfl (cons_of (RH (k:=0) rfl hi) rfl)) ?_;show some (PyData.int (if((i:Nat):Int)<3 then((i:Nat):Int)else 3))=_;split;.rfl
  .grind
 have e1:g2 bN (ae 5) (cQ vR (aa (ay 3) (aa ⇑23 ag))) (sM c nu x k y (some (Vs rows)))=some (.list (r.map .int)):=aj (x:=Vs rows) rfl emin (fJ (by rw[aas,hr];rfl))
 have e2:jm (cD " ") (aX (cb (aU (ae 5)) [] (cQ j2 ⇑8))) (sM c nu x k y ⇑42)=some (.str (Txt.join ⟨#[32]⟩ (r.map nS))):=by
  refine my (ns:=r.map nS) (show some (PyData.str (" ":Str))=_ by rw[yw]) (aW ?_) (Zw ht (by rw[aac];exact hl));refine dQ PyData.int PyData.str nS r rfl ⇑2 λ9=>eM ⇑4 (rQ ?_);have:=hN b hb;lia
 refine M4 (.list (r.map .int)) (.tuple [.str (k++" "++Txt.join ⟨#[32]⟩ (r.map nS)),cm p]) e1 ?_ (.mk rfl ⟨_,p,rfl,hm⟩)
 refine A4 (xs:=[.str (k++" "++Txt.join ⟨#[32]⟩ (r.map nS)),cm p]) (cons_of (aj (aj rfl rfl (eO ?_)) e2 (eO ?_)) (cons_of (call_of (cons_of rfl ⇑4) rfl hw) rfl)) (by show 2<=100000;decide)
 .rw [l1s];lia
 .have:(k++" ").length=k.length+1:=by rw[<-gA,app_list,aak,M3,gA];rfl
  lia
theorem Fv(c:Int):fN (kf [.int c]) λd=>∃(t:Str) (p:dz),d=.tuple [.str t,cm p]/\Made t p:=by
 rw[EY]
 obtain⟨_,en,nu,rfl,NI,Vt⟩:=yx c [5,12,12,12,12,24,8] (by intro b hb;simp at hb;lia) ⇑0
 obtain⟨n0,n1,n2,n3,n4,n5,n6,rfl⟩:∃n0 n1 n2 n3 n4 n5 n6,nu=[n0,n1,n2,n3,n4,n5,n6]:=by
  match nu,NI with
  |[n0,n1,n2,n3,n4,n5,n6],_=>exact⟨n0,n1,n2,n3,n4,n5,n6,rfl⟩
 have b0:=Vt 0 5 n0 rfl rfl
 have b1:=Vt 1 12 n1 rfl rfl
 have b2:=Vt 2 12 n2 rfl rfl
 have b3:=Vt 3 12 n3 rfl rfl
 have b4:=Vt 4 12 n4 rfl rfl
 have b5:=Vt 5 24 n5 rfl rfl
 clear Vt NI
 refine bq [sI c,sL (([n0,n1,n2,n3,n4,n5,n6]:List Int).map .int),none,none,none,none] (bf (aW (eL (cons_of rfl ⇑4) rfl en))) ?_
 refine bq [sI c,sL (([n0,n1,n2,n3,n4,n5,n6]:List Int).map .int),sI (1+n1),none,none,none] rfl ?_
 obtain⟨dn,h1,RF,edn⟩:∃dn:Nat,1<=dn/\dn<=24/\gy (gB (g2 f9 (g2 bN (ae 1) (ay 6)) (ay 1))) (bI 2 (g2 aA (ay 1) (g2 bN (ae 1) (ay 5)))) bu [sI c,sL (([n0,n1,n2,n3,n4,n5,n6]:List Int).map .int),sI (1+n1),none,none,none]=some (.nx [sI c,sL (([n0,n1,n2,n3,n4,n5,n6]:List Int).map .int),sI (dn:Nat),none,none,none]):=by
  have t:gB (g2 f9 (g2 bN (ae 1) (ay 6)) (ay 1)) [sI c,sL (([n0,n1,n2,n3,n4,n5,n6]:List Int).map .int),sI (1+n1),none,none,none]=some (decide (n6=1)):=rfl;by_cases h6:n6=1
  .refine ⟨(1+n5).toNat,by lia,by lia,kh true (t.trans (by rw[aaq h6])) (λ_=>?_) λz=>nomatch z⟩;rw[show(((1+n5).toNat:Nat):Int)=1+n5 by lia];rfl
  .refine ⟨(1+n1).toNat,by lia,by lia,?_⟩;rw[show(((1+n1).toNat:Nat):Int)=1+n1 by lia];exact wL (t.trans (by rw[aaG h6]))
 refine bq _ edn ?_
 have rows:∀{k:Str} {i:Nat} {r:List Int} {p:dz},Nm k->(k==("hand":Str))=false->n0=(i:Int)->i<=3->([[(dn:Int)],[1+n2,(dn:Int)],[1+n1/2,n2/2-1,n2/2+n3,1+n4],[n2/3,1+n3/2,1+n4,1+n5,(dn:Int)]]:dz)[i]?=some r->(∀b∈r,-1<=b/\b<26)->r.length<=10->bW [.str k,.list (r.map .int)]=some (cm p)->Made (k++" "++Txt.join ⟨#[32]⟩ (r.map nS)) p->
   ([.str "many",.str "till",.str "steps",.str "between",.str "hand"]:List D)[i]?=fk k->fN ((aH (bI 3 (g2 bN (aX (cV (aa (cD "many") (aa (cD "till") (aa (cD "steps") (aa (cD "between") (aa (cD "hand") ag))))))) ⇑23))
  (aH (gy (gB (g2 f9 (ae 3) (cD "hand"))) (aH (bI 4 (aS j9 2 (aa (g2 gg (ae 0) (ay 16)) (aa (g2 aA (ay 1) (g2 eD (g2 bN (ae 1) (ay 1)) (ay 9))) ag))))
  (bh (cj (aa (g2 aA (cD "hand ") (aS fw 1 (aa (ae 4) ag))) (aa (ae 4) ag))))) bu)
  (aH (kB 5 (cV (aa (aX (cV ⇑27)) (aa (aX (cV (aa (g2 aA (ay 1) (g2 bN (ae 1) (ay 2))) ⇑27))) ag))))
  (aH (qa 5 (aX (cV (aa (g2 aA (ay 1) (g2 gg (g2 bN (ae 1) (ay 1)) (ay 2))) (aa (g2 eZ (g2 gg (g2 bN (ae 1) (ay 2)) (ay 2)) (ay 1)) (aa (g2 aA (g2 gg (g2 bN (ae 1) (ay 2)) (ay 2)) (g2 bN (ae 1) (ay 3))) (aa (g2 aA (ay 1) (g2 bN (ae 1) (ay 4))) ag)))))))
  (aH (qa 5 (aX (cV (aa (g2 gg (g2 bN (ae 1) (ay 2)) (ay 3)) (aa (g2 aA (ay 1) (g2 gg (g2 bN (ae 1) (ay 3)) (ay 2))) (aa (g2 aA (ay 1) (g2 bN (ae 1) (ay 4))) (aa (g2 aA (ay 1) (g2 bN (ae 1) (ay 5))) ⇑27)))))))
  (wG 5 (g2 bN (ae 5) (cQ vR (aa (ay 3) (aa ⇑23 ag))))
  ⇑31))))) [sI c,sL (([n0,n1,n2,n3,n4,n5,n6]:List Int).map .int),sI (dn:Nat),none,none,none]).bind dW) λd=>∃(t:Str) (p:dz),d=.tuple [.str t,cm p]/\Made t p:=by
  intro k i r p hk hh hi h3 hr hN hl hw hm hki;refine bq (sM c [n0,n1,n2,n3,n4,n5,n6] (some (.int (dn:Nat))) k none none) (bf (aj (y:=.int (i:Nat)) rfl (by rw[<-hi];rfl) (fJ hki))) ?_;refine bM (bx (aj rfl rfl (cM (yy hk.lo) ⋯ hh))) ?_;refine bq (sM c [n0,n1,n2,n3,n4,n5,n6] (some (.int (dn:Nat))) k none (some (Vs [[(dn:Int)],[1+n2,(dn:Int)]]))) rfl ?_;refine bq (sM c [n0,n1,n2,n3,n4,n5,n6] (some (.int (dn:Nat))) k none (some (Vs [[(dn:Int)],[1+n2,(dn:Int)],[1+n1/2,n2/2-1,n2/2+n3,1+n4]]))) (kg (ds:=([[(dn:Int)],[1+n2,(dn:Int)]]:dz).map λr=>PyData.list (r.map .int)) (d:=.list (([1+n1/2,n2/2-1,n2/2+n3,1+n4]:List Int).map .int)) rfl ?_ (by show 2<100000;decide)) ?_
  .have d2:∀a:Int,gg (.int a) (.int 2)=some (.int (a/2)):=λa=>dd 2 ⇑0 ⇑0;refine aW ?_;unfold cV;rw[cons_of (x:=.int (1+n1/2)) (aj rfl (aj rfl rfl (d2 n1)) rfl) (cons_of (x:=.int (n2/2-1)) (aj (aj rfl rfl (d2 n2)) rfl rfl) (cons_of (x:=.int (n2/2+n3)) (aj (aj rfl rfl (d2 n2)) rfl rfl) (cons_of (x:=.int (1+n4)) (aj rfl rfl rfl) rfl)))];rfl
  refine bq (sM c [n0,n1,n2,n3,n4,n5,n6] (some (.int (dn:Nat))) k none (some (Vs [[(dn:Int)],[1+n2,(dn:Int)],[1+n1/2,n2/2-1,n2/2+n3,1+n4],[n2/3,1+n3/2,1+n4,1+n5,(dn:Int)]]))) (kg (ds:=([[(dn:Int)],[1+n2,(dn:Int)],[1+n1/2,n2/2-1,n2/2+n3,1+n4]]:dz).map λr=>PyData.list (r.map .int)) (d:=.list (([n2/3,1+n3/2,1+n4,1+n5,(dn:Int)]:List Int).map .int)) rfl ?_ (by show 3<100000;decide)) ?_
  .refine aW ?_;unfold cV;rw[cons_of (x:=.int (n2/3)) (aj rfl rfl (dd 3 ⇑0 ⇑0)) (cons_of (x:=.int (1+n3/2)) (aj rfl (aj rfl rfl (dd 2 ⇑0 ⇑0)) rfl) (cons_of (x:=.int (1+n4)) (aj rfl rfl rfl) (cons_of (x:=.int (1+n5)) (aj rfl rfl rfl) (cons_of (x:=.int (dn:Nat)) rfl rfl))))];rfl
  have hkl:=hk.len.2;rw[gA]at hkl;exact JL hkl (by rw[<-hi];rfl) h3 hr hN hl hw hm
 have hc:n0=0\/n0=1\/n0=2\/n0=3\/n0=4:=by lia
 rcases hc with h|h|h|h|h
 .refine rows (k:="many") (i:=0) (km ⋯) ⋯ h ⇑0 rfl (λ9=>?_) ⇑11 (Qa RF) (JJ h1 RF) rfl;rw[abA.mp hb];lia
 .obtain ⟨m,hm⟩:∃m:Nat,1+n2=(m:Int):=⟨(1+n2).toNat,by lia⟩;refine rows (k:="till") (i:=1) (r:=[1+n2,(dn:Int)]) (km ⋯) ⋯ h ⇑0 rfl (λ9=>?_) ⇑11 (Qb RF) ?_ rfl;.simp only[aaj,acA,afM]at hb;rcases hb with rfl|rfl<;>lia
  .rw [hm];exact JK (m:=m) ⇑2 ⇑2 h1 RF
 .obtain ⟨f,hf⟩:∃f:Nat,1+n1/2=(f:Int):=⟨(1+n1/2).toNat,by lia⟩;obtain⟨s,hs⟩:∃s:Nat,1+n4=(s:Int):=⟨(1+n4).toNat,by lia⟩;refine rows (k:="steps") (i:=2) (r:=[1+n1/2,n2/2-1,n2/2+n3,1+n4]) (p:=lC (NS f (n2/2-1) (n2/2+n3)) (f+s) [0] 0) (km ⋯) ⋯ h ⇑0 rfl (λ9=>?_) ⇑11 ?_ ?_ rfl;.simp only[aaj,acA,afM]at hb;rcases hb with rfl|rfl|rfl|rfl<;>lia
  .rw [hf,hs];exact MZ ⇑2
  .rw [hf,hs];exact Fu ⇑2 ⇑2 ⇑2 ⇑2 ⇑2 ⇑2
 .refine rows (k:="between") (i:=3) (r:=[n2/3,1+n3/2,1+n4,1+n5,(dn:Int)]) (km ⋯) ⋯ h ⇑0 rfl (λ9=>?_) ⇑11 (Fl RF) (A7 ⇑2 ⇑2 ⇑2 ⇑2 h1 RF ⇑2 ⇑2 ⇑2 ⇑2) rfl;simp only[aaj,acA,afM]at hb;rcases hb with rfl|rfl|rfl|rfl|rfl<;>lia
 .obtain ⟨m,hm⟩:∃m:Nat,1+n1%9=(m:Int):=⟨(1+n1%9).toNat,by lia⟩;obtain⟨_,ep,p,rfl,hp,iQ,acE⟩:=E2 (c/16) m ⇑2 ⇑2;have g:Good p:=⟨hp,by lia,acE⟩;refine bq (sM c [n0,n1,n2,n3,n4,n5,n6] (some (.int (dn:Nat))) "hand" none none) (bf (aj (y:=.int ((4:Nat):Int)) rfl (by rw[h];rfl) (fJ rfl))) ?_;refine cx true (bx ⇑33) (λ_=>?_) λz=>nomatch z;rw[seq_assoc];refine bq (sM c [n0,n1,n2,n3,n4,n5,n6] (some (.int (dn:Nat))) "hand" (some (cm p)) none) (bf (call_of (cons_of (aj rfl rfl (dd 16 ⇑0 ⇑0)) (cons_of (x:=.int (m:Nat)) ?_ rfl)) rfl ep)) ?_
  .rw [<-hm];exact aj rfl (aj (x:=.int n1) rfl rfl (fW ⇑0)) rfl
  .refine cy (.tuple [.str (("hand ":Str)++pS p),cm p]) (A4 (cons_of (aj rfl (call_of ⇑4 rfl (pV g.len g.ent)) (eO ?_)) ⇑4) (by show 2<=100000;decide)) (.mk rfl ⟨_,p,rfl,JI g⟩);have:=Ff g.len g.ent;have e:("hand ":Str).length=5:=⋯
   rw[e];lia
end aE
namespace aE
noncomputable def JM(a b:Int):List Int->List (Int×Int)
 |[]=>[(a,b)]
 |x::r=>if b=x-1 then JM a x r else(a,b)::JM x x r
def A8:List Int->List (Int×Int)
 |[]=>[]
 |x::r=>JM x x r
def start(R:List Int)(x:Int):Bool:= !decide (x-1∈R)
end aE
namespace aE
open PySem L2 Q1
theorem M5(a b:Int)(r:List Int):JM a b r≠[]:=by
 cases r with
 |nil=>simp[JM]
 |cons x r=>rw[JM];split<;>simp[JM];exact M5 _ _ _
theorem JN(h:ge [x0,sL ((acc++[c]).map dC),x2]=some (dC v)):Am 1 (g1 lZ (ay 1)) ge [x0,sL ((acc++[c]).map dC),x2]=some (.nx [x0,sL ((acc++[v]).map dC),x2]):=by
 unfold Am
 rw[h]
 have e:Ib ((acc++[c]).map dC).length (-1)=some acc.length:=by
  unfold Ib;simp;lia
 show(Ib ((acc++[c]).map dC).length (-1)).bind _=_
 rw[e,aad]
 have e2:((acc++[c]).map dC).set acc.length (dC v)=(acc++[v]).map dC:=by
  simp
 rw[e2]
 rfl
theorem Dc(r:List Int)(hi:aU (ae 0) [some dr,sL ([]),none]=some (r.map .int))(hn:r.length<=1000):iY [dr]=some ((A8 r).map dC):=by
 refine aP ?_
 refine px PyData.int r (λi δ=>∃x,(i=0/\δ=[some dr,sL ([]),x])\/(0<i/\∃acc a b,δ=[some dr,sL ((acc++[(a,b)]).map dC),x]/\acc.length<i/\acc++JM a b (r.drop i)=A8 r)) hi ⟨none,.inl ⟨rfl,rfl⟩⟩ ?_ ?_
 .rintro i y δ hi ⟨x,⟨rfl,rfl⟩|⟨h0,acc,a,b,rfl,hal,hs⟩⟩
  .refine ⟨_,[some dr,sL ([dC (y,y)]),sI y],rfl,?_,sI y,.inr ⟨by lia,[],y,y,rfl,by simp,?_⟩⟩
   .refine kh false ?_ ⇑41 λ_=>(kg (d:=dC (y,y)) rfl rfl ⇑11).trans rfl;rfl
   .cases r with
    |nil=>simp at hi
    |cons z r=>simp at hi;subst hi;rfl
  .have Ly:=(aar.mp hi).1;have hd:r.drop i=y::r.drop (i+1):=by
    rw[acB Ly];congr 1;rw[aal Ly]at hi;exact abH hi
   rw[hd,JM]at hs;have RI:so ((acc++[(a,b)]).map dC) (-1)=some (dC (a,b)):=Hb ⇑11;have Zx:∀δ:DS,g1 lZ (ay 1) δ=some (.int (-1)):=λ_=>rfl;have hc:kX (gB (g2 ym (cQ b8 (aa (ae 1) ag)) (ay 0))) (gB (g2 f9 (g2 bN (g2 bN (ae 1) (g1 lZ (ay 1))) (ay 1)) (g2 eZ (ae 2) (ay 1)))) [some dr,sL ((acc++[(a,b)]).map dC),sI y]=some (decide (b=y-1)):=by
    refine nY (bx (aj (eM ⇑4 (Mt _)) rfl ?_)) (bx (aj (aj (aj rfl (Zx _) RI) rfl acn) (aj rfl rfl rfl) (UT _ _)));show some (PyData.bool (decide ((0:Int)<(((acc++[(a,b)]).map dC).length:Nat))))=_;rw[aaq (by rw[aac,aak,aaW];lia)]
   by_cases hb:b=y-1
   .rw [aav hb]at hs;refine⟨_,[some dr,sL ((acc++[(a,y)]).map dC),sI y],rfl,?_,sI y,.inr ⟨by lia,acc,a,y,rfl,by lia,hs⟩⟩;refine kh true (hc.trans (by rw[aaq hb])) (λ_=>?_) λz=>nomatch z;have ht:cj (aa (g2 bN (g2 bN (ae 1) (g1 lZ (ay 1))) (ay 0)) ⇑27) [some dr,sL ((acc++[(a,b)]).map dC),sI y]=some (dC (a,y)):=HC (aj (aj rfl (Zx _) RI) rfl acm) rfl;exact JN ht
   .rw [aaB hb]at hs;refine⟨_,[some dr,sL ((acc++[(a,b)]++[(y,y)]).map dC),sI y],rfl,?_,sI y,.inr ⟨by lia,acc++[(a,b)],y,y,rfl,by simp;lia,by rw[abt];exact hs⟩⟩;refine kh false (hc.trans (by rw[aaG hb])) ⇑41 λ_=>(kg (d:=dC (y,y)) rfl rfl (by simp;lia)).trans ?_;rw[abj (l₂:=[(y,y)])];rfl
 .rintro δ' ⟨x,⟨h0,rfl⟩|⟨h0,acc,a,b,rfl,hal,hs⟩⟩;.have:r=[]:=List.eq_nil_of_length_eq_zero h0;subst this;exact ret (.list []) rfl ⇑16
  .rw [aeo]at hs;have xR:acc++[(a,b)]=A8 r:=hs;rw[xR];exact ret (.list ((A8 r).map dC)) rfl ⇑16
theorem Vu(hj:δ[j]?=some (some (dw a)))(hk:gk δ=fk x)(h:j4 (s.fld b) x=some d):GW b j a gk δ s=some (d,s):=by
 refine mf hj ?_
 rw[hk]
 show(j4 (s.fld b) x).bind _=_
 rw[h];rfl
theorem Vv(hj:δ[j]?=some (some (dw a)))(hk:gk δ=fk x)(h:j4 (s.fld b) x=some d):GX b j a gk δ s=some (false,s):=by
 refine mf hj ?_
 rw[hk]
 show some (!(j4 (s.fld b) x).isSome,s)=_
 rw[h];rfl
theorem Vw(hj:δ[j]?=some (some (dw a)))(hv:gv δ s=some (d,s'))(hk:gk δ=fk x)(hl:(s'.fld b).length<100000):GV b j a gk gv δ s=some (.nx δ,s'.put b (kx (s'.fld b) x d)):=by
 refine mf hj ?_
 rw[hv]
 rw[hk]
 show(if(s'.fld b).length<100000 then some (Res.nx δ,s'.put b (kx (s'.fld b) x d))else none)=_
 rw[aav hl]
theorem A9(h:j4 s.pl x=some d):fc a [dw a,.str x] s=some (d,s):=by
 show((e9 (AE (GX true 0 a (ae 1)) (nQ (λ_=>none)) j3) (Cv (GW true 0 a (ae 1)))) [some (dw a),fk x] s).bind outD=_
 rw[dU (zU (Vv (b:=true) (s:=s) (d:=d) rfl rfl h) rfl) (vz (Vu (b:=true) (s:=s) rfl rfl h))];rfl
theorem Fw(hl:s.pl.length<100000):gu a [dw a,.str x,d] s=some (.str "ok",⟨kx s.pl x d,s.lo⟩):=by
 show((e9 (GV true 0 a (ae 1) (Jd (ae 2))) (nQ (bh (cD "ok")))) [some (dw a),fk x,some d] s).bind outD=_
 rw[dU (Vw (b:=true) (s':=s) rfl (Fp rfl) rfl hl) (jf rfl)];rfl
theorem lets:("abcdefghijklmnopqrstuvwxyz":Str).cps.toList=(List.range 26).map (97+·):=⋯
theorem Vx(h:97<=c/\c<=122):yt true (.str ⟨#[c]⟩) (.str "abcdefghijklmnopqrstuvwxyz")=some (.bool true):=by
 show some (PyData.bool ((!(Builtin.Str.occurrences ("abcdefghijklmnopqrstuvwxyz":Str) ⟨#[c]⟩ 0 ("abcdefghijklmnopqrstuvwxyz":Str).length 1).isEmpty)==true))=_
 rw[PySem.StrLaws.found_one,lets,aaq (aaH.mpr ⟨c-97,ad2.mpr ⇑2,by lia⟩)]
 rfl
theorem Ba(h:Nm x):ia [.str x]=some .none:=by
 rw[AR]
 have hx:x.cps.toList.length=x.length:=aaD
 have l1:=h.len
 obtain⟨k1,k2⟩:=sOk h.lo
 have c1:gB (dA yk yk (ay 1) (cQ b8 ⇑8) (ay 8)) [fk x]=some true:=by
  have el:cQ b8 ⇑8 [fk x]=some (.int (x.length:Nat)):=eM (ds:=[.str x]) rfl (by unfold b8;first|rfl|(rw[if_pos ⇑2])|simp;lia);refine bx (pF (u:=true) (v:=true) (x:=.int 1) (y:=.int (x.length:Nat)) (w:=.int 8) rfl el ?_ rfl ?_)
  .show some (PyData.bool (decide ((1:Int)<=(x.length:Nat))))=_;rw[aaq ⇑2]
  .show some (PyData.bool (decide (((x.length:Nat):Int)<=8)))=_;rw[aaq ⇑2]
 have es:md (ae 0) [fk x]=some (x.cps.toList.map λc=>PyData.str ⟨#[c]⟩):=by
  show(if x.cps.all (·<128)=true then some (nP x)else none)=_;rw[aav k2,nP]
 have ec:cb (md (ae 0)) [] (g2 (yt true) (ae 0) (cD "abcdefghijklmnopqrstuvwxyz")) [fk x]=some ((x.cps.toList.map λ_=>true).map .bool):=
  dQ (λc:Nat=>PyData.str ⟨#[c]⟩) PyData.bool (λ_=>true) x.cps.toList es ⇑2 λc hc=>aj rfl rfl (Vx (h.xP c hc))
 have ca:fG (cQ Az (aa (aX (cb (md (ae 0)) [] (g2 (yt true) (ae 0) (cD "abcdefghijklmnopqrstuvwxyz")))) ag)) [fk x]=some true:=by
  refine gq (eM (cons_of (aW ec) rfl) ?_);show(jb ((x.cps.toList.map λ_=>true).map .bool)).map _=_;rw[jX];simp
 have e:jw [fk x]=some (.nx [fk x]):=wL (CL (gp c1) (gp ca))
 rw[e];rfl
def dg4(m:Nat):Bool:=(nj m).all (λc=>decide (48<=c)&&decide (c<=57))&&decide ((nj m).length<=4)
theorem Qh:(List.range 4097).all dg4=true:=⋯
structure Sm(b:Int):Prop where
 lo:0<=b
 hi:b<=4096
theorem Sm.tx(h:Sm b):(∀c∈(nS b).cps.toList,48<=c/\c<=57)/\(nS b).length<=4:=by
 obtain⟨m,rfl⟩:∃m:Nat,b=(m:Int):=⟨b.toNat,by have:=h.lo;lia⟩
 have hm:=abU.mp Qh m (ad2.mpr (by have:=h.hi;lia))
 unfold dg4 at hm
 rw[aaX,aa4,abU]at hm
 rw[<-gA,fe]
 exact⟨λc hc=>by have:=hm.1 c hc;rw[aaX,aa4,aa4]at this;exact this,hm.2⟩
theorem Sm.str(h:Sm b):j2 [.int b]=some (.str (nS b)):=rQ (by have:=h.lo;have:=h.hi;lia)
theorem Zy(s x y:Str):Txt.join s [x,y]=x++s++y:=rfl
theorem Qi(hx:x.length<=4)(hy:y.length<=4):JoinOk ⟨#[c]⟩ [x,y]=true:=by
 unfold JoinOk
 rw[ad9 (B:=4) (λt ht=>by
  rcases aaj.mp ht with rfl|ht;.grind
  .rw [abA.mp ht];exact hy) (by have e:(⟨#[c]⟩:Str).length=1:=rfl;rw[e];show 2*(4+1)<=_;decide)]
 rfl
theorem Zz:(",":Str)=⟨#[44]⟩:=⋯
theorem Vy(hs:s=⟨#[c]⟩)(ha:Sm a)(hb:Sm b)(hg:g δ=some (.tuple [.int a,.int b])):jm (gC (.str s)) (aX (cb (aU g) [] (cQ j2 ⇑8))) δ=some (.str (nS a++s++nS b)):=by
 refine my (ns:=[nS a,nS b]) rfl ?_ (by rw[hs];exact Qi ha.tx.2 hb.tx.2)
 refine aW ?_
 refine(dQ (λb:Int=>PyData.int b) PyData.str nS [a,b] (by unfold aU;rw[hg];rfl) (by show 2<=100000;decide) λ8=>?_).trans rfl
 have:Sm x:=by grind
 exact eM ⇑4 this.str
def cT(c:Int×Int):Str:=nS c.1++","++nS c.2
theorem v_count(h1:Sm c.1)(h2:Sm c.2):ju [dC c]=some (.str (cT c)):=by
 exact aP (ret _ (Vy Zz h1 h2 rfl) ⇑16)
theorem Qj(l:List (Str×D))(x:Str)(d:D):(kx l x d).length<=l.length+1:=by
 unfold kx
 split<;>simp
theorem acF(x:String):PyData.strOk (Str.ofString x)=true:=by
 unfold PyData.strOk
 rw[PySem.Str.ofString_eq_toList]
 rw[List.all_toArray,abU]
 intro c hc
 obtain⟨d,_,rfl⟩:=aaH.mp hc
 have:=d.valid
 exact aaq (by
  rcases this with h|h
  .have:d.toNat<55296:=h;lia
  .exact h.2)
theorem acG(b:Int):PyData.strOk (nS b)=true:=acF _
theorem vB(h:PyData.strOk x=true):DN (.str x) (.str x)=some (.bool false):=AL (c:=true) (cM h h (afl x))
def JO(p:dz):Str:=Txt.join ⟨#[32]⟩ ((jn p).map cT)
theorem qD(h:Good p)(hc:c∈jn p):Sm c.1/\Sm c.2:=by
 obtain⟨b,g,he⟩:=Vi h.pl hc
 have:=he.dr
 have:=h.len
 rw[he.eq]
 exact⟨⟨by show(0:Int)<=b;lia,by show(b:Int)<=4096;lia⟩,⟨by show(0:Int)<=g;lia,by show(g:Int)<=4096;lia⟩⟩
theorem RJ:(",":Str).cps.toList=[44]:=⋯
theorem HE(c:Int×Int):(cT c).cps.toList=(nS c.1).cps.toList++44::(nS c.2).cps.toList:=by
 unfold cT
 rw[app_list,app_list,RJ];simp
theorem Vz(h1:Sm c.1)(h2:Sm c.2):(cT c).length<=9:=by
 have a:=h1.tx.2
 have b:=h2.tx.2
 rw[<-gA,HE,aak,aaz,gA,gA]
 lia
theorem Dd(h:Good p):JoinOk ⟨#[32]⟩ ((jn p).map cT)=true:=by
 have hl:=wV h.len h.Qg
 unfold JoinOk
 rw[ad9 (B:=9) (λt ht=>by
  obtain⟨c,hc,rfl⟩:=aaH.mp ht;exact Vz (qD h hc).1 (qD h hc).2) (by rw[aac];have e:(⟨#[32]⟩:Str).length=1:=rfl;rw[e];lia)]
 rfl
theorem Qk(h:Good p):PyData.strOk (JO p)=true:=yy λc hc=>by
 rcases Nat.lt_or_ge c 128 with z|z
 .exact z
 .refine absurd hc (mem_join (by simp;lia) λt ht=>?_);obtain⟨e,he,rfl⟩:=aaH.mp ht;rw[HE];intro q;rcases aap.mp q with q|q;.have:=(qD h he).1.tx.1 c q;lia
  .rcases aaj.mp q with q|q;.lia
   .have:=(qD h he).2.tx.1 c q;lia
theorem yz(h:Good p):iK [.list ((jn p).map dC)]=some (.str (JO p)):=by
 have hl:=wV h.len h.Qg
 refine aP (ret _ (my (ns:=(jn p).map cT) (show some (PyData.str (" ":Str))=_ by rw[yw]) (aW ?_) (Dd h)) ⇑16)
 exact dQ dC PyData.str cT (jn p) rfl ⇑2 λc hc=>call_of ⇑4 rfl (v_count (qD h hc).1 (qD h hc).2)
theorem uM(h:Good p):gO [.list ((jn p).map dC)]=some (.str (JO p)):=by
 have hl:=wV h.len h.Qg
 refine aP (ret _ (my (ns:=(jn p).map cT) (show some (PyData.str (" ":Str))=_ by rw[yw]) (aW ?_) (Dd h)) ⇑16)
 refine dQ dC PyData.str cT (jn p) rfl ⇑2 λc hc=>?_
 obtain⟨h1,h2⟩:=qD h hc
 have a:=h1.tx.2
 have b:=h2.tx.2
 have e1:(",":Str).length=1:=⋯
 have e2:(nS c.1++(",":Str)).length=(nS c.1).length+1:=by rw[<-gA,app_list,aak,RJ,gA];rfl
 exact aj (aj (eM ⇑4 h1.str) rfl (eO (by rw[e1];lia))) (eM ⇑4 h2.str) (eO (by rw[e2];lia))
theorem HF:∀(r:List Int) (a b:Int),oy (b::r)->((JM a b r).length=1↔(b::r).getLast ⇑11-b=(r.length:Int))/\(b::r).getLast ⇑11-b >=(r.length:Int)
 |[],a,b,_=>⟨by simp[JM],by simp⟩
 |x::r,a,b,h=>by
   have hx:=(acj.mp h).1 x aan;have h2:=(acj.mp h).2;have e:(b::x::r).getLast ⇑11=(x::r).getLast ⇑11:=List.getLast_cons _;obtain⟨i1,i2⟩:=HF r (if b=x-1 then a else x) x h2;rw[aaz];unfold JM;by_cases q:b=x-1;.grind
   .rw [aaB q]at i1 ⊢;refine⟨⟨λz=>?_,λz=>?_⟩,by push_cast;lia⟩
    .exfalso;rw[aaz]at z;have:JM x x r≠[]:=M5 x x r;exact this (adM.mp ⇑2)
    .grind
theorem De:∀{q:dz} {r:List Int},J4 r q->∀s∈q,s≠[]/\oy s
 |_::q,_,h,s,hs=>by
   rcases aaj.mp hs with rfl|hs;.exact ⟨h.1.1,h.1.2.1⟩
   .exact De h.2 s hs
theorem Ql(h:Pl p):∀s∈p,s≠[]/\oy s:=λs hs=>by
 obtain⟨q,rfl,hq⟩:=h.ex
 rcases aaj.mp hs with rfl|hs
 .exact ⟨by simp,by unfold oy;simp⟩
 .exact De hq s hs
def oz(r:List Int):Bool:=decide ((A8 r).length=1)
theorem M6(hr:oy r)(h0:r≠[]):∃x y,r[0]?=some x/\r[r.length-1]?=some y/\oz r=decide (y-x=(r.length:Int)-1):=by
 cases r with
 |nil=>exact absurd rfl h0
 |cons b r=>
   refine⟨b,(b::r).getLast ⇑11,rfl,?_,?_⟩;.grind
   .unfold oz A8;refine agg.mpr (((HF r b b hr).1).trans ⟨λz=>?_,λz=>?_⟩);.grind
    .grind
theorem HG(r:List Int):qC (dR r)=some r:=by
 show iV (r.map PyData.int)=_
 rw[jI]
theorem VA(h:Good p):eu [cm p]=some (.bool (p.all oz)):=by
 have e:aX (cb (aU (ae 0)) [] (g2 f9 (cQ b8 (aa (aX (cI iY 1 ⇑8)) ag)) (ay 1))) [some (cm p)]=some (.list ((p.map oz).map .bool)):=by
  refine aW (dQ dR PyData.bool oz p rfl (by have:=h.len;lia) λr hr=>?_);have s:=Dc (dr:=dR r) r rfl (by have:=h.Qg r hr;lia);refine aj (x:=.int ((A8 r).length:Nat)) (eM (cons_of (aW (eL ⇑4 rfl s)) rfl) ?_) rfl ?_;.show some (PyData.int ((((A8 r).map dC).length:Nat):Int))=_;rw[aac]
  .show some (PyData.bool (decide (((A8 r).length:Int)=1)))=_;congr 2;exact agg.mpr ⟨λz=>by lia,λz=>by lia⟩
 refine aP (ret _ (eM (cons_of e rfl) ?_) ⇑16)
 show(jb ((p.map oz).map PyData.bool)).map _=_
 rw[jX]
 show some (PyData.bool ((p.map oz).all id))=_
 rw[List.all_map];rfl
def jT(p:dz):Str:=if p.all oz=true then "only" else "others"
theorem RK(p:dz):PyData.strOk (jT p)=true:=by unfold jT;split<;>decide +kernel
theorem Dh(h:Good p):kJ [cm p]=some (.str (jT p)):=by
 rw[CP]
 obtain⟨f1,f2⟩:=CV (t:=aN 1) (b:=gy (gB (g2 DN (g2 eZ (g2 bN (ae 1) (g1 lZ (ay 1))) ⇑23) (g2 eZ (cQ b8 (aa (ae 1) ag)) (ay 1)))) (bh (cD "others")) bu) (λδ=>∃x,δ=[some (cm p),x]) (λd=>match qC d with|some r=>oz r|none=>false) (.str "others") (p.map dR) [some (cm p),none] ⟨none,rfl⟩ (by
  rintro d hd δ ⟨x,rfl⟩;obtain⟨r,hr,rfl⟩:=aaH.mp hd;obtain⟨h0,hri⟩:=Ql h.pl r hr;obtain⟨x0,y0,e0,e1,eo⟩:=M6 hri h0;have rI:=HG r;refine⟨[some (cm p),some (dR r)],rfl,?_⟩;have hl:cQ b8 (aa (ae 1) ag) [some (cm p),some (dR r)]=some (.int (r.length:Nat)):=by
   show some (PyData.int (((r.map PyData.int).length:Nat):Int))=_;rw[aac]
  have t:gB (g2 DN (g2 eZ (g2 bN (ae 1) (g1 lZ (ay 1))) ⇑23) (g2 eZ (cQ b8 (aa (ae 1) ag)) (ay 1))) [some (cm p),some (dR r)]=some (!oz r):=by
   rw[eo];refine bx (aj (x:=.int (y0-x0)) (y:=.int ((r.length:Int)-1)) (aj (x:=.int y0) (y:=.int x0) (aj (x:=dR r) (y:=.int (-1)) rfl rfl ?_) (aj (x:=dR r) (y:=.int ((0:Nat):Int)) rfl rfl ?_) rfl) (aj hl rfl rfl) (Ms _ _));.show so (r.map PyData.int) (-1)=_;exact Hb (by rw[aac,aas,e1];rfl)
   .show so (r.map PyData.int) ((0:Nat):Int)=_;exact fJ (by rw[aas,e0];rfl)
  simp only[rI];exact⟨λz=>⟨_,wL (t.trans (by rw[z];rfl)),_,rfl⟩,λz=>kh true (t.trans (by rw[z];rfl)) (λ_=>rfl) λq=>nomatch q⟩)
 have ea:(p.map dR).all (λd=>match qC d with|some r=>oz r|none=>false)=p.all oz:=by
  rw[List.all_map];congr 1;funext r;show(match qC (dR r)with|some r=>oz r|none=>false)=oz r;rw[HG]
 rw[ea]at f1 f2
 unfold jT
 cases q:p.all oz with
 |true=>
   obtain⟨δ',e,x,rfl⟩:=f1 q;exact aP (bq _ (Fg rfl e) (ret _ rfl ⇑16))
 |false=>
   have e:=f2 q;show(aH (iq _ _ _) _ _).bind dW=_;rw[rK (Fg rfl e)];rfl
def sS(a:Addr)(row lr name:Str)(told:D):DS:=[some (dw a),fk row,some (.tuple [.str lr,.str name,told]),fk lr,fk name,some told]
theorem M7{r:Option (Res×Dk)}(hr:dP [.str row]=some (.tuple [.str lr,.str name,told]))(hn:Nm name)(k:g (sS a row lr name told) s=r):
  e9 (nQ (bI 2 (aS dP 1 (aa (ae 1) ag)))) (e9 (nQ (bI 3 (g2 bN (ae 2) (ay 0)))) (e9 (nQ (bI 4 (g2 bN (ae 2) (ay 1)))) (e9 (nQ (bI 5 (g2 bN (ae 2) (ay 2)))) (e9 (nQ (jS (aS ia 1 (aa (ae 4) ag)))) g)))) [some (dw a),fk row,none,none,none,none] s=r:=by
 refine dU (δ':=[some (dw a),fk row,some (.tuple [.str lr,.str name,told]),none,none,none]) (jf (bf (call_of ⇑4 rfl hr))) ?_
 refine dU (δ':=[some (dw a),fk row,some (.tuple [.str lr,.str name,told]),fk lr,none,none]) (jf (bf (aj rfl rfl rfl))) ?_
 refine dU (δ':=[some (dw a),fk row,some (.tuple [.str lr,.str name,told]),fk lr,fk name,none]) (jf (bf (aj rfl rfl rfl))) ?_
 refine dU (δ':=sS a row lr name told) (jf (bf (aj rfl rfl rfl))) ?_
 exact dU (jf (gP (call_of ⇑4 rfl (Ba hn)))) k
theorem ZA{s:Dk}(h:Txt.startswith lr "plan "=b):Jd (fG (AD (ae 3) (cD "plan "))) (sS a row lr name told) s=some (b,s):=
 Fp (gq (show some (PyData.bool (Txt.startswith lr "plan "))=some (.bool b)by rw[h]))
theorem Qm{s:Dk}(h:(lr==x)=b)(h1:PyData.strOk lr=true)(h2:PyData.strOk x=true):Jd (gB (g2 f9 (ae 3) (gC (.str x)))) (sS a row lr name told) s=some (b,s):=
 Fp (bx (aj rfl rfl (cM h1 h2 h)))
theorem oA{r:Option (Res×Dk)}(h:c δ s=some (false,s))(k:g δ s=r):e9 (AE c f j3) g δ s=r:=
 dU (zU h rfl) k
theorem Fy{f:GD Dk}(h:f δ s=some (.rt d,s')):(f δ s).bind outD=some (d,s'):=by rw[h];rfl
theorem Fz(hn:Nm n)(hm:Made t p)(hs:s.pl.length<100000):
  bB a [dw a,.str (("plan "++n)++" "++t)] s=some (.str "ok",⟨kx s.pl n (cm p),s.lo⟩):=by
 obtain⟨lr,told,h1,h2,h3⟩:=hm.rd n hn
 refine Fy (M7 h1 hn ?_)
 refine Qc (Zq (ZA h2) (vz ?_))
 exact kl (set:=λ_ k=>k) (ds:=[.str n,cm p]) rfl (cons_of rfl (cons_of (call_of (cons_of rfl ⇑4) rfl h3) rfl)) rfl (Fw hs)
theorem JP{s s':S}(h:ga δ s=some (d,s'))(hg:gr δ=some ds)(hn:ds.length+1=n)(hG:G (d::ds)=some r):AI G n ga gr δ s=some (r,s'):=by
 unfold AI
 rw[h,aad,hg,aad,aav hn]
 rw[hG];rfl
structure Ask(w:Str):Prop where
 nm:Nm w
 st:Txt.startswith w "plan "=false
 pl:(w==("plan":Str))=false
 ne:(w==("lot":Str))=false/\(w==("at":Str))=false/\(w==("bad":Str))=false/\(w==("good":Str))=false
theorem pH(hw:Ask w)(hn:Nm n)(hr:dP [.str row]=some (.tuple [.str w,.str n,told]))(hg:j4 s.pl n=some (cm p))(ha:eS [cm p,.str w,told]=some d):
  bB a [dw a,.str row] s=some (d,s):=by
 obtain⟨e1,e2,e3,e4⟩:=hw.ne
 have ok:=yy hw.nm.lo
 refine Fy (M7 hr hn ?_)
 refine oA (ZA hw.st) ?_
 refine oA (Qm e1 ok ⋯) ?_
 refine oA (Qm e2 ok ⋯) ?_
 refine oA (Qm e3 ok ⋯) ?_
 refine oA (Qm e4 ok ⋯) ?_
 exact vz (JP (d:=cm p) (ds:=[.str w,told]) (kl (set:=λ_ k=>k) (ds:=[.str n]) (k:=s) rfl rfl rfl (A9 hg)) rfl rfl ha)
theorem Di:Ask "show":=⟨km ⋯,⋯,⋯,⋯,⋯,⋯,⋯⟩
theorem Dj:Ask "ends":=⟨km ⋯,⋯,⋯,⋯,⋯,⋯,⋯⟩
theorem zV:Ask "judge":=⟨km ⋯,⋯,⋯,⋯,⋯,⋯,⋯⟩
theorem wZ:Ask "ways":=⟨km ⋯,⋯,⋯,⋯,⋯,⋯,⋯⟩
theorem Qn(hw:PyData.strOk w=true):gB (g2 f9 (ae 1) (gC (.str w))) [some (cm p),fk w,some x,y]=some true:=bx (aj rfl rfl (cM hw hw (afl w)))
theorem Dl(hw:PyData.strOk w=true)(hv:PyData.strOk v=true)(h:(w==v)=false):gB (g2 f9 (ae 1) (gC (.str v))) [some (cm p),fk w,some x,y]=some false:=bx (aj rfl rfl (cM hw hv h))
theorem M8(h:Good p):eS [cm p,.str "show",.list []]=some (.str (pS p)):=by
 exact aP (cx true (Qn ⋯) (λ_=>cy _ (call_of ⇑4 rfl (CZ h.len h.ent)) ⇑16) λz=>nomatch z)
theorem M9(h:Good p):eS [cm p,.str "ends",.list []]=some (.str (JO p)):=by
 exact aP (bM (Dl ⋯ ⋯ ⋯) (cx true (Qn ⋯) (λ_=>cy _ (call_of (cons_of (aW (eL ⇑4 rfl (U7 h.len h.Qg))) rfl) rfl (yz h)) ⇑16) λz=>nomatch z))
theorem JQ(h:Good p):eS [cm p,.str "judge",.list []]=some (.str (jT p)):=by
 rw[CN]
 refine aP (bM (Dl ⋯ ⋯ ⋯) (bM (Dl ⋯ ⋯ ⋯) (cx true (Qn ⋯) (λ_=>cy (.str (jT p)) ?_ ⇑16) λz=>nomatch z)))
 have e:fG (aS eu 1 ⇑8) [some (cm p),fk "judge",sL ([]),none]=some (p.all oz):=gq (call_of ⇑4 rfl (VA h))
 unfold TZ
 rw[e,aad]
 unfold jT
 cases p.all oz<;>rfl
theorem xa(h:Good p){k:Nat}(e:b+g=(k:Int))(hk:k<=25):(kL p b g).natAbs<1000000000:=by
 rw[C2 h.pl e]
 have h1:=C1 (p:=p) Hq k b
 have h2:=Ht (p:=p) k b
 have h3:(2:Int)^k<=2^25:=by exact_mod_cast Nat.pow_le_pow_right ⇑0 hk
 lia
theorem Na(h:Good p){k:Nat}(e:b+g=(k:Int))(hk:k<=25):eS [cm p,.str "ways",.list [.int b,.int g]]=some (.str (nS (kL p b g))):=by
 refine aP (bM (Dl ⋯ ⋯ ⋯) (bM (Dl ⋯ ⋯ ⋯) (bM (Dl ⋯ ⋯ ⋯) (bM (Dl ⋯ ⋯ ⋯) (bM (Dl ⋯ ⋯ ⋯) ?_)))))
 exact cx true (Qn ⋯) (λ_=>cy _ (eM (cons_of (call_of (cons_of rfl ⇑4) rfl (Jv h.len h.Qg (b,g))) rfl) (rQ (xa h e hk))) ⇑16) λz=>nomatch z
theorem VB(h:ws.cps.toList=w.cps.toList++[32])(hw:Ask w)(hn:Nm n)(hf:(ES.find? λe=>decide (e.1=w)).map (·.2.2.2)=some []):dP [.str (ws++n)]=some (.tuple [.str w,.str n,.list []]):=by
 refine uD (w:=w) (n:=n) (ts:=[]) ?_ hw.nm hn hw.pl (λ_ z=>(nomatch z)) ⇑0 (M1 hf)
 rw[Zy,app_list,app_list,app_list,h]
theorem Nb(h:Good p)(hn:Nm n)(hg:j4 s.pl n=some (cm p)):bB a [dw a,.str ("show "++n)] s=some (.str (pS p),s):=
 pH Di hn (VB ⋯ Di hn ⋯) hg (M8 h)
theorem Nc(h:Good p)(hn:Nm n)(hg:j4 s.pl n=some (cm p)):bB a [dw a,.str ("ends "++n)] s=some (.str (JO p),s):=
 pH Dj hn (VB ⋯ Dj hn ⋯) hg (M9 h)
theorem JR(h:Good p)(hn:Nm n)(hg:j4 s.pl n=some (cm p)):bB a [dw a,.str ("judge "++n)] s=some (.str (jT p),s):=
 pH zV hn (VB ⋯ zV hn ⋯) hg (JQ h)
theorem VC:("ways ":Str).cps.toList=("ways":Str).cps.toList++[32]:=⋯
theorem Nd(h:Good p)(hn:Nm n)(hg:j4 s.pl n=some (cm p)){k:Nat}(e:b+g=(k:Int))(hk:k<=25)(h1:0<=b)(h2:0<=g):
  bB a [dw a,.str ((((("ways ":Str)++n)++" ")++nS b)++" "++nS g)] s=some (.str (nS (kL p b g)),s):=by
 refine pH (told:=.list [.int b,.int g]) wZ hn ?_ hg (Na h e hk)
 refine uD (w:="ways") (n:=n) (ts:=[nS b,nS g]) ?_ wZ.nm hn wZ.pl (λt ht=>?_) ⇑11 ?_
 .rw [join_cons,join_cons,join_cons,join_one];simp only[app_list,VC,M3,abt]
 .simp at ht;rcases ht with rfl|rfl;.exact tQ ⇑2 ⇑2
  .exact tQ ⇑2 ⇑2
 .refine uC (l:=[(b,("number":Str)),(g,("number":Str))]) ?_ (λq hq=>?_) ⇑11
  .show _=some [("number":Str),"number"];decide +kernel
  .simp at hq;rcases hq with rfl|rfl;.exact n1 h1 (by show b<26;lia)
   .exact n1 h2 (by show g<26;lia)
def sT(a:Addr)(n:Str)(p:dz)(k:Int)(x y z:Option D):DS:=[some (dw a),fk n,some (cm p),some (.int k),x,y,z]
theorem FA(h:Good p)(hn:Nm n)(hg:j4 s.pl n=some (cm p))(k:Int):i5 a [dw a,.str n,cm p,.int k] s=some (.bool true,s):=by
 have NI:=hn.len.2
 rw[gA]at NI
 refine Fy ?_
 have s1:∀x y z:Option D,kF id (λ_ k=>k) 0 a bB 2 (aa (g2 aA (cD "show ") (ae 1)) ag) (sT a n p k x y z) s=some (.str (pS p),s):=λx y z=>by
  have e:("show ":Str).length=5:=⋯
  exact kl (set:=λ_ k=>k) (ds:=[.str ("show "++n)]) rfl (cons_of (aj rfl rfl (eO (by rw[e];lia))) rfl) rfl (Nb h hn hg)
 have s2:∀x y z:Option D,kF id (λ_ k=>k) 0 a bB 2 (aa (g2 aA (cD "ends ") (ae 1)) ag) (sT a n p k x y z) s=some (.str (JO p),s):=λx y z=>by
  have e:("ends ":Str).length=5:=⋯
  exact kl (set:=λ_ k=>k) (ds:=[.str ("ends "++n)]) rfl (cons_of (aj rfl rfl (eO (by rw[e];lia))) rfl) rfl (Nc h hn hg)
 have s3:∀x y z:Option D,kF id (λ_ k=>k) 0 a bB 2 (aa (g2 aA (cD "judge ") (ae 1)) ag) (sT a n p k x y z) s=some (.str (jT p),s):=λx y z=>by
  have e:("judge ":Str).length=6:=⋯
  exact kl (set:=λ_ k=>k) (ds:=[.str ("judge "++n)]) rfl (cons_of (aj rfl rfl (eO (by rw[e];lia))) rfl) rfl (JR h hn hg)
 refine dU (δ':=sT a n p k none none none) (zU (Zr (C7 (C8 (s1 none none none) (call_of ⇑4 rfl (pV h.len h.ent)) (vB (yy (Vc h.ent))))) (C7 (C8 (s2 none none none) (call_of (cons_of (aW (eL ⇑4 rfl (C4 h.pl h.len h.Qg))) rfl) rfl (uM h)) (vB (Qk h))))) rfl) ?_
 obtain⟨m,hm⟩:∃m:Nat,k%((p.length:Int)+2)=(m:Int):=⟨(k%((p.length:Int)+2)).toNat,by have:=aco k (b:=(p.length:Int)+2) ⇑2;lia⟩
 have V6:m<=25:=by
  have:=abN k (show(0:Int)<(p.length:Int)+2 by lia);have:=h.len;lia
 obtain⟨b,hb⟩:∃b:Nat,k/32%((m:Int)+1)=(b:Int):=⟨(k/32%((m:Int)+1)).toNat,by have:=aco (k/32) (b:=(m:Int)+1) ⇑2;lia⟩
 have hb2:b<=m:=by
  have:=abN (k/32) (show(0:Int)<(m:Int)+1 by lia);lia
 refine dU (δ':=sT a n p k (some (.int (m:Nat))) none none) (jf (bf ?_)) ?_
 .rw [<-hm];refine aj (y:=.int ((p.length:Int)+2)) rfl (aj (x:=.int (p.length:Nat)) (eM ⇑4 ?_) rfl rfl) (fW ⇑2);show some (PyData.int (((p.map dR).length:Nat):Int))=_;rw[aac]
 refine dU (δ':=sT a n p k (some (.int (m:Nat))) (some (.int (b:Nat))) none) (jf (bf ?_)) ?_
 .rw [<-hb];exact aj (aj rfl rfl (dd 32 ⇑0 ⇑0)) (aj rfl rfl rfl) (fW ⇑2)
 obtain⟨kds,ew,hd⟩:=Fi h.pl h.len h.Qg
 have ed:(b:Int)+((m:Int)-(b:Int))=(m:Int):=by lia
 refine dU (δ':=sT a n p k (some (.int (m:Nat))) (some (.int (b:Nat))) (some (.int (kL p b ((m:Int)-(b:Int)))))) (jf (bf ?_)) ?_
 .exact (ki (c:=((b:Int),(m:Int)-(b:Int))) (call_of ⇑4 rfl ew) (HC rfl rfl) rfl).trans (abR some (hd b ((m:Int)-(b:Int))))
 have hw:=Nd (a:=a) h hn hg ed V6 ⇑2 ⇑2
 have dS:∀x:Int,-1<=x->x<26->j2 [.int x]=some (.str (nS x))/\(nS x).length<=10:=λx h1 h2=>⟨rQ ⇑2,(tQ h1 h2).len⟩
 obtain⟨d1,l1⟩:=dS b ⇑2 ⇑2
 obtain⟨d2',l2⟩:=dS ((m:Int)-(b:Int)) ⇑2 ⇑2
 have lw:("ways ":Str).length=5:=⋯
 have la:∀x y:Str,(x++y).length=x.length+y.length:=λx y=>by rw[<-gA,app_list,aak,gA,gA]
 have s4:kF id (λ_ k=>k) 0 a bB 2 (aa (g2 aA (g2 aA (g2 aA (g2 aA (g2 aA (cD "ways ") (ae 1)) (cD " ")) (cQ j2 (aa (ae 5) ag))) (cD " ")) (cQ j2 (aa (g2 eZ (ae 4) (ae 5)) ag))) ag) (sT a n p k (some (.int (m:Nat))) (some (.int (b:Nat))) (some (.int (kL p b ((m:Int)-(b:Int)))))) s=some (.str (nS (kL p b ((m:Int)-(b:Int)))),s):=by
  refine kl (set:=λ_ k=>k) (ds:=[_]) rfl (cons_of (aj (aj (aj (aj (aj rfl rfl (eO ?_)) rfl (eO ?_)) (eM ⇑4 d1) (eO ?_)) rfl (eO ?_)) (eM (cons_of (aj rfl rfl rfl) rfl) d2') (eO ?_)) rfl) rfl hw;all_goals simp only[la,lw,l1s];lia
 refine dU (δ':=sT a n p k (some (.int (m:Nat))) (some (.int (b:Nat))) (some (.int (kL p b ((m:Int)-(b:Int)))))) (zU (C7 (C8 s4 (eM ⇑4 (rQ (xa h ed V6))) (vB (acG _)))) rfl) ?_
 exact vz (C8 (s3 _ _ _) (call_of ⇑4 rfl (Dh h)) (cM (RK p) (RK p) (afl _)))
structure VD(x y z:Str):Prop where
 a:Nm x
 b:Nm y
 c:Nm z
 ab:x≠y
 ac:x≠z
 bc:y≠z
noncomputable def J6:List Str:=["plan","lot","hand","many","bad","good","at","rule","ends","ways","odds","mean","show"]
noncomputable def nmB(x:Str):Bool:=decide (1<=x.cps.toList.length)&&decide (x.cps.toList.length<=8)&&x.cps.toList.all λc=>decide (97<=c)&&decide (c<=122)
def VE(x y z:Str):Bool:=nmB x&&(nmB y&&(nmB z&&(!(decide (x=y))&&(!(decide (x=z))&&!(decide (y=z))))))
theorem VF(h:VE x y z=true):VD x y z:=by
 unfold VE at h
 simp at h
 exact⟨km h.1,km h.2.1,km h.2.2.1,h.2.2.2.1,h.2.2.2.2.1,h.2.2.2.2.2⟩
theorem VG:(List.range 13).all (λj=>VE (J6.getD j "") (J6.getD ((j+5)%13) "") (J6.getD ((j+10)%13) ""))=true:=⋯
theorem ZC(m:Int):bN (.list (J6.map .str)) (.int (m%13))=some (.str (J6.getD (m%13).toNat "")):=by
 obtain⟨k,hk⟩:∃k:Nat,m%13=(k:Int):=⟨(m%13).toNat,by lia⟩
 have hl:k<J6.length:=by show k<13;lia
 rw[hk,abV]
 exact fJ (by rw[aas,aal hl,aaC,aal hl];rfl)
theorem Nf(m:Int):bN (.str "abcdefghijklmnopqrstuvwxyz") (.int (m%26))=some (.str ⟨#[97+(m%26).toNat]⟩):=by
 obtain⟨k,hk⟩:∃k:Nat,m%26=(k:Int):=⟨(m%26).toNat,by lia⟩
 have hl:k<26:=by lia
 rw[hk,abV]
 show(if("abcdefghijklmnopqrstuvwxyz":Str).length<=100000 then(so ("abcdefghijklmnopqrstuvwxyz":Str).cps.toList (k:Int)).map (λc=>PyData.str ⟨#[c]⟩)else none)=_
 rw[aav ⋯,lets,fJ (v:=97+k) (by rw[aas,afz hl];rfl)]
 rfl
theorem pW(w:List Nat):(gN w).cps.toList=w:=List.toList_toArray
theorem ig(w:List Nat):(gN w).length=w.length:=aaA
theorem slT{k:Nat}(h:k<=t.length):Txt.slice (gN t) none (some (k:Int))=gN (t.take k):=by
 have e:=afh.mp (PyProof.Rows.slice_closes_to (x:=gN t) (j:=(k:Int)) ⟨by lia,by rw[pW];lia⟩)
 rw[e]
 refine aeS (aeF.mp ?_)
 rw[pW,pW,show((k:Int)-0).toNat=k by lia,show(0:Int).toNat=0 from rfl,List.drop_zero]
theorem slF{k:Nat}(h:k<=t.length):Txt.slice (gN t) (some (k:Int)) none=gN (t.drop k):=by
 have e:=afh.mp (PyProof.Rows.slice_closes_from (x:=gN t) (i:=(k:Int)) ⟨by lia,by rw[pW];lia⟩)
 rw[e]
 refine aeS (aeF.mp ?_)
 rw[pW,pW,abV,List.take_of_length_le (by rw[aeD];lia)]
theorem Dm(h:g δ=some (.int k)):fU g δ=some (some k):=by unfold fU;rw[h];rfl
theorem slA(h:ae i δ=some (.str (gN t)))(hg:g δ=some (.int (k:Nat)))(hk:k<=t.length)(hl:t.length<=100000):EI (ae i) jq (fU g) δ=some (.str (gN (t.take k))):=by
 unfold EI
 rw[h,aad,show jq δ=some none from rfl,aad,Dm hg,aad]
 show(if(gN t).length<=100000 then some (PyData.str (Txt.slice (gN t) none (some (k:Int))))else none)=_
 rw[aav (by rw[ig];exact hl),slT hk]
theorem slB(h:ae i δ=some (.str (gN t)))(hg:g δ=some (.int (k:Nat)))(hk:k<=t.length)(hl:t.length<=100000):EI (ae i) (fU g) jq δ=some (.str (gN (t.drop k))):=by
 unfold EI
 rw[h,aad,Dm hg,aad,show jq δ=some none from rfl,aad]
 show(if(gN t).length<=100000 then some (PyData.str (Txt.slice (gN t) (some (k:Int)) none))else none)=_
 rw[aav (by rw[ig];exact hl),slF hk]
noncomputable def HH(t:List Nat)(a:Nat)(m:Int)(k:Nat):List Nat:=t.take a++[97+((m+7*(k:Int))%26).toNat]++t.drop (a+1)
theorem Qo(ha:a<t.length):(HH t a m k).length=t.length:=by
 unfold HH
 rw[aak,aak,acb,aeD,aaW];lia
theorem FC(ha:a<t.length)(hl:t.length<=8)(ht:∀c∈t,97<=c/\c<=122):Nm (gN (HH t a m k)):=by
 refine⟨by rw[pW,Qo ha];lia,λc hc=>?_⟩
 rcases aap.mp hc with hc|hc
 .grind
 .grind
theorem FD{k j:Nat}(h:((m+7*(k:Int))%26).toNat≠((m+7*(j:Int))%26).toNat):gN (HH t a m k)≠gN (HH t a m j):=λz=>by
 have e:=abR (λx:Str=>x.cps.toList) z
 have e:=(List.append_inj_left e ⇑11)
 have e:=(List.append_inj_right e ⇑11)
 exact h (by have:=aek e;lia)
theorem ZD(ha:a<t.length)(hl:t.length<=8)(ht:∀c∈t,97<=c/\c<=122):VD (gN (HH t a m 0)) (gN (HH t a m 1)) (gN (HH t a m 2)):=
 ⟨FC ha hl ht,FC ha hl ht,FC ha hl ht,FD ⇑2,FD ⇑2,FD ⇑2⟩
theorem vC(x y:List Nat):gN x++gN y=gN (x++y):=aeS (aeF.mp (by rw[app_list,pW,pW,pW]))
theorem len_str(h:x.length<=100000):b8 [.str x]=some (.int (x.length:Nat)):=by
 show(if x.length<=100000 then some (PyData.int (x.length:Nat))else none)=_
 rw[aav h]
def sN(n:Int)(x y z u v:Option D):DS:=[some (.int n),fk "abcdefghijklmnopqrstuvwxyz",none,x,y,z,u,v]
theorem Dp(h0:0<=n)(h1:n<10^30):∃x y z,i4 [.int n]=some [.str x,.str y,.str z]/\VD x y z:=by
 suffices main:fN (i4 [.int n]) λds=>∃x y z,ds=[.str x,.str y,.str z]/\VD x y z by
  obtain⟨_,e,x,y,z,rfl,h⟩:=main;exact⟨x,y,z,e,h⟩
 refine cx (decide (n%8=5)) (bx (aj (aj rfl rfl (fW ⇑0)) rfl rfl)) (λ_=>?_) λ_=>?_
 .rw [seq_assoc];have e:cb (gM (aa (ay 3) ag)) [2,0] (g2 bN (ae 1) (g2 eD (g2 aA (g2 gg (ae 2) (ay 8)) (g2 d6 (ay 5) (ae 0))) (ay 13))) [sI n,fk "abcdefghijklmnopqrstuvwxyz",sL (J6.map .str),none,none,none,none,none]=some (((List.range 3).map λk:Nat=>J6.getD ((n/8+5*(0+(k:Int)))%13).toNat "").map .str):=by
   refine dQ (λk:Nat=>PyData.int (0+(k:Int))) PyData.str (λk:Nat=>J6.getD ((n/8+5*(0+(k:Int)))%13).toNat "") (List.range 3) (jJ ⇑4 ⇑0) ⇑0 λk hk=>?_;have hk:=ad2.mp hk;exact aj rfl (aj (aj (aj rfl rfl (dd 8 ⇑0 ⇑0)) (aj rfl rfl (lM (Mq (m:=3) (n:=3) (nW ⇑0) (nW ⇑2)))) rfl) rfl (fW ⇑0)) (ZC _)
  refine cy _ (aW e) (.mk rfl ⟨_,_,_,rfl,?_⟩);obtain⟨j,hj⟩:∃j:Nat,(n/8)%13=(j:Int):=⟨((n/8)%13).toNat,by lia⟩;have w:=abU.mp VG j (ad2.mpr ⇑2);have e0:((n/8+5*(0+((0:Nat):Int)))%13).toNat=j:=by lia
  have e1:((n/8+5*(0+((1:Nat):Int)))%13).toNat=(j+5)%13:=by lia
  have e2:((n/8+5*(0+((2:Nat):Int)))%13).toNat=(j+10)%13:=by lia
  show VD (J6.getD ((n/8+5*(0+((0:Nat):Int)))%13).toNat "") (J6.getD ((n/8+5*(0+((1:Nat):Int)))%13).toNat "") (J6.getD ((n/8+5*(0+((2:Nat):Int)))%13).toNat "");rw[e0,e1,e2];exact VF w
 .rw [rL];obtain⟨L,hL,hL2⟩:∃L:Nat,(1+n/8%8:Int)=(L:Int)/\1<=L/\L<=8:=⟨(1+n/8%8).toNat,by lia,by lia⟩;have rg:gM (aa (g2 aA (ay 1) (g2 eD (g2 gg (ae 0) (ay 8)) (ay 8))) ag) (sN n (some (.str (gN []))) none none none none)=some (hX 0 L):=
   jJ (cons_of (aj rfl (aj (aj rfl rfl (dd 8 ⇑0 ⇑0)) rfl (fW ⇑0)) (show some (PyData.int (1+n/8%8))=some (.int (L:Nat))by rw[hL])) rfl) ⇑2;refine nX 0 L (λi δ=>∃(t:List Nat) (z:Option D),δ=(sN n (some (.str (gN t))) z none none none)/\t.length=i/\∀c∈t,97<=c/\c<=122) rg ⟨[],none,rfl,rfl,λc hc=>nomatch hc⟩ ?_ ?_
  .rintro i δ hi ⟨t,z,rfl,hlen,ht⟩;obtain⟨m,hm⟩:∃m:Int,m=n/64+(0+(i:Int))*(n/1664):=⟨_,rfl⟩;have b2:bt (n/1664)<=100:=nW ⇑2;have ix:g2 bN (ae 1) (g2 eD (g2 aA (g2 gg (ae 0) (ay 64)) (g2 d6 (ae 4) (g2 gg (ae 0) (ay 1664)))) (ay 26)) (sN n (some (.str (gN t))) (some (.int (0+(i:Int)))) none none none)=some (.str (gN [97+(m%26).toNat])):=by
    rw[hm];exact aj rfl (aj (aj (aj rfl rfl (dd 64 ⇑0 ⇑0)) (aj rfl (aj rfl rfl (dd 1664 ⇑0 ⇑0)) (lM (Mq (m:=4) (n:=100) (nW ⇑2) b2))) rfl) rfl (fW ⇑0)) (Nf _)
   refine⟨_,(sN n (some (.str (gN (t++[97+(m%26).toNat])))) (some (.int (0+(i:Int)))) none none none),rfl,?_,t++[97+(m%26).toNat],_,rfl,by rw[aak,aaW,hlen],λc hc=>?_⟩
   .rw [<-vC];exact bf (aj rfl ix (eO (by rw[ig,ig,aaW];lia)))
   .grind
  .rintro δ' ⟨t,z,rfl,hlen,ht⟩;obtain⟨a,ha⟩:∃a:Nat,(n/64)%(t.length:Int)=(a:Int):=⟨((n/64)%(t.length:Int)).toNat,by have:=aco (n/64) (b:=(t.length:Int)) ⇑2;lia⟩;have hat:a<t.length:=by have:=abN (n/64) (b:=(t.length:Int)) ⇑2;lia
   refine bq (sN n (some (.str (gN t))) z (some (.int (a:Nat))) none none) (bf ((aj (aj rfl rfl (dd 64 ⇑0 ⇑0)) (eM ⇑4 (len_str (by rw[ig];lia))) (fW (by rw[ig];lia))).trans (by rw[ig,ha]))) ?_;refine nX 0 3 (λi δ=>∃(z w:Option D),δ=(sN n (some (.str (gN t))) z (some (.int (a:Nat))) (some (.list ((List.range i).map λk=>PyData.str (gN (HH t a (n/64) k))))) w)) (jJ ⇑4 ⇑0) ⟨z,none,rfl⟩ ?_ ?_
   .rintro i δ hi ⟨z,w,rfl⟩;have ix:g2 bN (ae 1) (g2 eD (g2 aA (g2 gg (ae 0) (ay 64)) (g2 d6 (ay 7) (ae 4))) (ay 26)) (sN n (some (.str (gN t))) (some (.int (0+(i:Int)))) (some (.int (a:Nat))) (some (.list ((List.range i).map λk=>PyData.str (gN (HH t a (n/64) k))))) w)=some (.str (gN [97+((n/64+7*(i:Int))%26).toNat])):=by
     refine(aj rfl (aj (aj (aj rfl rfl (dd 64 ⇑0 ⇑0)) (aj rfl rfl (lM (Mq (m:=3) (n:=3) (nW ⇑0) (nW ⇑2)))) rfl) rfl (fW ⇑0)) (Nf _)).trans ?_;rw[Int.zero_add];rfl
    refine⟨_,(sN n (some (.str (gN t))) (some (.int (0+(i:Int)))) (some (.int (a:Nat))) (some (.list ((List.range (i+1)).map λk=>PyData.str (gN (HH t a (n/64) k))))) (some (.str (gN [97+((n/64+7*(i:Int))%26).toNat])))),rfl,cL (sN n (some (.str (gN t))) (some (.int (0+(i:Int)))) (some (.int (a:Nat))) (some (.list ((List.range i).map λk=>PyData.str (gN (HH t a (n/64) k))))) (some (.str (gN [97+((n/64+7*(i:Int))%26).toNat])))) (bf ix) ?_,_,_,rfl⟩;refine(kg (d:=.str (gN (HH t a (n/64) i))) rfl ?_ (by rw[aac,aev];lia)).trans ?_
    .have e:gN (HH t a (n/64) i)=gN (t.take a)++gN [97+((n/64+7*(i:Int))%26).toNat]++gN (t.drop (a+1)):=by rw[vC,vC];rfl
     rw[e];refine aj (aj (slA rfl rfl ⇑2 ⇑2) rfl (eO ?_)) (slB rfl (aj (r:=some (.int ((a+1:Nat):Int))) rfl rfl rfl) ⇑2 ⇑2) (eO ?_);.rw [ig,ig,acb,aaW];lia
     .rw [vC,ig,ig,aak,acb,aeD,aaW];lia
    .rw [List.range_succ,abj];rfl
   .rintro δ' ⟨z,w,rfl⟩;exact ret _ rfl (.mk rfl ⟨_,_,_,rfl,ZD hat ⇑2 ht⟩)
theorem VH(h:g δ=some d)(ht:t d δ=some δ'):K8 g t δ=some (.nx δ'):=by unfold K8;rw[h];show(t d δ).bind _=_;rw[ht];rfl
structure Iv(l:List (Str×D))(k:Nat):Prop where
 ok:∀q∈l,Nm q.1/\∃p,q.2=cm p/\Good p
 len:l.length<=k
theorem Iv.get(h:Iv l k)(hq:q∈l):∃p,j4 l q.1=some (cm p)/\Good p:=by
 unfold j4
 cases e:l.find? λr=>decide (r.1=q.1)with
 |none=>grind
 |some r=>
   obtain⟨_,p,hp,hg⟩:=h.ok r (List.mem_of_find?_eq_some e);exact⟨p,by rw[ad5,hp],hg⟩
theorem Iv.put(h:Iv l k)(hx:Nm x)(hp:Good p):Iv (kx l x (cm p)) (k+1):=by
 refine⟨λq hq=>?_,aa6 (Qj l x _) (afj h.len)⟩
 unfold kx at hq
 split at hq
 .obtain ⟨r,hr,rfl⟩:=aaH.mp hq;have o:=h.ok r hr;split;.grind
  .exact o
 .rcases aap.mp hq with z|z;.exact h.ok q z
  .grind
def sV(S:D)(N:List D)(a m:Addr)(k:Nat)(c:Int)(t p n x:Option D):DS:=[some S,some (.list N),some (dw a),some (dw m),some (.int (k:Nat)),some (.int c),t,p,n,x]
abbrev stI(a m:Addr)(l:List (Str×D)):GD Dk:=AE (Cw (dB (Mm 2 3 a m l i5 (ae 9) (ae 9) (g2 aA (g2 eD (ae 5) (g2 nD (ay 10) (ay 9))) (g2 d6 (ay 7) (ae 4)))))) (nQ (bh (gC (.bool false)))) j3
abbrev stB(a m:Addr):GD Kp:=e9 (nQ (K8 (aS kf 1 (aa (ae 5) ag)) (iz 2 (cv (aN 6) (cv (aN 7) iU)))))
  (e9 (nQ (bI 8 (g2 bN (ae 1) (g2 eD (g2 aA (g2 gg (ae 5) (ay 3)) (ae 4)) (ay 3)))))
  (e9 (AE (dB (d2 DN (kF Kp.dk (λs k=>⟨k,s.kp⟩) 2 a bB 2 (aa (g2 aA (g2 aA (g2 aA (cD "plan ") (ae 8)) (cD " ")) (ae 6)) ag)) (cD "ok"))) (nQ (bh (gC (.bool false)))) j3)
  (e9 (EM 3 m (ae 8) (ae 7))
  (EN 3 m (aN 9) λl=>stI a m l))))
theorem Qp(h:Iv l j)(hk:k<=100)(hq:q∈l):
  stI a m l (sV S N a m k c t p n (fk q.1)) ⟨l,[]⟩=some (.nx (sV S N a m k c t p n (fk q.1)),⟨l,[]⟩):=by
 obtain⟨pl,hg,good⟩:=h.get hq
 have p9:nD (.int 10) (.int 9)=some (.int (10^9)):=Ha (k:=9) ⇑0 ⇑0
 have e3:g2 aA (g2 eD (ae 5) (g2 nD (ay 10) (ay 9))) (g2 d6 (ay 7) (ae 4)) (sV S N a m k c t p n (fk q.1))=some (.int (c%10^9+7*(k:Int))):=aj (aj rfl (aj rfl rfl p9) (fW ⇑0)) (aj rfl rfl (lM (mul_left ⇑0 ⇑0))) rfl
 refine zU (Qd (b:=true) (C7 ?_)) rfl
 refine mf rfl (mf rfl ?_)
 show(j4 l q.1).bind _=_
 rw[hg,aad,e3,aad]
 unfold CA
 rw[FA good (h.ok q hq).1 hg];rfl
theorem inner(h:Iv l j)(hk:k<=100):∀(l':List (Str×D)) (x:Option D),(∀q∈l',q∈l)->
  ∃x',∀a m:Addr,iB (aN 9) (stI a m l) (l'.map λp=>.str p.1) (sV S N a m k c t p n x) ⟨l,[]⟩=some (.nx (sV S N a m k c t p n x'),⟨l,[]⟩)
 |[],x,_=>⟨x,λ_ _=>rfl⟩
 |q::l',x,hl=>by
   obtain⟨x',e⟩:=inner (S:=S) (N:=N) (c:=c) (t:=t) (p:=p) (n:=n) h hk l' (fk q.1) λr hr=>hl r (aat _ hr);refine⟨x',λa m=>?_⟩;rw[aaw];unfold iB;rw[show aN 9 (.str q.1) (sV S N a m k c t p n x)=some (sV S N a m k c t p n (fk q.1))from rfl,aad,Qp h hk (hl q aan)];exact e a m
theorem ZE:PyData.strOk ("ok":Str)=true:=⋯
theorem VI(N3:VD x y z)(h:Iv l j)(hj:j<=1000)(hk:k<=100)(c:Int)(t p n o:Option D):
  ∃l' t' p' n' o',(∀a m:Addr,stB a m (sV S [.str x,.str y,.str z] a m k c t p n o) ⟨⟨l,[]⟩,l⟩=some (.nx (sV S [.str x,.str y,.str z] a m k c t' p' n' o'),⟨⟨l',[]⟩,l'⟩))/\Iv l' (j+1):=by
 obtain⟨_,em,tx,pl,rfl,hm⟩:=Fv c
 obtain⟨nm,hnm,en⟩:∃nm:Str,Nm nm/\bN (.list [.str x,.str y,.str z]) (.int ((c/3+(k:Int))%3))=fk nm:=by
  have:(c/3+(k:Int))%3=0\/(c/3+(k:Int))%3=1\/(c/3+(k:Int))%3=2:=by lia
  rcases this with e|e|e<;>rw[e];.exact ⟨x,N3.a,rfl⟩
  .exact ⟨y,N3.b,rfl⟩
  .exact ⟨z,N3.c,rfl⟩
 have hI:=h.put hnm hm.good
 obtain⟨o',ei⟩:=inner (S:=S) (N:=[.str x,.str y,.str z]) (c:=c) (t:=fk tx) (p:=some (cm pl)) (n:=fk nm) hI hk (kx l nm (cm pl)) o λ_ q=>q
 have NI:=hnm.len.2
 rw[gA]at NI
 have htl:=hm.len
 have la:∀x y:Str,(x++y).length=x.length+y.length:=λx y=>by rw[<-gA,app_list,aak,gA,gA]
 have lp:("plan ":Str).length=5:=⋯
 refine⟨kx l nm (cm pl),fk tx,some (cm pl),fk nm,o',λa m=>?_,hI⟩
 refine dU (δ':=sV S [.str x,.str y,.str z] a m k c (fk tx) (some (cm pl)) n o) (jf (VH (call_of ⇑4 rfl em) rfl)) ?_
 refine dU (δ':=sV S [.str x,.str y,.str z] a m k c (fk tx) (some (cm pl)) (fk nm) o) (jf (bf (aj rfl (aj (aj (aj rfl rfl (dd 3 ⇑0 ⇑0)) rfl rfl) rfl (fW ⇑0)) en))) ?_
 refine dU (δ':=sV S [.str x,.str y,.str z] a m k c (fk tx) (some (cm pl)) (fk nm) o) (s':=⟨⟨kx l nm (cm pl),[]⟩,l⟩) (zU (C7 (C8 (kl (get:=Kp.dk) (set:=λ(s:Kp) (k:Dk)=>(⟨k,s.kp⟩:Kp)) (ds:=[.str (("plan "++nm)++" "++tx)]) (k:=⟨kx l nm (cm pl),[]⟩) rfl (cons_of (aj (aj (aj rfl rfl (eO ?_)) rfl (eO ?_)) rfl (eO ?_)) rfl) rfl (Fz hnm hm ?_)) rfl (vB ZE))) rfl) ?_
 .grind
 .rw [la,lp,l1s];lia
 .rw [la,la,lp,l1s];lia
 .have:=h.len;show l.length<_;lia
 refine dU (δ':=sV S [.str x,.str y,.str z] a m k c (fk tx) (some (cm pl)) (fk nm) o) (s':=⟨⟨kx l nm (cm pl),[]⟩,kx l nm (cm pl)⟩) ?_ ?_
 .refine mf rfl ?_;show(if l.length<100000 then some (Res.nx (sV S [.str x,.str y,.str z] a m k c (fk tx) (some (cm pl)) (fk nm) o),(⟨⟨kx l nm (cm pl),[]⟩,kx l nm (cm pl)⟩:Kp))else none)=_;rw[aav (by have:=h.len;lia)]
 .refine mf rfl ?_;rw[ei a m];rfl
def sU(S:D)(N:List D)(a m:Addr)(k c t p n x:Option D):DS:=[some S,some (.list N),some (dw a),some (dw m),k,c,t,p,n,x]
theorem VJ(N3:VD x y z):∀(zs:List (Int×Nat)) (l:List (Str×D)) (j:Nat) (k c t p n o:Option D),Iv l j->j+zs.length<=1000->(∀q∈zs,q.2<=100)->
  ∃s' k' c' t' p' n' o',∀a m:Addr,iB (iz 2 (cv (aN 4) (cv (aN 5) iU))) (stB a m) (zs.map λq=>.tuple [.int (q.2:Nat),.int q.1]) (sU S [.str x,.str y,.str z] a m k c t p n o) ⟨⟨l,[]⟩,l⟩=some (.nx (sU S [.str x,.str y,.str z] a m k' c' t' p' n' o'),s'):=by
 intro zs
 induction zs with
 |nil=>exact λl j k c t p n o _ _ _=>⟨_,k,c,t,p,n,o,λa m=>rfl⟩
 |cons q zs ih=>
   intro l j k c t p n o h hj hz;rw[aaz]at hj;obtain⟨l1,t1,p1,n1,o1,e1,h1⟩:=VI (S:=S) N3 (k:=q.2) h ⇑2 (hz q aan) q.1 t p n o;obtain⟨s2,k2,c2,t2,p2,n2,o2,e2⟩:=ih l1 (j+1) (some (.int (q.2:Nat))) (some (.int q.1)) t1 p1 n1 o1 h1 ⇑2 λr hr=>hz r (aat _ hr);refine⟨s2,k2,c2,t2,p2,n2,o2,λa m=>?_⟩;rw[aaw];unfold iB;rw[show iz 2 (cv (aN 4) (cv (aN 5) iU)) (.tuple [.int (q.2:Nat),.int q.1]) (sU S [.str x,.str y,.str z] a m k c t p n o)=some (sV S [.str x,.str y,.str z] a m q.2 q.1 t p n o)from rfl,aad,e1 a m];exact e2 a m
theorem Ng(h:∀a,∃s',g a (δ.set j (some (dw a))) ⟨[],[]⟩=some (.rt d,s'))(k:R d):fN ((AH j g δ).bind dW) R:=by
 have e:AH j g δ=some (.rt d):=GY λa=>by
  obtain⟨s',e⟩:=h a;rw[e];rfl
 rw[e]
 exact .mk rfl k
theorem Nh(h:∀m,g m (δ.set j (some (dw m))) ⟨s,[]⟩=some (.rt r,s')):EL j g δ s=some (.rt r,s'.dk):=by
 refine GY λm=>?_
 rw[h m];rfl
theorem Qq(h:gi δ=some ds)(k:iB t b ds δ s=r):Pa gi t b δ s=r:=by unfold Pa;rw[h];exact k
theorem Ni(ns:List Int)(h:ns.length<=63):zR [.list (ns.map .int)]=some (.bool true):=by
 rw[Zb]
 refine aP ?_
 have cl:∀{i:Nat} {δ:DS},aS fb 2 (aa (ae 0) (aa (gC (.int (i:Nat))) ag)) (some (.list (ns.map .int))::δ)=some (.int (ns.getD i 0)):=λ{i δ}=>call_of (cons_of rfl ⇑4) rfl (EZ ns i)
 have p30:nD (.int 10) (.int 30)=some (.int (10^30)):=Ha (k:=30) ⇑0 ⇑0
 obtain⟨x,y,z,en,N3⟩:=Dp (n:=ns.getD 0 0%10^30) (aco _ ⇑0) (abN _ ⇑0)
 refine bq [sL (ns.map .int),sL ([.str x,.str y,.str z]),none,none,none,none,none,none,none,none] (bf (aW (eL (cons_of (aj (cl (i:=0)) (aj rfl rfl p30) (fW ⇑0)) rfl) rfl en))) ?_
 obtain⟨w,ew,hw⟩:∃w:List Int,cutD (ns.map .int) (some 1) (some 13)=w.map .int/\w.length<=63:=by
  obtain⟨w,e,h1,h2⟩:=PD PyData.int ns 1 13;exact⟨w,e,by lia⟩
 have ei:∀a m:Addr,gT (aX (K3 yn (aX (yp (ae 0) (fU (ay 1)) (fU (ay 13)))) (aX (cV (aa (aS fb 2 (aa (ae 0) (aa (ay 1) ag))) ag))))) ⇑44=some (((w++[ns.getD 1 0]).zipIdx).map λq=>.tuple [.int (q.2:Nat),.int q.1]):=λa m=>by
  have e1:aX (yp (ae 0) (fU (ay 1)) (fU (ay 13))) ⇑44=some (.list (w.map .int)):=by
   rw[<-ew];rfl
  have e2:aX (cV (aa (aS fb 2 (aa (ae 0) (aa (ay 1) ag))) ag)) ⇑44=some (.list (([ns.getD 1 0]:List Int).map .int)):=by
   have ec:aa (aS fb 2 (aa (ae 0) (aa (ay 1) ag))) ag ⇑44=some [.int (ns.getD 1 0)]:=cons_of (cl (i:=1)) rfl;refine aW ?_;unfold cV;rw[ec];rfl
  have e3:=Mx e1 e2 (by simp;lia);unfold gT;rw[aW e3,<-List.map_append];show some (jU ((w++[ns.getD 1 0]).map .int))=_;unfold jU;rw[afw,ad0];rfl
 obtain⟨s',k',c',t',p',n',o',el⟩:=VJ (S:=.list (ns.map .int)) N3 ((w++[ns.getD 1 0]).zipIdx) [] 0 none none none none none none ⟨λq hq=>(nomatch hq),aah _⟩ (by rw[ae0,aak,aaW];lia) (λq hq=>by
  have:=List.mem_zipIdx hq;simp only[aak,aaW]at this;lia)
 refine Ng (d:=.bool true) (λa=>⟨s'.dk,Nh (s':=s') λm=>?_⟩) rfl
 exact dU (Qq (ei a m) (el a m)) (jf rfl)
theorem bD(a:sc.kind=.function:=by rfl)(b:sc.isCoroutine=false:=by rfl)(c:sc.isGenerator=false:=by rfl)(d:N.Nodup:=by decide +kernel)(e:N.take P.length=P:=by rfl)(f:∀x∈P,sc.names.lookup x=some .local\/sc.names.lookup x=some .cell:=by decide +kernel)(g:∀y∈sc.names,y.2≠.free:=by decide +kernel):az N P sc:=⟨a,b,c,d,e,f,g⟩
abbrev tR:Stmt:=top 27
theorem mD:az ["thing","there","place"] ["thing"] (ah tR):=bD
abbrev tU:Stmt:=top 28
theorem xb:az ["plan","count","draws"] ["plan","count"] (ah tU):=bD
abbrev pI:Stmt:=top 29
theorem mE:az ["plan","told","draws","place"] ["plan"] (ah pI):=bD
abbrev Bb:Stmt:=top 30
theorem Qr:az ["plan"] ["plan"] (ah Bb):=bD
abbrev mF:Stmt:=top 31
theorem kN:az ["plan","told","draws","place"] ["plan"] (ah mF):=bD
abbrev eB:Stmt:=top 33
theorem fA:az ["draws_on","places","there","draws","place"] ["draws_on"] (ah eB):=bD
abbrev rT:Stmt:=top 34
theorem JS:az ["place"] ["place"] (ah rT):=bD
abbrev Bc:Stmt:=top 35
theorem Nj:az ["count","sign"] ["count","sign"] (ah Bc):=bD
abbrev mG:Stmt:=top 36
theorem Dq:az ["thing","there"] ["thing","there"] (ah mG):=bD
abbrev qE:Stmt:=top 37
theorem Dr:az ["thing"] ["thing"] (ah qE):=bD
abbrev tV:Stmt:=top 47
theorem FE:az ["plan","count"] ["plan","count"] (ah tV):=bD
abbrev oB:Stmt:=top 49
theorem ij:az ["plan","beginning","ways","count","many","led"] ["plan","beginning"] (ah oB):=bD
abbrev oC:Stmt:=top 56
theorem mH:az ["row","told","number"] ["row"] (ah oC):=bD
abbrev fL:Stmt:=top 57
theorem qF:az ["plan"] ["plan"] (ah fL):=bD
abbrev kO:Stmt:=top 73
theorem Bd:az ["plan"] ["plan"] (ah kO):=bD
abbrev jy:Stmt:=top 74
theorem yA:az ["place"] ["place"] (ah jy):=bD
abbrev kP:Stmt:=top 75
theorem rV:az ["text","plan"] ["text"] (ah kP):=bD
abbrev jz:Stmt:=top 76
theorem yB:az ["text"] ["text"] (ah jz):=bD
abbrev ls:Stmt:=top 77
theorem xc:az ["word"] ["word"] (ah ls):=bD
abbrev kQ:Stmt:=top 78
theorem Be:az ["word"] ["word"] (ah kQ):=bD
abbrev oE:Stmt:=top 80
theorem rW:az ["plan","deed","told","count"] ["plan","deed","told"] (ah oE):=bD
abbrev iL:Stmt:=top 82
theorem xf:az ["counts"] ["counts"] (ah iL):=bD
abbrev jA:Stmt:=top 83
theorem yC:az ["count"] ["count"] (ah jA):=bD
abbrev qG:Stmt:=top 88
theorem oF:az ["row","parts","words"] ["row"] (ah qG):=bD
abbrev jB:Stmt:=top 89
theorem pX:az ["deed","name","words","kinds"] ["deed","name","words"] (ah jB):=bD
abbrev oG:Stmt:=top 90
theorem Bf:az ["word","kind"] ["word","kind"] (ah oG):=bD
abbrev mI:Stmt:=top 91
theorem yD:az ["word"] ["word"] (ah mI):=bD
abbrev eG:Stmt:=top 93
theorem xg:az ["is_of_a_kind"] ["is_of_a_kind"] (ah eG):=bD
abbrev gY:Stmt:=top 96
theorem FF:az ["draws"] ["draws"] (ah gY):=bD
abbrev oH:Stmt:=top 97
theorem Qs:az ["bad","draws"] ["bad","draws"] (ah oH):=bD
abbrev eV:Stmt:=top 98
theorem rX:az ["first","low","high","second","draws_on"] ["first","low","high","second"] (ah eV):=bD
abbrev gZ:Stmt:=top 99
theorem FG:az ["rise","run","below","above","draws"] ["rise","run","below","above","draws"] (ah gZ):=bD
abbrev eI:Stmt:=top 100
theorem xh:az ["is_within_bounds"] ["is_within_bounds"] (ah eI):=bD
abbrev gQ:Stmt:=(inClass (top 105) 0)
theorem tW:az ["self"] ["self"] (ah gQ):=bD
abbrev mJ:Stmt:=(inClass (top 105) 1)
theorem i6:az ["self","row","read","deed","name","told"] ["self","row"] (ah mJ):=bD
abbrev gR:Stmt:=(inClass (top 105) 2)
theorem tX:az ["self","name","plan"] ["self","name","plan"] (ah gR):=bD
abbrev fM:Stmt:=(inClass (top 105) 5)
theorem qH:az ["self","name"] ["self","name"] (ah fM):=bD
abbrev jC:Stmt:=top 106
theorem yE:az ["name"] ["name"] (ah jC):=bD
abbrev tY:Stmt:=top 107
theorem FH:az ["deed","told"] ["deed","told"] (ah tY):=bD
abbrev qI:Stmt:=top 109
theorem Ds:az ["_law_script","_law_k"] ["_law_script","_law_k"] (ah qI):=bD
abbrev mK:Stmt:=top 110
theorem iM:az ["_law_cell_here","_law_base","_law_many","_law_row","_law_k"] ["_law_cell_here","_law_base","_law_many"] (ah mK):=bD
abbrev oJ:Stmt:=top 111
theorem jD:az ["_law_cell_here","_law_base","_law_many","_law_row","_law_k","_law_number"] ["_law_cell_here","_law_base","_law_many"] (ah oJ):=bD
abbrev kn:Stmt:=top 112
theorem cR:az ["_law_cell_here","_law_most_here","_law_rest","_law_many","_law_digits_here","_law_rows","_law_come","_law_at","_law_row"] ["_law_cell_here","_law_most_here"] (ah kn):=bD
abbrev iN:Stmt:=top 114
theorem eP:az ["_law_cell_here","_law_bases","_law_row","_law_made_here","_law_base"] ["_law_cell_here","_law_bases"] (ah iN):=bD
abbrev ko:Stmt:=top 115
theorem g0:az ["_law_plan_here","_law_found","_law_n","_law_on","_law_come"] ["_law_plan_here"] (ah ko):=bD
abbrev qJ:Stmt:=top 116
theorem fX:az ["_law_plan_here","_law_ways_here","_law_n","_law_row","_law_bad","_law_here","_law_count"] ["_law_plan_here"] (ah qJ):=bD
abbrev iO:Stmt:=top 117
theorem xi:az ["_law_plan_here"] ["_law_plan_here"] (ah iO):=bD
abbrev gS:Stmt:=top 118
theorem tZ:az ["_law_some"] ["_law_some"] (ah gS):=bD
abbrev kR:Stmt:=top 119
theorem c9:az ["_law_cell_here","_law_letters","_law_words","_law_word","_law_k","_law_at","_law_names_here","_law_sign"] ["_law_cell_here"] (ah kR):=bD
abbrev ff:Stmt:=top 120
theorem i7:az ["_law_draws","_law_goes","_law_rows","_law_come","_law_row"] ["_law_draws","_law_goes"] (ah ff):=bD
abbrev bX:Stmt:=top 121
theorem uN:az ["_law_kind","_law_row"] ["_law_kind","_law_row"] (ah bX):=bD
abbrev oK:Stmt:=top 122
theorem rY:az ["_law_plan_here","_law_row"] ["_law_plan_here"] (ah oK):=bD
abbrev qK:Stmt:=top 123
theorem kS:az ["_law_desk","_law_name","_law_plan_here","_law_number","_law_many","_law_bad","_law_due"] ["_law_desk","_law_name","_law_plan_here","_law_number"] (ah qK):=bD
abbrev mL:Stmt:=top 124
theorem eX:az ["_law_cell_here","_law_drawn","_law_draws","_law_kind","_law_plan_here","_law_row"] ["_law_cell_here"] (ah mL):=bD
abbrev oN:Stmt:=top 125
theorem lu:az ["_law_script","_law_names_here","_law_desk","_law_kept","_law_k","_law_cell_here","_law_text","_law_plan_here","_law_name","_law_other"] ["_law_script"] (ah oN):=bD
theorem aB(i:Nat)(hN:X.N[i]?=some x:=by rfl)(hv:Ii (X.env.scope.names.lookup x)=true:=by rfl)(hd:⇑5:=by decide)(vb:(x==("__classdict__":Str))=false:=by decide):PE X (.Name x pos) (iy X.K O (ae i)):=TN (pv i hN hv hd vb)
theorem cN(i:Nat)(hN:X.N[i]?=some x:=by rfl)(hv:Ii (X.env.scope.names.lookup x)=true:=by rfl)(hd:⇑5:=by decide)(vb:(x==("__classdict__":Str))=false:=by decide)(hi:i∉O:=by decide):PE X (.Name x pos) (tE X.K O (ae i)):=TM (pv i hN hv hd vb) hi
theorem br:PE X (.Constant (.int i) j pos) (iy X.K O (gC (.int i))):=PE.sh (bp bH)
theorem jg(i:Nat)(hN:X.N.Nodup)(he:PE X e (tE X.K O ge))(hi:X.N[i]?=some x:=by rfl)(hx:Loc X.env.scope x:=by first|exact Or.inl rfl|exact Or.inr rfl)(hs:swapsWith e (some (.Name x pos')) pos.line X.env=pure false:=by rfl)(hf:X.fn x=true\/X.env.scope.names.lookup x=some .local:=by first|exact .inl rfl|exact .inr rfl|assumption)(ho:i∉O:=by decide):PS X (.Assign [.Name x pos'] e pos) (L2.tS X.K O fr (bI i ge)):=vU (eY hN hi hx he hs hf) ho
theorem jE(F:Dn X.prog X.w X.K X.mg X.base k x ps (il X.K n G))(hr:cW kk X.A)(ha:PA X (e::es) (BY X.K O gr))(hk:k<=kk:=by decide)(hg:Gl X x:=by rfl)(pK:⇑5:=by decide)(he:starEach (e::es) X.env=⇑18::starEach es X.env:=by rfl)(iQ:⇑7:=by rfl):PE X ⇑20 (tE X.K O (aS G n gr)):=Oz F hr hk ha hg pK he iQ
section
variable (P:Program)(w:World)(K:ao)(mg:eQ)(base:Heap)
abbrev Nk:Prop:=Dn P w K mg base 1 "check_words" ["is_within_bounds"] (il K 1 c8)
abbrev Qt:Prop:=Dn P w K mg base 1 "check_deeds" ["is_of_a_kind"] (il K 1 eE)
abbrev VL:Prop:=Dn P w K mg base 1 "_law_mixes" ["_law_cell_here","_law_base","_law_many"] (Iu K 3 i3)
abbrev VM:Prop:=Dn P w K mg base 1 "_law_written" ["_law_plan_here"] (il K 1 fw)
abbrev Qu:Prop:=Dn P w K mg base 1 "led_to" ["place"] (Iu K 1 dO)
abbrev ZF(C:Addr):Prop:=Dn P w K mg base 8 "_law_told" ["_law_desk","_law_name","_law_plan_here","_law_number"] (wz K C 4 i5)
abbrev VN(C:Addr):Prop:=YV P w K mg base 7 C "say" ["self","row"] (wz K C 2 bB)
abbrev ZG:Prop:=Dn P w K mg base 1 "_law_digits" ["_law_cell_here","_law_base","_law_many"] (Iu K 3 ib)
abbrev VO:Prop:=Dn P w K mg base 1 "is_number" ["word"] (il K 1 gX)
abbrev ZH:Prop:=Dn P w K mg base 2 "_law_numbers" ["_law_cell_here","_law_bases"] (Iu K 2 gK)
abbrev RL:Prop:=Dn P w K mg base 5 "between" ["rise","run","below","above","draws"] (il K 5 pC)
abbrev RM:Prop:=Dn P w K mg base 2 "_law_plan" ["_law_cell_here","_law_most_here"] (il K 2 j9)
abbrev RN(C:Addr):Prop:=YV P w K mg base 1 C "put_plan" ["self","name","plan"] (wz K C 3 gu)
abbrev RO:Prop:=Dn P w K mg base 5 "two_steps" ["first","low","high","second"] (il K 4 kH)
abbrev RP:Prop:=Dn P w K mg base 5 "_law_by_words" ["_law_kind","_law_row"] (il K 2 bW)
abbrev RQ(C:Addr):Prop:=YV P w K mg base 1 C "plan_named" ["self","name"] (wz K C 2 fc)
abbrev RR:Prop:=Dn P w K mg base 4 "read_words" ["deed","name","words"] (il K 3 dD)
abbrev RS:Prop:=Dn P w K mg base 1 "_law_cell" ["_law_script","_law_k"] (il K 2 fb)
abbrev RT:Prop:=Dn P w K mg base 4 "answer_of" ["plan","deed","told"] (il K 3 eS)
abbrev RU:Prop:=Dn P w K mg base 1 "_law_show_ends" ["_law_some"] (il K 1 gO)
abbrev RV:Prop:=Dn P w K mg base 2 "ways_from" ["plan","beginning"] (il K 2 iX)
abbrev RW:Prop:=Dn P w K mg base 2 "is_side_by_side" ["plan"] (il K 1 eu)
abbrev RX:Prop:=Dn P w K mg base 1 "_law_names" ["_law_cell_here"] (Iu K 1 i4)
abbrev RY:Prop:=Dn P w K mg base 1 "_law_judge" ["_law_plan_here"] (il K 1 kJ)
abbrev RZ:Prop:=Dn P w K mg base 1 "_law_ends" ["_law_plan_here"] (Iu K 1 ka)
abbrev R4:Prop:=Dn P w K mg base 1 "_law_ways" ["_law_plan_here"] (il K 1 kb)
abbrev R5:Prop:=Dn P w K mg base 6 "_law_made" ["_law_cell_here"] (il K 1 kf)
abbrev R6:Prop:=Dn P w K mg base 2 "is_place" ["thing","there"] (il K 2 dN)
abbrev R7:Prop:=Dn P w K mg base 3 "read_word" ["word","kind"] (il K 2 eU)
abbrev R8:Prop:=Dn P w K mg base 2 "show_counts" ["counts"] (il K 1 iK)
abbrev R9:Prop:=Dn P w K mg base 1 "goes_on" ["plan","count"] (il K 2 lN)
abbrev Sa:Prop:=Dn P w K mg base 3 "ways_to" ["plan","count"] (il K 2 pA)
abbrev Sb:Prop:=Dn P w K mg base 2 "read_number" ["word"] (il K 1 gJ)
abbrev Sd:Prop:=Dn P w K mg base 1 "show_place" ["place"] (il K 1 jt)
abbrev Se:Prop:=Dn P w K mg base 1 "show_count" ["count"] (il K 1 ju)
abbrev Sf:Prop:=Dn P w K mg base 6 "plan_by" ["deed","told"] (il K 2 jL)
abbrev Sg:Prop:=Dn P w K mg base 3 "read_place" ["text"] (il K 1 h9)
abbrev Sh:Prop:=Dn P w K mg base 2 "read_whole" ["word"] (il K 1 jv)
abbrev Si:Prop:=Dn P w K mg base 1 "check_name" ["name"] (il K 1 ia)
abbrev Sj:Prop:=Dn P w K mg base 1 "after" ["count","sign"] (il K 2 iJ)
abbrev Sk:Prop:=Dn P w K mg base 2 "show_plan" ["plan"] (il K 1 kG)
abbrev Sl:Prop:=Dn P w K mg base 4 "read_plan" ["text"] (il K 1 iZ)
abbrev Sn:Prop:=Dn P w K mg base 1 "is_whole" ["thing"] (il K 1 gU)
abbrev So:Prop:=Dn P w K mg base 1 "stretches" ["row"] (Iu K 1 iY)
abbrev Sq:Prop:=Dn P w K mg base 1 "drawn_on" ["plan"] (Iu K 1 j8)
abbrev Sr:Prop:=Dn P w K mg base 3 "is_plan" ["thing"] (il K 1 pz)
abbrev Ss:Prop:=Dn P w K mg base 5 "read_row" ["row"] (il K 1 dP)
abbrev Su:Prop:=Dn P w K mg base 5 "so_many" ["draws"] (il K 1 pB)
abbrev Sv:Prop:=Dn P w K mg base 5 "till" ["bad","draws"] (il K 2 AQ)
abbrev Sw:Prop:=Dn P w K mg base 2 "come_to" ["plan"] (Iu K 1 jK)
abbrev Sx:Prop:=Dn P w K mg base 3 "ends" ["plan"] (Iu K 1 AM)
end
section
variable {P:Program}{w:World}{K:ao}{mg:eQ}{base:Heap}
theorem Du(F:Df K mg "is_whole" qE ["thing"])(B:Bs mg):⇑Sn:=
 cq [] ql F Dr λ2=>(ar (aT (g9 (Ak "int" B.isinstance (aB 0) (vc rfl B.int Af (v:=.ty "int") rfl)) (iC (TY (PE.sh (Ak "bool" B.isinstance (aB 0) (vc rfl B.bool Ot (v:=.ty "bool") rfl))))))))
theorem Dv(F:Df K mg "is_place" mG ["thing","there"])(B:Bs mg)(qL:⇑Sn):⇑R6:=
 cq [] qm F Dq λ2=>(ak (b9 (PW.pt (vP (gj (du (PE.sh (Ak "tuple" B.isinstance (aB 0) (vc rfl B.tuple gG (v:=.ty "tuple") rfl))))) (pw_or1 (aQ (bC hr) imp_eq ⇑22 br (aJ _))))) (ar (aT (lI lD))) bw)
  (ak (b9 (gj (du (PE.sh (aY (pf rfl) vn rfl B.all Ay (aq (PE.sh (PE.nE (PE.xS (bJ (ah mG) ["thing","there"] [1] ["bad","there"] ["bad"] ir (PI.c (bP (cN 0))) (λ1=>(aC (aO (i:=0) (show(["bad","there"]:List Str).Nodup from ⋯) rfl ⇑13))) (λ1=>cK) (λ1=>(g9 (jE qL hr (af (cN 0) ai)) (iC (cH Lc Ld (aB 0) (aB 1) (by with_unfolding_all rfl))))))))) aw))))) (ar (aT (lI lD))) bw)
  (ar (aT (cH (bC hr) imp_eq (PE.sh (PE.nE (p8 lW vS rfl B.list Ag (aq (aB 0) aw)))) (PE.sh (PE.nE (jW B.sorted B.set (aB 0)))) (aJ _))))))
theorem zW(F:Df K mg "led_to" rT ["place"])(B:Bs mg):⇑Qu:=
 iE [] wM F JS λ2=>(ar (vh (jW B.sorted B.set (PE.sh (PE.nE (vO o8 o9 (PE.sh (PE.nE (p8 lW vS rfl B.list Ag (aq (aB 0) aw)))) (PE.sh (PE.nE (PE.xS (bJ (ah rT) ["place"] [] ["bad"] ["bad"] ir (PI.c (bP (cN 0))) (λ1=>(aC (aO (i:=0) (show(["bad"]:List Str).Nodup from ⋯) rfl ⇑13))) (λ1=>cK) (λ1=>(au aI ax (aB 0) br))))))))))))
theorem FJ(F:Df K mg "is_plan" tR ["thing"])(B:Bs mg)(be:Cn mg "MOST_PLACES" (.int (24)))(qM:⇑R6)(i8:⇑Qu):⇑Sr:=
 cq [] tD F mD λ2=>(ak (b9 (PW.pt (vP (gj (du (PE.sh (Ak "tuple" B.isinstance (aB 0) (vc rfl B.tuple gG (v:=.ty "tuple") rfl))))) (pw_or1 (gj (sO jQ ba jQ ba br ⇑22 (PE.sh (bp (mY be)))))))) (ar (aT (lI lD))) bw)
  (ak (jg 1 mD.nd (PE.nE (dh (af (bp bH) ai))))
  (ak (gz aa3 rfl (bP (cN 0)) (aC (aO (i:=2) mD.nd rfl ⇑13))
   (ak (b9 (gj (du (PE.sh (jE qM hr (af (cN 2) (af (cN 1) ai)))))) (ar (aT (lI lD))) bw)
  (ar (jg 1 mD.nd (PE.nE (eK i8 hr ⇑0 (af (cN 2) ai)))))))
  (ar (aT (lI lD))))))
theorem FK(F:Df K mg "goes_on" tU ["plan","count"])(B:Bs mg):⇑R9:=
 cq [] tF F xb λ2=>(ak (jg 2 xb.nd (au aI ax ⇑17 ⇑17))
  (ar (aT (g9 (hZ jQ ba gD ba br (aB 2) ⇑22) (iC (cH Lc Ld ⇑17 (PE.sh (aR (aB 0) (aB 2))) (by with_unfolding_all rfl)))))))
theorem FL(F:Df K mg "come_to" pI ["plan"])(B:Bs mg)(i8:⇑Qu):⇑Sw:=
 iE [1] tH F mE λ2=>(ak (gL (eY (i:=1) mE.nd rfl ⇑13 (dh (af (dJ (af (bp bH) (af (bp bH) ai))) ai))))
  (ak (gz aa3 rfl (LG B.enumerate (cN 0)) (l6 rfl (d8 (aC (aO (i:=2) mE.nd rfl (Or.inr rfl))) (d8 (aC (aO (i:=3) mE.nd rfl ⇑13)) l5)))
   (ar (sP (cw (iR abi ae6 PySem.F.type_list_extend sF (pv 1) (bz (PE.xS (bJ (ah pI) ["plan","told","draws","place"] [2] ["bad","draws"] ["bad"] ir (PI.c (bP (PE.nE (eK i8 hr ⇑0 (af (cN 3) ai))))) (λ1=>(aC (aO (i:=0) (show(["bad","draws"]:List Str).Nodup from ⋯) rfl ⇑13))) (λ1=>cK) (λ1=>(dJ (af (cN 0) (af (au fO iS (aB 1) (aB 0)) ai)))))) cX))))))
  (ar (fm (pv 1)))))
theorem Qv(F:Df K mg "ends" Bb ["plan"])(B:Bs mg)(t5:⇑Sw)(t6:⇑R9):⇑Sx:=
 iE [] EU F Qr λ2=>(ar (vh (bJ (ah Bb) ["plan"] [0] ["count","plan"] ["count"] ir (PI.c (bP (PE.nE (eK t5 hr ⇑0 (af (cN 0) ai))))) (λ1=>(aC (aO (i:=0) (show(["count","plan"]:List Str).Nodup from ⋯) rfl ⇑13))) (λ1=>(wb (gj (du (PE.sh (jE t6 hr (af (cN 1) (af (cN 0) ai)))))))) (λ1=>(cN 0)))))
theorem Dw(F:Df K mg "drawn_on" mF ["plan"])(B:Bs mg):⇑Sq:=
 iE [1] qo F kN λ2=>(ak (gL (eY (i:=1) kN.nd rfl ⇑13 (dh ai)))
  (ak (gz aa3 rfl (Ce B.enumerate (cN 0)) (l6 rfl (d8 (aC (aO (i:=2) kN.nd rfl (Or.inr rfl))) (d8 (aC (aO (i:=3) kN.nd rfl ⇑13)) l5)))
   (ar (sP (cw (iR abi ae6 PySem.F.type_list_extend sF (pv 1) (bz (PE.xS (bJ (ah mF) ["plan","told","draws","place"] [2] ["bad","draws"] ["bad"] ir (PI.c (bP (cN 3))) (λ1=>(aC (aO (i:=0) (show(["bad","draws"]:List Str).Nodup from ⋯) rfl ⇑13))) (λ1=>cK) (λ1=>(dJ (af (cN 0) (af (au fO iS (aB 1) (aB 0)) ai)))))) cX))))))
  (ar (fm (pv 1)))))
theorem yF(F:Df K mg "plan_while" eB ["draws_on"])(B:Bs mg)(be:Cn mg "MOST_PLACES" (.int (24)))(C:YH P w K mg base 2 f c q 2 G)(i8:⇑Qu):Dn P w K mg base 4 "plan_while" ["draws_on"] (il K 1 (cu f c q G)):=
 cq [1] (mi f c q G) F fA λ_ _ _ _ _ _ _ hr=>(ak (gL (eY (i:=1) fA.nd rfl ⇑13 (dh ai)))
  (ak (jg 2 fA.nd (PE.nE (dh (af (bp bH) ai))))
  (ar (vV aa3 (du (PE.sh (lI lD))) (ak (jg 3 fA.nd (aY a9 bE rfl B.len cn (aq (aB 1) aw)))
  (ak (vU (PS.nE (Cd (i:=4) (ah eB) ["draws_on","places","there","draws","place"] [0,3] ["bad","draws_on","draws"] ["bad"] fA.nd rfl rfl ir (PI.c (bP (cN 2))) (λ1=>(aC (aO (i:=0) (show(["bad","draws_on","draws"]:List Str).Nodup from ⋯) rfl ⇑13))) (λ1=>(wb (du (PE.sh (LK (i:=1) C hr ⇑0 (af (cN 0) (af (cN 2) ai))))))) (λ1=>(cN 0)))))
  (ak (b9 (aQ (bC hr) imp_eq (PE.sh (aY a9 bE rfl B.len cn (aq (aB 4) aw))) br (aJ _)) (ar (aT (bQ dG gV rfl B.tuple gG (aq (aB 1) aw)))) bw)
  (ak (b9 (aQ (bC hr) imp_eq (aB 3) (PE.sh (bp (mY be))) (aJ _)) (ar dv) bw)
  (ak (fq (cw (iR abi abg abx fj (pv 1) (bz (bQ dG gV rfl B.tuple gG (aq (aB 4) aw)) cX))))
  (ar (jg 2 fA.nd (PE.nE (eK i8 hr ⇑0 (af (cN 4) ai))))))))))))))
theorem Nl(F:Df K mg "after" Bc ["count","sign"])(B:Bs mg):⇑Sj:=
 cq [] AO F Nj λ2=>(ak (b9 ⇑21 (ar (aT (dJ (af (au aI ax (PE.sh (aR (aB 0) br)) br) (af (aR (aB 0) br) ai))))) bw)
  (ar (aT (dJ (af (aR (aB 0) br) (af (au aI ax (PE.sh (aR (aB 0) br)) br) ai))))))
theorem Bg(F:Df K mg "ways_from" oB ["plan","beginning"])(B:Bs mg)(vD:⇑Sj)(qN:⇑Sq):⇑RV:=
 cq [2] nZ F ij λ2=>let hu:=abJ (adW (show 1<=64 by decide) _) hr.units;(ak (GF (eY (i:=2) ij.nd rfl ⇑13 (Cg hu (aB 1) (bp bH))))
  (ak (gz aa3 rfl (bP (PE.nE (eK qN hr ⇑0 (af (cN 0) ai)))) (aC (aO (i:=3) ij.nd rfl ⇑13))
   (ak (jg 4 ij.nd (nM hu (aB 2) (aB 3) (bp bH)))
  (ar (gz aa3 rfl (bP (dJ (af (jE vD hr (af (cN 3) (af (aK aM) ai))) (af (jE vD hr (af (cN 3) (af (aK aM) ai))) ai)))) (aC (aO (i:=5) ij.nd rfl ⇑13))
   (ar (GC (vf hu (pv 2) (aB 5) (au aI ax (PE.sh (nM hu (aB 2) (aB 5) (bp bH))) (aB 4)) (by rfl))))))))
  (ar (fm (pv 2)))))
theorem FN(F:Df K mg "ways_to" tV ["plan","count"])(B:Bs mg)(oO:⇑RV):⇑Sa:=
 cq [] tJ F FE λ2=>let hu:=abJ (adW (show 1<=64 by decide) _) hr.units;(ar (aT (nM hu (PE.sh (jE oO hr (af (cN 0) (af (dJ (af (bp bH) (af (bp bH) ai))) ai)))) (aB 1) (bp bH))))
theorem Bh(F:Df K mg "stretches" oC ["row"])(B:Bs mg):⇑So:=
 iE [1] n8 F mH λ2=>(ak (gL (eY (i:=1) mH.nd rfl ⇑13 (dh ai)))
  (ak (gz aa3 rfl (bP (cN 0)) (aC (aO (i:=2) mH.nd rfl ⇑13))
   (ar (b9 (PW.pt (kA (aQ pT ba (PE.sh (aY a9 bE rfl B.len cn (aq (aB 1) aw))) br (aJ _)) (pw_and1 (aQ (bC hr) imp_eq (PE.sh (aR (PE.sh (aR (aB 1) (PE.sh (l0 br)))) br)) (PE.sh (au fO iS (aB 2) br)) (aJ _))))) (ar (K9 (Ko (dJ (af (aR (PE.sh (aR (aB 1) (PE.sh (l0 br)))) br) (af (cN 2) ai))) (SX (pv 1) (PE.sh (l0 br)) set_list)))) (ar (fq (cw (iR abi abg abx fj (pv 1) (bz (dJ (af (cN 2) (af (cN 2) ai))) cX))))))))
  (ar (fm (pv 1)))))
theorem qO(F:Df K mg "is_side_by_side" fL ["plan"])(B:Bs mg)(oP:⇑So):⇑RW:=
 cq [] h8 F qF λ2=>(ar (aT (aY (pf rfl) vn rfl B.all Ay (aq (PE.sh (PE.nE (PE.xS (bJ (ah fL) ["plan"] [] ["place"] ["place"] ir (PI.c (bP (cN 0))) (λ1=>(aC (aO (i:=0) (show(["place"]:List Str).Nodup from ⋯) rfl ⇑13))) (λ1=>cK) (λ1=>(cH (bC hr) imp_eq (PE.sh (aY a9 bE rfl B.len cn (aq (PE.sh (PE.nE (eK oP hr ⇑0 (af (cN 0) ai)))) aw))) br (aJ _))))))) aw))))
theorem yG(F:Df K mg "show_place" jy ["place"])(B:Bs mg):⇑Sd:=
 cq [] mj F yA λ2=>(ar (aT (kE ⇑9 (PE.nE (PE.xS (bJ (ah jy) ["place"] [] ["bad"] ["bad"] ir (PI.c (bP (cN 0))) (λ1=>(aC (aO (i:=0) (show(["bad"]:List Str).Nodup from ⋯) rfl ⇑13))) (λ1=>cK) (λ1=>(bQ c6 iH rfl B.str kW (aq (aB 0) aw)))))))))
theorem Bj(F:Df K mg "show_plan" kO ["plan"])(B:Bs mg)(mM:⇑Sd):⇑Sk:=
 cq [] n9 F Bd λ2=>(ar (aT (kE ⇑9 (PE.nE (PE.xS (bJ (ah kO) ["plan"] [] ["place"] ["place"] ir (PI.c (bP (cN 0))) (λ1=>(aC (aO (i:=0) (show(["place"]:List Str).Nodup from ⋯) rfl ⇑13))) (λ1=>cK) (λ1=>(jE mM hr (af (cN 0) ai)))))))))
theorem Bk(F:Df K mg "is_number" kQ ["word"])(B:Bs mg)(t7:Cn mg "FIGURES" (.str "0123456789")):⇑VO:=
 cq [] og F Be λ2=>(ak (b9 (PW.pt (vP ⇑34 (pw_or1 (gj (du (PE.sh (aY (pf rfl) vn rfl B.all Ay (aq (PE.sh (PE.nE (PE.xS (bJ (ah kQ) ["word"] [] ["sign"] ["sign"] ir (PI.c (Cr (cN 0))) (λ1=>(aC (aO (i:=0) (show(["sign"]:List Str).Nodup from ⋯) rfl ⇑13))) (λ1=>cK) (λ1=>(cH zf GQ (aB 0) (PE.sh (aK (mY t7))) (by with_unfolding_all rfl))))))) aw)))))))) (ar (aT (lI lD))) bw)
  (ar (aT (QY (cH (bC hr) imp_eq (aB 0) ⇑9 (aJ _)) (iC (cH (nF hr) nG (PE.sh (aR (aB 0) br)) ⇑9 (aJ _)))))))
theorem xj(F:Df K mg "read_number" ls ["word"])(B:Bs mg)(fY:Cn mg "MOST_FIGURES_texts" (.int (2)))(g6:⇑VO):⇑Sb:=
 cq [] k9 F xc λ2=>(ak (b9 (PW.pt (vP (gj (du (PE.sh (jE g6 hr (af (cN 0) ai))))) (pw_or1 (aQ pT ba ⇑22 (PE.sh (bp (mY fY))) (aJ _))))) (ar dv) bw)
  (ar (aT (bQ zK Cs rfl B.int Af (aq (aB 0) aw)))))
theorem yH(F:Df K mg "read_place" jz ["text"])(B:Bs mg)(lx:⇑Sb):⇑Sg:=
 cq [] ml F yB λ2=>(ar (aT (bQ dG gV rfl B.tuple gG (aq (PE.sh (PE.nE (PE.xS (bJ (ah jz) ["text"] [] ["word"] ["word"] ir (PI.c (bP (PE.nE (wx (aB 0) ⇑9)))) (λ1=>(aC (aO (i:=0) (show(["word"]:List Str).Nodup from ⋯) rfl ⇑13))) (λ1=>cK) (λ1=>(jE lx hr (af (cN 0) ai))))))) aw))))
theorem Bl(F:Df K mg "read_plan" kP ["text"])(B:Bs mg)(t8:⇑Sr)(mN:⇑Sg):⇑Sl:=
 cq [] oh F rV λ2=>(ak (jg 1 rV.nd (bQ dG gV rfl B.tuple gG (aq (PE.sh (PE.nE (PE.xS (bJ (ah kP) ["text","plan"] [] ["part"] ["part"] ir (PI.c (bP (PE.nE (wx (aB 0) ⇑9)))) (λ1=>(aC (aO (i:=0) (show(["part"]:List Str).Nodup from ⋯) rfl ⇑13))) (λ1=>cK) (λ1=>(jE mN hr (af (cN 0) ai))))))) aw)))
  (ak (b9 (gj (du (PE.sh (jE t8 hr (af (cN 1) ai))))) (ar dv) bw)
  (ar (aT (cN 1)))))
theorem yI(F:Df K mg "show_count" jA ["count"])(B:Bs mg):⇑Se:=
 cq [] mm F yC λ2=>(ar (aT (kE ⇑9 (PE.nE (PE.xS (bJ (ah jA) ["count"] [] ["number"] ["number"] ir (PI.c (bP (cN 0))) (λ1=>(aC (aO (i:=0) (show(["number"]:List Str).Nodup from ⋯) rfl ⇑13))) (λ1=>cK) (λ1=>(bQ c6 iH rfl B.str kW (aq (aB 0) aw)))))))))
theorem xl(F:Df K mg "show_counts" iL ["counts"])(B:Bs mg)(mO:⇑Se):⇑R8:=
 cq [] lb F xf λ2=>(ar (aT (kE ⇑9 (PE.nE (PE.xS (bJ (ah iL) ["counts"] [] ["count"] ["count"] ir (PI.c (bP (cN 0))) (λ1=>(aC (aO (i:=0) (show(["count"]:List Str).Nodup from ⋯) rfl ⇑13))) (λ1=>cK) (λ1=>(jE mO hr (af (cN 0) ai)))))))))
theorem Bm(F:Df K mg "answer_of" oE ["plan","deed","told"])(B:Bs mg)(FO:⇑Sx)(ik:⇑RW)(ly:⇑R8)(oQ:⇑Sk)(t9:⇑Sa):⇑RT:=
 cq [] oi F rW λ2=>(ak (b9 ⇑21 (ar (aT (jE oQ hr (af (cN 0) ai)))) bw)
  (ak (b9 ⇑21 (ar (aT (jE ly hr (af (PE.nE (eK FO hr ⇑0 (af (cN 0) ai))) ai)))) bw)
  (ak (b9 ⇑21 (ar (aT (T1 (du (PE.sh (jE ik hr (af (cN 0) ai)))) (aK aM) (aK aM)))) bw)
  (ak (b9 ⇑21 (ar dv) bw)
  (ak (b9 ⇑21 (ar dv) bw)
  (ak (jg 3 rW.nd (dJ (af (aR (aB 2) br) (af (aR (aB 2) br) ai))))
  (ak (b9 ⇑21 (ar (aT (bQ c6 iH rfl B.str kW (aq (PE.sh (jE t9 hr (af (cN 0) (af (cN 3) ai)))) aw)))) bw)
  (ak (b9 ⇑21 (ar dv) bw)
  (ar dv)))))))))
theorem xm(F:YX K mg "check_deeds" "check" eG ["is_of_a_kind"])(B:Bs mg):⇑Qt:=
 G1 [] lg F xg λ2=>(ar (b9 (gj (du (aB 0))) (ar dv) bw))
theorem yJ(F:Df K mg "read_whole" mI ["word"])(B:Bs mg)(fZ:Cn mg "MOST_FIGURES_deeds" (.int (30)))(cE:⇑Qt)(g6:⇑VO):⇑Sh:=
 cq [] mn F yD λ2=>(ak (hJ (cw (jE cE hr (af (g9 (jE g6 hr (af (cN 0) ai)) (iC (cH jQ ba ⇑22 (PE.sh (bp (mY fZ))) (aJ _)))) ai))))
  (ar (aT (bQ zK Cs rfl B.int Af (aq (aB 0) aw)))))
theorem Bo(F:Df K mg "read_word" oG ["word","kind"])(B:Bs mg)(mP:⇑Sh):⇑R7:=
 cq [] oj F Bf λ2=>(ak (b9 ⇑21 (ar (aT (cN 0))) bw)
  (ak (b9 ⇑21 (ar dv) bw)
  (ak (b9 (PW.pt (kA ⇑21 (pw_and1 ⇑34))) (ar (aT (l0 br))) bw)
  (ar (aT (jE mP hr (af (cN 0) ai)))))))
theorem yK(F:Df K mg "read_words" jB ["deed","name","words"])(B:Bs mg)(FM:Pj w K mg "FORMS" ES)(cE:⇑Qt)(oR:⇑R7):⇑RR:=
 cq [] mo F pX λ2=>(ak (hJ (cw (jE cE hr (af (UM FM (cN 0)) ai))))
  (ak (jg 3 pX.nd (Pm FM (cN 0)))
  (ak (hJ (cw (jE cE hr (af (cH (bC hr) imp_eq (PE.sh (aY a9 bE rfl B.len cn (aq (aB 2) aw))) (PE.sh (aY a9 bE rfl B.len cn (aq (aB 3) aw))) (aJ _)) ai))))
  (ar (aT (dJ (af (cN 0) (af (cN 1) (af (PE.nE (bJ (ah jB) ["deed","name","words","kinds"] [] ["word","kind"] ["word","kind"] Yx (PI.c (PB B.zip (cN 2) (cN 3))) (λ1=>(l6 rfl (d8 (aC (aO (i:=0) (show(["word","kind"]:List Str).Nodup from ⋯) rfl ⇑13)) (d8 (aC (aO (i:=1) (show(["word","kind"]:List Str).Nodup from ⋯) rfl ⇑13)) l5)))) (λ1=>cK) (λ1=>(jE oR hr (af (cN 0) (af (cN 1) ai)))))) ai)))))))))
theorem Dx(F:Df K mg "read_row" qG ["row"])(B:Bs mg)(cE:⇑Qt)(jF:⇑RR):⇑Ss:=
 cq [] qp F oF λ2=>(ak (jg 1 oF.nd (PE.nE (Jk (aB 0) ⇑9 br)))
  (ak (b9 (PW.pt (kA (aQ (bC hr) imp_eq (PE.sh (aY a9 bE rfl B.len cn (aq (aB 1) aw))) br (aJ _)) (kA (aQ (bC hr) imp_eq ⇑17 ⇑9 (aJ _)) (kA (aQ (nF hr) nG ⇑17 ⇑9 (aJ _)) (pw_and1 (aQ (bC hr) imp_eq ⇑17 ⇑9 (aJ _))))))) (ar (aT (dJ (af (aK aM) (af (aR (aB 1) br) (af (PE.nE (dh (af (aR (aB 1) br) ai))) ai)))))) bw)
  (ak (jg 2 oF.nd (PE.nE (wx (aB 0) ⇑9)))
  (ak (hJ (cw (jE cE hr (af (g9 (cH zr zt ⇑9 (aB 2) (by with_unfolding_all rfl)) (iC (cH pU ba (PE.sh (aY a9 bE rfl B.len cn (aq (aB 2) aw))) br (aJ _)))) ai))))
  (ak (b9 (PW.pt (kA (aQ (bC hr) imp_eq (PE.sh (aR (aB 2) br)) ⇑9 (aJ _)) (pw_and1 (aQ pU ba (PE.sh (aY a9 bE rfl B.len cn (aq (aB 2) aw))) br (aJ _))))) (ar (aT (jE jF hr (af (au aI ax ⇑9 (PE.sh (aR (aB 2) br))) (af (aR (aB 2) br) (af (PE.nE (Al (aB 2) (iT br) rn)) ai)))))) bw)
  (ar (aT (jE jF hr (af (aR (aB 2) br) (af (aR (aB 2) br) (af (PE.nE (Al (aB 2) (iT br) rn)) ai)))))))))))
theorem xn(F:YX K mg "check_words" "check" eI ["is_within_bounds"])(B:Bs mg):⇑Nk:=
 G1 [] lh F xh λ2=>(ar (b9 (gj (du (aB 0))) (ar dv) bw))
theorem FP(F:DO K mg "so_many" gY ["draws"] c0)(B:Bs mg)(be:Cn mg "MOST_PLACES" (.int (24)))(HD:PySem.W.codeHdIn K c0 P0=true)(ML:(P0,[(⟨354,22,354,56⟩:Pos)],("so_many.<locals>.<lambda>":Str))∈bS)(BB:GJ mg base)(bY:Uz P w K mg 4 2 2 "plan_while" "draws_on" cu)(bG:⇑Nk):⇑Su:=
 rE [] tK F FF λf A outer s H E hr=>(ak (hJ (cw (jE bG hr (af (hZ jQ ba jQ ba br (aB 0) (PE.sh (bp (mY be)))) ai))))
  (ar (aT (LN (kc:=1) (ps:=["found","drawn"]) (fv:=["draws"]) (ix:=[0]) (ah gY) bY hr ⇑0 BB HD (.head _) ML ⟨rfl,rfl,rfl,⋯,⋯,⋯,⋯⟩ (λ6=>(cH gD ba (aB 1) (aB 2) (aJ _))) (λ5=>match us,hl with|[_,_],_=>rfl)))))
theorem Qw(F:DO K mg "till" oH ["bad","draws"] c0)(B:Bs mg)(be:Cn mg "MOST_PLACES" (.int (24)))(HD:PySem.W.codeHdIn K c0 P0=true)(ML:(P0,[(⟨357,22,357,72⟩:Pos)],("till.<locals>.<lambda>":Str))∈bS)(BB:GJ mg base)(bY:Uz P w K mg 4 2 2 "plan_while" "draws_on" cu)(bG:⇑Nk):⇑Sv:=
 rE [] EV F Qs λf A outer s H E hr=>(ak (hJ (cw (jE bG hr (af (g9 (hZ jQ ba jQ ba br (aB 0) (PE.sh (bp (mY be)))) (iC (hZ jQ ba jQ ba br (aB 1) (PE.sh (bp (mY be)))))) ai))))
  (ar (aT (LN (kc:=1) (ps:=["found","drawn"]) (fv:=["bad","draws"]) (ix:=[0,1]) (ah oH) bY hr ⇑0 BB HD (.head _) ML ⟨rfl,rfl,rfl,⋯,⋯,⋯,⋯⟩ (λ6=>(g9 (cH gD ba (aB 0) (aB 2) (aJ _)) (iC (cH gD ba (aB 1) (aB 3) (aJ _))))) (λ5=>match us,hl with|[_,_],_=>rfl)))))
theorem Bp(F:DO K mg "two_steps" eV ["first","low","high","second"] c0)(B:Bs mg)(be:Cn mg "MOST_PLACES" (.int (24)))(HD:PySem.W.codeHdIn K c0 P0=true)(ML:(P0,[(⟨362,4,365,37⟩:Pos)],("two_steps.<locals>.draws_on":Str))∈bS)(BB:GJ mg base)(bY:Uz P w K mg 4 2 2 "plan_while" "draws_on" cu)(bG:⇑Nk):⇑RO:=
 rE [] om F rX λf A outer s H E hr=>(ak (hJ (cw (jE bG hr (af (g9 (cH pU ba (aB 0) br (aJ _)) (g9 (cH pU ba (aB 3) br (aJ _)) (iC (cH jQ ba (PE.sh (au aI ax (aB 0) (aB 3))) (PE.sh (bp (mY be))) (aJ _))))) ai))))
  (ak (hJ (cw (jE bG hr (af (g9 (cH pU ba (aB 1) (PE.sh (l0 br)) (aJ _)) (iC (cH pT ba (aB 2) (aB 1) (aJ _)))) ai))))
  (UH (kc:=1) (i:=4) (ps:=["found","drawn"]) (fv:=["first","low","high","second"]) (ix:=[0,1,2,3]) (ah eV) bY hr ⇑0 BB HD (.head _) ML ⟨rfl,rfl,rfl,⋯,⋯,⋯,⋯⟩ (λ6=>(ak (b9 (aQ (bC hr) imp_eq (aB 1) (aB 2) (aJ _)) (ar (aT (hZ gD ba gD ba (aB 3) (aB 0) (aB 4)))) bw)
  (ar (aT (cH gD ba (aB 1) (PE.sh (au aI ax (aB 2) (aB 5))) (aJ _)))))) (λ_ _ _ _ _ _ _ us hl=>match us,hl with|[_,_],_=>rfl) rX.nd)))
theorem FQ(F:DO K mg "between" gZ ["rise","run","below","above","draws"] c0)(B:Bs mg)(be:Cn mg "MOST_PLACES" (.int (24)))(HD:PySem.W.codeHdIn K c0 P0=true)(ML:(P0,[(⟨370,22,370,104⟩:Pos)],("between.<locals>.<lambda>":Str))∈bS)(BB:GJ mg base)(bY:Uz P w K mg 4 2 2 "plan_while" "draws_on" cu)(bG:⇑Nk):⇑RL:=
 rE [] tL F FG λf A outer s H E hr=>(ak (hJ (cw (jE bG hr (af (g9 (cH pU ba (aB 0) br (aJ _)) (g9 (cH pU ba (aB 1) br (aJ _)) (g9 (cH pU ba (aB 2) br (aJ _)) (iC (cH pU ba (aB 3) br (aJ _)))))) ai))))
  (ak (hJ (cw (jE bG hr (af (hZ jQ ba jQ ba br (aB 4) (PE.sh (bp (mY be)))) ai))))
  (ar (aT (LN (kc:=1) (ps:=["found","drawn"]) (fv:=["draws","above","below","run","rise"]) (ix:=[4,3,2,1,0]) (ah gZ) bY hr ⇑0 BB HD (.head _) ML ⟨rfl,rfl,rfl,⋯,⋯,⋯,⋯⟩ (λ6=>(g9 (cH gD ba (aB 1) (aB 2) (aJ _)) (iC (hZ gD ba gD ba (PE.sh (l0 (aB 4))) (PE.sh (au fO iS (PE.sh (au fK aV (aB 5) (aB 0))) (PE.sh (au fK aV (aB 6) (aB 1))))) (aB 3))))) (λ5=>match us,hl with|[_,_],_=>rfl))))))
theorem yL(F:Df K mg "check_name" jC ["name"])(B:Bs mg)(kr:Cn mg "MOST_LETTERS" (.int (8)))(ua:Cn mg "LETTERS" (.str "abcdefghijklmnopqrstuvwxyz")):⇑Si:=
 cq [] jw F yE λ2=>(ar (b9 (PW.pt (vP (gj (sO jQ ba jQ ba br ⇑22 (PE.sh (bp (mY kr))))) (pw_or1 (gj (du (PE.sh (aY (pf rfl) vn rfl B.all Ay (aq (PE.sh (PE.nE (PE.xS (bJ (ah jC) ["name"] [] ["sign"] ["sign"] ir (PI.c (Cr (cN 0))) (λ1=>(aC (aO (i:=0) (show(["sign"]:List Str).Nodup from ⋯) rfl ⇑13))) (λ1=>cK) (λ1=>(cH zf GQ (aB 0) (PE.sh (aK (mY ua))) (by with_unfolding_all rfl))))))) aw)))))))) (ar dv) bw))
theorem FR(F:Df K mg "plan_by" tY ["deed","told"])(B:Bs mg)(ub:⇑RL)(oS:⇑Sl)(uc:⇑Su)(FT:⇑Sv)(oT:⇑RO):⇑Sf:=
 cq [] tM F FH λ2=>(ak (b9 ⇑34 (ar (aT (jE uc hr (af (aR (aB 1) br) ai)))) bw)
  (ak (b9 ⇑34 (ar (aT (jE FT hr (af (aR (aB 1) br) (af (aR (aB 1) br) ai))))) bw)
  (ak (b9 ⇑34 (ar (aT (jE oT hr (af (aR (aB 1) br) (af (aR (aB 1) br) (af (aR (aB 1) br) (af (aR (aB 1) br) ai))))))) bw)
  (ak (b9 ⇑34 (ar (aT (jE ub hr (af (aR (aB 1) br) (af (aR (aB 1) br) (af (aR (aB 1) br) (af (aR (aB 1) br) (af (aR (aB 1) br) ai)))))))) bw)
  (ar (aT (jE oS hr (af (aR (aB 1) br) ai))))))))
theorem Dy(F:Df K mg "_law_cell" qI ["_law_script","_law_k"])(B:Bs mg):⇑RS:=
 cq [] qr F Ds λ2=>(ak (b9 (aQ gD ba (aB 1) ⇑22 (aJ _)) (ar (aT (aR (aB 0) (aB 1)))) bw)
  (ar (aT (bp bH))))
theorem yM(F:Df K mg "_law_digits" mK ["_law_cell_here","_law_base","_law_many"])(B:Bs mg):⇑ZG:=
 iE [3] mq F iM λ2=>(ak (gL (eY (i:=3) iM.nd rfl ⇑13 (dh ai)))
  (ak (gz aa3 rfl (jG B.range (af (cN 2) ai)) (aC (aO (i:=4) iM.nd rfl ⇑13))
   (ak (fq (cw (iR abi abg abx fj (pv 3) (bz (au cF aV (aB 0) (aB 1)) cX))))
  (ar (jg 0 iM.nd (au cG aV (aB 0) (aB 1))))))
  (ar (fm (pv 3)))))
theorem Bq(F:Df K mg "_law_mixes" oJ ["_law_cell_here","_law_base","_law_many"])(B:Bs mg):⇑VL:=
 iE [3] oo F jD λ2=>(ak (gL (eY (i:=3) jD.nd rfl ⇑13 (dh ai)))
  (ak (gz aa3 rfl (jG B.range (af (cN 2) ai)) (aC (aO (i:=4) jD.nd rfl ⇑13))
   (ak (jg 5 jD.nd (au cF aV (PE.sh (au aI ax (PE.sh (au aI ax (PE.sh (au fK aV (PE.sh (au cF aV (aB 0) br)) br)) (PE.sh (au fK aV (PE.sh (au fK aV (aB 4) (aB 4))) br)))) (PE.sh (au fK aV (aB 4) br)))) br))
  (ar (fq (cw (iR abi abg abx fj (pv 3) (bz (au cF aV (PE.sh (au cG aV (PE.sh (au cF aV (PE.sh (au aI ax (PE.sh (au fK aV (aB 5) br)) (aB 0))) br)) br)) (aB 1)) cX)))))))
  (ar (fm (pv 3)))))
theorem Dz(F:Df K mg "_law_plan" kn ["_law_cell_here","_law_most_here"])(B:Bs mg)(mQ:⇑ZG)(g7:⇑VL):⇑RM:=
 cq [5] qt F cR λ2=>(ak (jg 2 cR.nd (au cG aV (aB 0) br))
  (ak (jg 3 cR.nd (au aI ax br (PE.sh (au fK aV br (PE.sh (bQ HW OE rfl B.int Af (aq (PE.sh (cH pT ba (aB 1) br (aJ _))) aw)))))))
  (ak (jg 4 cR.nd (PE.nE (eK g7 hr ⇑0 (af (cN 2) (af (bp bH) (af (cN 3) ai))))))
  (ak (b9 (aQ pU ba (PE.sh (aY Kx OA rfl B.abs Tz (aq (aB 0) aw))) (PE.sh (au vI aV br br)) (aJ _)) (ar (jg 4 cR.nd (PE.nE (eK mQ hr ⇑0 (af (cN 2) (af (bp bH) (af (cN 3) ai))))))) bw)
  (ak (gL (eY (i:=5) cR.nd rfl ⇑13 (dh (af (dJ (af (bp bH) ai)) ai))))
  (ak (jg 6 cR.nd (PE.nE (dh (af (bp bH) (af (bp bH) ai)))))
  (ak (jg 7 cR.nd (bp bH))
  (ak (vV aa3 (PW.pt (kA (aQ gD ba (PE.sh (aY a9 bE rfl B.len cn (aq (aB 5) aw))) (aB 1) (aJ _)) (pw_and1 (aQ pT ba (PE.sh (aY a9 bE rfl B.len cn (aq (aB 6) aw))) br (aJ _))))) (ak (vU (PS.nE (Cd (i:=8) (ah kn) ["_law_cell_here","_law_most_here","_law_rest","_law_many","_law_digits_here","_law_rows","_law_come","_law_at","_law_row"] [4,3,7] ["_law_k","_law_bad","_law_digits_here","_law_many","_law_at"] ["_law_k","_law_bad"] cR.nd rfl rfl Yx (PI.c (rp B.enumerate (cN 6))) (λ1=>(l6 rfl (d8 (aC (aO (i:=0) (show(["_law_k","_law_bad","_law_digits_here","_law_many","_law_at"]:List Str).Nodup from ⋯) rfl ⇑13)) (d8 (aC (aO (i:=1) (show(["_law_k","_law_bad","_law_digits_here","_law_many","_law_at"]:List Str).Nodup from ⋯) rfl ⇑13)) l5)))) (λ1=>(wb (aQ pT ba (PE.sh (aR (aB 2) (PE.sh (au cF aV (PE.sh (au aI ax (aB 4) (aB 0))) (aB 3))))) br (aJ _)))) (λ1=>(cN 1)))))
  (ak (jg 7 cR.nd (au aI ax (aB 7) (PE.sh (aY a9 bE rfl B.len cn (aq (aB 6) aw)))))
  (ak (b9 (aQ pT ba (PE.sh (au cF aV (aB 0) br)) br (aJ _)) (ar (jg 8 cR.nd (PE.nE (Al (aB 6) (iT (PE.sh (aR (aB 4) (PE.sh (au cF aV (aB 7) (aB 3)))))) (iT (PE.sh (aY (HU rfl) OB rfl B.max TB (aq br (aq (PE.sh (au fO iS (PE.sh (aY a9 bE rfl B.len cn (aq (aB 6) aw))) (PE.sh (aR (aB 4) (PE.sh (au cF aV (PE.sh (au aI ax (aB 7) br)) (aB 3))))))) aw))))))))) bw)
  (ak (jg 6 cR.nd (PE.nE (jW B.sorted B.set (PE.sh (PE.nE (vO o8 o9 (aB 8) (PE.sh (PE.nE (PE.xS (bJ (ah kn) ["_law_cell_here","_law_most_here","_law_rest","_law_many","_law_digits_here","_law_rows","_law_come","_law_at","_law_row"] [] ["_law_bad"] ["_law_bad"] ir (PI.c (bP (cN 8))) (λ1=>(aC (aO (i:=0) (show(["_law_bad"]:List Str).Nodup from ⋯) rfl ⇑13))) (λ1=>cK) (λ1=>(au aI ax (aB 0) br))))))))))))
  (ar (b9 (aQ pT ba (PE.sh (aY a9 bE rfl B.len cn (aq (aB 8) aw))) br (aJ _)) (ar (fq (cw (iR abi abg abx fj (pv 5) (bz (bQ dG gV rfl B.tuple gG (aq (aB 8) aw)) cX))))) bw)))))))
  (ar (aT (bQ dG gV rfl B.tuple gG (aq (aB 5) aw))))))))))))
theorem xo(F:Df K mg "_law_numbers" iN ["_law_cell_here","_law_bases"])(B:Bs mg)(g7:⇑VL):⇑ZH:=
 iE [3] lj F eP λ2=>(ak (b9 (sO gD ba gD ba (PE.sh (l0 (PE.sh (au vI aV br br)))) (aB 0) (PE.sh (au vI aV br br))) (ak (jg 2 eP.nd (PE.nE (eK g7 hr ⇑0 (af (cN 0) (af (bp bH) (af (aY a9 bE rfl B.len cn (aq (aB 1) aw)) ai))))))
  (ar (vh (PE.xS (bJ (ah iN) ["_law_cell_here","_law_bases","_law_row","_law_made_here","_law_base"] [2,1] ["_law_k","_law_row","_law_bases"] ["_law_k"] ir (PI.c (jG B.range (af (aY a9 bE rfl B.len cn (aq (aB 1) aw)) ai))) (λ1=>(aC (aO (i:=0) (show(["_law_k","_law_row","_law_bases"]:List Str).Nodup from ⋯) rfl ⇑13))) (λ1=>cK) (λ1=>(au cF aV (PE.sh (aR (aB 1) (aB 0))) (PE.sh (aR (aB 2) (aB 0)))))))))) bw)
  (ak (gL (eY (i:=3) eP.nd rfl ⇑13 (dh ai)))
  (ak (jg 0 eP.nd (au cG aV (aB 0) br))
  (ak (gz aa3 rfl (bP (cN 1)) (aC (aO (i:=4) eP.nd rfl ⇑13))
   (ak (fq (cw (iR abi abg abx fj (pv 3) (bz (au cF aV (aB 0) (aB 4)) cX))))
  (ar (jg 0 eP.nd (au cG aV (aB 0) (aB 4))))))
  (ar (fm (pv 3)))))))
theorem DA(F:Df K mg "_law_ends" ko ["_law_plan_here"])(B:Bs mg):⇑RZ:=
 iE [1] qu F g0 λ2=>(ak (gL (eY (i:=1) g0.nd rfl ⇑13 (dh ai)))
  (ak (gz aa3 rfl (Iz B.range (af (bp bH) (af (au aI ax ⇑22 br) ai))) (aC (aO (i:=2) g0.nd rfl (Or.inr rfl)))
   (ak (jg 3 g0.nd (dJ ai))
  (ak (b9 (aQ gD ba (aB 2) ⇑22 (aJ _)) (ar (jg 3 g0.nd (aR (aB 0) (aB 2)))) bw)
  (ak (jg 4 g0.nd (PE.nE (jW B.sorted B.set (PE.sh (PE.nE (vO o8 o9 (PE.sh (PE.nE (p8 lW vS rfl B.list Ag (aq (PE.sh (aR (aB 0) (PE.sh (au fO iS (aB 2) br)))) aw)))) (PE.sh (PE.nE (PE.xS (bJ (ah ko) ["_law_plan_here","_law_found","_law_n","_law_on","_law_come"] [] ["_law_bad"] ["_law_bad"] ir (PI.c (bP (aR (aB 0) (PE.sh (au fO iS (aB 2) br))))) (λ1=>(aC (aO (i:=0) (show(["_law_bad"]:List Str).Nodup from ⋯) rfl ⇑13))) (λ1=>cK) (λ1=>(au aI ax (aB 0) br))))))))))))
  (ar (sP (cw (iR PySem.F.plainAttrs_list PySem.F.slot_list_extend PySem.F.type_list_extend sF (pv 1) (bz (bJ (ah ko) ["_law_plan_here","_law_found","_law_n","_law_on","_law_come"] [2,3] ["_law_bad","_law_n","_law_on"] ["_law_bad"] ir (PI.c (bP (cN 4))) (λ1=>(aC (aO (i:=0) (show(["_law_bad","_law_n","_law_on"]:List Str).Nodup from ⋯) rfl ⇑13))) (λ1=>(wb (aQ zr zt (aB 0) (aB 2) (by with_unfolding_all rfl)))) (λ1=>(dJ (af (cN 0) (af (au fO iS (aB 1) (aB 0)) ai))))) cX)))))))))
  (ar (fm (pv 1)))))
theorem DB(F:Df K mg "_law_ways" qJ ["_law_plan_here"])(B:Bs mg):⇑R4:=by
 refine cq [1] qw F fX λ2=>?_
 have hu:=abJ (adW (show 1<=64 by decide) _) hr.units
 refine ak ?_ ?_
 . refine GF ?_;refine eY ?_ ?_ ?_ ?_ ?_ ?_;. exact fX.nd
   . rfl
   . exact⇑13
   . exact Cg hu (PE.sh (dJ (af (bp bH) (af (bp bH) ai)))) (bp bH)
   . rfl
   . exact .inl rfl
 exact(ak (gz aa3 rfl (Ce B.enumerate (cN 0)) (l6 rfl (d8 (aC (aO (i:=2) fX.nd rfl ⇑13)) (d8 (aC (aO (i:=3) fX.nd rfl ⇑13)) l5)))
   (ar (gz aa3 rfl (bP (cN 3)) (aC (aO (i:=4) fX.nd rfl ⇑13))
   (ak (jg 5 fX.nd (OT hu (aB 1) (PE.sh (dJ (af (cN 4) (af (au fO iS (aB 2) (aB 4)) ai))))))
  (ar (gz aa3 rfl (bP (dJ (af (dJ (af (au aI ax (aB 4) br) (af (au fO iS (aB 2) (aB 4)) ai))) (af (dJ (af (cN 4) (af (au aI ax (PE.sh (au fO iS (aB 2) (aB 4))) br) ai))) ai)))) (aC (aO (i:=6) fX.nd rfl ⇑13))
   (ar (GC (vf hu (pv 1) (aB 6) (au aI ax (PE.sh (nM hu (aB 1) (aB 6) (bp bH))) (aB 5)) (by rfl))))))))))
  (ar (fm (pv 1))))
theorem xp(F:Df K mg "_law_written" iO ["_law_plan_here"])(B:Bs mg):⇑VM:=
 cq [] ll F xi λ2=>(ar (aT (kE ⇑9 (PE.nE (PE.xS (bJ (ah iO) ["_law_plan_here"] [] ["_law_row"] ["_law_row"] ir (PI.c (bP (cN 0))) (λ1=>(aC (aO (i:=0) (show(["_law_row"]:List Str).Nodup from ⋯) rfl ⇑13))) (λ1=>cK) (λ1=>(kE ⇑9 (PE.nE (PE.xS (bJ {kind:=.function,names:=[(".0",.local),("_law_row",.local)],isGenerator:=false,isCoroutine:=false} ["_law_row"] [] ["_law_bad"] ["_law_bad"] ir (PI.c (bP (cN 0))) (λ1=>(aC (aO (i:=0) (show(["_law_bad"]:List Str).Nodup from ⋯) rfl ⇑13))) (λ1=>cK) (λ1=>(bQ c6 iH rfl B.str kW (aq (aB 0) aw))))))))))))))
theorem ud(F:Df K mg "_law_show_ends" gS ["_law_some"])(B:Bs mg):⇑RU:=
 cq [] jd F tZ λ2=>(ar (aT (kE ⇑9 (PE.nE (PE.xS (bJ (ah gS) ["_law_some"] [] ["_law_end"] ["_law_end"] ir (PI.c (bP (cN 0))) (λ1=>(aC (aO (i:=0) (show(["_law_end"]:List Str).Nodup from ⋯) rfl ⇑13))) (λ1=>cK) (λ1=>(au aI ax (PE.sh (au aI ax (PE.sh (bQ c6 iH rfl B.str kW (aq (PE.sh (aR (aB 0) br)) aw))) ⇑9)) (PE.sh (bQ c6 iH rfl B.str kW (aq (PE.sh (aR (aB 0) br)) aw)))))))))))
theorem Br(F:Df K mg "_law_names" kR ["_law_cell_here"])(B:Bs mg):⇑RX:=
 iE [6] oq F c9 λ2=>(ak (jg 1 c9.nd (aK aM))
  (ak (b9 (aQ (bC hr) imp_eq (PE.sh (au cF aV (aB 0) br)) br (aJ _)) (by refine ak ?_ ?_;(refine vU ?_;refine eY ?_ ?_ ?_ ?_ ?_ ?_;exact c9.nd;rfl;exact(Or.inr rfl);refine PE.nE ?_;refine dh ?_;refine Ct ?_;kernel_rfl;exact Jc;exact .inl rfl);exact(ar (vh (PE.xS (bJ (ah kR) ["_law_cell_here","_law_letters","_law_words","_law_word","_law_k","_law_at","_law_names_here","_law_sign"] [2,0] ["_law_k","_law_words","_law_cell_here"] ["_law_k"] ir (PI.c (jG B.range (af (bp bH) ai))) (λ1=>(aC (aO (i:=0) (show(["_law_k","_law_words","_law_cell_here"]:List Str).Nodup from ⋯) rfl ⇑13))) (λ1=>cK) (λ1=>(aR (aB 1) (PE.sh (au cF aV (PE.sh (au aI ax (PE.sh (au cG aV (aB 2) br)) (PE.sh (au fK aV br (aB 0))))) br))))))))) bw)
  (ak (jg 3 c9.nd (aK aM))
  (ak (gz aa3 rfl (jG B.range (af (au aI ax br (PE.sh (au cF aV (PE.sh (au cG aV (aB 0) br)) br))) ai)) (aC (aO (i:=4) c9.nd rfl ⇑13))
   (ar (jg 3 c9.nd (au aI ax (aB 3) (PE.sh (aR (aB 1) (PE.sh (au cF aV (PE.sh (au aI ax (PE.sh (au cG aV (aB 0) br)) (PE.sh (au fK aV (aB 4) (PE.sh (au cG aV (aB 0) br)))))) br))))))))
  (ak (jg 5 c9.nd (au cF aV (PE.sh (au cG aV (aB 0) br)) (PE.sh (aY a9 bE rfl B.len cn (aq (aB 3) aw)))))
  (ak (gL (eY (i:=6) c9.nd rfl ⇑13 (dh ai)))
  (ak (gz aa3 rfl (jG B.range (af (bp bH) ai)) (aC (aO (i:=4) c9.nd rfl ⇑13))
   (ak (jg 7 c9.nd (aR (aB 1) (PE.sh (au cF aV (PE.sh (au aI ax (PE.sh (au cG aV (aB 0) br)) (PE.sh (au fK aV br (aB 4))))) br))))
  (ar (fq (cw (iR abi abg abx fj (pv 6) (bz (au aI ax (PE.sh (au aI ax (PE.sh (LX (aB 3) rn (iT (aB 5)))) (aB 7))) (PE.sh (LX (aB 3) (iT (PE.sh (au aI ax (aB 5) br))) rn))) cX)))))))
  (ar (fm (pv 6))))))))))
theorem DC(F:Df K mg "_law_walk" ff ["_law_draws","_law_goes"])(B:Bs mg)(C:OX P w K mg base 2 fd 2 G):Dn P w K mg base 4 "_law_walk" ["_law_draws","_law_goes"] (il K 2 (eF fd G)):=
 cq [2] (qx fd G) F i7 λ_ _ _ _ _ _ _ hr=>(ak (gL (eY (i:=2) i7.nd rfl (Or.inr rfl) (dh ai)))
  (ak (jg 3 i7.nd (PE.nE (dh (af (bp bH) ai))))
  (ak (vV aa3 (PW.pt (kA (aQ gD ba (PE.sh (aY a9 bE rfl B.len cn (aq (aB 2) aw))) (aB 0) (aJ _)) (pw_and1 (aQ pT ba (PE.sh (aY a9 bE rfl B.len cn (aq (aB 3) aw))) br (aJ _))))) (ak (vU (PS.nE (Mg (i:=4) (ah ff) ["_law_draws","_law_goes","_law_rows","_law_come","_law_row"] [1,2] ["_law_bad","_law_goes","_law_rows"] ["_law_bad"] [2] i7.nd rfl rfl ir (PI.c (bP (cN 3))) (λ1=>(aC (aO (i:=0) (show(["_law_bad","_law_goes","_law_rows"]:List Str).Nodup from ⋯) rfl ⇑13))) (λ1=>(wb (du (PE.sh (LP (i:=1) C hr ⇑0 (af (cN 0) (af (aY a9 bE rfl B.len cn (aq (aB 2) aw)) ai))))))) (λ1=>(cN 0)))))
  (ak (jg 3 i7.nd (PE.nE (jW B.sorted B.set (PE.sh (PE.nE (vO o8 o9 (aB 4) (PE.sh (PE.nE (PE.xS (bJ (ah ff) ["_law_draws","_law_goes","_law_rows","_law_come","_law_row"] [] ["_law_bad"] ["_law_bad"] ir (PI.c (bP (cN 4))) (λ1=>(aC (aO (i:=0) (show(["_law_bad"]:List Str).Nodup from ⋯) rfl ⇑13))) (λ1=>cK) (λ1=>(au aI ax (aB 0) br))))))))))))
  (ar (b9 (aQ pT ba (PE.sh (aY a9 bE rfl B.len cn (aq (aB 4) aw))) br (aJ _)) (ar (fq (cw (iR abi abg abx fj (pv 2) (bz (bQ dG gV rfl B.tuple gG (aq (aB 4) aw)) cX))))) bw)))))
  (ar (aT (bQ dG gV rfl B.tuple gG (aq (aB 2) aw)))))))
theorem uO(F:DO K mg "_law_by_words" bX ["_law_kind","_law_row"] c0)(B:Bs mg)(HD:PySem.W.codeHdIn K c0 P0=true)(ML:(P0,[(⟨538,38,538,70⟩:Pos),(⟨540,38,540,88⟩:Pos),(⟨542,52,542,144⟩:Pos),(⟨543,34,543,139⟩:Pos)],("_law_by_words.<locals>.<lambda>":Str))∈bS)(BB:GJ mg base)(g8:UC P w K mg 4 2 2 "_law_walk" ["_law_draws","_law_goes"] eF):⇑RP:=
 rE [] ke F uN λf A outer s H E hr=>(ak (b9 ⇑34 (ar (aT (GK (kc:=1) (i:=1) (ps:=["_law_bad","_law_many"]) (fv:=[]) (ix:=[]) (ah bX) g8 hr ⇑0 BB HD (.head _) ML ⟨rfl,rfl,rfl,⋯,⋯,⋯,⋯⟩ (aR (aB 1) br) (λ6=>(lI lD)) (λ5=>match us,hl with|[_,_],_=>rfl)))) bw)
  (ak (b9 ⇑34 (ar (aT (GK (kc:=1) (i:=1) (ps:=["_law_bad","_law_many"]) (fv:=["_law_row"]) (ix:=[1]) (ah bX) g8 hr ⇑0 BB HD (.tail _ (.head _)) ML ⟨rfl,rfl,rfl,⋯,⋯,⋯,⋯⟩ (aR (aB 1) br) (λ6=>(cH gD ba (aB 0) (PE.sh (aR (aB 2) br)) (aJ _))) (λ5=>match us,hl with|[_,_],_=>rfl)))) bw)
  (ak (b9 ⇑34 (ar (aT (GK (kc:=1) (i:=1) (ps:=["_law_bad","_law_many"]) (fv:=["_law_row"]) (ix:=[1]) (ah bX) g8 hr ⇑0 BB HD (.tail _ (.tail _ (.head _))) ML ⟨rfl,rfl,rfl,⋯,⋯,⋯,⋯⟩ (au aI ax ⇑17 ⇑17) (λ6=>(QY (cH (nF hr) nG (aB 1) (PE.sh (aR (aB 2) br)) (aJ _)) (iC (hZ gD ba gD ba (PE.sh (aR (aB 2) br)) (aB 0) (PE.sh (aR (aB 2) br)))))) (λ5=>match us,hl with|[_,_],_=>rfl)))) bw)
  (ar (aT (GK (kc:=1) (i:=1) (ps:=["_law_bad","_law_many"]) (fv:=["_law_row"]) (ix:=[1]) (ah bX) g8 hr ⇑0 BB HD (.tail _ (.tail _ (.tail _ (.head _)))) ML ⟨rfl,rfl,rfl,⋯,⋯,⋯,⋯⟩ (aR (aB 1) br) (λ6=>(hZ gD ba gD ba (PE.sh (l0 (PE.sh (aR (aB 2) br)))) (PE.sh (au fO iS (PE.sh (au fK aV (PE.sh (aR (aB 2) br)) (aB 0))) (PE.sh (au fK aV (PE.sh (aR (aB 2) br)) (aB 1))))) (PE.sh (aR (aB 2) br)))) (λ5=>match us,hl with|[_,_],_=>rfl)))))))
theorem Bt(F:Df K mg "_law_judge" oK ["_law_plan_here"])(B:Bs mg):⇑RY:=
 cq [] ou F rY λ2=>(ak (gz aa3 rfl (bP (cN 0)) (aC (aO (i:=1) rY.nd rfl ⇑13))
   (ar (b9 (aQ (nF hr) nG (PE.sh (au fO iS (PE.sh (aR (aB 1) (PE.sh (l0 br)))) ⇑17)) (PE.sh (au fO iS (PE.sh (aY a9 bE rfl B.len cn (aq (aB 1) aw))) br)) (aJ _)) (ar (aT (aK aM))) bw)))
  (ar (aT (aK aM))))
theorem DD(F:Df K mg "_law_made" mL ["_law_cell_here"])(B:Bs mg)(ku:⇑RP)(lz:⇑ZH)(qP:⇑RM)(fB:⇑VM):⇑R5:=
 cq [5] qy F eX λ2=>(ak (jg 1 eX.nd (PE.nE (eK lz hr ⇑0 (af (cN 0) (af (PE.nE (dh (af (bp bH) (af (bp bH) (af (bp bH) (af (bp bH) (af (bp bH) (af (bp bH) (af (bp bH) ai))))))))) ai)))))
  (ak (jg 2 eX.nd (au aI ax br ⇑17))
  (ak (b9 (aQ (bC hr) imp_eq ⇑17 br (aJ _)) (ar (jg 2 eX.nd (au aI ax br ⇑17))) bw)
  (ak (jg 3 eX.nd (aR (PE.sh (PE.nE (dh (af (aK aM) (af (aK aM) (af (aK aM) (af (aK aM) (af (aK aM) ai)))))))) ⇑17))
  (ak (b9 (aQ (bC hr) imp_eq (aB 3) ⇑9 (aJ _)) (ak (jg 4 eX.nd (jE qP hr (af (au cG aV (aB 0) br) (af (au aI ax br (PE.sh (au cF aV ⇑17 br))) ai))))
  (ar (aT (dJ (af (au aI ax ⇑9 (PE.sh (jE fB hr (af (cN 4) ai)))) (af (cN 4) ai)))))) bw)
  (ak (gL (eY (i:=5) eX.nd rfl ⇑13 (dh (af (PE.nE (dh (af (cN 2) ai))) (af (PE.nE (dh (af (au aI ax br ⇑17) (af (cN 2) ai)))) ai)))))
  (ak (fq (cw (iR abi abg abx fj (pv 5) (bz (PE.nE (dh (af (au aI ax br (PE.sh (au cG aV ⇑17 br))) (af (au fO iS (PE.sh (au cG aV ⇑17 br)) br) (af (au aI ax (PE.sh (au cG aV ⇑17 br)) ⇑17) (af (au aI ax br ⇑17) ai)))))) cX))))
  (ak (fq (cw (iR abi abg abx fj (pv 5) (bz (PE.nE (dh (af (au cG aV ⇑17 br) (af (au aI ax br (PE.sh (au cG aV ⇑17 br))) (af (au aI ax br ⇑17) (af (au aI ax br ⇑17) (af (cN 2) ai))))))) cX))))
  (Po (O':=[]) (eY (i:=5) eX.nd rfl ⇑13 (aR (aB 5) (PE.sh (aY (HV rfl) OC rfl B.min TC (aq br (aq ⇑17 aw))))))
  (ar (aT (dJ (af (au aI ax (PE.sh (au aI ax (aB 3) ⇑9)) (PE.sh (kE ⇑9 (PE.nE (PE.xS (bJ (ah mL) ["_law_cell_here","_law_drawn","_law_draws","_law_kind","_law_plan_here","_law_row"] [] ["_law_one"] ["_law_one"] ir (PI.c (bP (cN 5))) (λ1=>(aC (aO (i:=0) (show(["_law_one"]:List Str).Nodup from ⋯) rfl ⇑13))) (λ1=>cK) (λ1=>(bQ c6 iH rfl B.str kW (aq (aB 0) aw))))))))) (af (jE ku hr (af (cN 3) (af (cN 5) ai))) ai))))))))))))))
variable {C:Addr}
theorem Nn(F:uG K "__init__" "Desk.__init__" gQ f fd)(c:ya K C)(n1:fP K C "plans")(n2:fP K C "lots"):jR P w K mg base lR 1 f fd ["self"] (AG K C):=
 F.ok tW (λvs H Q E h=>by obtain⟨x,dx,rfl,_⟩:=h;rfl) (λde A outer s H vs Q E hr h=>⟨_,lE (KA (pv 0) wD rfl) (zZ (KA (pv 0) wD rfl)),L7 c n1 n2 h⟩)
theorem pN(F:uG K "plan_named" "Desk.plan_named" fM f fd)(M:yb K C "plan_named" f)(Bi:Binds K fd ["self","name"] [])(B:Bs mg)(c:ya K C)(n1:fP K C "plans"):RQ P w K mg base C:=by
 exact wB [] ic F M Bi qH λa dx p q f de A outer s H E hr=>let hu:=abJ (adW (show 1<=64 by decide) _) hr.units;(cS (k8 (Ph true rfl c n1 hu (pv 0) (cN 1)) (et (gI dv)) iI)
  (et (vp (Pg true rfl c n1 hu (pv 0) (cN 1)))))
theorem rZ(F:uG K "put_plan" "Desk.put_plan" gR f fd)(M:yb K C "put_plan" f)(Bi:Binds K fd ["self","name","plan"] [])(B:Bs mg)(c:ya K C)(n1:fP K C "plans"):RN P w K mg base C:=by
 exact wB [] je F M Bi tX λa dx p q f de A outer s H E hr=>let hu:=abJ (adW (show 1<=64 by decide) _) hr.units;(cS (Pf true rfl c n1 hu (pv 0) (cN 1) (UK (cN 2)))
  (et (gI (aT (aK aM)))))
theorem Bu(F:uG K "say" "Desk.say" mJ f fd)(M:yb K C "say" f)(Bi:Binds K fd ["self","row"] [])(B:Bs mg)(c:ya K C)(mR:RQ P w K mg base C)(qQ:RN P w K mg base C)(oU:⇑RT)(mS:⇑Si)(ue:⇑Sf)(qR:⇑Ss):VN P w K mg base C:=by
 exact wB [] qz F M Bi i6 λa dx p q f de A outer s H E hr=>(cS (gI (jg 2 i6.nd (jE qR hr (af (cN 1) ai))))
  (cS (gI (jg 3 i6.nd (aR (aB 2) br)))
  (cS (gI (jg 4 i6.nd (aR (aB 2) br)))
  (cS (gI (jg 5 i6.nd (aR (aB 2) br)))
  (cS (gI (hJ (cw (jE mS hr (af (cN 4) ai)))))
  (cS (k8 (wy (du (PE.sh (Jb (aB 3) ⇑9)))) (et (vp (j5 zL qQ c hr ⇑0 (pv 0) (af (cN 4) (af (jE ue hr (af (cN 3) (af (cN 5) ai))) ai))))) iI)
  (cS (k8 (wy (aQ (bC hr) imp_eq (aB 3) ⇑9 (aJ _))) (et (gI dv)) iI)
  (cS (k8 (wy (aQ (bC hr) imp_eq (aB 3) ⇑9 (aJ _))) (et (gI dv)) iI)
  (cS (k8 (wy (aQ (bC hr) imp_eq (aB 3) ⇑9 (aJ _))) (et (gI dv)) iI)
  (cS (k8 (wy (aQ (bC hr) imp_eq (aB 3) ⇑9 (aJ _))) (et (gI dv)) iI)
  (et (vp (Jm oU hr ⇑0 (j5 zL mR c hr ⇑0 (pv 0) (af (cN 4) ai)) (af (cN 3) (af (cN 5) ai)))))))))))))))
theorem Bv(F:Df K mg "_law_told" qK ["_law_desk","_law_name","_law_plan_here","_law_number"])(B:Bs mg)(c:ya K C)(r0:VN P w K mg base C)(qS:⇑RZ)(oV:⇑RY)(jh:⇑RU)(qT:⇑R4)(fB:⇑VM):ZF P w K mg base C:=by
 exact Pd [] qA F kS λa dx p q f de A outer s H E hr=>let hu:=abJ (adW (show 1<=64 by decide) _) hr.units;(cS (k8 (PW.pt (Pc (rF (nF hr) nG (j5 zL r0 c hr ⇑0 (pv 0) (af (au aI ax ⇑9 (aB 1)) ai)) (PE.sh (jE fB hr (af (cN 2) ai))) rfl) (pw_or1 (rF (nF hr) nG (j5 zL r0 c hr ⇑0 (pv 0) (af (au aI ax ⇑9 (aB 1)) ai)) (PE.sh (jE jh hr (af (PE.nE (eK qS hr ⇑0 (af (cN 2) ai))) ai))) rfl)))) (et (gI (aT (lI lD)))) iI)
  (cS (gI (jg 4 kS.nd (au cF aV (aB 3) (PE.sh (au aI ax (PE.sh (aY a9 bE rfl B.len cn (aq (aB 2) aw))) br)))))
  (cS (gI (jg 5 kS.nd (au cF aV (PE.sh (au cG aV (aB 3) br)) (PE.sh (au aI ax (aB 4) br)))))
  (cS (gI (jg 6 kS.nd (nM hu (PE.sh (jE qT hr (af (cN 2) ai))) (PE.sh (dJ (af (cN 5) (af (au fO iS (aB 4) (aB 5)) ai)))) (bp bH))))
  (cS (k8 (rF (nF hr) nG (j5 zL r0 c hr ⇑0 (pv 0) (af (au aI ax (PE.sh (au aI ax (PE.sh (au aI ax (PE.sh (au aI ax (PE.sh (au aI ax ⇑9 (aB 1))) ⇑9)) (PE.sh (bQ c6 iH rfl B.str kW (aq (aB 5) aw))))) ⇑9)) (PE.sh (bQ c6 iH rfl B.str kW (aq (PE.sh (au fO iS (aB 4) (aB 5))) aw)))) ai)) (PE.sh (bQ c6 iH rfl B.str kW (aq (aB 6) aw))) rfl) (et (gI (aT (lI lD)))) iI)
  (et (vp (Pb (bC hr) imp_eq (j5 zL r0 c hr ⇑0 (pv 0) (af (au aI ax ⇑9 (aB 1)) ai)) (PE.sh (jE oV hr (af (cN 2) ai))) rfl))))))))
theorem VP(F:uG K "law" "law" oN f fd)(B:Bs mg)(c:ya K C)(MK:Mk K C fI)(FI:jR P w K mg base lR 1 fI fdI ["self"] (AG K C))(mC:mg "Desk"=some (.ref C))(BI:Binds K fdI ["self"] [])(r0:VN P w K mg base C)(mT:⇑RS)(qU:⇑R5)(oW:⇑RX)(qV:ZF P w K mg base C):jR P w K mg base lR 9 f fd ["_law_script"] (il K 1 zR):=by
 exact Q3 [] Mw F lu λ2=>let hu:=abJ (adW (show 1<=64 by decide) _) hr.units;(ak (jg 1 lu.nd (PE.nE (eK oW hr ⇑0 (af (au cF aV (PE.sh (jE mT hr (af (cN 0) (af (bp bH) ai)))) (PE.sh (au vI aV br br))) ai))))
  (L9 (j:=2) MK FI hr ⇑0 mC BI lu.nd rfl ⇑13 λa dx p q=>(Mh (j:=3) lu.nd rfl ⇑13 λm oM=>(cS (LZ aa3 rfl (rp B.enumerate (PE.nE (vO o8 o9 (PE.sh (PE.nE (Al (aB 0) (iT br) (iT br)))) (PE.sh (PE.nE (dh (af (jE mT hr (af (cN 0) (af (bp bH) ai))) ai))))))) (l6 rfl (d8 (aC (aO (i:=4) lu.nd rfl ⇑13)) (d8 (aC (aO (i:=5) lu.nd rfl ⇑13)) l5)))
   (cS (gI (T3 (Ko (jE qU hr (af (cN 5) ai)) (l6 rfl (d8 (aC (aO (i:=6) lu.nd rfl ⇑13)) (d8 (aC (aO (i:=7) lu.nd rfl ⇑13)) l5))))))
  (cS (gI (jg 8 lu.nd (aR (aB 1) (PE.sh (au cF aV (PE.sh (au aI ax (PE.sh (au cG aV (aB 5) br)) (aB 4))) br)))))
  (cS (k8 (rF (nF hr) nG (j5 (Y2 oM) r0 c hr ⇑0 (pv 2) (af (au aI ax (PE.sh (au aI ax (PE.sh (au aI ax ⇑9 (aB 8))) ⇑9)) (aB 6)) ai)) ⇑9 rfl) (et (gI (aT (lI lD)))) iI)
  (cS (Mi (j:=3) oM (vf hu (pv 3) (cN 8) (cN 7) (by rfl)))
  (et (Mj aa3 rfl oM (pv 3) (aC (aO (i:=9) lu.nd rfl ⇑13)) λkv vs ep l=>(et (k8 (L3 (Je (Pu oM qV hr ⇑0 (pv 2) (cN 9) (pv 3) (cN 9) (au aI ax (PE.sh (au cF aV (aB 5) (PE.sh (au vI aV br br)))) (PE.sh (au fK aV br (aB 4))))))) (et (gI (aT (lI lD)))) iI)))))))))
  (et (gI (aT (lI lD))))))))
end
structure QF(K:ao)(n:Str)(st:Stmt)(f:Addr)(od an:Option Addr)(sl:Array (Option Value))(oc kV dc pm cd ct:Value):Prop where
 a:PySem.W.nsIn K mainGlobals n=some (some (.ref f))
 l:K.lookup f=some ⟨oc,od,.func (PySem.W.fnOf n n (dZ st) (cf st) (ah st) .none kV dc pm an cd ct),sl⟩
 c:PySem.W.codeIn K cd n=true
 k:PySem.W.keepIn K (.ref f)=true
theorem DE{us:bZ}(h:us.length=n+1):∃a r,us=a::r/\r.length=n:=by cases us with|nil=>cases h|cons a r=>exact⟨a,r,rfl,Nat.succ.inj h⟩
theorem len_1(us:bZ)(h:us.length=1):∃a0,us=[a0]:=by obtain⟨a,r,rfl,g⟩:=DE h;rw[adM.mp g];exact⟨a,rfl⟩
theorem len_2(us:bZ)(h:us.length=2):∃a0 a1,us=[a0,a1]:=by obtain⟨a,r,rfl,g⟩:=DE h;obtain⟨a0,rfl⟩:=len_1 r g;exact⟨a,a0,rfl⟩
theorem len_3(us:bZ)(h:us.length=3):∃a0 a1 a2,us=[a0,a1,a2]:=by obtain⟨a,r,rfl,g⟩:=DE h;obtain⟨a0,a1,rfl⟩:=len_2 r g;exact⟨a,a0,a1,rfl⟩
theorem len_4(us:bZ)(h:us.length=4):∃a0 a1 a2 a3,us=[a0,a1,a2,a3]:=by obtain⟨a,r,rfl,g⟩:=DE h;obtain⟨a0,a1,a2,rfl⟩:=len_3 r g;exact⟨a,a0,a1,a2,rfl⟩
theorem len_5(us:bZ)(h:us.length=5):∃a0 a1 a2 a3 a4,us=[a0,a1,a2,a3,a4]:=by obtain⟨a,r,rfl,g⟩:=DE h;obtain⟨a0,a1,a2,a3,rfl⟩:=len_4 r g;exact⟨a,a0,a1,a2,a3,rfl⟩
section
variable {K:ao}{mg:eQ}{f c:Addr}{fd:FuncData}
theorem yN(F:uG K "plan_while" "plan_while" eB f fd)(m:mg "plan_while"=some (.ref f)):Df K mg "plan_while" eB ["draws_on"]:=⟨f,fd,F,m,F.binds λ5=>by obtain⟨a0,rfl⟩:=len_1 us hl;rfl⟩
theorem FU(F:uG K "so_many" "so_many" gY f fd)(e:fd.code=.ref c)(m:mg "so_many"=some (.ref f)):DO K mg "so_many" gY ["draws"] c:=⟨f,fd,F,e,m,F.binds λ5=>by obtain⟨a0,rfl⟩:=len_1 us hl;rfl⟩
theorem Qx(F:uG K "till" "till" oH f fd)(e:fd.code=.ref c)(m:mg "till"=some (.ref f)):DO K mg "till" oH ["bad","draws"] c:=⟨f,fd,F,e,m,F.binds λ5=>by obtain⟨a0,a1,rfl⟩:=len_2 us hl;rfl⟩
theorem Bw(F:uG K "two_steps" "two_steps" eV f fd)(e:fd.code=.ref c)(m:mg "two_steps"=some (.ref f)):DO K mg "two_steps" eV ["first","low","high","second"] c:=⟨f,fd,F,e,m,F.binds λ5=>by obtain⟨a0,a1,a2,a3,rfl⟩:=len_4 us hl;rfl⟩
theorem FV(F:uG K "between" "between" gZ f fd)(e:fd.code=.ref c)(m:mg "between"=some (.ref f)):DO K mg "between" gZ ["rise","run","below","above","draws"] c:=⟨f,fd,F,e,m,F.binds λ5=>by obtain⟨a0,a1,a2,a3,a4,rfl⟩:=len_5 us hl;rfl⟩
theorem DF(F:uG K "_law_walk" "_law_walk" ff f fd)(m:mg "_law_walk"=some (.ref f)):Df K mg "_law_walk" ff ["_law_draws","_law_goes"]:=⟨f,fd,F,m,F.binds λ5=>by obtain⟨a0,a1,rfl⟩:=len_2 us hl;rfl⟩
theorem uP(F:uG K "_law_by_words" "_law_by_words" bX f fd)(e:fd.code=.ref c)(m:mg "_law_by_words"=some (.ref f)):DO K mg "_law_by_words" bX ["_law_kind","_law_row"] c:=⟨f,fd,F,e,m,F.binds λ5=>by obtain⟨a0,a1,rfl⟩:=len_2 us hl;rfl⟩
theorem VQ(F:uG K "law" "law" oN f fd)(m:mg "law"=some (.ref f)):Df K mg "law" oN ["_law_script"]:=⟨f,fd,F,m,F.binds λ5=>by obtain⟨a0,rfl⟩:=len_1 us hl;rfl⟩
end
def QE(K:ao)(n:Str)(st:Stmt):Prop:=∃f od an sl oc kV dc pm cd ct,QF K n st f od an sl oc kV dc pm cd ct
theorem uf(CK:jZ K)(X:K.In h)(G:h.Ns mainGlobals mg)(q:QE K x st)(b:∀kV doc pm an cd ct u0,bindArgs (PySem.W.fnOf x x (dZ st) (cf st) (ah st) .none kV doc pm an cd ct) ⟨[u0],[]⟩=pure ([a0].zip [u0]):=by intros;rfl):Df (cc K) mg x st [a0]:=by
 obtain⟨_,_,_,_,_,_,_,_,_,_,q⟩:=q
 exact⟨_,_,CK.func (dH (st:=st) q.l q.c q.k),aba X G q.a,(CK.func (dH (st:=st) q.l q.c q.k)).binds λ5=>match us,hl with|[u0],_=>b ..⟩
theorem NT(CK:jZ K)(X:K.In h)(G:h.Ns mainGlobals mg)(q:QE K x st)(b:∀kV doc pm an cd ct u0 u1,bindArgs (PySem.W.fnOf x x (dZ st) (cf st) (ah st) .none kV doc pm an cd ct) ⟨[u0,u1],[]⟩=pure ([a0,a1].zip [u0,u1]):=by intros;rfl):Df (cc K) mg x st [a0,a1]:=by
 obtain⟨_,_,_,_,_,_,_,_,_,_,q⟩:=q
 exact⟨_,_,CK.func (dH (st:=st) q.l q.c q.k),aba X G q.a,(CK.func (dH (st:=st) q.l q.c q.k)).binds λ5=>match us,hl with|[u0,u1],_=>b ..⟩
theorem df3(CK:jZ K)(X:K.In h)(G:h.Ns mainGlobals mg)(q:QE K x st)(b:∀kV doc pm an cd ct u0 u1 u2,bindArgs (PySem.W.fnOf x x (dZ st) (cf st) (ah st) .none kV doc pm an cd ct) ⟨[u0,u1,u2],[]⟩=pure ([a0,a1,a2].zip [u0,u1,u2]):=by intros;rfl):Df (cc K) mg x st [a0,a1,a2]:=by
 obtain⟨_,_,_,_,_,_,_,_,_,_,q⟩:=q
 exact⟨_,_,CK.func (dH (st:=st) q.l q.c q.k),aba X G q.a,(CK.func (dH (st:=st) q.l q.c q.k)).binds λ5=>match us,hl with|[u0,u1,u2],_=>b ..⟩
theorem df4(CK:jZ K)(X:K.In h)(G:h.Ns mainGlobals mg)(q:QE K x st)(b:∀kV doc pm an cd ct u0 u1 u2 u3,bindArgs (PySem.W.fnOf x x (dZ st) (cf st) (ah st) .none kV doc pm an cd ct) ⟨[u0,u1,u2,u3],[]⟩=pure ([a0,a1,a2,a3].zip [u0,u1,u2,u3]):=by intros;rfl):Df (cc K) mg x st [a0,a1,a2,a3]:=by
 obtain⟨_,_,_,_,_,_,_,_,_,_,q⟩:=q
 exact⟨_,_,CK.func (dH (st:=st) q.l q.c q.k),aba X G q.a,(CK.func (dH (st:=st) q.l q.c q.k)).binds λ5=>match us,hl with|[u0,u1,u2,u3],_=>b ..⟩
def QM(K:ao)(C f:Addr)(m q:Str)(st:Stmt):Prop:=∃od an sl oc kV dc pm cd ct,K.lookup f=some ⟨oc,od,.func (PySem.W.fnOf m q (dZ st) (cf st) (ah st) .none kV dc pm an cd ct),sl⟩/\PySem.W.codeIn K cd q=true/\PySem.W.keepIn K (.ref f)=true/\PySem.W.findIn (cc K) (.ref C) m=some (some (.ref f))/\PySem.W.isFn (cc K) (.ref f)=true/\PySem.W.keepIn (cc K) (.ref f)=true
noncomputable def zN:List Str:=["len","range","isinstance","max","min","int","bool","tuple","list","abs","str","sum","sorted","reversed","enumerate","set","all","zip","any"]
def zP(K:ao)(x:Str):Bool:=match PySem.W.nsIn K mainGlobals x with|some none=>true|_=>false
theorem zal(h:zN.all (zP K)=true)(m:x∈zN):PySem.W.nsIn K mainGlobals x=some none:=by
 have z:=abU.mp h x m
 unfold zP at z
 split at z
 .grind
 .grind
theorem all_mk{l:PySem.W.OpenLaw}{w:World}{K:ao}{h:Heap}{mg:eQ}{fa:Addr}(X:K.In h)(G:h.Ns mainGlobals mg)(hfa:mg "law"=some (.ref fa))
  {f16 f63 f64 f65 f66 f88 f89 f93:Addr}{acJ acK acL acM acN acO acP acQ acR acS acT acU acV acW acX ZI:Option Addr}{acY acZ ac0 ac1 ac2 ac3 ac4 ac5:Array (Option Value)}{ac6 ac7 ac8 ac9 ada adb ade adf adg adh ZJ adi adj adk adl adm ZK adn ado adp adq ads ZL adt adu adv adw adx ZM ady adz adA adB adC adD adE adF adG adH adI ZN adJ adK ZO ZP ZQ ZR ZS:Value}
  (q10:QE K "is_plan" tR)
  (q11:QE K "goes_on" tU)
  (q12:QE K "come_to" pI)
  (q13:QE K "ends" Bb)
  (q14:QE K "drawn_on" mF)
  (q16:QF K "plan_while" eB f16 acJ acK acY ac6 ac7 ac8 ac9 ada adb)
  (q17:QE K "led_to" rT)
  (q18:QE K "after" Bc)
  (q19:QE K "is_place" mG)
  (q20:QE K "is_whole" qE)
  (q27:QE K "ways_to" tV)
  (q29:QE K "ways_from" oB)
  (q34:QE K "stretches" oC)
  (q35:QE K "is_side_by_side" fL)
  (q45:QE K "show_plan" kO)
  (q46:QE K "show_place" jy)
  (q47:QE K "read_plan" kP)
  (q48:QE K "read_place" jz)
  (q49:QE K "read_number" ls)
  (q50:QE K "is_number" kQ)
  (q51:QE K "answer_of" oE)
  (q53:QE K "show_counts" iL)
  (q54:QE K "show_count" jA)
  (q56:QE K "read_row" qG)
  (q57:QE K "read_words" jB)
  (q58:QE K "read_word" oG)
  (q59:QE K "read_whole" mI)
  (q63:QF K "so_many" gY f63 acL acM acZ ade adf adg adh ZJ adi)
  (q64:QF K "till" oH f64 acN acO ac0 adj adk adl adm ZK adn)
  (q65:QF K "two_steps" eV f65 acP acQ ac1 ado adp adq ads ZL adt)
  (q66:QF K "between" gZ f66 acR acS ac2 adu adv adw adx ZM ady)
  (q75:QE K "check_name" jC)
  (q76:QE K "plan_by" tY)
  (q77:QE K "_law_cell" qI)
  (q78:QE K "_law_digits" mK)
  (q79:QE K "_law_mixes" oJ)
  (q80:QE K "_law_plan" kn)
  (q82:QE K "_law_numbers" iN)
  (q83:QE K "_law_ends" ko)
  (q84:QE K "_law_ways" qJ)
  (q85:QE K "_law_written" iO)
  (q86:QE K "_law_show_ends" gS)
  (q87:QE K "_law_names" kR)
  (q88:QF K "_law_walk" ff f88 acT acU ac3 adz adA adB adC adD adE)
  (q89:QF K "_law_by_words" bX f89 acV acW ac4 adF adG adH adI ZN adJ)
  (q90:QE K "_law_judge" oK)
  (q91:QE K "_law_told" qK)
  (q92:QE K "_law_made" mL)
  (Sy:QF K "law" oN f93 acX ZI ac5 adK ZO ZP ZQ ZR ZS)
  {Bx:Tok}(By:PySem.W.nsIn K mainGlobals "MOST_PLACES"=some (some (.int 24 Bx)))
  {Np:Tok}(Nq:PySem.W.nsIn K mainGlobals "FIGURES"=some (some (.str "0123456789" Np)))
  {pO:Tok}(pP:PySem.W.nsIn K mainGlobals "MOST_FIGURES_texts"=some (some (.int 2 pO)))
  {pQ:Tok}(pR:PySem.W.nsIn K mainGlobals "MOST_FIGURES_deeds"=some (some (.int 30 pQ)))
  {Nr:Tok}(Nt:PySem.W.nsIn K mainGlobals "LETTERS"=some (some (.str "abcdefghijklmnopqrstuvwxyz" Nr)))
  {yO:Tok}(yP:PySem.W.nsIn K mainGlobals "MOST_LETTERS"=some (some (.int 8 yO)))
  (zz:zN.all (zP K)=true)
  (aF:PySem.W.nsIn K mainGlobals "FORMS"=some (some (.ref 493)))
  (lF:(cc K).lookup 493=some (Mb w.params ES 16))
  (lT:fmK.map (λe=>K.lookup e.1)=fmK.map λe=>some (tkO e.2))
  {lA:Addr}{xq xr:Option Addr}{xt:Array (Option Value)}{xu xw xx xy oX xA:Value}(yQ:PySem.W.nsIn K mainGlobals "check_deeds"=some (some (.ref lA)))
  (yR:K.lookup lA=some ⟨xu,xq,.func (PySem.W.fnOf "check" "check" (dZ eG) (cf eG) (ah eG) .none xw xx xy xr oX xA),xt⟩)
  (yS:PySem.W.codeIn K oX "check"=true)
  (yT:PySem.W.keepIn K (.ref lA)=true)
  {lB:Addr}{xB xC:Option Addr}{xD:Array (Option Value)}{xE xF xG xH oY xI:Value}(yU:PySem.W.nsIn K mainGlobals "check_words"=some (some (.ref lB)))
  (yV:K.lookup lB=some ⟨xE,xB,.func (PySem.W.fnOf "check" "check" (dZ eI) (cf eI) (ah eI) .none xF xG xH xC oY xI),xD⟩)
  (yW:PySem.W.codeIn K oY "check"=true)
  (yX:PySem.W.keepIn K (.ref lB)=true)
  (aD:PySem.W.nsIn K mainGlobals "Desk"=some (some (.ref 643)))
  (y0:PySem.W.plainGet (cc K) 643 Str.empty=true)
  (y1:PySem.W.hasDictIn (cc K) 643=true)
  (y2:PySem.W.plainOver (cc K) 643=true)
  (y3:PySem.W.findIn (cc K) (.ref 643) "__setattr__"=some (some (.builtin "object.__setattr__")))
  (y4:PySem.W.findIn (cc K) (.ref 643) "plans"=some none)
  (y5:PySem.W.findIn (cc K) (.ref 643) "lots"=some none)
  (y6:PySem.W.makesIn (cc K) 643=true)
  (y7:PySem.W.keepIn (cc K) (.ref 643)=true)
  (uQ:QM K 643 598 "__init__" "Desk.__init__" gQ)
  (FW:QM K 643 605 "say" "Desk.say" mJ)
  (uR:QM K 643 612 "put_plan" "Desk.put_plan" gR)
  (r6:QM K 643 633 "plan_named" "Desk.plan_named" fM)
  {Sz c63 SA c64 SD c65 SE c66 SF c89:Addr}(lt:bS=[(Sz,[(⟨354,22,354,56⟩:Pos)],("so_many.<locals>.<lambda>":Str)),(SA,[(⟨357,22,357,72⟩:Pos)],("till.<locals>.<lambda>":Str)),(SD,[(⟨362,4,365,37⟩:Pos)],("two_steps.<locals>.draws_on":Str)),(SE,[(⟨370,22,370,104⟩:Pos)],("between.<locals>.<lambda>":Str)),(SF,[(⟨538,38,538,70⟩:Pos),(⟨540,38,540,88⟩:Pos),(⟨542,52,542,144⟩:Pos),(⟨543,34,543,139⟩:Pos)],("_law_by_words.<locals>.<lambda>":Str))])
  (nl1_0:SA≠Sz)
  (nl2_0:SD≠Sz)
  (nl2_1:SD≠SA)
  (nl3_0:SE≠Sz)
  (nl3_1:SE≠SA)
  (nl3_2:SE≠SD)
  (nl4_0:SF≠Sz)
  (nl4_1:SF≠SA)
  (nl4_2:SF≠SD)
  (nl4_3:SF≠SE)
  (e63:ZJ=.ref c63)
  (xJ:PySem.W.codeHdIn K c63 Sz=true)
  (adQ:K.lookup Sz=none)
  (e64:ZK=.ref c64)
  (HI:PySem.W.codeHdIn K c64 SA=true)
  (adR:K.lookup SA=none)
  (e65:ZL=.ref c65)
  (r8:PySem.W.codeHdIn K c65 SD=true)
  (adS:K.lookup SD=none)
  (e66:ZM=.ref c66)
  (xK:PySem.W.codeHdIn K c66 SE=true)
  (adT:K.lookup SE=none)
  (e89:ZN=.ref c89)
  (mZ:PySem.W.codeHdIn K c89 SF=true)
  (adU:K.lookup SF=none)
  (ct:eC=tkV fmK)
  :jZ K/\Cq K/\∃fd:FuncData,(∀(s:Shared) (v:Value),BindsTo s fd ⟨[v],[]⟩ [("_law_script",v)])/\∀base:Heap,(cc K).In base->base.Ns mainGlobals mg->GJ mg base->jR l.prog w (cc K) mg base lR 9 fa fd ["_law_script"] (il (cc K) 1 zR):=by
 obtain⟨_,_,_,_,_,_,_,_,_,uS,uT,uU,uV,uW,J7⟩:=uQ
 obtain⟨_,_,_,_,_,_,_,_,_,FX,FY,FZ,F4,F5,F6⟩:=FW
 obtain⟨_,_,_,_,_,_,_,_,_,uX,uY,uZ,u4,u5,u6⟩:=uR
 obtain⟨_,_,_,_,_,_,_,_,_,r9,sd,se,sf,si,sj⟩:=r6
 have e:=hfa.symm.trans (aba X G Sy.a)
 cases e
 have C:jZ K:=UN ct ⋯ lT ⋯
 have LO:Cq K:=⟨(λp y q m=>by have bq1_0:=aa8.mpr nl1_0;have bq2_0:=aa8.mpr nl2_0;have bq2_1:=aa8.mpr nl2_1;have bq3_0:=aa8.mpr nl3_0;have bq3_1:=aa8.mpr nl3_1;have bq3_2:=aa8.mpr nl3_2;have bq4_0:=aa8.mpr nl4_0;have bq4_1:=aa8.mpr nl4_1;have bq4_2:=aa8.mpr nl4_2;have bq4_3:=aa8.mpr nl4_3;rw[lt]at m ⊢;simp only[aaj,acA,afM,Prod.mk.injEq]at m;rcases m with⟨rfl,rfl,rfl⟩|⟨rfl,rfl,rfl⟩|⟨rfl,rfl,rfl⟩|⟨rfl,rfl,rfl⟩|⟨rfl,rfl,rfl⟩<;>simp[aen, *]),(λp y q m=>by rw[lt]at m;simp only[aaj,acA,afM,Prod.mk.injEq]at m;rcases m with⟨rfl,rfl,rfl⟩|⟨rfl,rfl,rfl⟩|⟨rfl,rfl,rfl⟩|⟨rfl,rfl,rfl⟩|⟨rfl,rfl,rfl⟩<;>first|exact⟨adQ,_,xJ⟩|exact⟨adR,_,HI⟩|exact⟨adS,_,r8⟩|exact⟨adT,_,xK⟩|exact⟨adU,_,mZ⟩)⟩
 have sk:Df (cc K) mg "plan_while" eB ["draws_on"]:=yN (C.func (dH (st:=eB) q16.l q16.c q16.k)) (aba X G q16.a)
 have JT:DO (cc K) mg "so_many" gY ["draws"] c63:=FU (C.func (dH (st:=gY) q63.l q63.c q63.k)) e63 (aba X G q63.a)
 have VR:DO (cc K) mg "till" oH ["bad","draws"] c64:=Qx (C.func (dH (st:=oH) q64.l q64.c q64.k)) e64 (aba X G q64.a)
 have DG:DO (cc K) mg "two_steps" eV ["first","low","high","second"] c65:=Bw (C.func (dH (st:=eV) q65.l q65.c q65.k)) e65 (aba X G q65.a)
 have JU:DO (cc K) mg "between" gZ ["rise","run","below","above","draws"] c66:=FV (C.func (dH (st:=gZ) q66.l q66.c q66.k)) e66 (aba X G q66.a)
 have xM:Df (cc K) mg "_law_walk" ff ["_law_draws","_law_goes"]:=DF (C.func (dH (st:=ff) q88.l q88.c q88.k)) (aba X G q88.a)
 have xN:DO (cc K) mg "_law_by_words" bX ["_law_kind","_law_row"] c89:=uP (C.func (dH (st:=bX) q89.l q89.c q89.k)) e89 (aba X G q89.a)
 have afo:Df (cc K) mg "law" oN ["_law_script"]:=VQ (C.func (dH (st:=oN) Sy.l Sy.c Sy.k)) (aba X G Sy.a)
 have be:Cn mg "MOST_PLACES" (.int 24):=⟨_,aba X G By,⟨_,rfl⟩⟩
 have t7:Cn mg "FIGURES" (.str "0123456789"):=⟨_,aba X G Nq,⟨_,rfl⟩⟩
 have fY:Cn mg "MOST_FIGURES_texts" (.int 2):=⟨_,aba X G pP,⟨_,rfl⟩⟩
 have fZ:Cn mg "MOST_FIGURES_deeds" (.int 30):=⟨_,aba X G pR,⟨_,rfl⟩⟩
 have ua:Cn mg "LETTERS" (.str "abcdefghijklmnopqrstuvwxyz"):=⟨_,aba X G Nt,⟨_,rfl⟩⟩
 have kr:Cn mg "MOST_LETTERS" (.int 8):=⟨_,aba X G yP,⟨_,rfl⟩⟩
 have B:Bs mg:=by constructor<;>exact PySem.W.mg_none_of X G (zal zz ⇑0)
 have FM:Pj w (cc K) mg "FORMS" ES:=⟨⟨493,16,aba X G aF,rfl,lF⟩,YZ ct rfl,⋯⟩
 have pY:=C.func (dH (x:="check") (qual:="check") (st:=eG) yR yS yT)
 have yY:YX (cc K) mg "check_deeds" "check" eG ["is_of_a_kind"]:=⟨_,_,pY,aba X G yQ,pY.binds λ5=>by obtain⟨a0,rfl⟩:=len_1 us hl;rfl⟩
 have pZ:=C.func (dH (x:="check") (qual:="check") (st:=eI) yV yW yX)
 have yZ:YX (cc K) mg "check_words" "check" eI ["is_within_bounds"]:=⟨_,_,pZ,aba X G yU,pZ.binds λ5=>by obtain⟨a0,rfl⟩:=len_1 us hl;rfl⟩
 have c:ya (cc K) 643:=⟨y0,y1,y2,y3⟩
 have n1:fP (cc K) 643 "plans":=y4
 have n2:fP (cc K) 643 "lots":=y5
 have mC:=aba X G aD
 have m7:=C.func (dH (x:="__init__") (qual:="Desk.__init__") (st:=gQ) uS uT uU)
 have MK:Mk (cc K) 643 598:=⟨y6,uV,uW,y7⟩
 have BI:Binds (cc K) _ ["self"] []:=m7.binds λ5=>by obtain⟨a0,rfl⟩:=len_1 us hl;rfl
 have xO:=C.func (dH (x:="say") (qual:="Desk.say") (st:=mJ) FX FY FZ)
 have DH:yb (cc K) 643 "say" 605:=⟨F4,F5,F6⟩
 have DI:Binds (cc K) _ ["self","row"] []:=xO.binds λ5=>by obtain⟨a0,a1,rfl⟩:=len_2 us hl;rfl
 have m8:=C.func (dH (x:="put_plan") (qual:="Desk.put_plan") (st:=gR) uX uY uZ)
 have ug:yb (cc K) 643 "put_plan" 612:=⟨u4,u5,u6⟩
 have uh:Binds (cc K) _ ["self","name","plan"] []:=m8.binds λ5=>by obtain⟨a0,a1,a2,rfl⟩:=len_3 us hl;rfl
 have kT:=C.func (dH (x:="plan_named") (qual:="Desk.plan_named") (st:=fM) r9 sd se)
 have qW:yb (cc K) 643 "plan_named" 633:=⟨sf,si,sj⟩
 have qX:Binds (cc K) _ ["self","name"] []:=kT.binds λ5=>by obtain⟨a0,a1,rfl⟩:=len_2 us hl;rfl
 have F7:(Sz,[(⟨354,22,354,56⟩:Pos)],("so_many.<locals>.<lambda>":Str))∈bS:=by rw[lt];simp
 have Qy:(SA,[(⟨357,22,357,72⟩:Pos)],("till.<locals>.<lambda>":Str))∈bS:=by rw[lt];simp
 have Bz:(SD,[(⟨362,4,365,37⟩:Pos)],("two_steps.<locals>.draws_on":Str))∈bS:=by rw[lt];simp
 have F8:(SE,[(⟨370,22,370,104⟩:Pos)],("between.<locals>.<lambda>":Str))∈bS:=by rw[lt];simp
 have u7:(SF,[(⟨538,38,538,70⟩:Pos),(⟨540,38,540,88⟩:Pos),(⟨542,52,542,144⟩:Pos),(⟨543,34,543,139⟩:Pos)],("_law_by_words.<locals>.<lambda>":Str))∈bS:=by rw[lt];simp
 refine⟨C,LO,PySem.W.fnOf "law" "law" (dZ oN) (cf oN) (ah oN) .none ZO ZP ZQ ZI ZR ZS,λs v=>.of_eq rfl,λbase _ _ BB=>?_⟩
 have qL:=Du (P:=l.prog) (w:=w) (base:=base) (uf C X G q20) B
 have qM:=Dv (NT C X G q19) B qL
 have i8:=zW (P:=l.prog) (w:=w) (base:=base) (uf C X G q17) B
 have t8:=FJ (uf C X G q10) B be qM i8
 have t6:=FK (P:=l.prog) (w:=w) (base:=base) (NT C X G q11) B
 have t5:=FL (uf C X G q12) B i8
 have FO:=Qv (uf C X G q13) B t5 t6
 have qN:=Dw (P:=l.prog) (w:=w) (base:=base) (uf C X G q14) B
 have bY:Uz l.prog w (cc K) mg 4 2 2 "plan_while" "draws_on" cu:=⟨let⟨f,_,F,m,_⟩:=sk;⟨f,m,F.kp⟩,λbase f c q GG _ _ CC=>by have Nu:=zW (P:=l.prog) (w:=w) (base:=base) (uf C X G q17) B;exact yF (P:=l.prog) (w:=w) (base:=base) sk B be CC Nu⟩
 have vD:=Nl (P:=l.prog) (w:=w) (base:=base) (NT C X G q18) B
 have oO:=Bg (NT C X G q29) B vD qN
 have t9:=FN (NT C X G q27) B oO
 have oP:=Bh (P:=l.prog) (w:=w) (base:=base) (uf C X G q34) B
 have ik:=qO (uf C X G q35) B oP
 have mM:=yG (P:=l.prog) (w:=w) (base:=base) (uf C X G q46) B
 have oQ:=Bj (uf C X G q45) B mM
 have g6:=Bk (P:=l.prog) (w:=w) (base:=base) (uf C X G q50) B t7
 have lx:=xj (uf C X G q49) B fY g6
 have mN:=yH (uf C X G q48) B lx
 have oS:=Bl (uf C X G q47) B t8 mN
 have mO:=yI (P:=l.prog) (w:=w) (base:=base) (uf C X G q54) B
 have ly:=xl (uf C X G q53) B mO
 have oU:=Bm (df3 C X G q51) B FO ik ly oQ t9
 have cE:=xm (P:=l.prog) (w:=w) (base:=base) yY B
 have mP:=yJ (uf C X G q59) B fZ cE g6
 have oR:=Bo (NT C X G q58) B mP
 have jF:=yK (df3 C X G q57) B FM cE oR
 have qR:=Dx (uf C X G q56) B cE jF
 have bG:=xn (P:=l.prog) (w:=w) (base:=base) yZ B
 have uc:=FP JT B be (wq C xJ) F7 BB bY bG
 have FT:=Qw VR B be (wq C HI) Qy BB bY bG
 have oT:=Bp DG B be (wq C r8) Bz BB bY bG
 have ub:=FQ JU B be (wq C xK) F8 BB bY bG
 have mS:=yL (P:=l.prog) (w:=w) (base:=base) (uf C X G q75) B kr ua
 have ue:=FR (NT C X G q76) B ub oS uc FT oT
 have mT:=Dy (P:=l.prog) (w:=w) (base:=base) (NT C X G q77) B
 have mQ:=yM (P:=l.prog) (w:=w) (base:=base) (df3 C X G q78) B
 have g7:=Bq (P:=l.prog) (w:=w) (base:=base) (df3 C X G q79) B
 have qP:=Dz (NT C X G q80) B mQ g7
 have lz:=xo (NT C X G q82) B g7
 have qS:=DA (P:=l.prog) (w:=w) (base:=base) (uf C X G q83) B
 have qT:=DB (P:=l.prog) (w:=w) (base:=base) (uf C X G q84) B
 have fB:=xp (P:=l.prog) (w:=w) (base:=base) (uf C X G q85) B
 have jh:=ud (P:=l.prog) (w:=w) (base:=base) (uf C X G q86) B
 have oW:=Br (P:=l.prog) (w:=w) (base:=base) (uf C X G q87) B
 have g8:UC l.prog w (cc K) mg 4 2 2 "_law_walk" ["_law_draws","_law_goes"] eF:=⟨let⟨f,_,F,m,_⟩:=xM;⟨f,m,F.kp⟩,λbase fd GG _ _ CC=>by exact DC (P:=l.prog) (w:=w) (base:=base) xM B CC⟩
 have ku:=uO xN B (wq C mZ) u7 BB g8
 have oV:=Bt (P:=l.prog) (w:=w) (base:=base) (uf C X G q90) B
 have qU:=DD (uf C X G q92) B ku lz qP fB
 have FI:=Nn (P:=l.prog) (w:=w) (base:=base) (mg:=mg) m7 c n1 n2
 have mR:=pN (P:=l.prog) (w:=w) (base:=base) kT qW qX B c n1
 have qQ:=rZ (P:=l.prog) (w:=w) (base:=base) m8 ug uh B c n1
 have r0:=Bu xO DH DI B c mR qQ oU mS ue qR
 have qV:=Bv (df4 C X G q91) B c r0 qS oV jh qT fB
 exact VP (P:=l.prog) (w:=w) (base:=base) (C.func (dH (st:=oN) Sy.l Sy.c Sy.k)) B c MK FI mC BI r0 mT qU oW qV
theorem walk{l:PySem.W.OpenLaw}{K:Params->ao}(hn:l.most=some 63)(XT:d.params.defaults=[])
  (hY:∀(w:World) (h:Heap),YP w h->(K w.params).In h/\∀p y q,(p,y,q)∈bS->h.get? p=some (PySem.W.tabObj #[]))
  (F:∀(w:World) (mg:eQ) (fa:Addr) (h:Heap),(K w.params).In h->h.Ns mainGlobals mg->mg d.name=some (.ref fa)->
   jZ (K w.params)/\Cq (K w.params)/\∃fd:FuncData,(∀(s:Shared) (u:Value),BindsTo s fd ⟨[u],[]⟩ [("_law_script",u)])/\∀base:Heap,(cc (K w.params)).In base->base.Ns mainGlobals mg->GJ mg base->jR l.prog w (cc (K w.params)) mg base lR 9 fa fd ["_law_script"] (il (cc (K w.params)) 1 zR)):
  PySem.W.WalkO q loose XP YP l.row.toRowW d [] (λf vs=>PySem.call f vs):=
 L2.LV (n:=63) (k:=9) (x:="_law_script") (sp:=λw=>il (cc (K w.params)) 1 zR) hn ⇑0 XT ⟨rfl,by decide,by decide⟩ hY F (λ_ _ a ns hl hS hC hT=>⟨rfl,[],[.list (ns.map PyData.int)],.bool true,⟨λ_ z=>by simp at z,hC,hT⟩,by rw[KY];exact .cons (.lst hS (cY.ints ns)) .nil,Ni ns hl,λv H' s h=>by cases h;exact⟨rfl,s⟩⟩)
end aE
open PySem PySem.W PyProof.Rows
set_option tactic.hygienic true
set_option maxRecDepth 100000 in
set_option maxHeartbeats 0 in
theorem PySem.Challenge.cw_lotdraw_k58_desk_plans_holds : PySem.Challenge.rw_lotdraw_k58_desk_plans.Holds := by
 w_on; refine PySem.W.holds_law aE.ws1 λaiz=>?_
 refine PySem.W.holds_open (q:=aE.q0) (loose:=["FORMS","check_deeds","check_words"]) (Xt:=aE.hpX) (XP:=XL aE.q0 []) (Yf:=Hook.obs (kmHook aE.W2 aE.W3 aE.Ke aE.W4)) (Ya:=Hook.val (kmHook aE.W2 aE.W3 aE.Ke aE.W4)) (YP:=Hook.says (kmHook aE.W2 aE.W3 aE.Ke aE.W4)) (N:=11740) (Hd.J9 ?h1 rfl (λ_=>rfl) aE.DJ aE.W8 aE.NV aE.NW) (Hook.of _) (Hook.keeps _) (λs e=>xl_of s (Bool.and_eq_true_iff.mp e).1) XL.keeps (by rfl) (by rfl) (by rfl) (λs e=>recFacts_of (Bool.and_eq_true_iff.mp e).2) rfl (by first | assumption | decide +kernel) (by decide +kernel) ⟨rfl,rfl,rfl,rfl,rfl,by decide +kernel⟩ ?hw ?hc
 case h1=>kernel_rfl
 case hw=>w_witness2
 k_fill
 refine aE.walk (l:=PySem.Challenge.rw_lotdraw_k58_desk_plans) rfl rfl (λw h Y=>⟨PySem.W.km_in_of Y,λp y q m=>PySem.W.km_tabs_of Y p (L2.UB rfl m)⟩) ?F
 case F=>
  intro w mg fa h KX G XU
  refine' aE.all_mk KX G XU ?_ ?_ ?_ ?_ ?_ ?_ ?_ ?_ ?_ ?_ ?_ ?_ ?_ ?_ ?_ ?_ ?_ ?_ ?_ ?_ ?_ ?_ ?_ ?_ ?_ ?_ ?_ ?_ ?_ ?_ ?_ ?_ ?_ ?_ ?_ ?_ ?_ ?_ ?_ ?_ ?_ ?_ ?_ ?_ ?_ ?_ ?_ ?_ ?_ ?_ ?_ ?_ ?_ ?_ ?_ ?_ ?_ ?_ ?_ ?_ ?_ ?_ ?_ ?_ ?_ ?_ ?_ ?_ ?_ ?_ ?_ ?_ ?_ ?_ ?_ ?_ ?_ ?_ ?_ ?_ ?lt ?nl1_0 ?nl2_0 ?nl2_1 ?nl3_0 ?nl3_1 ?nl3_2 ?nl4_0 ?nl4_1 ?nl4_2 ?nl4_3 ?_ ?_ ?_ ?_ ?_ ?_ ?_ ?_ ?_ ?_ ?_ ?_ ?_ ?_ ?_ ?_
  (case lt=>rfl)
  all_goals try first | (with_reducible rfl) | exact ⟨_,_,_,_,_,_,_,_,_,by k_is,by k_is,by k_is,by kernel_rfl,by kernel_rfl,by kernel_rfl⟩ | (refine' ⟨?x,?y,?z,?t⟩; (case x=>k_is); (case y=>k_is); (case z=>k_is); (case t=>k_is)) | exact ⟨_,_,_,_,_,_,_,_,_,_,by k_is,by k_is,by k_is,by k_is⟩ | k_is
  (case nl1_0=>decide)
  (case nl2_0=>decide)
  (case nl2_1=>decide)
  (case nl3_0=>decide)
  (case nl3_1=>decide)
  (case nl3_2=>decide)
  (case nl4_0=>decide)
  (case nl4_1=>decide)
  (case nl4_2=>decide)
  (case nl4_3=>decide)
  all_goals kernel_rfl
end
