import PyProof.Rows.All
import Wide.All
import KE.IntBitsLaws
import KE.IntText
import KE.KIntText
import KE.KIsAll
import KE.KTryMore
import OpenK.KMore
import OpenK.KDescr
import OpenK.KLine
import OpenK.KOwn
import OpenK.KMake
import OpenK.KRaise
import OpenK.KCls
import OpenK.KCall
import Wide.FinOn
import Lean
import PyProof.EqAt
import PyProof.EqKinds
import PyProof.TupleCall
import PySem.Challenge.RW_lotdraw_k60_desk_refused
set_option Elab.async false
set_option linter.all false
set_option maxRecDepth 100000
set_option tactic.hygienic false
set_option hygiene false
set_option compiler.extract_closed false
set_option maxHeartbeats 0
local macro_rules
|`(fun $n:num=>$t)=>match n.getNat with
|2=>`(λE σ H hh=>hh.e λH0 U A0 δ r R F ed P=>$t)
|7=>`(λD σ H hh=>hh.e λH0 U A0 δ r R F ed P=>$t)
|4=>`(λσ H Q hh=>hh.e λU A0 δ ds R ed q=>$t)
|1=>`(λσ H Q hh=>hh.e λU A0 δ d R ed q=>$t)
|6=>`(λa dx p q f bW A outer s H E hr=>$t)
|0=>`(λf bW A outer s H E hr=>$t)
|5=>`(λ_ _ _ _ _ _ us hl=>$t)
|15=>`(λ_ _ _ _ _ st h=>$t)
|11=>`(λb o e n hb hx=>$t)
|3=>`(λ_ _ _ _ _ _=>$t)
|17=>`(λv H1 s1 h1=>$t)
|9=>`(λb o hb e=>$t)
|12=>`(λv H' s h=>$t)
|13=>`(λx y H Q=>$t)
|16=>`(λxs H Q=>$t)
|8=>`(λσ H Q=>$t)
|14=>`(λb o e=>$t)
|18=>`(λ_ _ _=>$t)
|22=>`(λ_ _ z=>$t)
|10=>`(λb hb=>$t)
|19=>`(λt ht=>$t)
|20=>`(λx hx=>$t)
|21=>`(λp hp=>$t)
|_=>Lean.Macro.throwUnsupported
local macro_rules
|`(⋯)=>`(by decide +kernel)
|`(⇑$f:ident)=>`($f P w K mg base)
local macro_rules (kind:=scientific)
|`($n:scientific)=>match n.getScientific.1 with
|0=>`((by decide))
|1=>`((by lia))
|2=>`((by simp))
|3=>`((by kernel_rfl))
|4=>`((model X.prog X.w))
|5=>`(Inv X pins σ H s)
|6=>`((bI X scope N' cl C s2 H2 fp pins))
|7=>`((model prog w))
|8=>`((backTo pos (starEach es X.env)).any (·.1)=false)
|9=>`((cons_of rfl rfl))
|10=>`(List Nat)
|11=>`((x==("__debug__":Str))=false)
|12=>`((envOfC qual scope s.heap.objs.size f cd))
|13=>`((aa (af 0) ag))
|14=>`(List Str)
|15=>`({cls:=.type "range",data:=.fields #[.int lo t,.int hi u,.int 1 v]})
|16=>`({cls:=.type "tuple_iterator",data:=.fields #[.ref l,.int 0 0]})
|17=>`((θ,eval e X.env))
|18=>`((sZ c m many (ε (.list (dg.map .int))) (ε (.list (([0]::q).map dR))) (ε (.list (eD.map .int))) (ε (.int ((pos:Nat)+(eD.map PyData.int).length))) (ε (.list (r1.map .int)))))
|19=>`((.ref C))
|20=>`({s with heap:=h'})
|21=>`((.tail _ (.tail _ (.tail _ (.tail _ (.tail _ (.tail _ (.head _))))))))
|22=>`(Rel K O U A0 σ δ H)
|23=>`((dN [d0,d1,d2,d3,d4,d5]))
|24=>`((.ListComp elt [⟨tg,iter,ifs,0⟩] scope pos))
|25=>`((aa (af 1) ag))
|26=>`((.ref s.heap.objs.size))
|27=>`((s.heap.objs.size+1))
|28=>`((g2 bw (af 2) (aA 0)))
|29=>`((eV (mJ P w) P w K mg base N qual Es f cd A outer s H E))
|30=>`((A.deeper (envOfC x (ai st) s.heap.objs.size f bW)))
|31=>`((.Call (.Name x p) (e::es) [] pos))
|32=>`((eV (mJ P w) P w K mg base N qual scope f cd A outer s H E))
|33=>`((List.replicate k ζ++fM ix δ))
|34=>`((by simp;lia))
|35=>`((λz=>nomatch z))
|36=>`(List Int)
|37=>`(∀x,foldedSetIterable iter X.env x=pure x)
|38=>`((aE.refl H))
|39=>`((λi hi=>by have:=hO i hi;rw[<-hd.len,hn];exact this))
|40=>`(List Addr)
|41=>`((Tx.add (Tx.c (s:="plan ")) (N _)))
|42=>`((cons_of rfl 0.9))
|43=>`((g2 bw (af 1) (aA 0)))
|44=>`((PE.sh (aS be cb rfl B.len cZ (ay (aw 0) aH))))
|45=>`((e::es))
|46=>`(Program)
|47=>`(("plan":Str))
|48=>`(List (List Key×V))
|49=>`((aJ (bF hr) imp_eq (aw 1) bZ))
|50=>`(eC K O Γ B U A0 σ δ H s)
|51=>`((aa (af 2) ag))
|52=>`(("":Str))
|53=>`((.builtin "object.__class__"))
|54=>`((dn (by simp;kernel_rfl)))
|55=>`((.ref a))
|56=>`((abb _))
|57=>`((.mk rfl rfl))
|58=>`((w0::w1::r))
|59=>`((ao rfl rfl rfl))
|60=>`((.Call (.Attribute o m apos) 4.5 [] pos))
|61=>`((rL X.K O gr))
|62=>`((.tuple [.str iz,.str name,told]))
|63=>`((Rel K O U A0 σ δ H))
|64=>`((0+(i:Int)))
|65=>`((.list (ts.map .str)))
|66=>`((envOfC qual scope s.heap.objs.size f cd::outer))
|67=>`((aT (gC (.bool θ))))
|68=>`((λ_ k=>k))
|69=>`(List Expr)
|70=>`(X.fn x=η\/X.env.scope.names.lookup x=ε .local)
|71=>`((ir X.K O ga))
|72=>`(Addr->List D->Dk->Option (D×Dk))
|73=>`((s1.trans s2))
|74=>`((g2 bw (af 2) (aA 1)))
|75=>`((g2 bw (af 1) (aA 1)))
|76=>`((PySem.W.fnOf x x (eR st) (bR st) (ai st) .none kV doc pm an cd ct))
|77=>`((ha pins s σ H _ I h))
|78=>`((by with_unfolding_all rfl))
|79=>`((apos.endLine==cY.line)=true)
|80=>`((U++A0))
|81=>`((bN (aw 1) aW))
|82=>`({cls:=.type "tuple",data:=.seq (ys.map λp:Nat=>rawInt p).toArray})
|83=>`((.list (r.map .int)))
|84=>`((.Tuple es kk rn))
|85=>`((js (aw 2) aW))
|86=>`((Tx.c (s:=" ")))
|87=>`((aM " "))
|88=>`((g2 bw (af 2) (aA 2)))
|89=>`((e9 (st:=st) q.l q.c q.k))
|90=>`(PE X b (ir X.K O gb))
|91=>`((ns.map .int))
|92=>`(([nS (a:Nat),nS (b:Nat)].map .str))
|93=>`({cls:=.type "list",data:=.seq its.toArray n})
|94=>`((PE.sh (aS be cb rfl B.len cZ (ay (aw 2) aH))))
|95=>`((keywordEach [] X.env))
|96=>`((cI "NoDeed"))
|97=>`(∀i∈O,ps.length<=i)
|98=>`((ε (.builtin "BaseException.__getattribute__")))
|99=>`((fB (fB bZ (aw 0)) bZ))
|_=>Lean.Macro.throwUnsupported
local macro_rules (kind:=scientific)
|`($n:scientific)=>match n.getScientific.1 with
|100=>`((if([]:List Keyword).isEmpty then 0 else 1))
|101=>`((js (aw 1) aW))
|102=>`((.type "tuple"))
|103=>`((.ref f))
|104=>`((.str (cC t)))
|105=>`((notedBy 0.7 A env λe s'=>R (.error e) s'))
|106=>`((bI X scope N' cl C s2 H1 fp pins))
|107=>`((λp=>PyData.tuple (p.1.map rj)))
|108=>`((topStub PySem.Challenge.pw_lotdraw_k60_desk_refused))
|109=>`(((pJ n y).getD d5 ""))
|110=>`({s with heap:=h',toks:=tk})
|111=>`((aM "plan "))
|112=>`((.type "ValueError"))
|113=>`(mP X.prog X.w X.K X.mg X.base CX k f fd ps sp)
|114=>`((ae (cm 0) ah))
|115=>`((λ3=>(pK 0)))
|116=>`((.bool η))
|117=>`(("1/2","fraction",.tuple [.int 1,.int 2]))
|118=>`((ha pos pins s σ H _ I h))
|119=>`((ae (bE b6) ah))
|120=>`((Lp C a dx p q))
|121=>`((env::outer))
|122=>`(X.A.units+1<cLine)
|123=>`((eval o X.env))
|124=>`((.int (k:Nat)))
|125=>`((.type "BaseException"))
|126=>`(kQ X (compareOp op) r)
|127=>`((.type "object"))
|128=>`((importedModules p.main.body))
|129=>`(uu Γ C a dx p q get set)
|130=>`((!(Builtin.Str.occurrences j i 0 j.length 1).isEmpty))
|131=>`((I.ok.hd hc))
|132=>`((θ,eval a X.env))
|133=>`((sS a row iz name told))
|134=>`(D->DS->Option DS)
|135=>`(DS->S->Option (D×S))
|136=>`((fe (bA 0) (fe (bA 1) pd)))
|137=>`(t.fits es.size=η)
|138=>`((w.params.setOrder a ep))
|139=>`((bN (aw 2) aW))
|140=>`((aa (af 3) ag))
|141=>`((oA (l:=[d0,d1,d2,d3,d4,d5]) (k:=2) rfl rfl))
|142=>`((acJ _ 0.0))
|143=>`((.ref it))
|144=>`((.lst ys))
|145=>`((.tail _ (.tail _ (.tail _ 2.1))))
|146=>`((.tuple [.int (a:Nat),.int (b:Nat)]))
|147=>`((boot_heap w.params))
|148=>`((ε (.list (dg.map .int))))
|149=>`({cls:=.type "list",data:=.seq vs.toArray})
|150=>`(ax N ps (ai st))
|151=>`((tE X.K O ge))
|152=>`((EP X pins σ Q))
|153=>`((g2 bw (af 7) (aA 5)))
|154=>`(Array (Option Value))
|155=>`(h.Ns mainGlobals mg)
|156=>`((.inl rfl))
|157=>`((fB bZ (aw 1)))
|158=>`(DS->Option (List D ⊕ D))
|159=>`((.dict kds))
|160=>`((Or.inl rfl))
|161=>`(List Env)
|162=>`((.Compare a [op] [b] pos))
|163=>`(((backTo cY (starEach [e] X.env)).all (λx=> !x.1)&&(backToKw cY 9.5).all (λx=>x.1.isSome)&&ι ([e].length+([]:List Keyword).length+10.0<30)))
|164=>`(∀r∈p,r.length<=25)
|165=>`({s with heap:=h',toks:=t'})
|166=>`((.ins C dx [("plans",.ref p),("lots",.ref q)]))
|167=>`((start N vs))
|168=>`((top 110))
|169=>`((c9 0.3))
|170=>`((SetTable.grown zG.size))
|171=>`((afK (show 1<=64 by decide) _))
|172=>`({cls:=.type "enumerate",data:=.fields #[.none,.bool θ,.ref s.heap.objs.size,rawInt 1,.none,.none]})
|173=>`({cls:=.type "enumerate",data:=.fields #[.none,.bool θ,.ref s.heap.objs.size,rawInt 0,.none,.none]})
|174=>`(Array Value)
|175=>`((cI "NoName",s))
|176=>`((.int i))
|177=>`((aS be cb rfl B.len cZ (ay (aw 1) aH)))
|178=>`(∀b∈ch,(b∈X.ex\/X.jt.heap.objs.size<=b)/\b≠X.env.locals/\(∀x c,X.env.cells.lookup x=ε c->c≠b)/\∀p∈X.pn++pins,p.1≠b)
|179=>`((B++A0))
|180=>`(((eD.map PyData.int).length:Int))
|181=>`((aJ (bF hr) imp_eq (aw 0) bZ))
|182=>`(attributeBase o f X.env 12.3=eval o X.env)
|183=>`({s with toks:=s.toks+1})
|184=>`({cls:=.type "list",data:=.seq (strValues l).toArray})
|185=>`(PassesOwn 0.4 X.A X.env X.xe)
|186=>`((PySem.W.instObj C s.heap.objs.size))
|187=>`((g2 bw (af 1) (aA 2)))
|188=>`(("0","number",.int 0))
|189=>`((.str x))
|190=>`((.ref p))
|191=>`((sY c m many dg q eD pos z))
|192=>`((ns.map V.int))
|193=>`(List D->Option D)
|194=>`((.builtin "type.__call__" ⟨.ref C::us,kw⟩))
|195=>`((wo H A))
|196=>`(∀σ H Q,t' σ H Q->t σ H Q)
|197=>`(p.length<=24)
|198=>`((s.trans s2))
|199=>`((g2 su (aA 10) (aA 18)))
|_=>Lean.Macro.throwUnsupported
local macro_rules (kind:=scientific)
|`($n:scientific)=>match n.getScientific.1 with
|200=>`((.Name x pos))
|201=>`((aa (af 5) ag))
|202=>`((!t.plain&&ι (es.size>1)))
|203=>`((.str "abcdefghijklmnopqrstuvwxyz"))
|204=>`((aQ (mQ mK)))
|205=>`((.type T))
|206=>`((.nx δ'))
|207=>`((λvs H Q E h=>h.1))
|208=>`(Cn mg "MOST_PLACES" (.int (24)))
|209=>`(((p.length+1:Nat):Int))
|210=>`((I.bV.fresh 5.6))
|211=>`(A.handled=ζ)
|212=>`(ju s.heap a es ep t)
|213=>`((cI "NoName"))
|214=>`((.type "dict"))
|215=>`((iP λa ha=>aaW _ ha))
|216=>`((keywordEach kws env))
|217=>`((λr=>Option.bind r cu))
|218=>`((a==sysModules))
|219=>`((nS (d2:Nat),"number"))
|220=>`((eM cA (aa (af 6) ag)))
|221=>`((bs.map .int))
|222=>`((.builtin id))
|223=>`((eM cA 1.3))
|224=>`(s.heap.TracedAtW base e cls a0 fl)
|225=>`((aM "abcdefghijklmnopqrstuvwxyz"))
|226=>`((l.map .int))
|227=>`((T.map .int))
|228=>`(∀vs H Q E,sp vs H Q E->vs.length=ps.length)
|229=>`((g2 BC (g2 bw (af 2) (g2 d9 (g2 ak (af 4) (af 0)) (af 3))) (aA 0)))
|230=>`(Option D)
|231=>`(aE H H')
|232=>`((.Attribute o f apos))
|233=>`((Jy X.K X.mg O Γ E ga))
|234=>`((δ.set i (ε d)))
|235=>`((Dy S n y z p a u (ε 2.3) w x q t))
|236=>`(Option Addr)
|237=>`(behindInMarks op b=false)
|238=>`((ae (cm 1) ah))
|239=>`((.int (m:Nat)))
|240=>`(([a,dx,p,q]++A))
|241=>`((λw hw=>pQ rx fx r fs w (by simpa using hw)))
|242=>`((.int _))
|243=>`(∀cl C s2 H2 fp pins,gd 0.6)
|244=>`((aX fH aO (aw 0) aW))
|245=>`((g2 bw (af 1) (aA 3)))
|246=>`((bF hr))
|247=>`((.Name "enumerate" p))
|248=>`(List Key)
|249=>`(qP P w H h)
|250=>`((q ▸ hc))
|251=>`(∀j∈ix,j∉O)
|252=>`((ε (k:Int)))
|253=>`((pO (pH X.K X.mg n G) [] E 6.1))
|254=>`((.BoolOp .And (a::b::rest) pos))
|_=>Lean.Macro.throwUnsupported
local macro_rules
|`(tactic|intro $n:num)=>match n.getNat with
|0=>`(tactic|intro X hP hw hK hc i pins s σ H E I hf st hg)
|1=>`(tactic|obtain⟨x,e1,e2⟩:=bind1 ed)
|2=>`(tactic|intro pins s σ H Q I h)
|3=>`(tactic|intro pins s σ H x y v u Q I rx ry h)
|4=>`(tactic|obtain⟨f0,f1,f2,f3,f4,f5⟩:=hf it (by simp))
|5=>`(tactic|intro A H x y dx dy d Q al hx hy e q)
|6=>`(tactic|obtain⟨d,e1,e2⟩:=bind1 ed)
|7=>`(tactic|intro pins s σ H xs us Q I r h)
|8=>`(tactic|have hx:x.cps.toList.length=x.length:=abf)
|9=>`(tactic|obtain⟨oc,od,kV,doc,pm,an,bW,ct,KJ,rfl,lk,xC⟩:=F.ex)
|10=>`(tactic|obtain⟨t,rfl⟩:=rx)
|11=>`(tactic|obtain⟨ds,e1,e2⟩:=bind1 ed)
|12=>`(tactic|obtain⟨v,rfl,h1⟩:=MV h)
|13=>`(tactic|intro pins s σ H x vs v us Q I rx rv h)
|14=>`(tactic|exact (Or.inl rfl))
|15=>`(tactic|obtain⟨⟨d,s1⟩,e1,e2⟩:=bind1 ed)
|16=>`(tactic|intro A H vs ds d Q al h e q)
|17=>`(tactic|intro pins s σ H D I h)
|_=>Lean.Macro.throwUnsupported
set_option hygiene true
open Option renaming some → ε, none → ζ
open Bool renaming true → η, false → θ
open Decidable renaming decide → ι
set_option maxHeartbeats 0
def aC.ws0:PySem.Challenge.rw_lotdraw_k60_desk_refused.row.wellSaid=true:=by kernel_rfl
def aC.ws1:PySem.Challenge.rw_lotdraw_k60_desk_refused.wellSaid=true:=by
 iterate 18 refine PySem.W.look_both ?_ 0.3
 exact aC.ws0
abbrev aq:=PySem.W.Frag
abbrev cX:=PySem.Str->Option PySem.Value
abbrev de:=List (PySem.Addr×PySem.Obj)
abbrev eL:=PySem.Value->PySem.Shared->Prop
abbrev g7:=List (List Int)
abbrev cF:=List PySem.Value
noncomputable section
def aab:=@PySem.wpAny_bind
def aao:=@PySem.Heap.get?_push_of_some
def aaG:=@Option.bind_some
def aaI:=@List.length_map
def aaR:=@PySem.wpAny_pure
def aaS:=@PySem.Heap.get?_push_size
def aaW:=@List.mem_append_right
def aa8:=@List.mem_cons_of_mem
def aa9:=@List.mem_cons
def aba:=@PySem.Heap.lt_size
def abb:=@Nat.le_refl
def abc:=@Nat.lt_of_lt_of_le
def abd:=@List.mem_cons_self
def abe:=@if_pos
def abf:=@Array.length_toList
def abg:=@List.mem_append
def abh:=@List.getElem?_eq_getElem
def abi:=@Bool.and_eq_true
def abj:=@Bool.false_ne_true
def abk:=@List.length_cons
def abl:=@List.map_cons
def abm:=@List.length_append
def abn:=@Nat.ne_of_lt
def abo:=@if_neg
def abp:=@List.getElem?_eq_some_iff
def abq:=@decide_eq_true
def abr:=@List.size_toArray
def abt:=@List.mem_map
def abu:=@PySem.F.excBase_ValueError
def abv:=@List.getElem?_map
def abw:=@PySem.wpAny_mono
def abx:=@PySem.W.mg_of
def abC:=@List.mem_append_left
def abD:=@decide_eq_false
def abE:=@List.append_nil
def abF:=@PySem.Obj.data_mapFields
def acw:=@Nat.le_trans
def acx:=@PySem.Heap.get?_update_self
def acC:=@List.all_eq_true
def acI:=@List.getD_eq_getElem?_getD
def acJ:=@Nat.mod_lt
def acL:=@List.getElem?_set_ne
def acN:=@Array.getElem?_eq_some_iff
def acT:=@List.getElem?_cons_zero
def acY:=@PySem.F.plainAttrs_list
def ac1:=@PySem.F.slot_list_append
def ac2:=@List.append_assoc
def ac3:=@Nat.lt_irrefl
def ac8:=@PySem.Heap.get?_update_other
def ade:=@congrArg
def adf:=@List.map_append
def adt:=@List.getElem?_set_self
def adw:=@PySem.F.type_list_append
def adA:=@decide_eq_true_eq
def adC:=@PySem.wpAny_callSpecial?_slot
def adD:=@List.getElem?_cons_succ
def adK:=@PySem.Heap.SameBut.update
def adM:=@Option.some.inj
def adN:=@decide_eq_decide
def adQ:=@PySem.PassesOwn.never
def adT:=@Option.map_eq_some_iff
def adU:=@Int.toNat_natCast
def adW:=@decide_eq_true_iff
def ad3:=@List.length_singleton
def ad9:=@PySem.Obj.isFreed_of_fields
def aen:=@PySem.W.kia_one
def aeI:=@PySem.Heap.size_push
def aeL:=@PySem.wpAny_call_entry
def aeV:=@Array.getElem?_eq_getElem
def aeW:=@PySem.F.slot_str_split
def ae5:=@PySem.wpAny_setField
def ae6:=@List.cons_append
def ae7:=@Option.join_some
def ae8:=@ne_true_of_eq_false
def ae9:=@PySem.wpAny_truthy_bool
def afa:=@PyProof.Rows.callWith_type1
def afb:=@of_decide_eq_true
def afc:=@Nat.zero_le
def afd:=@List.mem_of_getElem?
def afe:=@PySem.wpAny_field
def aff:=@List.mem_singleton
def afg:=@Int.emod_lt_of_pos
def afh:=@Ne.symm
def afi:=@List.take_of_length_le
def afj:=@PySem.wpAny_newObj_type
def afk:=@List.length_set
def afl:=@List.map_map
def afm:=@PySem.F.called_set
def afn:=@Nat.lt_succ_self
def afo:=@PySem.F.entry_str_split
def afp:=@Int.eq_ofNat_of_zero_le
def afq:=@beq_iff_eq
def afr:=@PySem.F.slot_tuple_iterator_next
def afs:=@Bool.not_eq_true'
def aft:=@List.map_congr_left
def afu:=@PySem.codeAny_builtin
def afv:=@Int.emod_nonneg
def afw:=@PySem.wpAny_Call_Name_kw
def afy:=@List.length_take
def afz:=@List.length_drop
def afA:=@Nat.lt_of_le_of_lt
def afB:=@List.pairwise_cons
def afC:=@Array.toList_inj
def afD:=@PySem.codeAny_mono
def afE:=@List.forIn_cons
def afI:=@List.nil_append
def afJ:=@PySem.Str.ext'
def afK:=@Nat.add_le_add_left
def afL:=@PySem.F.plainAttrs_str
def afM:=@List.cons.inj
def afN:=@List.mem_range
def afO:=@List.mem_filterMap
def afP:=@Bool.and_false
def afQ:=@of_decide_eq_false
def afR:=@List.drop_eq_getElem_cons
def afW:=@PySem.wpAny_passesOwn
def afX:=@Bool.eq_iff_iff
def afY:=@Nat.le_of_lt
def af9:=@PySem.wpAny_setState_of
def aga:=@PySem.codeAny_call_builtin
def agb:=@Nat.lt_succ_of_lt
def age:=@List.forall_mem_cons
def agi:=@PySem.F.called_enumerate
def agj:=@PySem.wpAny_holding
def agl:=@PySem.mem_of_lookup
def agm:=@beq_eq_false_iff_ne
def agn:=@List.getElem_of_mem
def agp:=@PySem.wpAny_setEntries_of
def agq:=@Array.toList_append
def agx:=@List.length_pos_iff
def agz:=@List.getElem_mem
def agB:=@PySem.wpAny_askSetting
def agC:=@List.length_eq_zero_iff
def agD:=@Nat.ne_of_gt
def agE:=@PySem.wpAny_attempt
def agF:=@PySem.Obj.cls_mapFields
def agH:=@List.take_add_one
def agI:=@List.length_range
def agO:=@PySem.typeIs_str
def agP:=@PySem.call_meets
def agQ:=@List.getElem?_zipIdx
def agR:=@PySem.Around.under_plainId
def agS:=@List.getElem?_append_right
def agU:=@List.drop_eq_nil_iff
def agW:=@List.not_mem_nil
def agX:=@List.all_map
def ag3:=@PyProof.Rows.F.entry_set_update_loop
def ag5:=@PyProof.Rows.F.plain_set_update_loop
def ag6:=@PySem.Heap.get?_update_ne
def ag7:=@Int.mul_fdiv_cancel
def aha:=@Option.isSome_iff_exists
def ahc:=@PySem.F.args_tuple_add_2
def ahe:=@List.all_cons
def ahh:=@List.any_cons
def ahk:=@PySem.wpAny_comprehension_free
def ahl:=@PySem.F.args_str_split_2
def ahn:=@PySem.F.args_str_split_3
def ahp:=@Bool.true_and
def ahq:=@Option.map_some
def ahr:=@PySem.wpAny_execs_nil
def ahs:=@PySem.tupleKind_room_in1
def aht:=@PySem.F.args_tuple_iterator_next_1
def ahu:=@List.getElem?_drop
def ahv:=@Nat.le_succ
def ahw:=@PySem.F.entry_tuple_add
def ahx:=@PySem.F.entry_tuple_iterator_next
def ahz:=@PySem.F.slot_tuple_add
def ahA:=@PySem.Calls.callWith_builtin
def ahC:=@PySem.F.slot_list_extend
def ahD:=@List.any_map
def ahE:=@PySem.wpAny_pyIter_enum
def ahF:=@Array.toList_push
def ahH:=@PySem.isSubtype_type
def ahI:=@Array.getElem?_eq_none
def ahJ:=@PySem.Value.type.inj
def ahK:=@PySem.StrLaws.joinFits
def ahL:=@List.length_replicate
def ahP:=@PySem.F.slot_dict_get
def ahQ:=@List.getElem?_eq_none
def ahU:=@List.dropLast_sublist
def ahV:=@List.drop_length
def ah7:=@PySem.wpAny_rule
def aia:=@Nat.le_of_not_lt
def aif:=@PySem.wpAny_isInstance
def aih:=@List.range'_succ
def aii:=@PyProof.Rows.slice_closes_from
def aij:=@PySem.plainId_quiet
def aik:=@PySem.Calls.evalArgs_plain
def ail:=@PySem.wpAny_of_eq
def aim:=@List.mem_of_mem_take
def ain:=@List.mem_filter
def aio:=@List.of_mem_zip
def aip:=@PySem.F.slot_zip_next
def air:=@PySem.W.plainGet_of
def ais:=@List.getElem?_range
def ait:=@List.map_nil
def aiz:=@Array.append_empty
def aiB:=@PySem.wpAny_seqItems
def aiD:=@PySem.wpAny_fieldsOf
def aiG:=@List.drop_zero
def aiH:=@List.take_zero
def aiI:=@PySem.Str.cps_append
def aiJ:=@List.set_cons_zero
def aiK:=@Nat.eq_zero_or_pos
def aiP:=@PySem.W.kitx_list
def aiQ:=@Option.isSome_map
def aiT:=@PySem.wpAny_throw
def aiV:=@Bool.eq_false_iff
def aiW:=@Array.size_append
def aiY:=@List.all_eq_false
def ai0:=@Bool.or_false
def ai2:=@List.map_take
def ai3:=@List.map_drop
def ai7:=@List.lookup_cons
def ai9:=@List.take_length
def ajb:=@beq_self_eq_true
def aji:=@Nat.sub_self
def ajj:=@Nat.sub_zero
namespace L2
open PySem
def inClass(s:Stmt)(j:Nat):Stmt:=match s with
 |.ClassDef _ _ _ body _ _ _ _ _ _ _=>body.getD j (.Pass ⟨0,0,0,0⟩)
 |_=>.Pass ⟨0,0,0,0⟩
def eR(s:Stmt):Arguments:=match s with
 |.FunctionDef _ a _ _ _ _ _ _ _ _=>a
 |_=>{posonlyargs:=[],args:=[],vararg:=ζ,kwonlyargs:=[],kw_defaults:=[],kwarg:=ζ,defaults:=[]}
def bR(s:Stmt):List Stmt:=match s with
 |.FunctionDef _ _ b _ _ _ _ _ _ _=>b
 |_=>[]
noncomputable def ai(s:Stmt):Scope:=match s with
 |.FunctionDef _ _ _ _ _ _ sc _ _ _=>sc
 |_=>{kind:=.function,names:=[],isGenerator:=θ,isCoroutine:=θ}
end L2
namespace Hd
open PySem PySem.W
noncomputable def Bq(tb:String->Option Builtin)(p:4.6)(w:World)(m:Nat)(ann:Option Value):Nat->SharedT->Thread->Option SharedT
 |0,_,_=>ζ
 |n+1,s,t=>match through t with
   |true=>ε s
   |false=>match stepOk m ann t with
     |false=>ζ
     |true=>match stepT (denote tb) p w s t with
       |some (s',t')=>Bq tb p w m ann n s' t'
       |none=>ζ
theorem KC:∀{n:Nat} {s s':SharedT} {t:Thread},Bq tb p w m ann n s t=ε s'->topRun tb p w m ann n s.abs t=ε s'.abs
 |0,_,_,_,h=>by cases h
 |n+1,s,s',t,h=>by
   unfold Bq at h;unfold topRun;cases he:through t with
   |true=>rw[he]at h;cases h;rfl
   |false=>
     rw[he]at h;cases hk:stepOk m ann t with
     |false=>rw[hk]at h;cases h
     |true=>
       rw[hk]at h;cases hs:stepT (denote tb) p w s t with
       |none=>rw[hs]at h;cases h
       |some r=>obtain⟨s2,t2⟩:=r;rw[hs]at h;rw[stepT_spec hs];exact KC h
def Wq(P:Params):BT:=(.node (boot_o_0 P) (.node (boot_o_1 P) (.node (boot_o_3 P) (.node (boot_o_7 P) .nil .nil) .nil) (.node (boot_o_5 P) (.node (boot_o_9 P) .nil .nil) .nil)) (.node (boot_o_2 P) (.node (boot_o_4 P) (.node (boot_o_8 P) .nil .nil) .nil) (.node (boot_o_6 P) (.node (boot_o_10 P) .nil .nil) .nil)))
def xB(w:World)(os:OsState):SharedT:=⟨Wq w.params,11,(boot_heap w.params).life,Array.mk [],boot_drawn,boot_toks,os⟩
def Tf(w:World)(os:OsState):(xB w os).abs=⟨boot_heap w.params,Array.mk [],boot_drawn,boot_toks,os⟩:=rfl
def MA(P:Params):((boot_heap P).isNs mainGlobals,(boot_heap P).objs.size,(boot_heap P).nsMap mainGlobals "__annotations__")=(η,11,ε (.ref 6)):=by kernel_rfl
def MB{Ya:World->α}(e:opening p=plainProg p.main.scope.names)(hN:Nat.ble 600 N=η)(f:∀s,fenceModules? p s=ε s)
  (one:∀(w:World) (os:OsState),(Bq treeTable p w 11 (ε (.ref 6)) N (xB w os) (topStub p)).map (λs=>((staticsOk 12.8 14.7 s.abs.heap&&namesBound p s.abs.heap&&gensDone s.abs&&laidKept 14.7 s.abs.heap),Yf s.abs))=ε (η,Ya w))
  (two:∀(w:World) (os:OsState),(Bq treeTable p w 11 (ε (.ref 6)) N (xB w os) (topStub p)).map (λs=>openSeen q loose 12.8 Xt η s.abs)=ε (openGood q loose)):
  LeftO p q loose Xt Yf Ya N:=λw=>by
 obtain⟨⟨h,gs,d,k,os⟩,e1,e2⟩:=adT.mp (boot_open e hN f w)
 obtain⟨rfl,rfl,rfl,rfl⟩:h=boot_heap w.params/\gs=Array.mk []/\d=boot_drawn/\k=boot_toks:=by simpa using e2
 obtain⟨s,r,l⟩:=adT.mp (one w os)
 obtain⟨l1,l3⟩:_/\_:=by simpa only[Prod.mk.injEq]using l
 have l2:openSeen q loose 12.8 Xt η s.abs=openGood q loose:=by grind
 obtain⟨z1,z2,z3⟩:_/\_/\_:=by simpa only[Prod.mk.injEq]using MA w.params
 have r':=KC r
 rw[Tf]at r'
 have t:topFrom treeTable p w N ⟨boot_heap w.params,Array.mk [],boot_drawn,boot_toks,os⟩=ε s.abs:=by
  unfold topFrom;rw[z1,z2,z3,r'];show(match staticsOk 12.8 14.7 s.abs.heap&&namesBound p s.abs.heap&&gensDone s.abs&&laidKept 14.7 s.abs.heap with|true=>_|false=>_)=_;rw[l1]
 unfold openEnds
 rw[e1]
 show(topFrom treeTable p w N ⟨boot_heap w.params,Array.mk [],boot_drawn,boot_toks,os⟩).map _=_
 rw[t,ahq,l2,l3]
def YB:List Obj->List Obj
 |[]=>[]
 |[a]=>[a]
 |a::_::l=>a::YB l
def Oo:Nat->List Obj->BT
 |0,_=>.nil
 |_+1,[]=>.nil
 |n+1,o::l=>.node o (Oo n (YB l)) (Oo n (YB l.tail))
abbrev Wr(f:FuncData):FuncData:={f with globals:=0}
noncomputable def litS(n:Nat)(l:List Obj)(life:Life)(toks:Nat)(os:OsState):SharedT:=⟨Oo 12 l,n,life,Array.mk [],boot_drawn,toks,os⟩
def ext3{A B C D:Type}{f g:A×B×C×D}(h1:f.1=g.1)(h2:(f.2.1,f.2.2.1)=(g.2.1,g.2.2.1))(h3:f.2.2.2=g.2.2.2):f=g:=by lia
def Oq{Ya:World->α}(e:opening p=plainProg p.main.scope.names)(hN:Nat.ble 600 N=η)(f:∀s,fenceModules? p s=ε s)(E:World->OsState->SharedT)
  (run:∀(w:World) (os:OsState),Bq treeTable p w 11 (ε (.ref 6)) N (xB w os) (topStub p)=ε (E w os))
  (one:∀(w:World) (os:OsState),((staticsOk 12.8 14.7 (E w os).abs.heap&&namesBound p (E w os).abs.heap&&gensDone (E w os).abs&&laidKept 14.7 (E w os).abs.heap),Yf (E w os).abs)=(η,Ya w))
  (two:∀(w:World) (os:OsState),openSeen q loose 12.8 Xt η (E w os).abs=openGood q loose):LeftO p q loose Xt Yf Ya N:=
 MB e hN f (λw os=>(ade (Option.map _) (run w os)).trans (ade ε (one w os))) (λw os=>(ade (Option.map _) (run w os)).trans (ade ε (two w os)))
end Hd
namespace aC
open PySem PySem.W L2
noncomputable def top (i:Nat):Stmt:=PySem.Challenge.pw_lotdraw_k60_desk_refused.main.body.getD i (.Pass ⟨0,0,0,0⟩)
def tX:Program:={ PySem.Challenge.pw_lotdraw_k60_desk_refused with main:={ PySem.Challenge.pw_lotdraw_k60_desk_refused.main with body:=[top 1,top 2,top 3,top 4,top 5,top 6,top 7,top 8,top 9,top 10,top 11,top 12,top 13,top 14,top 15,top 16,top 18,top 19,top 20,top 21,top 22,top 23,top 24,top 25,top 26,top 27,top 28,top 29,top 31,top 32,top 33,top 34,top 35,top 36,top 37,top 38,top 39,top 40,top 41,top 42,top 44,top 45,top 46,top 47,top 48,top 49,top 50,top 52,top 53,top 54,top 56,top 57,top 58,top 59,top 61,top 62,top 64,top 65,top 66,top 67,top 68,top 69,top 70,top 71,top 72,top 74,top 76,top 77,top 78,top 79,top 80,top 81,top 82,top 83,top 85,top 86,top 87,top 88,top 89,top 91,top 92,top 93,top 94,top 95,top 96,top 97,top 99,top 101,top 102,top 103,top 104,top 105,top 106,top 108,top 109,top 110,top 111,top 112,top 114,top 115,top 116,top 117,top 118,top 119,top 120,top 121,top 122,top 123,top 124,top 125,top 126,top 127] } }
noncomputable abbrev eT:Obj:=⟨10.2,ζ,(.seq #[] 0),#[]⟩
abbrev nT:Obj:=⟨.none,ζ,(.fields #[]),#[]⟩
def vT(t:Nat)(ns:1.4):Obj:=⟨.type "tuple",ζ,.seq ((ns.zipIdx t).map λx=>.str x.1 x.2).toArray 0,#[]⟩
def tT(c:Int)(l:List (Int×Addr)):Obj:=⟨.none,ζ,.fields (l.flatMap λx=>[.int x.1 0,.int c 0,.ref x.2]).toArray,#[]⟩
abbrev gF(n q:Str)(s:Stmt):Obj:=⟨.none,ζ,.func (Hd.Wr (fnOf n q (eR s) (bR s) (ai s) .none .none .none .none ζ .none .none)),#[]⟩
noncomputable abbrev cO(n q:Str)(t l a b:Nat)(x y:Value)(g e:Nat):Obj:=⟨.type "code",ζ,.fields #[.str n t,.str q (t+1),.str "/claim/cut.py" (t+2),.int l 0,.int a 0,.int 0 0,.int 0 0,.int 3 0,.ref b,.bool η,.int 181 0,.ref (b+1),.none,x,y,.ref g,.int e 0,.int l 0,.str "/claim/cut.py" (e+1)],#[]⟩
abbrev c7(n q:Str)(t l a b v:Nat):Obj:=cO n q t l a b (.ref (b+2)) (.ref (b+3)) (b+4) (t+3+v)
abbrev c5(n q:Str)(t l a b:Nat):Obj:=cO n q t l a b .none .none (b+2) (t+3)
abbrev fF(n q:Str)(s:Stmt)(m:Str×Nat)(c:Nat):Obj:=⟨.type "function",ζ,.func (fnOf n q (eR s) (bR s) (ai s) .none .none .none (.str m.1 m.2) ζ (.ref c) .none),#[]⟩
def b7(n q:Str)(s:Stmt)(t l a b:Nat)(m:Str×Nat)(vs:1.4):List Obj:=[eT,nT,vT (t+3) vs,eT,gF n q s,c7 n q t l a b vs.length,fF n q s m (b+5)]
def b5(n q:Str)(s:Stmt)(t l a b:Nat)(m:Str×Nat):List Obj:=[eT,nT,gF n q s,c5 n q t l a b,fF n q s m (b+3)]
def d7(n:Str)(i t l a b:Nat)(m:Str×Nat)(vs:1.4):=b7 n n (top i) t l a b m vs
def d5(n:Str)(i t l a b:Nat)(m:Str×Nat):=b5 n n (top i) t l a b m
abbrev e7(n:Str)(t l a b v:Nat):=c7 n n t l a b v
abbrev e5(n:Str)(t l a b:Nat):=c5 n n t l a b
abbrev f7(n:Str)(i:Nat)(m:Str×Nat)(c:Nat):=fF n n (top i) m c
abbrev w0:Str×Nat:=("lotdraw.fracs",447)
abbrev w1:Str×Nat:=("lotdraw.plans",544)
abbrev w2:Str×Nat:=("lotdraw.polys",627)
abbrev w3:Str×Nat:=("lotdraw.ways",684)
abbrev w4:Str×Nat:=("lotdraw.odds",714)
abbrev w5:Str×Nat:=("lotdraw.only",744)
abbrev w6:Str×Nat:=("lotdraw.rules",761)
abbrev w7:Str×Nat:=("lotdraw.tellings",843)
abbrev w8:Str×Nat:=("lotdraw.texts",853)
abbrev w9:Str×Nat:=("lotdraw.answers",896)
abbrev Ob:Str×Nat:=("lotdraw.deeds",932)
abbrev w11:Str×Nat:=("lotdraw.words",1040)
abbrev Fw:Str×Nat:=("lotdraw.desk",1099)
abbrev vq:Str×Nat:=("law_lotdraw_k60_desk_refused",1206)
noncomputable abbrev ent(P:Params)(k:Str)(n:Nat)(v:Value):DictEntry:=⟨PyData.keyHash P k,.str k n,v⟩
noncomputable abbrev Fy(P:Params):=λx0 x1 x2 x3 x4 x5 x6 x7 x8=>(⟨(.type "code"),ζ,(.fields #[(.str x0 x1),(.str x0 x2),(.str "/claim/cut.py" x3),(.int x4 0),(.int 0 0),(.int 0 0),(.int 0 0),(.int 0 0),(.ref x5),(.bool θ),(.int 181 0),(.ref x6),.none,.none,.none,.none,(.int x7 0),(.int x4 0),(.str "/claim/cut.py" x8)]),#[]⟩:Obj)
noncomputable abbrev pL(P:Params):=λx0 x1 x2 x3=>(⟨(.type "frame"),ζ,.plain,#[(ε (.ref x0)),(ε (.ref 3)),(ε (.ref x1)),ζ,(ε (.str x2 x3)),ζ,(ε (.ref 0))]⟩:Obj)
abbrev qO(P:Params):=λx0 x1 x2 x3 x4 x5 x6 x7 x8=>(⟨21.4,ζ,(.dict #[(ent P "__module__" x0 (.str "lotdraw.errors" 187)),(ent P "__qualname__" x1 (.str x2 x3)),(ent P "__firstlineno__" x4 (.int x5 x6)),(ent P "__static_attributes__" x7 (.ref x8))] 4),#[]⟩:Obj)
abbrev DB(P:Params):=λx0=>(⟨(.type "super"),ζ,(.fields #[(.ref x0),(.ref x0),(.ref x0)]),#[]⟩:Obj)
noncomputable abbrev FJ(P:Params):=λx0=>(⟨(.type "builtin_function_or_method"),ζ,(.fields #[(.builtin "object.__init_subclass__"),(.ref x0)]),#[]⟩:Obj)
abbrev Ih(P:Params):=λx0 x1 x2 x3 x4 x5 x6=>(⟨21.4,ζ,(.dict #[(ent P "__module__" x0 (.str "lotdraw.errors" 187)),(ent P "__firstlineno__" x1 (.int x2 x3)),(ent P "__static_attributes__" x4 (.ref x5)),(ent P "__doc__" x6 .none)] 2),#[]⟩:Obj)
noncomputable abbrev Ii(P:Params):=λx0 x1 x2 x3 x4 x5=>(⟨(.type "type"),ζ,(.cls ⟨x0,[(.ref 24)],[(.ref x1),(.ref 24),11.2,(.type "Exception"),12.5,12.7],x2,x0,η,[],[],θ,ζ,θ⟩),#[(ε (.ref x3)),ζ,(ε (.str x0 x4)),(ε (.str x0 x5)),(ε (.builtin "ValueError.__new__")),(ε 11.6)]⟩:Obj)
noncomputable abbrev ho7(P:Params):=λx0 x1=>(⟨10.2,ζ,(.seq #[(.str x0 x1)] 0),#[]⟩:Obj)
noncomputable abbrev ho8(P:Params):=λx0 x1 x2 x3=>(⟨10.2,ζ,(.seq #[(.str x0 x1),(.str x2 x3)] 0),#[]⟩:Obj)
noncomputable abbrev ho9(P:Params):=λx0 x1 x2 x3 x4 x5 x6 x7 x8 x9=>(⟨10.2,ζ,(.seq #[(.str x0 x1),(.str x2 x3),(.str x4 x5),(.str x6 x7),(.str x8 x9)] 0),#[]⟩:Obj)
abbrev Tg(P:Params):=λx0 x1=>(⟨.none,ζ,.func (Hd.Wr (fnOf x0 x0 (eR (top x1)) (bR (top x1)) (ai (top x1)) .none .none .none .none ζ .none .none)),#[]⟩:Obj)
noncomputable abbrev Th(P:Params):=λx0 x1 x2 x3 x4 x5 x6 x7 x8 x9 x10 x11 x12=>(⟨(.type "code"),ζ,(.fields #[(.str x0 x1),(.str x0 x2),(.str "/claim/cut.py" x3),(.int x4 0),(.int x5 0),(.int 0 0),(.int 0 0),(.int 3 0),(.ref x6),11.6,(.int 181 0),(.ref x7),.none,(.ref x8),(.ref x9),(.ref x10),(.int x11 0),(.int x4 0),(.str "/claim/cut.py" x12)]),#[]⟩:Obj)
abbrev Tj(P:Params):=λx0 x1 x2=>(⟨(.type "function"),ζ,.func (fnOf x0 x0 (eR (top x1)) (bR (top x1)) (ai (top x1)) .none .none .none (.str "lotdraw.words" 1040) ζ (.ref x2) .none),#[]⟩:Obj)
abbrev FK(P:Params):Obj:=⟨(.type "builtin_function_or_method"),ζ,(.fields #[(.builtin "type.__prepare__"),(.type "type")]),#[]⟩
abbrev Ij(P:Params):Obj:=⟨10.2,ζ,(.seq #[(.ref 24)] 0),#[]⟩
abbrev k2(P:Params):Obj:=⟨.none,ζ,(.dict #[] 0),#[]⟩
abbrev k3(P:Params):Obj:=⟨21.4,ζ,(.dict #[(ent P "__name__" 165 (.str "law_lotdraw_k60_desk_refused" 1206)),(ent P "__doc__" 166 .none),(ent P "__package__" 167 .none),(ent P "__loader__" 168 (.builtin "__main__.__loader__#opaque")),(ent P "__spec__" 169 .none),(ent P "__annotations__" 170 (.ref 6)),(ent P "__builtins__" 171 (.ref 4)),(ent P "__file__" 173 (.str "/claim/cut.py" 172)),(ent P "__cached__" 174 .none),(ent P "LotError" 206 (.ref 24)),(ent P "NoNumber" 222 (.ref 37)),(ent P "NoPlan" 238 (.ref 49)),(ent P "TooLong" 254 (.ref 61)),(ent P "NoText" 270 (.ref 73)),(ent P "NoEnd" 286 (.ref 85)),(ent P "TooMany" 302 (.ref 97)),(ent P "NoRow" 318 (.ref 109)),(ent P "NoTelling" 334 (.ref 121)),(ent P "NoLot" 350 (.ref 133)),(ent P "NotOnly" 366 (.ref 145)),(ent P "Only" 382 (.ref 157)),(ent P "NoShares" 398 (.ref 169)),(ent P "NoDeed" 414 (.ref 181)),(ent P "NoName" 430 (.ref 193)),(ent P "NoDraw" 446 (.ref 205)),(ent P "LONG" 450 (.int 4000 449)),(ent P "WINDOW" 452 (.int 240 451)),(ent P "SHED" 454 (.int 120 453)),(ent P "frac" 463 (.ref 214)),(ent P "plus" 475 (.ref 221)),(ent P "minus" 483 (.ref 228)),(ent P "times" 493 (.ref 235)),(ent P "over" 501 (.ref 242)),(ent P "power" 512 (.ref 249)),(ent P "under" 520 (.ref 256)),(ent P "greatest_divisor" 530 (.ref 263)),(ent P "leap" 543 (.ref 270)),(ent P "MOST_PLACES" 547 (.int 24 546)),(ent P "is_plan" 556 (.ref 277)),(ent P "goes_on" 565 (.ref 284)),(ent P "come_to" 571 (.ref 289)),(ent P "ends" 577 (.ref 294)),(ent P "drawn_on" 583 (.ref 299)),(ent P "check_ends" 593 (.ref 306)),(ent P "plan_while" 599 (.ref 311)),(ent P "led_to" 605 (.ref 316)),(ent P "after" 613 (.ref 323)),(ent P "is_place" 619 (.ref 328)),(ent P "is_whole" 626 (.ref 335)),(ent P "NOUGHT" 631 (.ref 336)),(ent P "scaled" 637 (.ref 341)),(ent P "worth" 649 (.ref 348)),(ent P "of_count" 660 (.ref 355)),(ent P "trimmed" 668 (.ref 362)),(ent P "common_bottom" 677 (.ref 369)),(ent P "tops_over" 683 (.ref 374)),(ent P "ways_to" 693 (.ref 381)),(ent P "first_bad" 701 (.ref 388)),(ent P "ways_from" 713 (.ref 395)),(ent P "odds" 723 (.ref 402)),(ent P "mean_of" 729 (.ref 407)),(ent P "mean_draws" 735 (.ref 412)),(ent P "check_telling" 743 (.ref 419)),(ent P "stretches" 754 (.ref 426)),(ent P "is_side_by_side" 760 (.ref 431)),(ent P "WHOLE" 765 (.ref 432)),(ent P "ratio" 774 (.ref 439)),(ent P "rule_by_ratio" 788 (.ref 446)),(ent P "check_shares" 796 (.ref 453)),(ent P "check_most" 803 (.ref 460)),(ent P "often" 813 (.ref 467)),(ent P "by_falling_ratio" 819 (.ref 472)),(ent P "taken" 835 (.ref 479)),(ent P "in_order" 842 (.ref 486)),(ent P "share_at" 852 (.ref 493)),(ent P "FIGURES" 856 (.str "0123456789" 855)),(ent P "MOST_FIGURES_texts" 858 (.int 2 857)),(ent P "show_plan" 864 (.ref 498)),(ent P "show_place" 870 (.ref 503)),(ent P "read_plan" 876 (.ref 508)),(ent P "read_place" 882 (.ref 513)),(ent P "read_number" 889 (.ref 520)),(ent P "is_number" 895 (.ref 525)),(ent P "answer_of" 907 (.ref 532)),(ent P "show_rule" 913 (.ref 537)),(ent P "show_counts" 919 (.ref 542)),(ent P "show_count" 925 (.ref 547)),(ent P "show_fraction" 931 (.ref 552)),(ent P "MOST_FIGURES_deeds" 935 (.int 30 934)),(ent P "FORMS" 992 (.ref 553)),(ent P "read_row" 1001 (.ref 576)),(ent P "read_words" 1007 (.ref 581)),(ent P "read_word" 1015 (.ref 588)),(ent P "read_whole" 1022 (.ref 595)),(ent P "read_fraction" 1031 (.ref 602)),(ent P "check" 1038 (.ref 644)),(ent P "check_deeds" 1039 (.ref 609)),(ent P "so_many" 1049 (.ref 616)),(ent P "till" 1059 (.ref 623)),(ent P "two_steps" 1074 (.ref 630)),(ent P "between" 1090 (.ref 637)),(ent P "check_words" 1098 (.ref 644)),(ent P "LETTERS" 1102 (.str "abcdefghijklmnopqrstuvwxyz" 1101)),(ent P "MOST_LETTERS" 1104 (.int 8 1103)),(ent P "Desk" 1191 (.ref 703)),(ent P "check_name" 1197 (.ref 712)),(ent P "plan_by" 1205 (.ref 719)),(ent P "_law_cell" 1215 (.ref 726)),(ent P "_law_digits" 1226 (.ref 733)),(ent P "_law_mixes" 1238 (.ref 740)),(ent P "_law_plan" 1244 (.ref 745)),(ent P "_law_most" 1251 (.ref 752)),(ent P "_law_numbers" 1257 (.ref 757)),(ent P "_law_word" 1263 (.ref 762)),(ent P "_law_written" 1269 (.ref 767)),(ent P "_law_names" 1275 (.ref 772)),(ent P "_law_refused" 1284 (.ref 779)),(ent P "_law_good" 1297 (.ref 786)),(ent P "_law_no_row" 1310 (.ref 793)),(ent P "_law_due" 1321 (.ref 800)),(ent P "law" 1339 (.ref 807))] 121),#[]⟩
abbrev k23(P:Params):Obj:=⟨21.4,ζ,(.dict #[(ent P "__module__" 196 (.str "lotdraw.errors" 187)),(ent P "__firstlineno__" 200 (.int 2 199)),(ent P "__static_attributes__" 201 (.ref 22)),(ent P "__weakref__" 203 (.ref 25)),(ent P "__doc__" 204 .none)] 3),#[]⟩
noncomputable abbrev k24(P:Params):Obj:=⟨(.type "type"),ζ,(.cls ⟨"LotError",[11.2],[(.ref 24),11.2,(.type "Exception"),12.5,12.7],23,"LotError",η,[],[(.ref 37),(.ref 49),(.ref 61),(.ref 73),(.ref 85),(.ref 97),(.ref 109),(.ref 121),(.ref 133),(.ref 145),(.ref 157),(.ref 169),(.ref 181),(.ref 193),(.ref 205)],θ,ζ,θ⟩),#[(ε (.ref 15)),ζ,(ε (.str "LotError" 189)),(ε (.str "LotError" 197)),(ε (.builtin "ValueError.__new__")),(ε 11.6)]⟩
noncomputable abbrev k25(P:Params):Obj:=⟨(.type "getset_descriptor"),ζ,(.fields #[(.str "__weakref__" 202),(.ref 24),(.builtin "ExceptionGroup.__weakref__"),.none]),#[]⟩
abbrev k36(P:Params):Obj:=Ih P 214 218 4 217 219 35 220
abbrev k37(P:Params):Obj:=Ii P "NoNumber" 37 36 28 207 215
abbrev k48(P:Params):Obj:=Ih P 230 234 6 233 235 47 236
abbrev k49(P:Params):Obj:=Ii P "NoPlan" 49 48 40 223 231
abbrev k60(P:Params):Obj:=Ih P 246 250 8 249 251 59 252
abbrev k61(P:Params):Obj:=Ii P "TooLong" 61 60 52 239 247
abbrev k72(P:Params):Obj:=Ih P 262 266 10 265 267 71 268
abbrev k73(P:Params):Obj:=Ii P "NoText" 73 72 64 255 263
abbrev k84(P:Params):Obj:=Ih P 278 282 12 281 283 83 284
abbrev k85(P:Params):Obj:=Ii P "NoEnd" 85 84 76 271 279
abbrev k96(P:Params):Obj:=Ih P 294 298 14 297 299 95 300
abbrev k97(P:Params):Obj:=Ii P "TooMany" 97 96 88 287 295
abbrev abG(P:Params):Obj:=Ih P 310 314 16 313 315 107 316
abbrev abH(P:Params):Obj:=Ii P "NoRow" 109 108 100 303 311
abbrev abI(P:Params):Obj:=Ih P 326 330 18 329 331 119 332
abbrev abJ(P:Params):Obj:=Ii P "NoTelling" 121 120 112 319 327
abbrev abK(P:Params):Obj:=Ih P 342 346 20 345 347 131 348
abbrev abL(P:Params):Obj:=Ii P "NoLot" 133 132 124 335 343
abbrev abM(P:Params):Obj:=Ih P 358 362 22 361 363 143 364
abbrev abN(P:Params):Obj:=Ii P "NotOnly" 145 144 136 351 359
abbrev abO(P:Params):Obj:=Ih P 374 378 24 377 379 155 380
abbrev abP(P:Params):Obj:=Ii P "Only" 157 156 148 367 375
abbrev abQ(P:Params):Obj:=Ih P 390 394 26 393 395 167 396
abbrev abR(P:Params):Obj:=Ii P "NoShares" 169 168 160 383 391
abbrev abS(P:Params):Obj:=Ih P 406 410 28 409 411 179 412
abbrev abT(P:Params):Obj:=Ii P "NoDeed" 181 180 172 399 407
abbrev abU(P:Params):Obj:=Ih P 422 426 30 425 427 191 428
abbrev abV(P:Params):Obj:=Ii P "NoName" 193 192 184 415 423
abbrev abW(P:Params):Obj:=Ih P 438 442 32 441 443 203 444
abbrev abX(P:Params):Obj:=Ii P "NoDraw" 205 204 196 431 439
abbrev abY(P:Params):Obj:=⟨10.2,ζ,(.seq #[(.int 0 629),(.int 1 630)] 0),#[]⟩
abbrev abZ(P:Params):Obj:=⟨10.2,ζ,(.seq #[(.int 1 763),(.int 1 764)] 0),#[]⟩
abbrev ab0(P:Params):Obj:=⟨21.4,ζ,(.dict #[(ent P "plan many" 936 (.ref 554)),(ent P "plan till" 939 (.ref 555)),(ent P "plan steps" 943 (.ref 556)),(ent P "plan between" 949 (.ref 557)),(ent P "show" 956 (.ref 558)),(ent P "ends" 958 (.ref 559)),(ent P "ways" 960 (.ref 560)),(ent P "odds" 964 (.ref 561)),(ent P "mean" 969 (.ref 562)),(ent P "share" 972 (.ref 563)),(ent P "judge" 976 (.ref 564)),(ent P "rule" 978 (.ref 565)),(ent P "lot" 983 (.ref 566)),(ent P "bad" 986 (.ref 567)),(ent P "good" 988 (.ref 568)),(ent P "at" 990 (.ref 569))] 16),#[]⟩
abbrev ab1(P:Params):Obj:=ho7 P "number" 937
abbrev ab2(P:Params):Obj:=ho8 P "number" 940 "number" 941
noncomputable abbrev ab3(P:Params):Obj:=⟨10.2,ζ,(.seq #[(.str "number" 944),(.str "number or -1" 945),(.str "number" 946),(.str "number" 947)] 0),#[]⟩
abbrev ab4(P:Params):Obj:=ho9 P "number" 950 "number" 951 "number" 952 "number" 953 "number" 954
abbrev ab5(P:Params):Obj:=eT
abbrev ab6(P:Params):Obj:=eT
abbrev ab7(P:Params):Obj:=ho8 P "number" 961 "number" 962
noncomputable abbrev ab8(P:Params):Obj:=⟨10.2,ζ,(.seq #[(.str "number" 965),(.str "number" 966),(.str "fraction" 967)] 0),#[]⟩
abbrev ab9(P:Params):Obj:=ho7 P "fraction" 970
abbrev aca(P:Params):Obj:=ho8 P "number" 973 "number" 974
abbrev acb(P:Params):Obj:=eT
noncomputable abbrev acd(P:Params):Obj:=⟨10.2,ζ,(.seq #[(.str "fraction" 979),(.str "fraction" 980),(.str "fraction" 981)] 0),#[]⟩
abbrev ace(P:Params):Obj:=ho7 P "name" 984
abbrev acf(P:Params):Obj:=eT
abbrev acg(P:Params):Obj:=eT
abbrev ach(P:Params):Obj:=eT
abbrev aci(P:Params):Obj:=Th P "so_many" 1042 1043 1044 362 1 610 611 612 613 614 1047 1048
abbrev acj(P:Params):Obj:=Tj P "so_many" 101 615
abbrev ack(P:Params):Obj:=Th P "till" 1050 1051 1052 365 2 617 618 619 620 621 1057 1058
abbrev acm(P:Params):Obj:=Tj P "till" 102 622
abbrev acn(P:Params):Obj:=Th P "two_steps" 1060 1061 1062 368 4 624 625 626 627 628 1072 1073
abbrev aco(P:Params):Obj:=Tj P "two_steps" 103 629
abbrev acp(P:Params):Obj:=Th P "between" 1075 1076 1077 377 5 631 632 633 634 635 1088 1089
abbrev acq(P:Params):Obj:=Tj P "between" 104 636
abbrev acr(P:Params):Obj:=⟨21.4,ζ,(.dict #[(ent P "__module__" 1112 (.str "lotdraw.desk" 1099)),(ent P "__firstlineno__" 1116 (.int 388 1115)),(ent P "__init__" 1123 (.ref 658)),(ent P "say" 1135 (.ref 665)),(ent P "put_plan" 1144 (.ref 672)),(ent P "begin_lot" 1153 (.ref 679)),(ent P "draw" 1165 (.ref 686)),(ent P "plan_named" 1173 (.ref 693)),(ent P "lot_named" 1181 (.ref 700)),(ent P "__static_attributes__" 1184 (.ref 701)),(ent P "__dict__" 1186 (.ref 704)),(ent P "__weakref__" 1188 (.ref 705)),(ent P "__doc__" 1189 .none)] 4),#[]⟩
noncomputable abbrev acs(P:Params):Obj:=⟨(.type "type"),ζ,(.cls ⟨"Desk",[12.7],[(.ref 703),12.7],702,"Desk",η,[],[],θ,ζ,θ⟩),#[ζ,ζ,(ε (.str "Desk" 1105)),(ε (.str "Desk" 1113)),(ε (.builtin "object.__new__")),(ε 11.6)]⟩
noncomputable abbrev acu(P:Params):Obj:=⟨(.type "getset_descriptor"),ζ,(.fields #[(.str "__dict__" 1185),(.ref 703),(.builtin "function.__dict__"),(.builtin "function.__dict__#set")]),#[]⟩
abbrev acv(P:Params):Obj:=⟨(.type "getset_descriptor"),ζ,(.fields #[(.str "__weakref__" 1187),(.ref 703),(.builtin "ExceptionGroup.__weakref__"),.none]),#[]⟩
def hpK:Params->Frag:=λP=>(nat_lit 2,k2 P)::(nat_lit 3,k3 P)::(nat_lit 23,k23 P)::(nat_lit 24,k24 P)::(nat_lit 25,k25 P)::(nat_lit 36,k36 P)::(nat_lit 37,k37 P)::(nat_lit 48,k48 P)::(nat_lit 49,k49 P)::(nat_lit 60,k60 P)::(nat_lit 61,k61 P)::(nat_lit 72,k72 P)::(nat_lit 73,k73 P)::(nat_lit 84,k84 P)::(nat_lit 85,k85 P)::(nat_lit 96,k96 P)::(nat_lit 97,k97 P)::(nat_lit 108,abG P)::(nat_lit 109,abH P)::(nat_lit 120,abI P)::(nat_lit 121,abJ P)::(nat_lit 132,abK P)::(nat_lit 133,abL P)::(nat_lit 144,abM P)::(nat_lit 145,abN P)::(nat_lit 156,abO P)::(nat_lit 157,abP P)::(nat_lit 168,abQ P)::(nat_lit 169,abR P)::(nat_lit 180,abS P)::(nat_lit 181,abT P)::(nat_lit 192,abU P)::(nat_lit 193,abV P)::(nat_lit 204,abW P)::(nat_lit 205,abX P)::(nat_lit 213,e7 "frac" 455 38 2 208 3)::(nat_lit 214,f7 "frac" 21 w0 213)::(nat_lit 255,e7 "under" 513 66 2 250 2)::(nat_lit 256,f7 "under" 27 w0 255)::(nat_lit 262,e7 "greatest_divisor" 521 68 2 257 4)::(nat_lit 263,f7 "greatest_divisor" 28 w0 262)::(nat_lit 276,e7 "is_plan" 548 92 1 271 3)::(nat_lit 277,f7 "is_plan" 32 w1 276)::(nat_lit 283,e7 "goes_on" 557 101 2 278 3)::(nat_lit 284,f7 "goes_on" 33 w1 283)::(nat_lit 288,e5 "come_to" 566 104 1 285)::(nat_lit 289,f7 "come_to" 34 w1 288)::(nat_lit 293,e5 "ends" 572 109 1 290)::(nat_lit 294,f7 "ends" 35 w1 293)::(nat_lit 298,e5 "drawn_on" 578 111 1 295)::(nat_lit 299,f7 "drawn_on" 36 w1 298)::(nat_lit 305,e7 "check_ends" 584 116 2 300 4)::(nat_lit 306,f7 "check_ends" 37 w1 305)::(nat_lit 315,e5 "led_to" 600 133 1 312)::(nat_lit 316,f7 "led_to" 39 w1 315)::(nat_lit 322,e7 "after" 606 135 2 317 2)::(nat_lit 323,f7 "after" 40 w1 322)::(nat_lit 327,e5 "is_place" 614 139 2 324)::(nat_lit 328,f7 "is_place" 41 w1 327)::(nat_lit 334,e7 "is_whole" 620 145 1 329 1)::(nat_lit 335,f7 "is_whole" 42 w1 334)::(nat_lit 336,abY P)::(nat_lit 347,e7 "worth" 638 151 2 342 6)::(nat_lit 348,f7 "worth" 46 w2 347)::(nat_lit 380,e7 "ways_to" 686 179 2 375 2)::(nat_lit 381,f7 "ways_to" 52 w3 380)::(nat_lit 394,e7 "ways_from" 702 183 2 389 6)::(nat_lit 395,f7 "ways_from" 54 w3 394)::(nat_lit 401,e7 "odds" 716 191 2 396 2)::(nat_lit 402,f7 "odds" 56 w4 401)::(nat_lit 432,abZ P)::(nat_lit 445,e7 "rule_by_ratio" 775 224 4 440 8)::(nat_lit 446,f7 "rule_by_ratio" 66 w6 445)::(nat_lit 452,e7 "check_shares" 789 233 2 447 2)::(nat_lit 453,f7 "check_shares" 67 w6 452)::(nat_lit 492,e7 "share_at" 845 263 2 487 2)::(nat_lit 493,f7 "share_at" 74 w7 492)::(nat_lit 497,e5 "show_plan" 859 269 1 494)::(nat_lit 498,f7 "show_plan" 78 w8 497)::(nat_lit 502,e5 "show_place" 865 271 1 499)::(nat_lit 503,f7 "show_place" 79 w8 502)::(nat_lit 507,e5 "read_plan" 871 273 1 504)::(nat_lit 508,f7 "read_plan" 80 w8 507)::(nat_lit 512,e5 "read_place" 877 278 1 509)::(nat_lit 513,f7 "read_place" 81 w8 512)::(nat_lit 519,e7 "read_number" 883 280 1 514 1)::(nat_lit 520,f7 "read_number" 82 w8 519)::(nat_lit 524,e5 "is_number" 890 284 1 521)::(nat_lit 525,f7 "is_number" 83 w8 524)::(nat_lit 531,e7 "answer_of" 898 289 3 526 4)::(nat_lit 532,f7 "answer_of" 85 w9 531)::(nat_lit 536,e5 "show_rule" 908 306 1 533)::(nat_lit 537,f7 "show_rule" 86 w9 536)::(nat_lit 546,e5 "show_count" 920 313 1 543)::(nat_lit 547,f7 "show_count" 88 w9 546)::(nat_lit 551,e5 "show_fraction" 926 315 1 548)::(nat_lit 552,f7 "show_fraction" 89 w9 551)::(nat_lit 553,ab0 P)::(nat_lit 554,ab1 P)::(nat_lit 555,ab2 P)::(nat_lit 556,ab3 P)::(nat_lit 557,ab4 P)::(nat_lit 558,ab5 P)::(nat_lit 559,ab6 P)::(nat_lit 560,ab7 P)::(nat_lit 561,ab8 P)::(nat_lit 562,ab9 P)::(nat_lit 563,aca P)::(nat_lit 564,acb P)::(nat_lit 565,acd P)::(nat_lit 566,ace P)::(nat_lit 567,acf P)::(nat_lit 568,acg P)::(nat_lit 569,ach P)::(nat_lit 575,e7 "read_row" 993 322 1 570 3)::(nat_lit 576,f7 "read_row" 93 Ob 575)::(nat_lit 580,e5 "read_words" 1002 331 3 577)::(nat_lit 581,f7 "read_words" 94 Ob 580)::(nat_lit 587,e7 "read_word" 1008 336 2 582 2)::(nat_lit 588,f7 "read_word" 95 Ob 587)::(nat_lit 594,e7 "read_whole" 1016 344 1 589 1)::(nat_lit 595,f7 "read_whole" 96 Ob 594)::(nat_lit 601,e7 "read_fraction" 1023 347 1 596 3)::(nat_lit 602,f7 "read_fraction" 97 Ob 601)::(nat_lit 608,e7 "check" 1032 357 1 603 1)::(nat_lit 609,f7 "check" 98 Ob 608)::(nat_lit 615,aci P)::(nat_lit 616,acj P)::(nat_lit 622,ack P)::(nat_lit 623,acm P)::(nat_lit 629,acn P)::(nat_lit 630,aco P)::(nat_lit 636,acp P)::(nat_lit 637,acq P)::(nat_lit 643,e7 "check" 1091 381 1 638 1)::(nat_lit 644,f7 "check" 105 w11 643)::(nat_lit 657,c7 "__init__" "Desk.__init__" 1117 390 1 652 1)::(nat_lit 658,fF "__init__" "Desk.__init__" (inClass 16.8 0) Fw 657)::(nat_lit 664,c7 "say" "Desk.say" 1124 394 2 659 6)::(nat_lit 665,fF "say" "Desk.say" (inClass 16.8 1) Fw 664)::(nat_lit 671,c7 "put_plan" "Desk.put_plan" 1136 412 3 666 3)::(nat_lit 672,fF "put_plan" "Desk.put_plan" (inClass 16.8 2) Fw 671)::(nat_lit 678,c7 "begin_lot" "Desk.begin_lot" 1145 416 3 673 3)::(nat_lit 679,fF "begin_lot" "Desk.begin_lot" (inClass 16.8 3) Fw 678)::(nat_lit 685,c7 "draw" "Desk.draw" 1154 420 3 680 6)::(nat_lit 686,fF "draw" "Desk.draw" (inClass 16.8 4) Fw 685)::(nat_lit 692,c7 "plan_named" "Desk.plan_named" 1166 431 2 687 2)::(nat_lit 693,fF "plan_named" "Desk.plan_named" (inClass 16.8 5) Fw 692)::(nat_lit 699,c7 "lot_named" "Desk.lot_named" 1174 436 2 694 2)::(nat_lit 700,fF "lot_named" "Desk.lot_named" (inClass 16.8 6) Fw 699)::(nat_lit 702,acr P)::(nat_lit 703,acs P)::(nat_lit 704,acu P)::(nat_lit 705,acv P)::(nat_lit 711,e5 "check_name" 1192 440 1 708)::(nat_lit 712,f7 "check_name" 111 Fw 711)::(nat_lit 718,e7 "plan_by" 1198 443 2 713 2)::(nat_lit 719,f7 "plan_by" 112 Fw 718)::(nat_lit 725,e7 "_law_cell" 1208 454 2 720 2)::(nat_lit 726,f7 "_law_cell" 114 vq 725)::(nat_lit 732,e7 "_law_digits" 1216 458 3 727 5)::(nat_lit 733,f7 "_law_digits" 115 vq 732)::(nat_lit 739,e7 "_law_mixes" 1227 464 3 734 6)::(nat_lit 740,f7 "_law_mixes" 116 vq 739)::(nat_lit 744,e5 "_law_plan" 1239 470 2 741)::(nat_lit 745,f7 "_law_plan" 117 vq 744)::(nat_lit 756,e5 "_law_numbers" 1252 492 2 753)::(nat_lit 757,f7 "_law_numbers" 119 vq 756)::(nat_lit 761,e5 "_law_word" 1258 502 1 758)::(nat_lit 762,f7 "_law_word" 120 vq 761)::(nat_lit 766,e5 "_law_written" 1264 512 1 763)::(nat_lit 767,f7 "_law_written" 121 vq 766)::(nat_lit 771,e5 "_law_names" 1270 514 1 768)::(nat_lit 772,f7 "_law_names" 122 vq 771)::(nat_lit 778,e7 "_law_refused" 1276 528 2 773 3)::(nat_lit 779,f7 "_law_refused" 123 vq 778)::(nat_lit 785,e7 "_law_good" 1285 534 3 780 7)::(nat_lit 786,f7 "_law_good" 124 vq 785)::(nat_lit 792,e7 "_law_no_row" 1298 545 2 787 7)::(nat_lit 793,f7 "_law_no_row" 125 vq 792)::(nat_lit 799,e7 "_law_due" 1311 569 3 794 5)::(nat_lit 800,f7 "_law_due" 126 vq 799)::(nat_lit 806,e7 "law" 1322 579 1 801 12)::(nat_lit 807,f7 "law" 127 vq 806)::[]
def hpF:Params->List Obj:=λP=>boot_o_0 P::boot_o_1 P::k2 P::k3 P::boot_o_4 P::boot_o_5 P::⟨21.4,ζ,(.dict #[] 0),#[]⟩::boot_o_7 P::boot_o_8 P::boot_o_9 P::boot_o_10 P::eT::tT 0 [(2,20),(4,33),(6,45),(8,57),(10,69),(12,81),(14,93),(16,105),(18,117),(20,129),(22,141),(24,153),(26,165),(28,177),(30,189),(32,201),(38,213),(45,220),(51,227),(53,234),(57,241),(59,248),(66,255),(68,262),(80,269),(92,276),(101,283),(104,288),(109,293),(111,298),(116,305),(121,310),(133,315),(135,322),(139,327),(145,334),(149,340),(151,347),(159,354),(166,361),(171,368),(176,373),(179,380),(181,387),(183,394),(191,401),(194,406),(203,411),(205,418),(209,425),(217,430),(221,438),(224,445),(233,452),(236,459),(239,466),(243,471),(248,478),(260,485),(263,492),(269,497),(271,502),(273,507),(278,512),(280,519),(284,524),(289,531),(306,536),(311,541),(313,546),(315,551),(322,575),(331,580),(336,587),(344,594),(347,601),(357,608),(362,615),(365,622),(368,629),(377,636),(381,643),(388,650),(440,711),(443,718),(454,725),(458,732),(464,739),(470,744),(488,751),(492,756),(502,761),(512,766),(514,771),(528,778),(534,785),(545,792),(569,799),(579,806)]::Fy P "<module>" 182 183 184 1 11 12 185 186::pL P 13 3 "__main__" 164::⟨10.2,ζ,(.seq #[11.2] 0),#[]⟩::FK P::qO P 196 198 "LotError" 197 200 2 199 201 22::eT::nT::Fy P "LotError" 191 192 193 2 18 19 194 195::pL P 20 17 "lotdraw.errors" 187::eT::k23 P::k24 P::k25 P::DB P 24::FJ P 24::Ij P::FK P::qO P 214 216 "NoNumber" 215 218 4 217 219 35::eT::nT::Fy P "NoNumber" 209 210 211 4 31 32 212 213::pL P 33 30 "lotdraw.errors" 187::eT::k36 P::k37 P::DB P 37::FJ P 37::Ij P::FK P::qO P 230 232 "NoPlan" 231 234 6 233 235 47::eT::nT::Fy P "NoPlan" 225 226 227 6 43 44 228 229::pL P 45 42 "lotdraw.errors" 187::eT::k48 P::k49 P::DB P 49::FJ P 49::Ij P::FK P::qO P 246 248 "TooLong" 247 250 8 249 251 59::eT::nT::Fy P "TooLong" 241 242 243 8 55 56 244 245::pL P 57 54 "lotdraw.errors" 187::eT::k60 P::k61 P::DB P 61::FJ P 61::Ij P::FK P::qO P 262 264 "NoText" 263 266 10 265 267 71::eT::nT::Fy P "NoText" 257 258 259 10 67 68 260 261::pL P 69 66 "lotdraw.errors" 187::eT::k72 P::k73 P::DB P 73::FJ P 73::Ij P::FK P::qO P 278 280 "NoEnd" 279 282 12 281 283 83::eT::nT::Fy P "NoEnd" 273 274 275 12 79 80 276 277::pL P 81 78 "lotdraw.errors" 187::eT::k84 P::k85 P::DB P 85::FJ P 85::Ij P::FK P::qO P 294 296 "TooMany" 295 298 14 297 299 95::eT::nT::Fy P "TooMany" 289 290 291 14 91 92 292 293::pL P 93 90 "lotdraw.errors" 187::eT::k96 P::k97 P::DB P 97::FJ P 97::Ij P::FK P::qO P 310 312 "NoRow" 311 314 16 313 315 107::eT::nT::Fy P "NoRow" 305 306 307 16 103 104 308 309::pL P 105 102 "lotdraw.errors" 187::eT::abG P::abH P::DB P 109::FJ P 109::Ij P::FK P::qO P 326 328 "NoTelling" 327 330 18 329 331 119::eT::nT::Fy P "NoTelling" 321 322 323 18 115 116 324 325::pL P 117 114 "lotdraw.errors" 187::eT::abI P::abJ P::DB P 121::FJ P 121::Ij P::FK P::qO P 342 344 "NoLot" 343 346 20 345 347 131::eT::nT::Fy P "NoLot" 337 338 339 20 127 128 340 341::pL P 129 126 "lotdraw.errors" 187::eT::abK P::abL P::DB P 133::FJ P 133::Ij P::FK P::qO P 358 360 "NotOnly" 359 362 22 361 363 143::eT::nT::Fy P "NotOnly" 353 354 355 22 139 140 356 357::pL P 141 138 "lotdraw.errors" 187::eT::abM P::abN P::DB P 145::FJ P 145::Ij P::FK P::qO P 374 376 "Only" 375 378 24 377 379 155::eT::nT::Fy P "Only" 369 370 371 24 151 152 372 373::pL P 153 150 "lotdraw.errors" 187::eT::abO P::abP P::DB P 157::FJ P 157::Ij P::FK P::qO P 390 392 "NoShares" 391 394 26 393 395 167::eT::nT::Fy P "NoShares" 385 386 387 26 163 164 388 389::pL P 165 162 "lotdraw.errors" 187::eT::abQ P::abR P::DB P 169::FJ P 169::Ij P::FK P::qO P 406 408 "NoDeed" 407 410 28 409 411 179::eT::nT::Fy P "NoDeed" 401 402 403 28 175 176 404 405::pL P 177 174 "lotdraw.errors" 187::eT::abS P::abT P::DB P 181::FJ P 181::Ij P::FK P::qO P 422 424 "NoName" 423 426 30 425 427 191::eT::nT::Fy P "NoName" 417 418 419 30 187 188 420 421::pL P 189 186 "lotdraw.errors" 187::eT::abU P::abV P::DB P 193::FJ P 193::Ij P::FK P::qO P 438 440 "NoDraw" 439 442 32 441 443 203::eT::nT::Fy P "NoDraw" 433 434 435 32 199 200 436 437::pL P 201 198 "lotdraw.errors" 187::eT::abW P::abX P::DB P 205::FJ P 205::(d7 "frac" 21 455 38 2 208 w0 ["top","bottom","shared"]) ++
 (d7 "plus" 22 464 45 2 215 w0 ["one","other","shared","one_part","other_part","rest"]) ++
 (d7 "minus" 23 476 51 2 222 w0 ["one","other"]) ++
 (d7 "times" 24 484 53 2 229 w0 ["one","other","left","right"]) ++
 (d7 "over" 25 494 57 2 236 w0 ["one","other"]) ++
 (d7 "power" 26 502 59 2 243 w0 ["one","many","top","bottom","turn"]) ++
 (d7 "under" 27 513 66 2 250 w0 ["one","other"]) ++
 (d7 "greatest_divisor" 28 521 68 2 257 w0 ["one","other","rest","pair"]) ++
 (d7 "leap" 29 531 80 2 264 w0 ["one","other","cut","upper","lower","many","rest"]) ++
 (d7 "is_plan" 32 548 92 1 271 w1 ["thing","there","place"]) ++
 (d7 "goes_on" 33 557 101 2 278 w1 ["plan","count","draws"]) ++
 (d5 "come_to" 34 566 104 1 285 w1) ++
 (d5 "ends" 35 572 109 1 290 w1) ++
 (d5 "drawn_on" 36 578 111 1 295 w1) ++
 (d7 "check_ends" 37 584 116 2 300 w1 ["plan","counts","there","count"]) ++
 (d5 "plan_while" 38 594 121 1 307 w1) ++
 (d5 "led_to" 39 600 133 1 312 w1) ++
 (d7 "after" 40 606 135 2 317 w1 ["count","sign"]) ++
 (d5 "is_place" 41 614 139 2 324 w1) ++
 (d7 "is_whole" 42 620 145 1 329 w1 ["thing"]) ++
 abY P::(d5 "scaled" 45 632 149 2 337 w2) ++
 (d7 "worth" 46 638 151 2 342 w2 ["one","share","bottom","total","carried","top"]) ++
 (d7 "of_count" 47 650 159 2 349 w2 ["bad","good","told","top","place"]) ++
 (d7 "trimmed" 48 661 166 1 356 w2 ["fractions","kept"]) ++
 (d7 "common_bottom" 49 669 171 1 363 w2 ["fractions","common","fraction"]) ++
 (d5 "tops_over" 50 678 176 2 370 w2) ++
 (d7 "ways_to" 52 686 179 2 375 w3 ["plan","count"]) ++
 (d7 "first_bad" 53 694 181 2 382 w3 ["plan","count"]) ++
 (d7 "ways_from" 54 702 183 2 389 w3 ["plan","beginning","ways","count","many","led"]) ++
 (d7 "odds" 56 716 191 2 396 w4 ["plan","end"]) ++
 (d5 "mean_of" 57 724 194 2 403 w4) ++
 (d5 "mean_draws" 58 730 203 1 408 w4) ++
 (d7 "check_telling" 59 736 205 2 413 w4 ["plan","numbers"]) ++
 (d7 "stretches" 61 746 209 1 420 w5 ["row","told","number"]) ++
 (d5 "is_side_by_side" 62 755 217 1 427 w5) ++
 abZ P::(d7 "ratio" 65 766 221 3 433 w6 ["count","low","high"]) ++
 (d7 "rule_by_ratio" 66 775 224 4 440 w6 ["plan","low","high","most","ways","choice","end","many"]) ++
 (d7 "check_shares" 67 789 233 2 447 w6 ["low","high"]) ++
 (d7 "check_most" 68 797 236 1 454 w6 ["most"]) ++
 (d7 "often" 69 804 239 2 461 w6 ["count","share","bad_part","good_part"]) ++
 (d5 "by_falling_ratio" 70 814 243 1 468 w6) ++
 (d7 "taken" 71 820 248 2 473 w6 ["choice","most","rule","wrong","caught","end","end_ratio","end_wrong","end_caught","more"]) ++
 (d7 "in_order" 72 836 260 1 480 w6 ["rule"]) ++
 (d7 "share_at" 74 845 263 2 487 w7 ["plan","end"]) ++
 (d5 "show_plan" 78 859 269 1 494 w8) ++
 (d5 "show_place" 79 865 271 1 499 w8) ++
 (d5 "read_plan" 80 871 273 1 504 w8) ++
 (d5 "read_place" 81 877 278 1 509 w8) ++
 (d7 "read_number" 82 883 280 1 514 w8 ["word"]) ++
 (d5 "is_number" 83 890 284 1 521 w8) ++
 (d7 "answer_of" 85 898 289 3 526 w9 ["plan","deed","told","count"]) ++
 (d5 "show_rule" 86 908 306 1 533 w9) ++
 (d5 "show_counts" 87 914 311 1 538 w9) ++
 (d5 "show_count" 88 920 313 1 543 w9) ++
 (d5 "show_fraction" 89 926 315 1 548 w9) ++
 ab0 P::ab1 P::ab2 P::ab3 P::ab4 P::ab5 P::ab6 P::ab7 P::ab8 P::ab9 P::aca P::acb P::acd P::ace P::acf P::acg P::ach P::(d7 "read_row" 93 993 322 1 570 Ob ["row","parts","words"]) ++
 (d5 "read_words" 94 1002 331 3 577 Ob) ++
 (d7 "read_word" 95 1008 336 2 582 Ob ["word","kind"]) ++
 (d7 "read_whole" 96 1016 344 1 589 Ob ["word"]) ++
 (d7 "read_fraction" 97 1023 347 1 596 Ob ["word","parts","fraction"]) ++
 (d7 "check" 98 1032 357 1 603 Ob ["is_of_a_kind"]) ++
 eT::nT::ho7 P "draws" 1045::ho7 P "draws" 1046::Tg P "so_many" 101::aci P::acj P::eT::nT::ho8 P "bad" 1053 "draws" 1054::ho8 P "bad" 1055 "draws" 1056::Tg P "till" 102::ack P::acm P::eT::nT::ho9 P "first" 1063 "low" 1064 "high" 1065 "second" 1066 "draws_on" 1067::⟨10.2,ζ,(.seq #[(.str "first" 1068),(.str "low" 1069),(.str "high" 1070),(.str "second" 1071)] 0),#[]⟩::Tg P "two_steps" 103::acn P::aco P::eT::nT::ho9 P "rise" 1078 "run" 1079 "below" 1080 "above" 1081 "draws" 1082::ho9 P "rise" 1083 "run" 1084 "below" 1085 "above" 1086 "draws" 1087::Tg P "between" 104::acp P::acq P::(d7 "check" 105 1091 381 1 638 w11 ["is_within_bounds"]) ++
 eT::FK P::⟨21.4,ζ,(.dict #[(ent P "__module__" 1112 (.str "lotdraw.desk" 1099)),(ent P "__qualname__" 1114 (.str "Desk" 1113)),(ent P "__firstlineno__" 1116 (.int 388 1115)),(ent P "__init__" 1123 (.ref 658)),(ent P "say" 1135 (.ref 665)),(ent P "put_plan" 1144 (.ref 672)),(ent P "begin_lot" 1153 (.ref 679)),(ent P "draw" 1165 (.ref 686)),(ent P "plan_named" 1173 (.ref 693)),(ent P "lot_named" 1181 (.ref 700)),(ent P "__static_attributes__" 1184 (.ref 701))] 11),#[]⟩::eT::tT 4 [(390,657),(394,664),(412,671),(416,678),(420,685),(431,692),(436,699)]::Fy P "Desk" 1107 1108 1109 388 648 649 1110 1111::pL P 650 647 "lotdraw.desk" 1099::(b7 "__init__" "Desk.__init__" (inClass 16.8 0) 1117 390 1 652 Fw ["self"]) ++
 (b7 "say" "Desk.say" (inClass 16.8 1) 1124 394 2 659 Fw ["self","row","read","deed","name","told"]) ++
 (b7 "put_plan" "Desk.put_plan" (inClass 16.8 2) 1136 412 3 666 Fw ["self","name","plan"]) ++
 (b7 "begin_lot" "Desk.begin_lot" (inClass 16.8 3) 1145 416 3 673 Fw ["self","name","plan_name"]) ++
 (b7 "draw" "Desk.draw" (inClass 16.8 4) 1154 420 3 680 Fw ["self","name","sign","lot","plan","count"]) ++
 (b7 "plan_named" "Desk.plan_named" (inClass 16.8 5) 1166 431 2 687 Fw ["self","name"]) ++
 (b7 "lot_named" "Desk.lot_named" (inClass 16.8 6) 1174 436 2 694 Fw ["self","name"]) ++
 ho8 P "lots" 1182 "plans" 1183::acr P::acs P::acu P::acv P::DB P 703::FJ P 703::(d5 "check_name" 111 1192 440 1 708 Fw) ++
 (d7 "plan_by" 112 1198 443 2 713 Fw ["deed","told"]) ++
 (d7 "_law_cell" 114 1208 454 2 720 vq ["_law_script","_law_k"]) ++
 (d7 "_law_digits" 115 1216 458 3 727 vq ["_law_cell_here","_law_base","_law_many","_law_row","_law_k"]) ++
 (d7 "_law_mixes" 116 1227 464 3 734 vq ["_law_cell_here","_law_base","_law_many","_law_row","_law_k","_law_number"]) ++
 (d5 "_law_plan" 117 1239 470 2 741 vq) ++
 (d7 "_law_most" 118 1245 488 1 746 vq ["_law_cell_here"]) ++
 (d5 "_law_numbers" 119 1252 492 2 753 vq) ++
 (d5 "_law_word" 120 1258 502 1 758 vq) ++
 (d5 "_law_written" 121 1264 512 1 763 vq) ++
 (d5 "_law_names" 122 1270 514 1 768 vq) ++
 (d7 "_law_refused" 123 1276 528 2 773 vq ["_law_desk","_law_row","_law_e"]) ++
 (d7 "_law_good" 124 1285 534 3 780 vq ["_law_name","_law_other","_law_drawn","_law_a","_law_b","_law_share","_law_rows"]) ++
 (d7 "_law_no_row" 125 1298 545 2 787 vq ["_law_row","_law_drawn","_law_words","_law_way","_law_at","_law_bad","_law_odd"]) ++
 (d7 "_law_due" 126 1311 569 3 794 vq ["_law_plan_here","_law_name","_law_drawn","_law_many","_law_rows"]) ++
 (d7 "law" 127 1322 579 1 801 vq ["_law_script","_law_names_here","_law_name","_law_plan_here","_law_desk","_law_bad","_law_cell_here","_law_drawn","_law_one","_law_row","_law_hand","_law_wrong"]) ++
 []
def Ik(w:World)(os:OsState):SharedT:=Hd.litS 808 (hpF w.params) (boot_heap w.params).life 1340 os
noncomputable def hpA:List Addr:=[2,3,23,24,25,36,37,48,49,60,61,72,73,84,85,96,97,108,109,120,121,132,133,144,145,156,157,168,169,180,181,192,193,204,205,213,214,255,256,262,263,276,277,283,284,288,289,293,294,298,299,305,306,315,316,322,323,327,328,334,335,336,347,348,380,381,394,395,401,402,432,445,446,452,453,492,493,497,498,502,503,507,508,512,513,519,520,524,525,531,532,536,537,546,547,551,552,553,554,555,556,557,558,559,560,561,562,563,564,565,566,567,568,569,575,576,580,581,587,588,594,595,601,602,608,609,615,616,622,623,629,630,636,637,643,644,657,658,664,665,671,672,678,679,685,686,692,693,699,700,702,703,704,705,711,712,718,719,725,726,732,733,739,740,744,745,756,757,761,762,766,767,771,772,778,779,785,786,792,793,799,800,806,807]
set_option maxHeartbeats 0
def Ot(P:Params):hpA=(hpK P).map (·.1):=by kernel_rfl
abbrev hpX:Shared->Bool:=λs=>xlAt tX [] s && recOk (RowW.records (OpenRow.toRowW (OpenLaw.row PySem.Challenge.rw_lotdraw_k60_desk_refused))) s
def acy (w:World) (os:OsState):(Hd.Bq treeTable PySem.Challenge.pw_lotdraw_k60_desk_refused (w.withFollow "special-get-raises" η) 11 (ε (.ref 6)) 13724 (Hd.xB (w.withFollow "special-get-raises" η) os) 10.8)=ε (Ik (w.withFollow "special-get-raises" η) os):=by kernel_rfl
def acz (w:World) (os:OsState):(Hd.Bq treeTable PySem.Challenge.pw_lotdraw_k60_desk_refused (w.withFollow "special-get-raises" θ) 11 (ε (.ref 6)) 13724 (Hd.xB (w.withFollow "special-get-raises" θ) os) 10.8)=ε (Ik (w.withFollow "special-get-raises" θ) os):=by kernel_rfl
def acA (b:Bool) (w:World) (os:OsState):(Hd.Bq treeTable PySem.Challenge.pw_lotdraw_k60_desk_refused (w.withFollow "special-get-raises" b) 11 (ε (.ref 6)) 13724 (Hd.xB (w.withFollow "special-get-raises" b) os) 10.8)=ε (Ik (w.withFollow "special-get-raises" b) os):=by cases b; exact acz w os; exact acy w os
def acB (w:World) (os:OsState):(Hd.Bq treeTable PySem.Challenge.pw_lotdraw_k60_desk_refused w 11 (ε (.ref 6)) 13724 (Hd.xB w os) 10.8)=ε (Ik w os):=by have:=acA (w.params.followText "special-get-raises") w os; rwa [World.withFollow_self] at this
def Tn (w:World) (os:OsState):(staticsOk (importedModules PySem.Challenge.pw_lotdraw_k60_desk_refused.main.body) 14.7 (Ik w os).abs.heap && namesBound PySem.Challenge.pw_lotdraw_k60_desk_refused (Ik w os).abs.heap && gensDone (Ik w os).abs && laidKept 14.7 (Ik w os).abs.heap,hpA.map (Ik w os).abs.heap.get?)=(η,(hpK w.params).map λp=>ε p.2):=by kernel_rfl
abbrev hpO (s:SharedT):=openSeen tX ["FORMS","check_deeds","check_words"] (importedModules PySem.Challenge.pw_lotdraw_k60_desk_refused.main.body) hpX η s.abs
def acD(w:World)(os:OsState):(hpO (Ik w os)).1=(openGood tX ["FORMS","check_deeds","check_words"]).1:=by kernel_rfl
def acE(w:World)(os:OsState):((hpO (Ik w os)).2.1,(hpO (Ik w os)).2.2.1)=((openGood tX ["FORMS","check_deeds","check_words"]).2.1,(openGood tX ["FORMS","check_deeds","check_words"]).2.2.1):=by kernel_rfl
def acF(w:World)(os:OsState):(hpO (Ik w os)).2.2.2=(openGood tX ["FORMS","check_deeds","check_words"]).2.2.2:=by kernel_rfl
def To(w:World)(os:OsState):hpO (Ik w os)=openGood tX ["FORMS","check_deeds","check_words"]:=Hd.ext3 (acD w os) (acE w os) (acF w os)
end aC
set_option maxHeartbeats 4000000
namespace L2
open PySem PySem.Spec PyProof.Rows
abbrev Key:=Sum Int Str
def Cq:Key->Value->Bool
 |.inl k,v=>Value.isInt k v
 |.inr x,v=>Value.isStrOf x v
def afT(w:World):Key->Int
 |.inl k=>hashInt k
 |.inr x=>hashStr w x
theorem eS:∀{k:Key} {v:Value},Cq k v=η->(∃i t,k=Sum.inl i/\v=Value.int i t)\/(∃x t,k=Sum.inr x/\v=Value.str x t)
 |.inl i,v,h=>by
   obtain⟨t,e⟩:=Value.isInt_shape (k:=i) (v:=v) h;exact .inl ⟨i,t,rfl,e⟩
 |.inr x,v,h=>by
   obtain⟨t,e⟩:=Value.isStrOf_shape (x:=x) (v:=v) h;exact .inr ⟨x,t,rfl,e⟩
def MC(i:Int)(t:Tok):Cq (.inl i) (.int i t)=true:=by simp[Cq,Value.isInt]
def vt(x:Str)(t:Tok):Cq (.inr x) (.str x t)=true:=by simp[Cq,Value.isStrOf]
def YC(a b:Int):ι ((Sum.inl a:Key)=Sum.inl b)=(a==b):=by lia
def YD(a b:Str):ι ((Sum.inr a:Key)=Sum.inr b)=ι (a=b):=by simp
def YE(a:Int)(b:Str):ι ((Sum.inl a:Key)=Sum.inr b)=false:=rfl
def YF(a:Str)(b:Int):ι ((Sum.inr a:Key)=Sum.inl b)=false:=rfl
def eu(prog:4.6)(w:World):PySem.KeyKind prog w Key where
 is:=Cq
 hash:=afT w
 inj:=λv a b ha hb=>by
  rcases eS ha with⟨i,t,rfl,rfl⟩|⟨x,t,rfl,rfl⟩
  .rcases eS hb with⟨j,u,rfl,e⟩|⟨y,u,rfl,e⟩;.injection e with e1 _;rw[e1]
   .exact nomatch e
  .rcases eS hb with⟨j,u,rfl,e⟩|⟨y,u,rfl,e⟩;.exact nomatch e
   .injection e with e1 _;rw[e1]
 byValue:=λk v h=>by
  rcases eS h with⟨i,t,rfl,rfl⟩|⟨x,t,rfl,rfl⟩<;>rfl
 pyHash:=λhv h=>by
  rcases eS hv with⟨i,t,rfl,rfl⟩|⟨x,t,rfl,rfl⟩;.exact wpAny_pyHash_int h
  .exact wpAny_pyHash_str h
 eqBool:=λhu hv h=>by
  rcases eS hu with⟨i,t,rfl,rfl⟩|⟨x,t,rfl,rfl⟩
  .rcases eS hv with⟨j,u,rfl,rfl⟩|⟨y,u,rfl,rfl⟩;.rw [YC]at h;exact wpAny_eqBool_int h
   .rw [YE]at h;exact SeqAt.EqAt.int_str i t y u _ _ _ _ h
  .rcases eS hv with⟨j,u,rfl,rfl⟩|⟨y,u,rfl,rfl⟩;.rw [YF]at h;exact SeqAt.EqAt.str_int x t j u _ _ _ _ h
   .rw [YD]at h;exact wpAny_eqBool_str h
 «strs»:=λk x t v h=>by
  rcases eS h with⟨i,u,rfl,e⟩|⟨y,u,rfl,e⟩;.exact nomatch e
  .injection e with e1 _;subst e1;cases v<;>rfl
def FL(prog:4.6)(w:World)(i:Int)(t:Tok):(eu prog w).is (.inl i) (.int i t)=true:=MC i t
def FN(prog:4.6)(w:World)(x:Str)(t:Tok):(eu prog w).is (.inr x) (.str x t)=true:=vt x t
inductive V where
 |iY|bl (b:Bool)|int (i:Int)|str (x:Str)|byt (b:Array UInt8)|YG (b:UInt64)|ref (a:Addr)|ty (n:String)
 deriving DecidableEq
def RelV:V->Value->Prop
 |.iY,u=>u=Value.none
 |.bl b,u=>u=Value.bool b
 |.int i,u=>∃t,u=Value.int i t
 |.str x,u=>∃t,u=Value.str x t
 |.byt b,u=>∃t,u=Value.bytes b t
 |.YG b,u=>∃t,u=Value.float b t
 |.ref a,u=>u=Value.ref a
 |.ty n,u=>u=Value.type n
abbrev bL:List V->List Value->Prop:=Paired RelV
theorem bL.length(r:bL xs us):xs.length=us.length:=Paired.length r
theorem bL.get:∀{xs:List V} {us:cF} {i:Nat} {x:V},bL xs us->xs[i]?=ε x->∃u,us[i]?=ε u/\RelV x u
 |_,_,_,_,.nil,e=>by simp at e
 |_,_,0,_,.cons r _,e=>by simp at e;subst e;exact⟨_,rfl,r⟩
 |_,_,i+1,x,.cons _ t,e=>by
   obtain⟨u,h1,h2⟩:=bL.get (i:=i) (x:=x) t (by simpa using e);exact⟨u,by simpa using h1,h2⟩
theorem bL.append:∀{xs ys:List V} {us ws:cF},bL xs us->bL ys ws->bL (xs++ys) (us++ws)
 |_,_,_,_,.nil,s=>s
 |_,_,_,_,.cons r t,s=>.cons r (bL.append t s)
theorem bL.take:∀{xs:List V} {us:cF} (n:Nat),bL xs us->bL (xs.take n) (us.take n)
 |_,_,0,_=>.nil
 |_,_,_+1,.nil=>.nil
 |_,_,n+1,.cons r t=>.cons r (bL.take n t)
theorem bL.drop:∀{xs:List V} {us:cF} (n:Nat),bL xs us->bL (xs.drop n) (us.drop n)
 |_,_,0,r=>r
 |_,_,_+1,.nil=>.nil
 |_,_,n+1,.cons _ t=>bL.drop n t
def pC:Option V->Option Value->Prop
 |some v,ε u=>RelV v u
 |none,ζ=>True
 |_,_=>False
def KV{κ:Type}:List (κ×V)->List (κ×Value)->Prop:=Paired λ(p:κ×V) (q:κ×Value)=>p.1=q.1/\RelV p.2 q.2
def kV:Key->V
 |.inl i=>.int i
 |.inr x=>.str x
inductive HO where
  |lst (xs:List V)
  |tup (xs:List V)
  |dK (aR:List (Key×V))|dT (aR:4.8)
  |set (S:Int->Bool)(n:Nat)
  |ins (C dx:Addr)(fs:List (Str×V))
  |own (x:Addr)
  |xd (fs:List (Str×V))
  |met (f x:Addr)
  |Br (lo hi:Int)
  |za (o:Obj)(u:HO)
  |Wt (ps:17.4)
  |ext (φ:Heap->Prop)
abbrev Hp:=Addr->Option HO
def upd(H:Hp)(a:Addr)(o:HO):Hp:=λb=>if b=a then ε o else H b
def aN:upd H a o a=ε o:=by unfold upd;rw[if_pos rfl]
def aB(h:b≠a):upd H a o b=H b:=by unfold upd;rw[if_neg h]
def cw{H:Hp}(h:H a=ε o)(h':H b=ζ):a≠b:=by lia
def fY(H:Hp)(b:Addr)(xs:List V):Prop:=H b=ε (.tup xs)\/∃ob,H b=ε (.za ob (.tup xs))
def fY.ne(t:fY H b xs)(n:b≠a):fY (upd H a o) b xs:=by
 rcases t with t|⟨ob,t⟩
 .exact .inl (by rw[aB n];exact t)
 .exact .inr ⟨ob,by rw[aB n];exact t⟩
def fY.new(t:fY H b xs)(n:H a=ζ):fY (upd H a o) b xs:=t.ne λz=>by
 subst z
 rcases t with t|⟨ob,t⟩<;>rw[n]at t<;>cases t
theorem fY.dT{H:Hp}{a b:Addr}{o:HO}{xs:List V}{aR:4.8}(t:fY H b xs)(e:H a=ε (.dT aR)):fY (upd H a o) b xs:=t.ne λz=>by
 subst z
 rcases t with t|⟨ob,t⟩<;>rw[e]at t<;>cases t
section
variable (P:4.6)(w:World)
def dS(H:Hp)(h:Heap)(a:Addr):HO->Prop
 |.lst xs=>xs.length<=sizeLine/\∃(its:cF) (n:Nat),bL xs its/\h.get? a=ε 9.3
 |.tup xs=>xs.length<=sizeLine/\∃its:cF,bL xs its/\IsTup h a its.toArray
 |.dK aR=>aR.length<=sizeLine/\21.8=θ/\∃vs,KV aR vs/\h.DictOf (eu P w) a vs
 |.dT aR=>aR.length<=sizeLine/\21.8=θ/\∃xs:List (List Key×Addr×Value),
   Paired (λ(p:List Key×V) (q:List Key×Addr×Value)=>p.1=q.1/\fY H q.2.1 (p.1.map kV)/\RelV p.2 q.2.2) aR xs/\
   ∃o es ep,h.get? a=ε o/\o.ExactDict/\o.data=.dict es ep/\es.toList=xs.map (entryOfKey (tupleKind (eu P w)))/\(xs.map (·.1)).Nodup
 |.set S n=>h.SetOf (intKind P w) a S n
 |.ins C dx fs=>H dx=ε (.own a)/\fs.length<=1000/\dx≠a/\h.get? a=ε (PySem.W.instObj C dx)/\
   ∃mA,h.Ns1 dx mA/\(∀f,pC (fs.lookup f) (mA f))/\PySem.Within mA (fs.map (·.1))
 |.own _=>∃o,h.get? a=ε o
 |.xd fs=>∃mA,h.Ns1 a mA/\∀f,pC (fs.lookup f) (mA f)
 |.Br lo hi=>∃t u v,h.get? a=ε 1.5
 |.za o u=>h.get? a=ε o/\dS H h a u
 |.Wt ps=>h.get? a=ε {cls:=.none,data:=.fields ps}
 |.met f x=>h.get? a=ε (PySem.W.methodObj 10.3 (.ref x))
 |.ext φ=>φ h/\(∃o,h.get? a=ε o)/\∀h1 h2:Heap,φ h1->(∀o,h1.get? a=ε o->h2.get? a=ε o)->φ h2
def qP(H:Hp)(h:Heap):Prop:=∀a o,H a=ε o->dS P w H h a o
end
section
variable {P:4.6}{w:World}{H H':Hp}{h h':Heap}{a:Addr}{o:HO}
theorem dS.lt(x:dS P w H h a o):a<h.objs.size:=by
 cases o with
 |lst xs=>obtain⟨_,_,_,_,e⟩:=x;exact aba e
 |tup xs=>obtain⟨_,_,_,p⟩:=x;exact p.lt
 |dK aR=>obtain⟨_,_,_,_,o,_,_,e,_⟩:=x;exact aba e
 |dT aR=>obtain⟨_,_,_,_,o,_,_,e,_⟩:=x;exact aba e
 |set S n=>obtain⟨o,_,_,_,e,_⟩:=x;exact aba e
 |ins C dx fs=>obtain⟨_,_,_,e,_⟩:=x;exact aba e
 |own y=>obtain⟨_,e⟩:=x;exact aba e
 |xd fs=>obtain⟨_,⟨_,_,_,e,_⟩,_⟩:=x;exact aba e
 |Br lo hi=>obtain⟨_,_,_,e⟩:=x;exact aba e
 |za ob u=>obtain⟨e,_⟩:=x;exact aba e
 |Wt ps=>exact aba (show h.get? a=ε _ from x)
 |met f y=>exact aba (show h.get? a=ε _ from x)
 |ext φ=>obtain⟨_,⟨_,e⟩,_⟩:=x;exact aba e
theorem Paired.YH:∀{acG:List α} {acH:List β},Paired F acG acH->(∀a b,F a b->G a b)->Paired G acG acH
 |_,_,.nil,_=>.nil
 |_,_,.cons r t,f=>.cons (f _ _ r) (Paired.YH t f)
theorem dS.yb(x:dS P w H h a o)(k:∀b u,(b=a\/H b=ε (.own a))->h.get? b=ε u->h'.get? b=ε u)
  (ho:∀b,H b=ε (.own a)->H' b=ε (.own a))(ht:∀b xs,fY H b xs->fY H' b xs):dS P w H' h' a o:=by
 induction o with
 |lst xs=>obtain⟨z,its,n,r,e⟩:=x;exact⟨z,its,n,r,k _ _ 15.6 e⟩
 |tup xs=>obtain⟨z,its,r,ob,e,c⟩:=x;exact⟨z,its,r,ob,k _ _ 15.6 e,c⟩
 |dK aR=>obtain⟨z,y,vs,r,ob,es,ep,e,c⟩:=x;exact⟨z,y,vs,r,ob,es,ep,k _ _ 15.6 e,c⟩
 |dT aR=>
   obtain⟨z,y,xs,r,ob,es,ep,e,c⟩:=x;exact⟨z,y,xs,Paired.YH r λp q z=>⟨z.1,ht _ _ z.2.1,z.2.2⟩,ob,es,ep,k _ _ 15.6 e,c⟩
 |set S n=>obtain⟨ob,es,ep,t,e,c⟩:=x;exact⟨ob,es,ep,t,k _ _ 15.6 e,c⟩
 |ins C dx fs=>
   obtain⟨d,z,ne,e,mA,⟨od,es,ep,e2,c⟩,r⟩:=x;exact⟨ho _ d,z,ne,k _ _ 15.6 e,mA,⟨od,es,ep,k _ _ (.inr d) e2,c⟩,r⟩
 |own y=>obtain⟨ob,e⟩:=x;exact⟨ob,k _ _ 15.6 e⟩
 |xd fs=>obtain⟨mA,⟨od,es,ep,e,c⟩,r⟩:=x;exact⟨mA,⟨od,es,ep,k _ _ 15.6 e,c⟩,r⟩
 |Br lo hi=>obtain⟨t,u,v,e⟩:=x;exact⟨t,u,v,k _ _ 15.6 e⟩
 |za ob u ih=>obtain⟨e,q⟩:=x;exact⟨k _ _ 15.6 e,ih q⟩
 |Wt ps=>
   have e:=x;exact k a _ 15.6 e
 |met f y=>
   have e:=x;exact k a _ 15.6 e
 |ext φ=>obtain⟨p,⟨o,e⟩,st⟩:=x;exact⟨st _ _ p λo q=>k _ _ 15.6 q,⟨o,k _ _ 15.6 e⟩,st⟩
theorem qP.lt(x:24.9)(e:H a=ε o):a<h.objs.size:=(x a o e).lt
theorem qP.fresh(x:24.9)(e:h.objs.size<=a):H a=none:=by
 cases q:H a with
 |none=>rfl
 |some u=>exact absurd (abc (x.lt q) e) (ac3 _)
def qP.kept(x:24.9)(k:∀b u,h.get? b=ε u->h'.get? b=ε u):qP P w H h':=λa o e=>
 (x a o e).yb (λb u _ q=>k b u q) (λ_ q=>q) λ_ _ q=>q
def qP.laid(x:24.9)(k:∀b u,h.get? b=ε u->h'.get? b=ε u)(hp:h.objs.size<=a)(new:dS P w (upd H a o) h' a o):qP P w (upd H a o) h':=λb u e=>by
 have hn:=x.fresh hp
 by_cases hb:b=a
 .subst hb;rw[aN]at e;cases e;exact new
 .rw [aB hb]at e;exact(x b u e).yb (λc v _ q=>k c v q) (λc q=>by rw[aB (cw q hn)];exact q) λc xs q=>q.new hn
end
def Rd(H:Hp)(a:Addr)(u:HO):Prop:=H a=ε u\/∃o,H a=ε (.za o u)
def Rd.ok(r:Rd H a u)(x:24.9):dS P w H h a u:=by
 rcases r with r|⟨o,r⟩
 .exact x a u r
 .obtain ⟨_,q⟩:=x a _ r;exact q
def Mut:Option HO->Prop
 |some (.lst _)=>True
 |some (.dK _)=>True
 |some (.dT _)=>True
 |some (.set _ _)=>True
 |some (.ins _ _ _)=>True
 |some (.ext _)=>True
 |_=>False
section
variable {P:4.6}{w:World}{H:Hp}{h h':Heap}{x e:Addr}{o':HO}
def qP.write(ok:24.9)(mu:Mut (H x))(he:e=x\/H e=ε (.own x))(k:∀b u,b≠e->h.get? b=ε u->h'.get? b=ε u)(Tp:∃u,h'.get? e=ε u)
  (new:dS P w (upd H x o') h' x o'):qP P w (upd H x o') h':=λb u q=>by
 have afU:∀c y,H c=ε (.own y)->c≠x:=λc y r z=>by subst z;rw[r]at mu;exact mu
 by_cases hb:b=x
 .subst hb;rw[aN]at q;cases q;exact new
 .rw [aB hb]at q;by_cases hbe:b=e
  .have q':H b=ε (.own x):=by
    rcases he with z|z;.grind
    .grind
   rw[q]at q';cases q';obtain⟨v,hv⟩:=Tp;exact⟨v,by rw[hbe];exact hv⟩
  .refine (ok b u q).yb (λc v hc r=>k c v ?_ r) (λc r=>by rw[aB (afU c b r)];exact r) λc xs r=>r.ne λz=>by
    subst z;rcases r with r|⟨ob,r⟩<;>rw[r]at mu<;>exact mu
   rcases hc with rfl|hc;.grind
   .grind
end
structure Un(fs ex:4.0)(H H':Hp)(h h':Heap):Prop where
 keep:∀b o,h.get? b=ε o->H b=ζ->b∉fs->b∉ex->h'.get? b=ε o
 slot:∀b o,h.get? b=ε o->H b=ζ->b∈fs->b∉ex->∃sl,h'.get? b=ε {o with slots:=sl}
 free:∀b o,h.get? b=ε o->H b=ζ->b∉ex->H' b=ζ
 there:∀b o,h.get? b=ε o->b∉ex->∃o',h'.get? b=ε o'
 rh:∀b xs,H b=ε (.tup xs)->H' b=ε (.tup xs)
 ri:∀b o u,H b=ε (.za o u)->H' b=ε (.za o u)
 sj:∀b ps,H b=ε (.Wt ps)->∃more,H' b=ε (.Wt (ps++more))
section
variable {fs ex:4.0}{H H1:Hp}{h h1 h':Heap}{a x e:Addr}{o:HO}
def Un.any(u:Un fs ex H H1 h h1)(q:h.get? b=ε ob)(n:H b=ζ)(hx:b∉ex):∃sl,h1.get? b=ε {ob with slots:=sl}:=by
 by_cases hb:b∈fs
 .exact u.slot b ob q n hb hx
 .exact ⟨ob.slots,u.keep b ob q n hb hx⟩
def Un.kept(k:∀b u,h.get? b=ε u->h'.get? b=ε u):Un fs ex H H h h':=
 ⟨λb ob q _ _ _=>k b ob q,λb ob q _ _ _=>⟨ob.slots,k b ob q⟩,λ_ _ _ n _=>n,λb ob q _=>⟨ob,k b ob q⟩,λ_ _ q=>q,λ_ _ _ q=>q,λ_ ps q=>⟨#[],by rw[q];simp⟩⟩
def Un.refl:Un fs ex H H h h:=Un.kept λ_ _ q=>q
def Un.laid(k:∀b u,h.get? b=ε u->h'.get? b=ε u)(hp:h.objs.size<=a)(hn:H a=ζ):Un fs ex H (upd H a o) h h' where
 keep:=λb u q _ _ _=>k b u q
 slot:=λb u q _ _ _=>⟨u.slots,k b u q⟩
 free:=λb u q n _=>by rw[aB (abn (abc (aba q) hp))];exact n
 there:=λb u q _=>⟨u,k b u q⟩
 rh:=λb xs q=>by rw[aB (cw q hn)];exact q
 ri:=λb u xs q=>by rw[aB (cw q hn)];exact q
 sj:=λb ps q=>⟨#[],by rw[aB (cw q hn),q];simp⟩
def Un.write(mu:Mut (H x))(he:e=x\/H e=ε (.own x))(k:∀b u,b≠e->h.get? b=ε u->h'.get? b=ε u)(Tp:∃u,h'.get? e=ε u):Un fs ex H (upd H x o) h h':=by
 have hx:∀b,H b=ζ->b≠x:=λb n z=>by subst z;rw[n]at mu;exact mu
 have hb:∀b,H b=ζ->b≠e:=λb n z=>by grind
 have hm:∀b u,H b=ε u->¬Mut (ε u)->b≠x:=λb u q nm z=>by subst z;rw[q]at mu;exact nm mu
 refine⟨λb u q n _ _=>k b u (hb b n) q,λb u q n _ _=>⟨u.slots,k b u (hb b n) q⟩,λb u q n _=>by rw[aB (hx b n)];exact n,λb u q _=>?_,
  λb xs q=>by rw[aB (hm b _ q λz=>z)];exact q,λb u xs q=>by rw[aB (hm b _ q λz=>z)];exact q,λb ps q=>⟨#[],by rw[aB (hm b _ q λz=>z),q];simp⟩⟩
 by_cases hbe:b=e
 .grind
 .grind
end
def trk(h:Heap)(H:Hp):List Addr:=(List.range h.objs.size).filter λa=>(H a).isSome
def DC(h:Heap)(H:Hp):Heap:=PySem.W.hideAll h (trk h H)
def MD(h:Heap)(H:Hp):(DC h H).objs.size=h.objs.size:=PySem.W.hideAll_size _ _
def Ou(e:h.get? b=ε o)(n:H b=ζ):(DC h H).get? b=ε o:=
 PySem.W.hideAll_get _ e λhm=>by
  have q:=(ain.mp hm).2;rw[n]at q;simp at q
theorem Tq(e:(DC h H).get? b=ε o):h.get? b=ε o/\H b=none:=by
 have e':=PySem.W.of_hideAll (trk h H) e
 refine⟨e',?_⟩
 cases q:H b with
 |none=>rfl
 |some x=>
   have hm:b∈trk h H:=ain.mpr ⟨afN.mpr (aba e'),by simp[q]⟩;have z:(DC h H).get? b=none:=PySem.W.hideAll_none (trk h H) hm;rw[z]at e;cases e
def Tr(g h:Heap)(L:Addr):de:=(List.range h.objs.size).filterMap λa=>if a=L\/(g.get? a).isSome=η then ζ else(h.get? a).map λo=>(a,o)
def rest(g h:Heap)(L d:Addr):de:=(Tr g h L).filter λp=>ι (p.1≠d)
structure Mod(K:aq)(mg:cX)(base:Heap):Prop where
 kin:K.In base
 glob:base.Ns mainGlobals mg
 blt:∃mb,base.Ns builtinsNs mb/\∀x:Str,x≠"__name__"->mb x=bootBuiltins x
 nolimit:base.NoLimit
structure Cx where
 prog:Program
 w:World
 K:aq
 mg:cX
 base:Heap
 A:Around
 N:List Str
 jt:Shared
 Ov:Hp
 env:Env
 outer:List Env
 stack:List Env
 ex:List Addr
 fn:Str->Bool
 calm:Bool
 pn:de
 xe:eL
def qQ(l:16.1):List Addr:=l.filterMap (·.frame)
abbrev Cx.fs(X:Cx):List Addr:=qQ X.outer
def Vis(sc:Scope)(x:Str):Prop:=sc.names.lookup x=ε .local\/sc.names.lookup x=ε .cell\/sc.names.lookup x=ε .free
def Loc(sc:Scope)(x:Str):Prop:=sc.names.lookup x=ε .local\/sc.names.lookup x=ε .cell
def Look(env:Env)(h:Heap)(m:cX)(x:Str)(u:Value):Prop:=
 (env.kindOf x=ε .local/\m x=ε u)\/((env.kindOf x=ε .cell\/env.kindOf x=ε .free)/\∃c,env.cells.lookup x=ε c/\h.IsCell c (ε u))
structure Cx.Ok(X:Cx):Prop where
 mod:Mod X.K X.mg X.base
 kind:X.env.scope.kind=.function
 glob:X.env.globals=mainGlobals
 blt:X.env.builtins=builtinsNs
 above:X.jt.heap.objs.size<=X.env.locals
 inj:∀x y c,X.env.cells.lookup x=ε c->X.env.cells.lookup y=ε c->x=y
 has:∀x,(X.env.kindOf x=ε .cell\/X.env.kindOf x=ε .free)->∃c,X.env.cells.lookup x=ε c
 Oc:∀x c,X.fn x=η->X.env.cells.lookup x=ε c->X.jt.heap.objs.size<=c
 hd:X.calm=η->X.A.handled=ζ
 frames:X.A.frames=ε X.stack
 Ow:X.stack=X.outer\/(X.stack=X.env::X.outer/\X.env.frame=ε X.env.locals)
 Ts:∀b∈X.ex,b≠X.env.locals/\∀x c,X.env.cells.lookup x=ε c->c≠b
 bs:∀b o,X.base.get? b=ε o->X.jt.heap.get? b=ε o/\X.Ov b=ζ
 Ib:X.base.objs.size<=X.jt.heap.objs.size
 yc:∀b o,X.base.get? b=ε o->b∉X.ex
 zb:∀b∈X.ex,b∉X.fs
 jX:X.jt.heap.FunFrames X.base X.outer
 Fz:∀b∈X.fs,X.Ov b=ζ
structure Inv(X:Cx)(pins:de)(σ:List (Option V))(H:Hp)(s:Shared):Prop where
 ok:X.Ok
 os:s.os=X.jt.os
 bare:AllBare s.gens
 base:Un X.fs X.ex X.Ov H X.jt.heap s.heap
 loc:∃m,s.heap.Ns X.env.locals m/\∀(i:Nat) (x:Str) (v:V),X.N[i]?=ε x->σ[i]?=ε (ε v)->Vis X.env.scope x->∃u,RelV v u/\Look X.env s.heap m x u
 cell:∀x c,X.env.cells.lookup x=ε c->∃v,s.heap.IsCell c v
 free:H X.env.locals=ζ
 iZ:∀x c,X.env.cells.lookup x=ε c->H c=ζ
 pin:∀p∈X.pn++pins,s.heap.get? p.1=ε p.2/\H p.1=ζ/\p.1≠X.env.locals/\p.1∉X.fs/\∀v,p.2.data≠.cell v
 bV:qP X.prog X.w H s.heap
 len:σ.length=X.N.length
section
variable {X:Cx}{pins:de}{σ:List (Option V)}{H H':Hp}{s:Shared}{h':Heap}
def Cx.Ok.afV(ok:X.Ok)(e:X.base.get? b=ε o):b∉X.fs:=λhb=>by
 have:=(ok.jX.mem hb).1
 rw[e]at this;cases this
theorem Inv.bs(I:0.5):∀b o,X.base.get? b=ε o->s.heap.get? b=ε o/\H b=none:=λ14=>
 ⟨I.base.keep b o (I.ok.bs b o e).1 (I.ok.bs b o e).2 (I.ok.afV e) (I.ok.yc b o e),I.base.free b o (I.ok.bs b o e).1 (I.ok.bs b o e).2 (I.ok.yc b o e)⟩
def Inv.bk(I:0.5):∀b o,X.base.get? b=ε o->s.heap.get? b=ε o:=λ14=>(I.bs b o e).1
theorem Inv.mod(I:0.5):Mod X.K X.mg X.base:=I.ok.mod
def Inv.o7(I:0.5):X.K.In s.heap:=I.ok.mod.kin.keeps I.bk
theorem Inv.lt(I:0.5):X.env.locals<s.heap.objs.size:=let⟨_,hn,_⟩:=I.loc;hn.lt
def Inv.sz(I:0.5):X.jt.heap.objs.size<=s.heap.objs.size:=acw I.ok.above (afY I.lt)
def Inv.acK(I:0.5)(h:s.heap.objs.size<=a):a∉X.fs:=λhb=>by
 obtain⟨_,o,ho,_⟩:=I.ok.jX.mem hb
 exact absurd (abc (aba ho) (acw I.sz h)) (ac3 _)
def Inv.SO(I:0.5):∀x c,X.env.cells.lookup x=ε c->c≠X.env.locals:=λx c e z=>by
 obtain⟨v,o,ho,hd⟩:=I.cell x c e
 obtain⟨m,⟨o',es,ep,Bt,tW,_⟩,_⟩:=I.loc
 rw[z,Bt]at ho;cases ho;rw[tW]at hd;cases hd
theorem Inv.jX(I:0.5):s.heap.FunFrames X.base X.outer:=by
 have all:∀(l:16.1),(∀b∈qQ l,b∈X.fs)->X.jt.heap.FunFrames X.base l->s.heap.FunFrames X.base l:=by
  intro l;induction l with
  |nil=>intro _ _;trivial
  |cons env r ih=>
    intro hs hl;obtain⟨hk,⟨L,o,hf,hn,ho,hd⟩,hr⟩:=hl;have hL:=hs L (by unfold qQ;rw[List.filterMap_cons,hf];exact List.mem_cons_self);obtain⟨sl,e⟩:=I.base.slot L o ho (I.ok.Fz L hL) hL λz=>I.ok.zb L z hL;exact⟨hk,⟨L,_,hf,hn,e,hd⟩,ih (λ10=>hs b (by unfold qQ;rw[List.filterMap_cons,hf];exact List.mem_cons_of_mem _ hb)) hr⟩
 exact all X.outer (λ_ hb=>hb) I.ok.jX
theorem Inv.stack(I:0.5):s.heap.FunFrames X.base X.stack:=by
 rcases I.ok.Ow with e|⟨e,hf⟩
 .rw [e];exact I.jX
 .rw [e];obtain⟨m,hn,_⟩:=I.loc;refine .cons (by rw[I.ok.kind];decide) hf hn ?_ I.jX;exact Heap.get?_none_of_le (acw I.ok.Ib I.ok.above)
def Inv.nz(I:0.5):∀b∈qQ X.stack,b∈X.env.locals::X.fs:=λ10=>by
 rcases I.ok.Ow with e|⟨e,hf⟩
 .grind
 .rw [e]at hb;unfold qQ at hb;rw[List.filterMap_cons,hf]at hb;exact hb
def Inv.DD(I:0.5):∀b∈qQ X.stack,H b=none:=λ10=>by
 rcases aa9.mp (I.nz b hb)with e|hb
 .rw [e];exact I.free
 .obtain ⟨_,o,ho,_⟩:=I.ok.jX.mem hb;exact I.base.free b o ho (I.ok.Fz b hb) λz=>I.ok.zb b z hb
def Inv.step{ch:4.0}(I:0.5)
  (SQ:17.8)
  (keep:∀b o,b≠X.env.locals->b∉X.fs->b∉ch->s.heap.get? b=ε o->H b=ζ->h'.get? b=ε o)
  (slot:∀b o,b≠X.env.locals->b∈X.fs->b∉ch->s.heap.get? b=ε o->H b=ζ->∃sl,h'.get? b=ε {o with slots:=sl})(free:∀b o,b∉ch->s.heap.get? b=ε o->H b=ζ->H' b=ζ)
  (there:∀b o,b∉ch->s.heap.get? b=ε o->∃o',h'.get? b=ε o')
  (rh:∀b xs,H b=ε (.tup xs)->H' b=ε (.tup xs))(ri:∀b o u,H b=ε (.za o u)->H' b=ε (.za o u))(sj:∀b ps,H b=ε (.Wt ps)->∃more,H' b=ε (.Wt (ps++more)))
  (ns:∀m,s.heap.Ns X.env.locals m->h'.Ns X.env.locals m)(bV:qP X.prog X.w H' h')(hg:AllBare g'):
  Inv X pins σ H' {s with heap:=h',gens:=g',drawn:=d',toks:=t'}:=by
 have neL:∀b o,X.jt.heap.get? b=ε o->b≠X.env.locals:=λ14=>abn (abc (aba e) I.ok.above)
 have neC:∀b o,X.jt.heap.get? b=ε o->b∉X.ex->b∉ch:=λb o e hx hb=>by
  rcases(SQ b hb).1 with z|z;.grind
  .exact absurd (abc (aba e) z) (ac3 _)
 have cellK:∀x c,X.env.cells.lookup x=ε c->∀v,s.heap.IsCell c v->h'.IsCell c v:=λx c e v ⟨o,ho,hd⟩=>by
  have nch:=λz=>(SQ c z).2.2.1 x c e rfl;by_cases hc:c∈X.fs;.obtain ⟨sl,q⟩:=slot c o (I.SO x c e) hc nch ho (I.iZ x c e);exact⟨_,q,hd⟩
  .exact ⟨o,keep c o (I.SO x c e) hc nch ho (I.iZ x c e),hd⟩
 refine⟨I.ok,I.os,hg,⟨λ11=>?_,λ11=>?_,λb o e n hx=>?_,λb o e hx=>?_,λb xs e=>rh b xs (I.base.rh b xs e),λb o xs e=>ri b o xs (I.base.ri b o xs e),λb ps e=>?_⟩,?_,λx c e=>?_,?_,λx c e=>?_,λ21=>?_,bV,I.len⟩
 .exact keep b o (neL b o e) hb (neC b o e hx) (I.base.keep b o e n hb hx) (I.base.free b o e n hx)
 .obtain ⟨sl,e1⟩:=I.base.slot b o e n hb hx;obtain⟨Tt,e2⟩:=slot b _ (neL b o e) hb (neC b o e hx) e1 (I.base.free b o e n hx);exact⟨Tt,e2⟩
 .obtain ⟨o',e1⟩:=I.base.there b o e hx;exact free b o' (neC b o e hx) e1 (I.base.free b o e n hx)
 .obtain ⟨o',e1⟩:=I.base.there b o e hx;exact there b o' (neC b o e hx) e1
 .obtain ⟨m1,e1⟩:=I.base.sj b ps e;obtain⟨m2,e2⟩:=sj b _ e1;exact⟨m1++m2,by rw[e2,Array.append_assoc]⟩
 .obtain ⟨m,hn,hl⟩:=I.loc;refine⟨m,ns m hn,λi x v e1 e2 e3=>?_⟩;obtain⟨u,r,l⟩:=hl i x v e1 e2 e3;refine⟨u,r,?_⟩;rcases l with l|⟨k,c,e,z⟩;.exact .inl l
  .exact .inr ⟨k,c,e,cellK x c e _ z⟩
 .obtain ⟨v,z⟩:=I.cell x c e;exact⟨v,cellK x c e v z⟩
 .obtain ⟨m,⟨o,_,_,ho,_⟩,_⟩:=I.loc;exact free _ o (λz=>(SQ _ z).2.1 rfl) ho I.free
 .obtain ⟨v,o,ho,hd⟩:=I.cell x c e;exact free c o (λz=>(SQ c z).2.2.1 x c e rfl) ho (I.iZ x c e)
 .obtain ⟨e,n,ne,nf,d⟩:=I.pin p hp;have nch:=λz=>(SQ p.1 z).2.2.2 p hp rfl;exact⟨keep p.1 p.2 ne nf nch e n,free p.1 p.2 nch e n,ne,nf,d⟩
def Inv.un(I:0.5)(u:Un X.fs [] H H' s.heap h')(bV:qP X.prog X.w H' h'):Inv X pins σ H' 16.5:=by
 obtain⟨m,⟨o,es,ep,ho,r⟩,_⟩:=id I.loc
 obtain⟨sl,hL⟩:=u.any ho I.free 0.2
 exact I.step (g':=s.gens) (d':=s.drawn) (ch:=[]) (λ_ z=>nomatch z) (λb o _ hb _ e n=>u.keep b o e n hb 0.2) (λb o _ hb _ e n=>u.slot b o e n hb 0.2) (λb o _ e n=>u.free b o e n 0.2) (λb o _ e=>u.there b o e 0.2) u.rh u.ri u.sj (λm' hm=>by
  obtain⟨o',FO,ep',Bt,r'⟩:=hm;rw[ho]at Bt;cases Bt;exact⟨_,FO,ep',hL,r'⟩) bV I.bare
def Inv.call(I:0.5)(u:Un (qQ X.stack) ch H H' s.heap h')(bV:qP X.prog X.w H' h')(hg:AllBare g')
  (SQ:17.8):
  Inv X pins σ H' {s with heap:=h',gens:=g',drawn:=d',toks:=t'}:=by
 obtain⟨m,⟨o,es,ep,ho,r⟩,_⟩:=id I.loc
 obtain⟨sl,hL⟩:=u.any ho I.free λz=>(SQ _ z).2.1 rfl
 exact I.step (ch:=ch) SQ (λb o hL hb hc e n=>u.keep b o e n (λz=>(aa9.mp (I.nz b z)).elim hL hb) hc) (λb o _ _ hc e n=>u.any e n hc) (λb o hc e n=>u.free b o e n hc) (λb o hc e=>u.there b o e hc) u.rh u.ri u.sj (λm' hm=>by
  obtain⟨o',FO,ep',Bt,r'⟩:=hm;rw[ho]at Bt;cases Bt;exact⟨_,FO,ep',hL,r'⟩) bV hg
def Inv.turned(I:0.5)(k:∀b o,b≠it->s.heap.get? b=ε o->h'.get? b=ε o)(hn:H it=ζ)(hL:it≠X.env.locals)
  (h1:it∈X.ex\/X.jt.heap.objs.size<=it)(h2:∀x c,X.env.cells.lookup x=ε c->c≠it)(h3:∀p∈X.pn++pins,p.1≠it):Inv X pins σ H 16.5:=by
 refine I.step (g':=s.gens) (d':=s.drawn) (ch:=[it]) (λ10=>?_) (λb o _ _ hc e _=>k b o (λz=>hc (by simp[z])) e) (λb o _ _ hc e _=>⟨o.slots,k b o (λz=>hc (by simp[z])) e⟩) (λ_ _ _ _ n=>n)
  (λb o hc e=>⟨o,k b o (λz=>hc (by simp[z])) e⟩) (λ_ _ e=>e) (λ_ _ _ e=>e) (λb ps e=>⟨#[],by rw[e];simp⟩) (λm hm=>?_) (λb u e=>?_) I.bare
 .grind
 .obtain ⟨o,es,ep,ho,r⟩:=hm;exact⟨o,es,ep,k _ o (afh hL) ho,r⟩
 .refine (I.bV b u e).yb (λc v hc q=>k c v ?_ q) (λ_ q=>q) λ_ _ q=>q;rcases hc with z|z;.grind
  .grind
def Inv.tok(I:0.5)(t:Nat):Inv X pins σ H {s with toks:=t}:=I.un (h':=s.heap) (t':=t) Un.refl I.bV
theorem Inv.kept(I:0.5)(k:∀b u,s.heap.get? b=ε u->h'.get? b=ε u):Inv X pins σ H 16.5:=I.un (Un.kept k) (I.bV.kept k)
theorem Inv.laid(I:0.5)(k:∀b u,s.heap.get? b=ε u->h'.get? b=ε u)(hp:s.heap.objs.size<=a)(new:dS X.prog X.w (upd H a o) h' a o):
  Inv X pins σ (upd H a o) 16.5:=I.un (Un.laid k hp (I.bV.fresh hp)) (I.bV.laid k hp new)
theorem Inv.write(I:0.5)(mu:Mut (H x))(he:e=x\/H e=ε (.own x))(k:∀b u,b≠e->s.heap.get? b=ε u->h'.get? b=ε u)(Tp:∃u,h'.get? e=ε u)
  (new:dS X.prog X.w (upd H x o) h' x o):Inv X pins σ (upd H x o) 16.5:=I.un (Un.write mu he k Tp) (I.bV.write mu he k Tp new)
def Inv.qR(I:0.5)(h:∀p∈pins',s.heap.get? p.1=ε p.2/\H p.1=ζ/\p.1≠X.env.locals/\p.1∉X.fs/\∀v,p.2.data≠.cell v):Inv X pins' σ H s:=
 ⟨I.ok,I.os,I.bare,I.base,I.loc,I.cell,I.free,I.iZ,λ21=>(abg.mp hp).elim (λz=>I.pin p (abC _ z)) (h p),I.bV,I.len⟩
def FP{N:1.4}(hN:N.Nodup){i j:Nat}(a:N[i]?=ε x)(b:N[j]?=ε x):i=j:=by
 obtain⟨h1,e1⟩:=abp.mp a
 obtain⟨h2,e2⟩:=abp.mp b
 exact(List.getElem_inj hN).mp (e1.trans e2.symm)
def Cr(I:0.5)(hN:X.N.Nodup)(hi:X.N[i]?=ε x)(hx:Loc X.env.scope x)(r:RelV v u)
  (h:∀s',Inv X pins (σ.set i (ε v)) H s'->(∃a,Heap.SameBut a s.heap s'.heap/\(a=X.env.locals\/X.env.cells.lookup x=ε a))->Q () s')(hf:7.0):wpAny M A (storeName X.env x u) Q E s:=by
 obtain⟨m,hn,hl⟩:=id I.loc
 have Il:(X.env.scope.kind==.class||(X.env.scope.kind==.module&&X.env.locals !=X.env.globals))=false:=by rw[I.ok.kind];rfl
 have acM:i<σ.length:=by rw[I.len];exact(abp.mp hi).1
 have SO:=I.SO
 have tracked:∀{a:Addr} {h':Heap},(∃o,s.heap.get? a=ε o/\H a=ζ)->Heap.SameBut a s.heap h'->qP X.prog X.w H h':=λ{a h'} ha hs b ob e=>by
  refine(I.bV b ob e).yb (λc w' hc q=>(hs.2 c ?_).trans q) (λ_ q=>q) λ_ _ q=>q;rcases hc with rfl|hc;.grind
  .grind
 rcases hx with hk|hk
 .refine wpAny_storeName_local hk hn (λh' hn' hs=>?_) Il;obtain⟨oL,_,_,hoL,_⟩:=id hn;refine h _ ⟨I.ok,I.os,I.bare,⟨λ11=>?_,λ11=>?_,I.base.free,λb o e hx=>?_,I.base.rh,I.base.ri,I.base.sj⟩,⟨_,hn',λj y v' e1 e2 e3=>?_⟩,λy c e=>?_,I.free,I.iZ,λ21=>?_,tracked ⟨oL,hoL,I.free⟩ hs,by simpa using I.len⟩ ⟨_,hs,.inl rfl⟩;.exact (hs.2 b (abn (abc (aba e) I.ok.above))).trans (I.base.keep b o e n hb hx)
  .obtain ⟨sl,e1⟩:=I.base.slot b o e n hb hx;exact⟨sl,(hs.2 b (abn (abc (aba e) I.ok.above))).trans e1⟩
  .obtain ⟨o',e1⟩:=I.base.there b o e hx;exact⟨o',(hs.2 b (abn (abc (aba e) I.ok.above))).trans e1⟩
  .by_cases hj:j=i
   .subst hj;rw[hi]at e1;cases e1;rw[adt acM]at e2;cases e2;exact⟨u,r,.inl ⟨hk,by simp⟩⟩
   .rw [acL (afh hj)]at e2;obtain⟨u',r',q⟩:=hl j y v' e1 e2 e3;refine⟨u',r',?_⟩;rcases q with⟨k,e⟩|⟨k,c,e,z⟩
    .refine .inl ⟨k,?_⟩;have:y≠x:=λe=>hj (FP hN e1 (e ▸ hi));simp[this,e]
    .exact .inr ⟨k,c,e,z.sameBut hs (SO y c e)⟩
  .obtain ⟨w',z⟩:=I.cell y c e;exact⟨w',z.sameBut hs (SO y c e)⟩
  .obtain ⟨e,n,ne,nf,d⟩:=I.pin p hp;exact⟨(hs.2 p.1 ne).trans e,n,ne,nf,d⟩
 .have hfn:X.fn x=true:=by
   rcases hf with z|z;.exact z
   .grind
  obtain⟨c,hc⟩:=I.ok.has x (.inl hk);obtain⟨w',z⟩:=I.cell x c hc;refine wpAny_storeName_cell I.ok.kind hk hc z (λh' hc' hs=>?_);obtain⟨oc,hoc,afZ⟩:=id z;refine h 2.0 ⟨I.ok,I.os,I.bare,⟨λ11=>?_,λ11=>?_,I.base.free,λb o e hx=>?_,I.base.rh,I.base.ri,I.base.sj⟩,⟨m,hn.sameBut hs (Ne.symm (SO x c hc)),λj y v' e1 e2 e3=>?_⟩,λy c' e=>?_,I.free,I.iZ,λ21=>?_,tracked ⟨oc,hoc,I.iZ x c hc⟩ hs,by simpa using I.len⟩ ⟨c,hs,.inr hc⟩;.exact (hs.2 b (abn (abc (aba e) (I.ok.Oc x c hfn hc)))).trans (I.base.keep b o e n hb hx)
  .obtain ⟨sl,e1⟩:=I.base.slot b o e n hb hx;exact⟨sl,(hs.2 b (abn (abc (aba e) (I.ok.Oc x c hfn hc)))).trans e1⟩
  .obtain ⟨o',e1⟩:=I.base.there b o e hx;exact⟨o',(hs.2 b (abn (abc (aba e) (I.ok.Oc x c hfn hc)))).trans e1⟩
  .by_cases hj:j=i
   .subst hj;rw[hi]at e1;cases e1;rw[adt acM]at e2;cases e2;exact⟨u,r,.inr ⟨.inl hk,c,hc,hc'⟩⟩
   .rw [acL (afh hj)]at e2;obtain⟨u',r',q⟩:=hl j y v' e1 e2 e3;refine⟨u',r',?_⟩;rcases q with q|⟨k,c',e,z'⟩;.exact .inl q
    .refine .inr ⟨k,c',e,z'.sameBut hs ?_⟩;rintro rfl;exact hj (FP hN e1 (I.ok.inj _ _ _ e hc ▸ hi))
  .by_cases hcc:c'=c;.grind
   .obtain ⟨w2,z2⟩:=I.cell y c' e;exact⟨w2,z2.sameBut hs hcc⟩
  .obtain ⟨e,n,ne,nf,d⟩:=I.pin p hp;refine⟨(hs.2 p.1 ?_).trans e,n,ne,nf,d⟩;intro q;rw[q,hoc]at e;have q':=adM e;exact d w' (by rw[<-q'];exact afZ)
def zc(I:0.5)(hN:X.N.Nodup)(hi:X.N[i]?=ε x)(hx:Loc X.env.scope x)(r:RelV v u)
  (h:∀s',Inv X pins (σ.set i (ε v)) H s'->Q () s')(hf:7.0):wpAny M A (storeName X.env x u) Q E s:=
 Cr I hN hi hx r (λs' I' _=>h s' I') hf
def Inv.FQ(I:0.5)(ho:s'.os=s.os)(u:Un (qQ X.stack) ch H H' s.heap s'.heap)(bV:qP X.prog X.w H' s'.heap)(hg:AllBare s'.gens)
  (SQ:17.8):Inv X pins σ H' s':=by
 obtain⟨h',g',d',t',o'⟩:=s'
 have e:=ho
 subst e
 exact I.call (g':=g') (t':=t') (d':=d') u bV hg SQ
end
abbrev XK:=Value->Option Addr->Hp->Prop
abbrev St:=List (Option V)
abbrev VK:=V->Hp->Prop
abbrev TE:=St->Hp->VK->Prop
abbrev TT:=St->Hp->(Bool->Hp->Prop)->Prop
abbrev TA:=St->Hp->(List V->Hp->Prop)->Prop
structure Ends where
 nx:St->Hp->Prop
 rt:VK
 bk:St->Hp->Prop:=λ_ _=>False
 ct:St->Hp->Prop:=λ_ _=>False
abbrev TS:=Ends->St->Hp->Prop
inductive EP(X:Cx)(pins:de)(σ:St)(Q:VK)(u:Value)(s':Shared):Prop|mk (v H')(_:Inv X pins σ H' s')(_:RelV v u)(_:Q v H')
def TP(X:Cx)(pins:de)(σ:St)(Q:Bool->Hp->Prop)(b:Bool)(s':Shared):Prop:=∃H',Inv X pins σ H' s'/\Q b H'
def AP(X:Cx)(pins:de)(σ:St)(Q:List V->Hp->Prop)(us:cF)(s':Shared):Prop:=∃vs H',Inv X pins σ H' s'/\bL vs us/\Q vs H'
def SP(X:Cx)(pins:de)(D:Ends)(f:Flow)(s':Shared):Prop:=
 match f with
 |.next=>∃d8 H',Inv X pins d8 H' s'/\D.nx d8 H'
 |.brk=>∃d8 H',Inv X pins d8 H' s'/\D.bk d8 H'
 |.cont=>∃d8 H',Inv X pins d8 H' s'/\D.ct d8 H'
 |.ret u=>∃v d8 H',Inv X pins d8 H' s'/\RelV v u/\D.rt v H'
def PE(X:Cx)(e:Expr)(t:TE):Prop:=
 ∀(pins:de) (s:Shared) (σ:St) (H:Hp) (Q:VK),Inv X pins σ H s->t σ H Q->wpAny 0.4 X.A (eval e X.env) 15.2 X.xe s
def PT(X:Cx)(e:Expr)(t:TT):Prop:=
 ∀(pins:de) (s:Shared) (σ:St) (H:Hp) (Q:Bool->Hp->Prop),Inv X pins σ H s->t σ H Q->wpAny 0.4 X.A (isTrue e X.env (eval e X.env)) (TP X pins σ Q) X.xe s
def PW(X:Cx)(e:Expr)(t:TT):Prop:=
 ∀(whole:Sem Value) (pins:de) (s:Shared) (σ:St) (H:Hp) (Q:Bool->Hp->Prop),Inv X pins σ H s->t σ H Q->wpAny 0.4 X.A (isTrue e X.env whole) (TP X pins σ Q) X.xe s
def PW.pt{X:Cx}{e:Expr}{t:TT}(h:PW X e t):PT X e t:=h _
def PA(X:Cx)(es:6.9)(t:TA):Prop:=
 ∀(pos:Pos) (pins:de) (s:Shared) (σ:St) (H:Hp) (Q:List V->Hp->Prop),Inv X pins σ H s->t σ H Q->wpAny 0.4 X.A (spliced (backTo pos (starEach es X.env))) (AP X pins σ Q) X.xe s
def PS(X:Cx)(st:Stmt)(t:TS):Prop:=
 ∀(pins:de) (s:Shared) (σ:St) (H:Hp) (D:Ends),Inv X pins σ H s->t D σ H->wpAny 0.4 X.A (exec st X.env) (SP X pins D) X.xe s
def ke(X:Cx)(st:List Stmt)(t:TS):Prop:=
 ∀(pins:de) (s:Shared) (σ:St) (H:Hp) (D:Ends),Inv X pins σ H s->t D σ H->wpAny 0.4 X.A (execs st X.env) (SP X pins D) X.xe s
def eU(h:wpAny M A t Q E s)(hQ:∀a s,Q a s->Q' a s):wpAny M A t Q' E s:=abw h hQ λ_ _ x=>x
section
variable {X:Cx}
inductive mi(i:Nat)(σ:St)(H:Hp)(Q:VK):Prop|mk (v)(_:σ[i]?=ε (ε v))(_:Q v H)
def tC(v:V):TE:=λ_ H Q=>Q v H
noncomputable def YI(hN:X.N[i]?=ε x)(hv:Vis X.env.scope x)(hd:1.1:=by decide)(xC:(x==("__classdict__":Str))=false:=by decide):PE X 20.0 (mi i):=by
 intro 2
 obtain⟨v,e,h⟩:=h
 obtain⟨m,hn,hl⟩:=I.loc
 obtain⟨u,r,l⟩:=hl i x v hN e hv
 have fin:EP X pins σ Q u s:=⟨v,H,I,r,h⟩
 rcases l with⟨hk,hm⟩|⟨hk,c,hc,Wu⟩
 .exact wpAny_Name (wpAny_loadName_local I.ok.kind hk hn hm fin) hd
 .rcases hk with hk|hk;.exact wpAny_Name (wpAny_loadName_cell I.ok.kind hk hc Wu fin) hd
  .exact wpAny_Name (wpAny_loadName_free I.ok.kind hk hc Wu fin xC) hd
def b6:PE X (.Constant 17.6 j pos) (tC 17.6):=λ_ _ _ H _ I h=>wpAny_Constant_int ⟨.int i,H,I.tok _,⟨_,rfl⟩,h⟩
def mK:PE X (.Constant (.bool b) j pos) (tC (.bl b)):=λ_ _ _ H _ I h=>Constant_bool ⟨.bl b,H,I,rfl,h⟩
def kf:PE X (.Constant 18.9 j pos) (tC 18.9):=λ_ _ _ H _ I h=>Calls.Constant_str ⟨.str x,H,I.tok _,⟨_,rfl⟩,h⟩
def Gl(X:Cx)(x:Str):Prop:=X.env.kindOf x=ε .globalImplicit
noncomputable def lS(I:0.5)(hg:Gl X x)(hm:X.mg x=ε u)(h:Q u s)
  (hd:1.1:=by decide):wpAny 0.4 X.A (eval 20.0 X.env) Q E s:=
 Calls.Name_function_global I.ok.kind hg (Calls.loadGlobal_global (by rw[I.ok.glob];exact I.mod.glob.keeps I.bk) hm h) hd
noncomputable def nA(I:0.5)(hg:Gl X x)(hm:X.mg x=ζ)(hv:bootBuiltins x=ε u)(h:Q u s)
  (hn:x≠"__name__":=by decide)(hd:1.1:=by decide):wpAny 0.4 X.A (eval 20.0 X.env) Q E s:=by
 obtain⟨mb,h1,h2⟩:=I.mod.blt
 exact Calls.Name_function_global I.ok.kind hg (Calls.loadGlobal_builtin (by rw[I.ok.glob];exact I.mod.glob.keeps I.bk) hm (by rw[I.ok.blt];exact h1.keeps I.bk) ((h2 x hn).trans hv) h) hd
def Tu(hg:Gl X x)(hm:X.mg x=ε u)(r:RelV v u)(hd:1.1:=by decide):PE X 20.0 (tC v):=
 λ_ _ _ H _ I h=>lS I hg hm ⟨v,H,I,r,h⟩ hd
def tY(hg:Gl X x)(hm:X.mg x=ζ)(hv:bootBuiltins x=ε u)(r:RelV v u)(hn:x≠"__name__":=by decide)(hd:1.1:=by decide):PE X 20.0 (tC v):=
 λ_ _ _ H _ I h=>nA I hg hm hv ⟨v,H,I,r,h⟩ hn hd
variable {a b:Expr}{ta tb:TE}{pos:Pos}
def PC(X:Cx)(op:CmpOp)(a b:Expr)(t:TE):Prop:=
 ∀(pins:de) (s:Shared) (σ:St) (H:Hp) (Q:VK),Inv X pins σ H s->t σ H Q->
   wpAny 0.4 X.A (eval a X.env) (λv b8=>wpAny 0.4 X.A (eval b X.env) (λu pE=>wpAny 0.4 X.A (compareOp op v u) 15.2 X.xe pE) X.xe b8) X.xe s
def FR(b:Expr)(h:op≠.In)(h2:op≠.NotIn):behindInMarks op b=false:=by
 have e1:(op==CmpOp.In)=false:=by cases op<;>first|rfl|exact absurd rfl h
 have e2:(op==CmpOp.NotIn)=false:=by cases op<;>first|rfl|exact absurd rfl h2
 cases b<;>simp[behindInMarks,e1,e2]
def tB(t:TE):TT:=λ8=>t σ H λx H1=>∃c,x=.bl c/\Q c H1
noncomputable def YJ(h:PC X op a b t)(h1:23.7:=by first|exact FR _ 0.0 (by decide)|rfl):PE X 16.2 t:=λpins s σ H Q I hw=>wpAny_Compare1 (h pins s σ H Q I hw) h1
def YK(h:PC X op a b t)(h1:23.7:=by first|exact FR _ 0.0 (by decide)|rfl):PT X 16.2 (tB t):=by
 intro pins s σ H Q I hw
 refine wpAny_isTrue_Compare1 (eU (h pins s σ H _ I hw) λv s1 h1=>eU h1 λu s2 h2=>eU h2 λc s3 ⟨x,H1,I1,r1,q1⟩=>?_) h1
 obtain⟨d,rfl,q⟩:=q1
 cases r1
 exact ae9 ⟨H1,I1,q⟩
variable {tA tB':TT}{rest:6.9}
def af0(t u:TT):TT:=λ8=>t σ H λc H1=>if c=η then u σ H1 Q else Q θ H1
def tOr(t u:TT):TT:=λ8=>t σ H λc H1=>if c=η then Q η H1 else u σ H1 Q
def af1(t:TT):TT:=λ8=>t σ H λc H1=>Q (!c) H1
theorem pw_and1(ha:PT X a tA):PW X (.BoolOp .And [a] pos) tA:=by
 intro wh pins s σ H Q I h
 refine isTrue_and (eU (ha pins s σ H Q I h) λc s1 e=>?_)
 cases c with
 |true=>exact isTrue_and_nil e
 |false=>exact e
theorem pw_or1(ha:PT X a tA):PW X (.BoolOp .Or [a] pos) tA:=by
 intro wh pins s σ H Q I h
 refine isTrue_or (eU (ha pins s σ H Q I h) λc s1 e=>?_)
 cases c with
 |false=>exact isTrue_or_nil e
 |true=>exact e
theorem pw_and(ha:PT X a tA)(hb:PW X (.BoolOp .And (b::rest) pos) tB'):PW X 25.4 (af0 tA tB'):=by
 intro wh pins s σ H Q I h
 refine isTrue_and (eU 7.7 λc s1 ⟨H1,I1,q1⟩=>?_)
 cases c with
 |true=>exact hb wh pins s1 σ H1 Q I1 q1
 |false=>exact⟨H1,I1,q1⟩
theorem pw_or(ha:PT X a tA)(hb:PW X (.BoolOp .Or (b::rest) pos) tB'):PW X (.BoolOp .Or (a::b::rest) pos) (tOr tA tB'):=by
 intro wh pins s σ H Q I h
 refine isTrue_or (eU 7.7 λc s1 ⟨H1,I1,q1⟩=>?_)
 cases c with
 |true=>exact⟨H1,I1,q1⟩
 |false=>exact hb wh pins s1 σ H1 Q I1 q1
def YL(ha:PT X a tA):PT X (.UnaryOp .Not a pos) (af1 tA):=by
 intro 2
 exact isTrue_not (ha pins s σ H (λc H1=>Q (!c) H1) I h)
def acO(ta tb:TE):TE:=λ8=>ta σ H λx H1=>∃c,x=.bl c/\if c=η then tb σ H1 Q else Q (.bl θ) H1
def af2(ta tb:TE):TE:=λ8=>ta σ H λx H1=>∃c,x=.bl c/\if c=η then Q (.bl η) H1 else tb σ H1 Q
def acP(ta:TE):TE:=λ8=>ta σ H λx H1=>∃c,x=.bl c/\Q (.bl (!c)) H1
def kW(h:PE X a t):PE X (.BoolOp op [a] pos) t:=λpins s σ H Q I hw=>BoolOp_one (h pins s σ H Q I hw)
theorem YM(ha:PE X a ta)(hb:PE X (.BoolOp .And (b::rest) pos) tb):PE X 25.4 (acO ta tb):=by
 intro 2
 refine BoolOp_and (eU 7.7 λv s1 ⟨x,H1,I1,r1,q1⟩=>?_)
 obtain⟨c,rfl,q1⟩:=q1
 cases r1
 refine ae9 ?_
 cases c with
 |true=>exact hb pins s1 σ H1 Q I1 q1
 |false=>exact⟨.bl θ,H1,I1,rfl,q1⟩
theorem acQ(ha:PE X a ta)(hb:PE X (.BoolOp .Or (b::rest) pos) tb):PE X (.BoolOp .Or (a::b::rest) pos) (af2 ta tb):=by
 intro 2
 refine BoolOp_or (eU 7.7 λv s1 ⟨x,H1,I1,r1,q1⟩=>?_)
 obtain⟨c,rfl,q1⟩:=q1
 cases r1
 refine ae9 ?_
 cases c with
 |false=>exact hb pins s1 σ H1 Q I1 q1
 |true=>exact⟨.bl η,H1,I1,rfl,q1⟩
def YN(ha:PE X a ta):PE X (.UnaryOp .Not a pos) (acP ta):=by
 intro 2
 refine UnaryOp_ (eU 7.7 λv s1 ⟨x,H1,I1,r1,q1⟩=>?_)
 obtain⟨c,rfl,q1⟩:=q1
 cases r1
 exact not_of (ae9 ⟨.bl (!c),H1,I1,rfl,q1⟩)
end
def nD(K:aq)(H:Hp)(a:Addr)(xs:List V):Prop:=
 Rd H a (.lst xs)\/
  ∃(o:Obj) (its:17.4) (n:Nat),K.lookup a=ε o/\o.cls=.type "list"/\o.dict=ζ/\o.data=.seq its n/\its.size<=sizeLine/\bL xs its.toList
def o8(K:aq)(H:Hp)(a:Addr)(xs:List V):Prop:=
 Rd H a (.tup xs)\/
  ∃(o:Obj) (its:17.4) (n:Nat),K.lookup a=ε o/\o.cls=.type "tuple"/\o.data=.seq its n/\its.size<=sizeLine/\bL xs its.toList
noncomputable def af3:Value->Option V
 |.none=>ε .iY
 |.bool b=>ε (.bl b)
 |.int i _=>ε 17.6
 |.str x _=>ε 18.9
 |.bytes b _=>ε (.byt b)
 |.float b _=>ε (.YG b)
 |.ref a=>ε 5.5
 |.type n=>ε (.ty n)
 |_=>ζ
theorem RelV.abs(r:RelV x u):af3 u=ε x:=by
 cases x with
 |iY=>cases r;rfl
 |bl _=>cases r;rfl
 |int _=>obtain⟨t,rfl⟩:=r;rfl
 |str _=>obtain⟨t,rfl⟩:=r;rfl
 |byt _=>obtain⟨t,rfl⟩:=r;rfl
 |YG _=>obtain⟨t,rfl⟩:=r;rfl
 |ref _=>cases r;rfl
 |ty _=>cases r;rfl
def RelV.inj(r:RelV x u)(q:RelV y u):x=y:=adM (r.abs.symm.trans q.abs)
theorem bL.inj:∀{xs ys:List V} {us:cF},bL xs us->bL ys us->xs=ys
 |_,_,_,.nil,.nil=>rfl
 |_,_,_,.cons r t,.cons r' t'=>by rw[r.inj r',bL.inj t t']
section
variable {X:Cx}{pins:de}{σ:St}{H:Hp}{s:Shared}{a:Addr}{xs ys:List V}
def nD.of{K:aq}(h:H a=ε (.lst xs)):nD K H a xs:=.inl (.inl h)
def Inv.list(I:0.5)(h:nD X.K H a xs):∃its:cF,bL xs its/\PlainL s.heap a its.toArray/\xs.length<=sizeLine:=by
 rcases h with h|⟨o,its,n,hk,hc,hd,hs,hz,r⟩
 .obtain ⟨z,its,n,r,e⟩:=h.ok I.bV;exact⟨its,r,⟨_,n,e,rfl,rfl,rfl⟩,z⟩
 .refine ⟨its.toList,r,⟨o,n,I.o7 a o hk,hc,hd,by simpa using hs⟩,?_⟩;have e:=r.length;simp only[abf]at e;lia
def Inv.tuple(I:0.5)(h:o8 X.K H a xs):∃its:cF,bL xs its/\IsTup s.heap a its.toArray/\xs.length<=sizeLine:=by
 rcases h with h|⟨o,its,n,hk,hc,hs,hz,r⟩
 .obtain ⟨z,its,r,p⟩:=h.ok I.bV;exact⟨its,r,p,z⟩
 .refine ⟨its.toList,r,⟨o,I.o7 a o hk,hc,n,by simpa using hs⟩,?_⟩;have e:=r.length;simp only[abf]at e;lia
def Inv.zd(I:0.5)(h:nD X.K H a xs)(h':nD X.K H a ys):xs=ys:=by
 obtain⟨its,r,⟨o,n,e,_,_,d⟩,_⟩:=I.list h
 obtain⟨its',r',⟨o',n',e',_,_,d'⟩,_⟩:=I.list h'
 rw[e]at e';cases e'
 rw[d]at d'
 injection d' with d1 _
 have:its=its':=by simpa using congrArg Array.toList d1
 subst this
 exact r.inj r'
def Inv.vw(I:0.5)(h:o8 X.K H a xs)(h':o8 X.K H a ys):xs=ys:=by
 obtain⟨its,r,⟨o,e,_,n,d⟩,_⟩:=I.tuple h
 obtain⟨its',r',⟨o',e',_,n',d'⟩,_⟩:=I.tuple h'
 rw[e]at e';cases e'
 rw[d]at d'
 injection d' with d1 _
 have:its=its':=by simpa using congrArg Array.toList d1
 subst this
 exact r.inj r'
end
abbrev Cx.Bu(X:Cx)(E:eL):Cx:={X with xe:=E}
abbrev Cx.SR(X:Cx):Cx:=X.Bu λ_ _=>False
theorem Cx.Ok.Bu{X:Cx}(ok:X.Ok)(E:eL):(X.Bu E).Ok:=
 ⟨ok.mod,ok.kind,ok.glob,ok.blt,ok.above,ok.inj,ok.has,ok.Oc,ok.hd,ok.frames,ok.Ow,ok.Ts,ok.bs,ok.Ib,ok.yc,ok.zb,ok.jX,ok.Fz⟩
def Cx.Ok.pM{X:Cx}(ok:(X.Bu E).Ok):X.Ok:=
 ⟨ok.mod,ok.kind,ok.glob,ok.blt,ok.above,ok.inj,ok.has,ok.Oc,ok.hd,ok.frames,ok.Ow,ok.Ts,ok.bs,ok.Ib,ok.yc,ok.zb,ok.jX,ok.Fz⟩
section
variable {X:Cx}{pins:de}{σ:St}{H:Hp}{s:Shared}{E:eL}
theorem Inv.Bu(I:0.5)(E:eL):Inv (X.Bu E) pins σ H s:=⟨I.ok.Bu E,I.os,I.bare,I.base,I.loc,I.cell,I.free,I.iZ,I.pin,I.bV,I.len⟩
theorem Inv.pM(I:Inv (X.Bu E) pins σ H s):Inv X pins σ H s:=⟨I.ok.pM,I.os,I.bare,I.base,I.loc,I.cell,I.free,I.iZ,I.pin,I.bV,I.len⟩
theorem SP.pM(h:SP (X.Bu E) pins D f s'):SP X pins D f s':=by
 cases f with
 |next=>obtain⟨d8,H',I,q⟩:=h;exact⟨d8,H',I.pM,q⟩
 |brk=>obtain⟨d8,H',I,q⟩:=h;exact⟨d8,H',I.pM,q⟩
 |cont=>obtain⟨d8,H',I,q⟩:=h;exact⟨d8,H',I.pM,q⟩
 |ret u=>obtain⟨v,d8,H',I,r,q⟩:=h;exact⟨v,d8,H',I.pM,r,q⟩
theorem ke.SR{st:List Stmt}(h:ke X.SR st t):ke X st t:=λpins s σ H D I hw=>
 abw (h pins s σ H D (I.Bu _) hw) (λ_ _ q=>q.pM) λ22=>False.elim z
end
section
variable {X:Cx}{st:Stmt}{rest:List Stmt}{t u:TS}{e:Expr}{te:TE}{pos:Pos}
def acR:TS:=λD σ H=>D.nx σ H
def af4(t u:TS):TS:=λD σ H=>t {D with nx:=u D} σ H
def KD:ke X [] acR:=λ_ _ σ H _ I h=>ahr ⟨σ,H,I,h⟩
theorem tZ(h1:PS X st t)(h2:ke X rest u):ke X (st::rest) (af4 t u):=by
 intro 17
 refine wpAny_execs_cons (eU (h1 pins s σ H {D with nx:=u D} I h) λf s1 q=>?_)
 cases f with
 |next=>
   obtain⟨d8,H',I',q⟩:=q;exact h2 pins s1 d8 H' D I' q
 |ret v=>exact q
 |brk=>exact q
 |cont=>exact q
theorem DE(h1:PS X st t):ke X [st] t:=by
 intro 17
 refine wpAny_execs_cons (eU (h1 pins s σ H D I h) λf s1 q=>?_)
 cases f with
 |next=>exact ahr q
 |ret v=>exact q
 |brk=>exact q
 |cont=>exact q
def Inv.quiet(I:0.5):interactive X.env=false:=by simp[interactive,I.ok.kind]
def Cs(te:TE):TS:=λD σ H=>te σ H λ_ H1=>D.nx σ H1
def bO(he:PE X e te)(hs:swapsWith e ζ pos.line X.env=pure false:=by rfl):PS X (.Expr e pos) (Cs te):=by
 intro 17
 exact wpAny_Expr_any (eU (he pins s σ H _ I h) λv s1 ⟨x,H1,I1,r1,q1⟩=>⟨σ,H1,I1,q1⟩) I.quiet hs
def Tw(te:TE):TS:=λD σ H=>te σ H D.rt
def eA(he:PE X e te):PS X (.Return (ε e) pos) (Tw te):=by
 intro 17
 exact wpAny_Return_some (eU (he pins s σ H _ I h) λv s1 ⟨x,H1,I1,r1,q1⟩=>⟨x,σ,H1,I1,r1,q1⟩)
def af5(c:TT)(t u:TS):TS:=λD σ H=>c σ H λb H1=>if b=η then t D σ H1 else u D σ H1
theorem Ww(hc:PT X c tc)(ha:ke X a t)(hb:ke X b u):PS X (.If c a b pos) (af5 tc t u):=by
 intro 17
 refine wpAny_If (eU (hc pins s σ H _ I h) λd s1 ⟨H1,I1,q1⟩=>?_)
 cases d with
 |true=>exact ha pins s1 σ H1 D I1 q1
 |false=>exact hb pins s1 σ H1 D I1 q1
def Ox:TS:=λ18=>False
def Oy:PS X st Ox:=λ_ _ _ _ _ _ h=>h.elim
def ME:ke X sts Ox:=λ_ _ _ _ _ _ h=>h.elim
end
abbrev TG:=V->St->Hp->(St->Hp->Prop)->Prop
abbrev TGs:=List V->St->Hp->(St->Hp->Prop)->Prop
def PG(X:Cx)(target:Expr)(t:TG):Prop:=
 ∀(pins:de) (s:Shared) (σ:St) (H:Hp) (v:V) (u:Value) (Q:St->Hp->Prop),Inv X pins σ H s->RelV v u->t v σ H Q->
   wpAny 0.4 X.A (assign target X.env u) (λ_ s'=>∃d8 H',Inv X pins d8 H' s'/\Q d8 H') X.xe s
def Oz(X:Cx)(ts:6.9)(t:TGs):Prop:=
 ∀(pins:de) (s:Shared) (σ:St) (H:Hp) (vs:List V) (us:cF) (Q:St->Hp->Prop),Inv X pins σ H s->bL vs us->t vs σ H Q->
   wpAny 0.4 X.A (assignInOrder ((assignEach ts X.env).map (·.2)) us) (λ_ s'=>∃d8 H',Inv X pins d8 H' s'/\Q d8 H') X.xe s
section
variable {X:Cx}{pos:Pos}
def mM(i:Nat):TG:=λv σ H Q=>Q (σ.set i (ε v)) H
noncomputable def Tz(hN:X.N.Nodup)(hi:X.N[i]?=ε x)(hx:Loc X.env.scope x)(hf:7.0:=by first|exact .inl rfl|exact .inr rfl|assumption):PG X 20.0 (mM i):=by
 intro pins s σ H v u Q I r h
 exact wpAny_assign_Name (zc I hN hi hx r (λs' I'=>⟨_,H,I',h⟩) hf)
def af6:TGs:=λvs σ H Q=>vs=[]/\Q σ H
def acS(t:TG)(u:TGs):TGs:=λvs σ H Q=>∃v r,vs=v::r/\t v σ H λd8 H'=>u r d8 H' Q
def TB:Oz X [] af6:=by
 intro pins s σ H vs us Q I r h
 obtain⟨e,h⟩:=h
 exact assignInOrder_nil ⟨σ,H,I,h⟩
theorem OA(h1:PG X e t)(h2:Oz X es u)
  (hs:(assignEach 4.5 X.env).map (·.2)=assign e X.env::(assignEach es X.env).map (·.2):=by rfl):Oz X 4.5 (acS t u):=by
 intro pins s σ H vs us Q I r h
 obtain⟨v,vr,e1,h⟩:=h
 subst e1
 cases r with
 |cons r rr=>
   rw[hs];refine assignInOrder_cons (eU (h1 pins s σ H _ _ _ I r h) λ_ s1 ⟨FA,H1,I1,q1⟩=>?_);exact h2 pins s1 FA H1 _ _ Q I1 rr q1
def af7(K:aq)(n:Nat)(t:TGs):TG:=λv σ H Q=>∃a xs,v=.ref a/\o8 K H a xs/\xs.length=n/\t xs σ H Q
def YO(hc:X.calm=η)(h:Oz X es t)
  (hn:(assignEach es X.env).length=n:=by rfl)(Ic:(assignEach es X.env).findIdx? (·.1)=none:=by rfl):PG X (.Tuple es k pos) (af7 X.K n t):=by
 intro pins s σ H v u Q I r hw
 obtain⟨a,xs,e1,hq,hl,hw⟩:=hw
 subst e1
 cases r
 obtain⟨its,rv,ht,hz⟩:=I.tuple hq
 refine assign_Tuple_tuple 13.1 ht (by simp[hn,<-hl,rv.length]) Ic λh' hx=>?_
 have I1:=I.kept (t':=s.toks) λ14=>hx b o (abn (aba e)) e
 exact h pins _ σ H xs _ Q I1 (by simpa using rv) hw
def ze(te:TE)(g:TG):TS:=λD σ H=>te σ H λx H1=>g x σ H1 D.nx
def bP(hN:X.N.Nodup)(hi:X.N[i]?=ε x)(hx:Loc X.env.scope x)(he:PE X e te)(hs:swapsWith e (ε (.Name x pos')) pos.line X.env=pure false:=by rfl)(hf:7.0:=by first|exact .inl rfl|exact .inr rfl|assumption):
  PS X (.Assign [.Name x pos'] e pos) (ze te (mM i)):=by
 intro 17
 refine wpAny_Assign_Name (eU (he pins s σ H _ I h) λv s1 ⟨y,H1,I1,r1,q1⟩=>?_) hs
 exact zc I1 hN hi hx r1 (λs2 I2=>⟨_,H1,I2,q1⟩) hf
end
section
variable {X:Cx}{pos:Pos}
def YQ(c:TT)(tb:TS):TS:=λD σ H=>∃W:Nat->St->Hp->Prop,(∃m,W m σ H)/\∀m σ H,W m σ H->
 c σ H λb H1=>if b=η then ∃N:St->Hp->Prop,(∀d8 H',N d8 H'->∃m',m'<m/\W m' d8 H')/\tb {D with nx:=N,ct:=N,bk:=D.nx} σ H1 else D.nx σ H1
theorem OB(hp:18.5)(hc:PT X c tc)(hb:ke X body tb):PS X (.While c body [] pos) (YQ tc tb):=by
 intro 17
 obtain⟨W,⟨m0,w0⟩,turn⟩:=h
 refine wpAny_While (codeAny_whileLoop (λn s'=>∃d8 H',Inv X pins d8 H' s'/\W n d8 H') ?_ m0 ⟨σ,H,I,w0⟩)
 rintro n s1 ⟨FA,H1,I1,w1⟩
 refine afW hp (eU (hc pins s1 FA H1 _ I1 (turn n FA H1 w1)) λb s2 ⟨H2,I2,q2⟩=>?_)
 cases b with
 |true=>
   obtain⟨N,hN,q2⟩:=q2;refine afW hp (eU (hb pins s2 FA H2 _ I2 q2) λf s3 q3=>?_);cases f with
   |next=>
     obtain⟨OC,H3,I3,n3⟩:=q3;obtain⟨m',hm,w3⟩:=hN OC H3 n3;exact⟨m',hm,OC,H3,I3,w3⟩
   |cont=>
     obtain⟨OC,H3,I3,n3⟩:=q3;obtain⟨m',hm,w3⟩:=hN OC H3 n3;exact⟨m',hm,OC,H3,I3,w3⟩
   |brk=>exact q3
   |ret v=>exact q3
 |false=>
   exact ahr ⟨FA,H2,I2,q2⟩
end
structure It where
 go:Nat->Hp->Prop
 yld:Nat->Hp->V->Hp->Prop
 stop:Nat->Hp->Prop
def t6(X:Cx)(pins:de)(H:Hp)(b:Addr):Prop:=
 H b=ζ/\b≠X.env.locals/\b∉X.fs/\(b∈X.ex\/X.jt.heap.objs.size<=b)/\(∀x c,X.env.cells.lookup x=ε c->c≠b)/\∀p∈X.pn++pins,p.1≠b
def Inv.zf(I:0.5)(hb:s.heap.objs.size<=b)(hn:H' b=ζ):t6 X pins H' b:=by
 refine⟨hn,agD (abc I.lt hb),I.acK hb,.inr (acw I.sz hb),λx c e z=>?_,λp hp z=>?_⟩
 .obtain ⟨v,q⟩:=I.cell x c e;exact absurd (abc q.lt (by rw[z];exact hb)) (ac3 _)
 .exact absurd (abc (aba (I.pin p hp).1) (by rw[z];exact hb)) (ac3 _)
abbrev zg(X:Cx):Prop:=X.calm=η
structure KE(gd:Cx->Prop)(P:4.6)(w:World)(K:aq)(tg:Expr)(J:It)(fp:4.0)(it:Addr)(tn:Nat->Heap->Prop):Prop where
 mem:it∈fp
 obj:∀i h,tn i h->∀b∈fp,∃o,h.get? b=ε o/\∀v,o.data≠.cell v
 keep:∀i h h',tn i h->(∀b∈fp,∀o,h.get? b=ε o->h'.get? b=ε o)->tn i h'
 item:∀(X:Cx),X.prog=P->X.w=w->X.K=K->gd X->∀(i:Nat) (pins:de) (s:Shared) (σ:St) (H:Hp) (E:eL),Inv X pins σ H s->(∀b∈fp,t6 X pins H b)->tn i s.heap->J.go i H->
  wpAny (model P w) X.A (pyNext 14.3) (λr s1=>∃u,r=ε u/\
   wpAny (model P w) X.A (letOwnedTupleGo tg 14.3 u) (λ_ s2=>∃x H',Inv X pins σ H' s2/\RelV x u/\J.yld i H x H'/\tn (i+1) s2.heap/\∀b∈fp,H' b=ζ) E s1) E s
 done:∀(X:Cx),X.prog=P->X.w=w->X.K=K->gd X->∀(i:Nat) (pins:de) (s:Shared) (σ:St) (H:Hp) (E:eL),Inv X pins σ H s->(∀b∈fp,t6 X pins H b)->tn i s.heap->J.stop i H->
  wpAny (model P w) X.A (pyNext 14.3) (λr s1=>r=ζ/\Inv X pins σ H s1) E s
 self:∀(A:Around) (i:Nat) (s:Shared) (Q:eL) (E:eL),tn i s.heap->Q 14.3 s->wpAny (model P w) A (pyIter 14.3) Q E s
abbrev Turn:=KE zg
abbrev TI:=St->Hp->(It->Hp->Prop)->Prop
inductive OD(gd:Cx->Prop)(X:Cx)(pins:de)(σ:St)(tg:Expr)(R:It->Hp->Prop)(SS:Value)(s2:Shared):Prop|mk (it:Addr) (fp:4.0) (tn:Nat->Heap->Prop) (J:It) (H':Hp)(_:SS=.ref it)(_:Inv X pins σ H' s2)(_:KE gd X.prog X.w X.K tg J fp it tn)(_:tn 0 s2.heap)(_:∀b∈fp,t6 X pins H' b)(_:R J H')
abbrev PIE:=OD zg
def PIG(gd:Cx->Prop)(X:Cx)(tg iter:Expr)(wi:TI):Prop:=
 ∀(pins:de) (s:Shared) (σ:St) (H:Hp) (R:It->Hp->Prop),Inv X pins σ H s->wi σ H R->
   wpAny 0.4 X.A (eval iter X.env) (λv s1=>wpAny 0.4 X.A (pyIter v) (OD gd X pins σ tg R) X.xe s1) X.xe s
abbrev PI:=PIG zg
theorem FT(ho:s.heap.get? it=ε o)(hc:o.cls=.type n)(hd:o.data=.fields vs)
  (hn:["enumerate","zip","dict_itemiterator","dict_reverseitemiterator","odict_iterator","itertools.zip_longest","itertools.pairwise"].contains n=θ)(hQ:Q () s):wpAny M A (letOwnedTupleGo tg 14.3 u) Q E s:=by
 cases tg<;>first
  |exact aaR hQ
  |(cases u<;>first
    |exact aaR hQ
    | (refine aab (wpAny_load ho ?_);rw[hc,hd];show wpAny M A (if(["enumerate","zip","dict_itemiterator","dict_reverseitemiterator","odict_iterator","itertools.zip_longest","itertools.pairwise"].contains n&&vs[0]?==ε (rawInt _))=η then _ else _) Q E s;rw[abo (by intro h;rw[hn,Bool.false_and]at h;cases h)];exact aaR hQ))
def Itl(K:aq)(a:Addr):It:=
 ⟨λi H=>∃xs x,nD K H a xs/\xs[i]?=ε x,λi H x H'=>H'=H/\∀xs,nD K H a xs->xs[i]?=ε x,λi H=>∃xs,nD K H a xs/\xs.length<=i⟩
def Itt(K:aq)(a:Addr):It:=
 ⟨λi H=>∃xs x,o8 K H a xs/\xs[i]?=ε x,λi H x H'=>H'=H/\∀xs,o8 K H a xs->xs[i]?=ε x,λi H=>∃xs,o8 K H a xs/\xs.length<=i⟩
def Itr(lo:Int)(n:Nat):It:=⟨λi _=>i<n,λi H x H'=>H'=H/\x=.int (lo+i),λi _=>n<=i⟩
def MF{K:aq}(a it:Addr):Turn P w K tg (Itl K a) [it] it (λi h=>h.IsListIter it a i) where
 mem:=by simp
 obj:=λi h st b hb=>by
  have e:b=it:=by simpa using hb
  subst e;obtain⟨o,e,c,d⟩:=st;exact⟨o,e,λv z=>by rw[d]at z;cases z⟩
 keep:=λi h h' st k=>st.at λo e=>k it 0.2 o e
 item:=by
  intro 0;subst hP hw hK;obtain⟨xs,x,hq,hx⟩:=hg;obtain⟨its,rv,p,hz⟩:=I.list hq;obtain⟨u,hu,ru⟩:=rv.get hx;intro 4;refine wpAny_pyNext_list_item st p.isList (x:=u) (by simpa using hu) λh' yI sb=>?_;have I1:=I.turned (t':=s.toks) (λ9=>(sb.2 b hb).trans e) f0 f1 f3 f4 f5;obtain⟨o,e,c,d⟩:=id yI;exact⟨u,rfl,FT (s:=2.0) e c d 0.0 ⟨x,H,I1,ru,⟨rfl,λys hy=>by rw[I.zd hy hq];exact hx⟩,yI,λ10=>(hf b hb).1⟩⟩
 done:=by
  intro 0;subst hP hw hK;obtain⟨xs,hq,hx⟩:=hg;obtain⟨its,rv,p,hz⟩:=I.list hq;intro 4;have hl:=rv.length;exact wpAny_pyNext_list_end 13.1 st p.isList 3.4 λh' eb=>⟨rfl,I.turned (t':=s.toks) (λ9=>eb b o hb e) f0 f1 f3 f4 f5⟩
 self:=λ15=>wpAny_pyIter_listiter st h
def Im{K:aq}(a it:Addr):Turn P w K tg (Itt K a) [it] it (λi h=>h.IsTupleIter it a i) where
 mem:=by simp
 obj:=λi h st b hb=>by
  have e:b=it:=by simpa using hb
  subst e;obtain⟨o,e,c,d⟩:=st;exact⟨o,e,λv z=>by rw[d]at z;cases z⟩
 keep:=λi h h' st k=>st.at λo e=>k it 0.2 o e
 item:=by
  intro 0;subst hP hw hK;obtain⟨xs,x,hq,hx⟩:=hg;obtain⟨its,rv,p,hz⟩:=I.tuple hq;obtain⟨u,hu,ru⟩:=rv.get hx;intro 4;refine wpAny_pyNext_tuple_item st (show s.heap.IsTuple a its.toArray from p) (x:=u) (by simpa using hu) λh' yI sb=>?_;have I1:=I.turned (t':=s.toks) (λ9=>(sb.2 b hb).trans e) f0 f1 f3 f4 f5;obtain⟨o,e,c,d⟩:=id yI;exact⟨u,rfl,FT (s:=2.0) e c d 0.0 ⟨x,H,I1,ru,⟨rfl,λys hy=>by rw[I.vw hy hq];exact hx⟩,yI,λ10=>(hf b hb).1⟩⟩
 done:=by
  intro 0;subst hP hw hK;obtain⟨xs,hq,hx⟩:=hg;obtain⟨its,rv,p,hz⟩:=I.tuple hq;intro 4;have hl:=rv.length;exact wpAny_pyNext_tuple_end 13.1 st (show s.heap.IsTuple a its.toArray from p) 3.4 λh' eb=>⟨rfl,I.turned (t':=s.toks) (λ9=>eb b o hb e) f0 f1 f3 f4 f5⟩
 self:=λ15=>wpAny_pyIter_tupleiter st h
def Io{K:aq}(it:Addr)(lo:Int)(n:Nat):Turn P w K tg (Itr lo n) [it] it (λi h=>IsRangeIter h it (lo+(i:Nat)*1) ((n:Int)-(i:Nat)) 1) where
 mem:=by simp
 obj:=λi h st b hb=>by grind
 keep:=λi h h' st k=>k it 0.2 _ st
 item:=by
  intro 0;subst hP hw hK;intro 4;have W:=Walks.range (prog:=X.prog) (w:=X.w) 13.1 it lo 1 n;refine W.item i s _ _ hg st λv h' tk hv yI kk=>?_;obtain⟨t,rfl⟩:=hv;have I1:Inv X pins σ H 11.0:=I.turned (λ9=>kk b o (by simpa using hb) e) f0 f1 f3 f4 f5;refine⟨_,rfl,FT (s:=11.0) (n:="range_iterator") yI rfl rfl 0.0 ⟨.int (lo+i),H,I1,⟨t,?_⟩,⟨rfl,rfl⟩,yI,λ10=>(hf b hb).1⟩⟩;rw[Int.mul_one]
 done:=by
  intro 0;intro 4;exact wpAny_pyNext_range_end 13.1 st (by have:n<=i:=hg;lia) λh' eb=>⟨rfl,I.turned (t':=s.toks) (λ9=>eb b o hb e) f0 f1 f3 f4 f5⟩
 self:=λ15=>wpAny_pyIter_rangeiter st h
section
variable {X:Cx}{tg:Expr}
def OE{lo hi:Int}(I:0.5)(h1:-(2^62)<=lo)(h2:lo<2^62)(h3:-(2^62)<=hi)(h4:hi<2^62)
  (q:R (Itr lo (hi-lo).toNat) H):wpAny 0.4 X.A (pyIter 2.6) (PIE X pins σ tg R) E {s with heap:=s.heap.push 1.5,toks:=tk}:=by
 refine wpAny_pyIter_range (IsRange.new ..) (small_one h1 h2 h3 h4) ?_
 have I1:Inv X pins σ H {s with heap:=s.heap.push 1.5,toks:=tk}:=I.kept λ14=>aao _ e
 refine⟨(s.heap.push 1.5).objs.size,[(s.heap.push 1.5).objs.size],_,_,H,rfl,
  I1.kept (t':=tk) λ14=>aao _ e,Io _ lo (hi-lo).toNat,?_,λ10=>?_,q⟩
 .have e1:lo+((0:Nat):Int)*1=lo:=by simp
  have e2:(((hi-lo).toNat:Nat):Int)-((0:Nat):Int)=Builtin.Range.rangeSize lo hi 1:=by rw[rangeSize_one];split<;>lia
  rw[e1,e2];exact aaS _ rfl
 .have e:b=(s.heap.push 1.5).objs.size:=by simpa using hb
  subst e;exact I1.zf 5.6 (I1.bV.fresh 5.6)
def acU(ta:TA):TI:=λσ H R=>ta σ H λvs H1=>∃j:Int,vs=[.int j]/\-(2^62)<=j/\j<2^62/\R (Itr 0 j.toNat) H1
theorem MG(hg:Gl X "range")(hm:X.mg "range"=ζ)(ha:PA X [a] ta)(hs:starEach [a] X.env=[13.2]:=by rfl):PI X tg (.Call (.Name "range" p) [a] [] pos) (acU ta):=by
 intro pins s σ H R I h
 refine Call_ (nA I hg hm boot_range (afa (eU 11.8 λus s1 ⟨vs,H1,I1,r1,q1⟩=>?_) hs rfl))
 obtain⟨j,e,q1,q2,q⟩:=q1
 subst e
 cases r1 with
 |cons r rr=>
   cases rr;obtain⟨t,rfl⟩:=r;exact call_range_1 (OE I1 0.1 0.1 q1 q2 (by simpa using q))
def af8(wi:TI)(g:TG)(tb:TS):TS:=λD σ H=>wi σ H λJ H1=>∃W:Nat->Nat->St->Hp->Prop,(∃m,W 0 m σ H1)/\∀i m σ H,W i m σ H->
 (J.stop i H/\D.nx σ H)\/(J.go i H/\∃N:St->Hp->Prop,(∀d8 H',N d8 H'->∃m',m'<m/\W (i+1) m' d8 H')/\∀x H',J.yld i H x H'->g x σ H' λσ2 H2=>tb {D with nx:=N,ct:=N,bk:=D.nx} σ2 H2)
def vz(fp:4.0)(h:Heap):de:=fp.filterMap λb=>(h.get? b).map λo=>(b,o)
def kX(hb:b∈fp)(e:h.get? b=ε o):(b,o)∈vz fp h:=afO.mpr ⟨b,hb,by rw[e];rfl⟩
theorem Ct(hp:p∈vz fp h):p.1∈fp/\h.get? p.1=ε p.2:=by
 obtain⟨b,hb,e⟩:=afO.mp hp
 cases q:h.get? b with
 |none=>rw[q]at e;cases e
 |some o=>grind
def Inv.pinned(I:0.5)(hf:∀b∈fp,t6 X pins H b)(ho:∀b∈fp,∃o,s.heap.get? b=ε o/\∀v,o.data≠.cell v):Inv X (pins++vz fp s.heap) σ H s:=
 I.qR λ21=>(abg.mp hp).elim (λz=>I.pin p (aaW _ z)) λz=>by
  obtain⟨hb,e⟩:=Ct z;obtain⟨f0,f1,f2,_⟩:=hf p.1 hb;obtain⟨o,e',d⟩:=ho p.1 hb;rw[e]at e';cases e';exact⟨e,f0,f1,f2,d⟩
def Inv.zh(I:Inv X (pins++pl) σ H s):Inv X pins σ H s:=I.qR λ21=>I.pin p (aaW _ (abC _ hp))
theorem OF(hp:18.5)(hc:X.calm=η)(hi:PI X tg iter wi)(hg:PG X tg g)(hb:ke X body tb)
  (hs:3.7:=by intro _;rfl):PS X (.For tg iter body [] pos) (af8 wi g tb):=by
 intro 17
 refine wpAny_For (eU (hi pins s σ H _ I h) λv s1 h1=>eU h1 λSS s2 h2=>?_) hs
 obtain⟨it,fp,tn,J,H2,e,I2,T,rH,f2,W,⟨m0,w0⟩,turn⟩:=h2
 subst e
 have Ip:∀{H':Hp},(∀b∈fp,H' b=ζ)->∀b∈fp,t6 X pins H' b:=λhn b hb=>⟨hn b hb,(f2 b hb).2⟩
 refine codeAny_forLoop_any (λn s'=>∃i d8 H',Inv X pins d8 H' s'/\tn i s'.heap/\(∀b∈fp,H' b=ζ)/\W i n d8 H') ?_ m0 ⟨0,σ,H2,I2,rH,λ10=>(f2 b hb).1,w0⟩
 rintro n s3 ⟨i,OC,H3,I3,SU,fr3,w3⟩
 rcases turn i n OC H3 w3 with⟨stop,qn⟩|⟨go,N,hN,step⟩
 .refine afW hp (eU (T.done X rfl rfl rfl hc i pins s3 OC H3 X.xe I3 (Ip fr3) SU stop) λr s4 ⟨hr,I4⟩=>?_);subst hr;exact ahr ⟨OC,H3,I4,qn⟩
 .refine afW hp (eU (T.item X rfl rfl rfl hc i pins s3 OC H3 X.xe I3 (Ip fr3) SU go) λr s4 ⟨u,hr,h4⟩=>?_);subst hr;refine afW hp (eU h4 λ_ s5 ⟨x,H5,I5,r5,y5,Wx,fr5⟩=>?_);have I5':=I5.pinned (Ip fr5) (T.obj _ _ Wx);refine afW hp (eU (hg _ s5 OC H5 x u _ I5' r5 (step x H5 y5)) λ_ s6 ⟨σ6,H6,I6,q6⟩=>?_);refine afW hp (eU (hb _ s6 σ6 H6 _ I6 q6) λf s7 q7=>?_);have again:∀{OG:St} {H7:Hp},Inv X (pins++vz fp s5.heap) OG H7 s7->N OG H7->∃m,m<n/\∃i d8 H',Inv X pins d8 H' s7/\tn i s7.heap/\(∀b∈fp,H' b=ζ)/\W i m d8 H':=λ{OG H7} I7 n7=>by
   obtain⟨m',hm,w7⟩:=hN OG H7 n7;refine⟨m',hm,i+1,OG,H7,I7.zh,T.keep _ _ _ Wx λb hb o e=>(I7.pin (b,o) (aaW _ (aaW _ (kX hb e)))).1,λ10=>?_,w7⟩;obtain⟨o,e,d⟩:=T.obj _ _ Wx b hb;exact(I7.pin (b,o) (aaW _ (aaW _ (kX hb e)))).2.1
  cases f with
  |next=>obtain⟨OG,H7,I7,n7⟩:=q7;exact again I7 n7
  |cont=>obtain⟨OG,H7,I7,n7⟩:=q7;exact again I7 n7
  |brk=>obtain⟨OG,H7,I7,q7⟩:=q7;exact⟨OG,H7,I7.zh,q7⟩
  |ret v=>obtain⟨x7,OG,H7,I7,r7,q7⟩:=q7;exact⟨x7,OG,H7,I7.zh,r7,q7⟩
end
abbrev R2:=V->V->Hp->VK->Prop
def kQ(X:Cx)(f:Value->Value->Sem Value)(r:R2):Prop:=
 ∀(pins:de) (s:Shared) (σ:St) (H:Hp) (x y:V) (v u:Value) (Q:VK),Inv X pins σ H s->RelV x v->RelV y u->r x y H Q->
   wpAny 0.4 X.A (f v u) 15.2 X.xe s
def UnR(X:Cx)(f:Value->Sem Value)(r:V->Hp->VK->Prop):Prop:=
 ∀(pins:de) (s:Shared) (σ:St) (H:Hp) (x:V) (v:Value) (Q:VK),Inv X pins σ H s->RelV x v->r x H Q->
   wpAny 0.4 X.A (f v) 15.2 X.xe s
def gN(X:Cx)(f:Value)(r:List V->Hp->VK->Prop):Prop:=
 ∀(pins:de) (s:Shared) (σ:St) (H:Hp) (xs:List V) (us:cF) (Q:VK),Inv X pins σ H s->bL xs us->r xs H Q->
   wpAny 0.4 X.A (call f us) 15.2 X.xe s
def agc(X:Cx)(r:V->Hp->(Bool->Hp->Prop)->Prop):Prop:=
 ∀(pins:de) (s:Shared) (σ:St) (H:Hp) (x:V) (v:Value) (Q:Bool->Hp->Prop),Inv X pins σ H s->RelV x v->r x H Q->
   wpAny 0.4 X.A (truthy v) (TP X pins σ Q) X.xe s
def YR(r:R2)(ta tb:TE):TE:=λ8=>ta σ H λx H1=>tb σ H1 λy H2=>r x y H2 Q
def tUn(r:V->Hp->VK->Prop)(ta:TE):TE:=λ8=>ta σ H λx H1=>r x H1 Q
inductive rI(C:Int->Int->Prop)(g:Int->Int->V)(x:V)(y:V)(H:Hp)(Q:VK):Prop|mk (i j)(_:x=.int i)(_:y=.int j)(_:C i j)(_:Q (g i j) H)
inductive OH(g:Int->Int->V)(x:V)(y:V)(H:Hp)(Q:VK):Prop|mk (i j)(_:x=.int i)(_:y=.int j)(_:Q (g i j) H)
def rU(g:Int->V):V->Hp->VK->Prop:=λx H Q=>∃i,x=.int i/\Q (g i) H
section
variable {X:Cx}{a b:Expr}{ta tb:TE}{pos:Pos}
def YS(ha:PE X a ta)(hb:PE X b tb){R:V->V->Hp->Prop}(I:0.5)
  (h:ta σ H λx H1=>tb σ H1 λy H2=>R x y H2){f:Value->Value->Sem Value}
  (hf:∀v u s2 x y H2,Inv X pins σ H2 s2->RelV x v->RelV y u->R x y H2->wpAny 0.4 X.A (f v u) Q X.xe s2):
  wpAny 0.4 X.A (eval a X.env) (λv b8=>wpAny 0.4 X.A (eval b X.env) (λu pE=>wpAny 0.4 X.A (f v u) Q X.xe pE) X.xe b8) X.xe s:=by
 refine eU 7.7 λv s1 ⟨x,H1,I1,r1,q1⟩=>?_
 refine eU (hb pins s1 σ H1 _ I1 q1) λu s2 ⟨y,H2,I2,r2,q2⟩=>?_
 exact hf v u s2 x y H2 I2 r1 r2 q2
def Wy(ho:kQ X (binaryOp op) r)(ha:PE X a ta)(hb:PE X b tb):PE X (.BinOp a op b pos) (YR r ta tb):=by
 intro 2
 exact wpAny_BinOp (YS ha hb I h λv u s2 x y H2 I2 rx ry q=>ho pins s2 σ H2 x y v u Q I2 rx ry q)
def acV(ho:UnR X (unaryOp op) r)(ha:PE X a ta):PE X (.UnaryOp op a pos) (tUn r ta):=by
 intro 2
 exact UnaryOp_ (eU 7.7 λv s1 ⟨x,H1,I1,r1,q1⟩=>ho pins s1 σ H1 x v Q I1 r1 q1)
def opI{g:Int->Int->Int}
  (rule:∀(i j:Int) (t u:Tok) (s:Shared) (Q:eL) (E:eL),C i j->Q (.int (g i j) s.toks) 18.3->wpAny 0.4 X.A (f (.int i t) (.int j u)) Q E s):
  kQ X f (rI C λi j=>.int (g i j)):=by
 intro 3
 obtain⟨i,j,rfl,rfl,hc,q⟩:=h
 intro 10
 obtain⟨t',rfl⟩:=ry
 exact rule i j t t' s _ _ hc ⟨.int (g i j),H,I.tok _,⟨_,rfl⟩,q⟩
def acW{g:Int->Int->Int}
  (rule:∀(i j:Int) (t u:Tok) (s:Shared) (Q:eL) (E:eL),Q (.int (g i j) s.toks) 18.3->wpAny 0.4 X.A (f (.int i t) (.int j u)) Q E s):
  kQ X f (OH λi j=>.int (g i j)):=by
 intro 3
 obtain⟨i,j,rfl,rfl,q⟩:=h
 intro 10
 obtain⟨t',rfl⟩:=ry
 exact rule i j t t' s _ _ ⟨.int (g i j),H,I.tok _,⟨_,rfl⟩,q⟩
def TC{g:Int->Int->Bool}
  (rule:∀(i j:Int) (t u:Tok) (s:Shared) (Q:eL) (E:eL),Q (.bool (g i j)) s->wpAny 0.4 X.A (f (.int i t) (.int j u)) Q E s):
  kQ X f (OH λi j=>.bl (g i j)):=by
 intro 3
 obtain⟨i,j,rfl,rfl,q⟩:=h
 intro 10
 obtain⟨t',rfl⟩:=ry
 exact rule i j t t' s _ _ ⟨.bl (g i j),H,I,rfl,q⟩
def YT(i j:Int):Prop:=0<=j/\j<=1000000/\i.natAbs<2^64
def YU:kQ X (binaryOp .Add) (OH λi j=>.int (i+j)):=acW λ_ _ _ _ _ _ _ q=>add_int q
def zi:kQ X (binaryOp .Sub) (OH λi j=>.int (i-j)):=acW λ_ _ _ _ _ _ _ q=>sub_int q
def bU:kQ X (binaryOp .Mod) (rI (λ_ j=>j≠0) λi j=>.int (i.fmod j)):=opI λ_ _ _ _ _ _ _ hc q=>mod_int' hc q
def zj:kQ X (binaryOp .Pow) (rI YT λi j=>.int (i^j.toNat)):=opI λ_ _ _ _ _ _ _ hc q=>pow_int_small hc.1 hc.2.1 hc.2.2 q
def unI{g:Int->Int}
  (rule:∀(i:Int) (t:Tok) (s:Shared) (Q:eL) (E:eL),Q (.int (g i) s.toks) 18.3->wpAny 0.4 X.A (f (.int i t)) Q E s):
  UnR X f (rU λi=>.int (g i)):=by
 intro pins s σ H x v Q I rx h
 obtain⟨i,rfl,q⟩:=h
 intro 10
 exact rule i t s _ _ ⟨.int (g i),H,I.tok _,⟨_,rfl⟩,q⟩
def YV:UnR X (unaryOp .USub) (rU λi=>.int (-i)):=unI λ_ _ _ _ _ q=>neg_int q
end
section
variable {X:Cx}{a b c:Expr}{ta tb tc:TE}{pos:Pos}
def YW(I:0.5)(q:Q (.bl k) H)(e:k=k'):EP X pins σ Q (.bool k') s:=by
 subst e
 exact⟨.bl k,H,I,rfl,q⟩
def t7:kQ X (compareOp .Lt) (OH λi j=>.bl (ι (i<j))):=TC λ_ _ _ _ _ _ _ q=>lt_int q
def kA:kQ X (compareOp .LtE) (OH λi j=>.bl (ι (i<=j))):=TC λ_ _ _ _ _ _ _ q=>le_int q
def pN:kQ X (compareOp .Gt) (OH λi j=>.bl (ι (j<i))):=TC λ_ _ _ _ _ _ _ q=>gt_int q
def rJ:kQ X (compareOp .GtE) (OH λi j=>.bl (ι (j<=i))):=TC λ_ _ _ _ _ _ _ q=>ge_int q
def Cu:kQ X (compareOp .In) (λ13=>∃i j,x=.str i/\y=.str j/\Q (.bl 13.0) H):=by
 intro 3
 obtain⟨i,j,rfl,rfl,q⟩:=h
 intro 10
 obtain⟨t',rfl⟩:=ry
 exact in_str (YW I q rfl)
def kQ.or(h:kQ X f r)(h':kQ X f r'):kQ X f (λ13=>r x y H Q\/r' x y H Q):=by
 intro pins s σ H x y v u Q I rx ry q
 rcases q with q|q
 .exact h pins s σ H x y v u Q I rx ry q
 .exact h' pins s σ H x y v u Q I rx ry q
def Iq(b:Expr)(h:op≠.In:=by decide)(h2:op≠.NotIn:=by decide):behindInMarks op b=false:=by
 have e1:(op==CmpOp.In)=false:=by cases op<;>first|rfl|exact absurd rfl h
 have e2:(op==CmpOp.NotIn)=false:=by cases op<;>first|rfl|exact absurd rfl h2
 cases b<;>simp[behindInMarks,e1,e2]
def TF(ho:12.6)(ha:PE X a ta)(hb:PE X b tb)(hm:behindInMarks op b=θ):PE X 16.2 (YR r ta tb):=by
 intro 2
 exact wpAny_Compare1 (YS ha hb I h λv u s2 x y H2 I2 rx ry q=>ho pins s2 σ H2 x y v u Q I2 rx ry q) hm
def Wz(t:TE):TT:=λ8=>t σ H λx H'=>∃k,x=.bl k/\Q k H'
def KG(ho:12.6)(ha:PE X a ta)(hb:PE X b tb)(hm:behindInMarks op b=θ):PT X 16.2 (Wz (YR r ta tb)):=by
 intro 2
 refine wpAny_isTrue_Compare1 (eU 7.7 λv s1 ⟨x,H1,I1,r1,q1⟩=>eU (hb pins s1 σ H1 _ I1 q1) λu s2 ⟨y,H2,I2,r2,q2⟩=>
  eU (ho pins s2 σ H2 x y v u _ I2 r1 r2 q2) λc s3 ⟨z,H3,I3,r3,k,e,q3⟩=>?_) hm
 subst e
 cases r3
 exact ae9 ⟨H3,I3,q3⟩
def Ir(r r':R2)(ta tb tc:TE):TE:=λ8=>ta σ H λx H1=>tb σ H1 λy H2=>r x y H2 λz H3=>∃k,z=.bl k/\
 (if k=η then tc σ H3 λw' H4=>r' y w' H4 Q else Q (.bl θ) H3)
theorem OI(ho:12.6)(Bt:kQ X (compareOp op') r')(ha:PE X a ta)(hb:PE X b tb)(hc:PE X c tc)
  (hm:lastMarks [op,op'] [b,c]=false:=by with_unfolding_all rfl):PE X (.Compare a [op,op'] [b,c] pos) (Ir r r' ta tb tc):=by
 intro 2
 refine Compare_chain (eU 7.7 λv s1 ⟨x,H1,I1,r1,q1⟩=>chain_link (eU (hb pins s1 σ H1 _ I1 q1) λu s2 ⟨y,H2,I2,r2,q2⟩=>
  eU (ho pins s2 σ H2 x y v u _ I2 r1 r2 q2) λd s3 ⟨z,H3,I3,r3,k,e,q3⟩=>?_)) hm
 subst e
 cases r3
 refine ae9 ?_
 cases k with
 |false=>exact ite_ff ⟨.bl θ,H3,I3,rfl,q3⟩
 |true=>exact ite_tt (chain_last (eU (hc pins s3 σ H3 _ I3 q3) λw' s4 ⟨z',H4,I4,r4,q4⟩=>Bt pins s4 σ H4 y z' u w' Q I4 r2 r4 q4))
theorem OJ(ho:12.6)(Bt:kQ X (compareOp op') r')(ha:PE X a ta)(hb:PE X b tb)(hc:PE X c tc)
  (hm:lastMarks [op,op'] [b,c]=false:=by with_unfolding_all rfl):PT X (.Compare a [op,op'] [b,c] pos) (Wz (Ir r r' ta tb tc)):=by
 intro 2
 refine isTrue_chain (eU 7.7 λv s1 ⟨x,H1,I1,r1,q1⟩=>test_link (eU (hb pins s1 σ H1 _ I1 q1) λu s2 ⟨y,H2,I2,r2,q2⟩=>
  eU (ho pins s2 σ H2 x y v u _ I2 r1 r2 q2) λd s3 ⟨z,H3,I3,r3,k,e,q3⟩=>?_)) hm
 subst e
 cases r3
 refine ae9 ?_
 cases k with
 |false=>
   obtain⟨k',e',q'⟩:=q3;cases e';exact ite_ff ⟨H3,I3,q'⟩
 |true=>
   refine ite_tt (test_last (eU (hc pins s3 σ H3 _ I3 q3) λw' s4 ⟨z',H4,I4,r4,q4⟩=>eU (Bt pins s4 σ H4 y z' u w' _ I4 r2 r4 q4) λd' s5 ⟨z2,H5,I5,r5,k2,e2,q5⟩=>?_));subst e2;cases r5;exact ae9 ⟨H5,I5,q5⟩
def acX(K:aq)(x:V)(H:Hp)(k:Bool):Prop:=
 match x with
 |.iY=>k=θ
 |.bl b=>k=b
 |.int i=>k=(i !=0)
 |.str y=>y.length<=sizeLine/\k=((y.length:Int)!=0)
 |.byt y=>y.size<=sizeLine/\k=((y.size:Int)!=0)
 |.ref p=>(∃xs,nD K H p xs/\k= !xs.isEmpty)\/(∃xs,o8 K H p xs/\k= !xs.isEmpty)\/∃aR,H p=ε (.dK aR)/\k= !aR.isEmpty
 |_=>False
def Iu(r:KV aR vs):(!vs.isEmpty)= !aR.isEmpty:=by
 cases r<;>rfl
def zk(r:bL xs its):(!its.toArray.isEmpty)= !xs.isEmpty:=by
 cases r<;>simp
def zl:(sizeLine:Nat)<2^63:=by rw[sizeLine_eq];decide
theorem YX:agc X (λx H Q=>∃k,acX X.K x H k/\Q k H):=by
 intro pins s σ H x v Q I rx h
 obtain⟨k,e,q⟩:=h
 have hs:=sizeLine_eq
 cases x with
 |iY=>
   cases rx;have e':=e;subst e';exact truthy_none ⟨H,I,q⟩
 |bl b=>
   cases rx;have e':=e;subst e';exact ae9 ⟨H,I,q⟩
 |int i=>
   intro 10;have e':=e;subst e';exact PySem.P.truthy_int ⟨H,I,q⟩
 |str y=>
   intro 10;obtain⟨hy,e'⟩:y.length<=sizeLine/\k=((y.length:Int)!=0):=e;subst e';exact PySem.P.truthy_str 0.1 ⟨H,I.tok _,q⟩
 |byt y=>
   intro 10;obtain⟨hy,e'⟩:y.size<=sizeLine/\k=((y.size:Int)!=0):=e;subst e';exact PySem.W.truthy_bytes 0.1 ⟨H,I.tok _,q⟩
 |ref p=>
   cases rx;have e':=e;rcases e' with⟨xs,hx,e'⟩|⟨xs,hx,e'⟩|⟨aR,hx,e'⟩;.subst e';obtain⟨its,r,pl,hz⟩:=I.list hx;have hlen:=r.length;exact wpAny_truthy_list pl.isList (by simp only[abr];lia) ⟨H,I.tok _,by rw[zk r];exact q⟩
   .subst e';obtain⟨its,r,pl,hz⟩:=I.tuple hx;have hlen:=r.length;exact truthy_tuple pl (by simp only[abr];lia) ⟨H,I.tok _,by rw[zk r];exact q⟩
   .subst e';obtain⟨hz,hS,vs,r,m⟩:aR.length<=sizeLine/\(p==sysModules)=θ/\∃vs,KV aR vs/\s.heap.DictOf (eu X.prog X.w) p vs:=I.bV p _ hx;have hlen:=Paired.length r;exact wpAny_truthy_dict hS m 0.1 ⟨H,I.tok _,by rw[Iu r];exact q⟩
 |_=>exact(show False from e).elim
def OK(ha:PE X a ta)(he:∀whole,isTrue a X.env whole=(do let v <-whole;standAt a.pos;holding [v] (truthy v))):
  PT X a (λ8=>ta σ H λx H'=>∃k,acX X.K x H' k/\Q k H'):=by
 intro 2
 exact isTrue_plain (eU 7.7 λv s1 ⟨x,H1,I1,r1,q1⟩=>YX pins s1 σ H1 x v Q I1 r1 q1) (he _)
def Iv:kQ X (binaryOp .Add) (λ13=>∃i j,x=.str i/\y=.str j/\i.length+j.length<=sizeLine/\Q (.str (i++j)) H):=by
 intro 3
 obtain⟨i,j,rfl,rfl,hz,q⟩:=h
 intro 10
 obtain⟨t',rfl⟩:=ry
 exact add_str (λt' tk=>⟨.str (i++j),H,I.tok _,⟨_,rfl⟩,q⟩) hz
theorem vals1(r:bL [x] us):∃u,us=[u]/\RelV x u:=by
 cases r with
 |cons r1 r2=>cases r2;exact⟨_,rfl,r1⟩
theorem vals2(r:bL [x,y] us):∃u w',us=[u,w']/\RelV x u/\RelV y w':=by
 cases r with
 |cons r1 r2=>
   cases r2 with
   |cons r3 r4=>cases r4;exact⟨_,_,rfl,r1,r3⟩
def zm:gN X (.builtin "abs") (λ16=>∃i,xs=[.int i]/\Q (.int (if i<0 then -i else i)) H):=by
 intro 7
 obtain⟨i,rfl,q⟩:=h
 obtain⟨u,rfl,t,rfl⟩:=vals1 r
 exact call_abs_int λu tk=>⟨.int (if i<0 then -i else i),H,I.tok _,⟨_,rfl⟩,q⟩
def Cv(hc:X.calm=η):gN X (.builtin "max") (λ16=>∃i j,xs=[.int i,.int j]/\Q (.int (if j>i then j else i)) H):=by
 intro 7
 obtain⟨i,j,rfl,q⟩:=h
 obtain⟨u,w',rfl,⟨t,rfl⟩,⟨t',rfl⟩⟩:=vals2 r
 refine max_two_ints 13.1 λh' tk k=>⟨_,H,I.kept k,?_,q⟩
 by_cases hj:j>i
 .rw [abe hj,abe hj];exact⟨_,rfl⟩
 .rw [abo hj,abo hj];exact⟨_,rfl⟩
def MH:gN X (.type "int") (λ16=>(∃i,xs=[.int i]/\Q 17.6 H)\/∃k,xs=[.bl k]/\Q (.int (if k then 1 else 0)) H):=by
 intro 7
 rcases h with⟨i,rfl,q⟩|⟨k,rfl,q⟩
 .obtain ⟨u,rfl,t,rfl⟩:=vals1 r;exact call_int_int ⟨.int i,H,I,⟨_,rfl⟩,q⟩
 .obtain ⟨u,rfl,r1⟩:=vals1 r;cases r1;exact call_int_bool ⟨.int (if k then 1 else 0),H,I.tok _,⟨_,rfl⟩,q⟩
def df:gN X (.type "str") (λ16=>∃i,xs=[.int i]/\i.natAbs.log2<1920/\Q (.str (toString i)) H):=by
 intro 7
 obtain⟨i,rfl,hz,q⟩:=h
 obtain⟨u,rfl,t,rfl⟩:=vals1 r
 exact PySem.P.str_of_int hz ⟨.str _,H,I.tok _,⟨_,rfl⟩,q⟩
end
structure Iw(h:Heap)(x dx C:Addr)(mA:cX):Prop where
 obj:h.get? x=ε (PySem.W.instObj C dx)
 ns:h.Ns1 dx mA
 ne:dx≠x
set_option tactic.hygienic true in
def MI{h:Heap}(n:h.Ns1 dx mA):∃od,h.get? dx=ε od/\∀name,PySem.W.lookIn name od=ε (mA name):=by
 obtain⟨o,es,ep,ho,hd,hk,_,hm⟩:=n
 refine⟨o,ho,λname=>?_⟩
 have e:=hm name
 unfold nsFind findBy at e
 rw[<-Array.find?_toList]at e
 unfold PySem.W.lookIn
 rw[hd]
 dsimp only
 split
 .grind
 .rename_i q;rw[q]at e;have a:es.toList.any (·.refKey)=false:=by
   rw[List.any_eq_false];intro y hy;obtain⟨z,t,agd⟩:=hk y (Array.mem_toList_iff.mp hy);simp[DictEntry.refKey,agd]
  have a':¬es.toList.any (·.refKey)=true:=by rw[a];exact abj
  rw[abo a'];exact ade ε e
def Iw.look(I:Iw h x dx C mA):∃od,PySem.W.InstAt h x (PySem.W.instObj C dx) C (ε od)/\∀name,PySem.W.lookIn name od=ε (mA name):=
 let⟨od,ho,hl⟩:=MI I.ns
 ⟨od,⟨I.obj,rfl,rfl,ho⟩,hl⟩
section
variable {prog:4.6}{w:World}{A:Around}{E:eL}{s:Shared}{K:aq}{x dx C f:Addr}{mA:cX}{name:Str}{v:Value}
def get_map(X:K.In s.heap)(I:Iw s.heap x dx C mA)(hg:PySem.W.plainGet K C name=η)(hh:PySem.W.hasDictIn K C=η)
  (ha:PySem.W.findIn K 1.9 name=ε ζ)(hv:mA name=ε v)(hv':PySem.W.handedIn v=η)(h:Q v 18.3):
  wpAny 0.7 A (getAttr (.ref x) name expr) Q E s:=by
 obtain⟨od,J,hl⟩:=I.look
 exact PySem.W.get_value X J (air hg).1 (PySem.W.findObj_own hh ha rfl (by rw[hl,hv])) hv' h
def OL(X:K.In s.heap)(I:Iw s.heap x dx C mA)(hg:PySem.W.plainGet K C name=η)
  (hf:PySem.W.findIn K 1.9 name=ε (ε 10.3))(ht:PySem.W.isFn K 10.3=η)(hv:mA name=ζ)(h:Q (.ref f,[.ref x]) s):
  wpAny 0.7 A (getMethod (.ref x) name pl) Q E s:=by
 obtain⟨od,J,hl⟩:=I.look
 exact PySem.W.method_fn X J (air hg).1 (air hg).2 hf (afq.mp ht) (by show(PySem.W.lookIn name od).map (·.isSome)=ε θ;rw[hl,hv];rfl) h
def TH(X:K.In s.heap)(I:Iw s.heap x dx C mA)
  (hs:PySem.W.findIn K 1.9 "__setattr__"=ε (ε (.builtin "object.__setattr__")))(hp:PySem.W.plainOver K C=η)(ht:PySem.W.takerIn K C name=ε ζ)(hh:PySem.W.hasDictIn K C=η)
  (hw:PySem.Within mA ns)(hsz:ns.length<=sizeLine)
  (h:∀h',Iw h' x dx C (λy=>if y=name then ε v else mA y)->Heap.SameBut dx s.heap h'->Q () {s with heap:=h',toks:=s.toks+2}):
  wpAny 0.7 A (setAttr (.ref x) name v) Q E s:=by
 obtain⟨od,J,hl⟩:=I.look
 refine PySem.W.set_plain X J hs (PySem.W.osa_open (s:=18.3) (r:=ζ) X J hp ht λb=>?_)
 obtain⟨cd,hc,tW⟩:=PySem.W.any_some hh
 have hx:=I.obj
 refine aab (aaR (aab (aab (wpAny_loadPart hx (aab (PySem.W.Looks.here (s:=18.3) (PySem.W.looks_clsIn X hc) ?_))))))
 rw[tW]
 refine aaR (a:=ε dx) (aab (aaR (aab ?_)))
 refine wpAny_nsSet1 (s:=18.3) I.ns λh' WA yJ=>?_
 obtain⟨oD,esD,epD,hoD,hdD,hcD⟩:=WA.count (PySem.Within.cons name v hw)
 refine aab (wpAny_lookBehind hoD (by rw[hdD];exact pastItsLine_dict (acw hcD (by rw[abk];lia))) ?_)
 exact aaR (h _ ⟨(yJ.2 _ (afh I.ne)).trans I.obj,WA,I.ne⟩ yJ)
def OM(X:K.In s.heap)(hm:PySem.W.makesIn K C=η)
  (hi:PySem.W.findIn K 1.9 "__init__"=ε (ε 10.3))(hf:PySem.W.typeIn K 10.3=ε (.type "function"))
  (h:codeAny 0.7 (A.under (.builtin "type.__call__" ⟨.ref C::vs,kw⟩)) (.call 10.3 ⟨.ref 2.7::vs,kw⟩) (PySem.W.InitBack 2.7 R)
   {s with heap:=(s.heap.push PySem.W.emptyDict).push 18.6}):
  codeAny 0.7 A (.call 1.9 ⟨vs,kw⟩) R s:=by
 exact PySem.W.make_core (PySem.W.makes_of X hm) (PySem.W.looks_findIn X hi) (λself=>PySem.W.bind_fn X self hf) 15.6 h
end
noncomputable def mO(f:Str)(v:V):List (Str×V)->List (Str×V)
 |[]=>[(f,v)]
 |(g,x)::r=>if g=f then(g,v)::r else(g,x)::mO f v r
theorem xD(f g:Str)(v:V):∀fs:List (Str×V),(mO f v fs).lookup g=if g=f then ε v else fs.lookup g
 |[]=>by
   show List.lookup g [(f,v)]=_;by_cases h:g=f;.grind
   .grind
 |(k,x)::r=>by
   have ih:=xD f g v r;rw[show mO f v ((k,x)::r)=(if k=f then(k,v)::r else(k,x)::mO f v r)from rfl];by_cases hk:k=f;.grind
   .grind
theorem vA(f:Str)(v:V):∀fs:List (Str×V),f∈(mO f v fs).map (·.1)/\∀g,g∈fs.map (·.1)->g∈(mO f v fs).map (·.1)
 |[]=>⟨by simp[mO],λg h=>by simp at h⟩
 |(k,x)::r=>by
   obtain⟨i1,i2⟩:=vA f v r;rw[show mO f v ((k,x)::r)=(if k=f then(k,v)::r else(k,x)::mO f v r)from rfl];by_cases hk:k=f;.grind
   .grind
theorem xE(f:Str)(v:V):∀fs:List (Str×V),(mO f v fs).length<=fs.length+1
 |[]=>by simp[mO]
 |(k,x)::r=>by
   have ih:=xE f v r;rw[show mO f v ((k,x)::r)=(if k=f then(k,v)::r else(k,x)::mO f v r)from rfl];by_cases hk:k=f;.grind
   .grind
theorem pC.some_of(r:pC (ε v) o):∃u,o=ε u/\RelV v u:=by
 cases o with
 |none=>exact(show False from r).elim
 |some u=>exact⟨u,rfl,r⟩
theorem pC.none_of(r:pC ζ o):o=none:=by
 cases o with
 |none=>rfl
 |some u=>exact(show False from r).elim
theorem MJ(r:RelV v u):PySem.W.handedIn u=true:=by
 cases v with
 |iY=>cases(show u=Value.none from r);rfl
 |bl b=>cases(show u=Value.bool b from r);rfl
 |int i=>obtain⟨t,e⟩:=(show ∃t,u=Value.int i t from r);cases e;rfl
 |str x=>obtain⟨t,e⟩:=(show ∃t,u=Value.str x t from r);cases e;rfl
 |byt b=>obtain⟨t,e⟩:=(show ∃t,u=Value.bytes b t from r);cases e;rfl
 |YG b=>obtain⟨t,e⟩:=(show ∃t,u=Value.float b t from r);cases e;rfl
 |ref a=>cases(show u=Value.ref a from r);rfl
 |ty n=>cases(show u=Value.type n from r);rfl
section
variable {P:4.6}{w:World}{H:Hp}{h:Heap}{a C dx:Addr}{fs:List (Str×V)}
def yK(bV:24.9)(e:H a=ε (.ins C dx fs)):∃mA,Iw h a dx C mA/\(∀f,pC (fs.lookup f) (mA f))/\PySem.Within mA (fs.map (·.1))/\fs.length<=1000/\H dx=ε (.own a):=by
 obtain⟨d,z,ne,ob,mA,n,r,q⟩:=(show dS P w H h a (.ins C dx fs)from bV a _ e)
 exact⟨mA,⟨ob,n,ne⟩,r,q,z,d⟩
end
structure vB(K:aq)(C:Addr):Prop where
 pg:PySem.W.plainGet K C Str.empty=η
 hd:PySem.W.hasDictIn K C=η
 po:PySem.W.plainOver K C=η
 sa:PySem.W.findIn K 1.9 "__setattr__"=ε (ε (.builtin "object.__setattr__"))
def vB.get{K:aq}(c:vB K C)(f:Str):PySem.W.plainGet K C f=true:=c.pg
def fG(K:aq)(C:Addr)(f:Str):Prop:=PySem.W.findIn K 1.9 f=ε ζ
def fG.acZ{K:aq}(n:fG K C f):PySem.W.takerIn K C f=ε none:=by
 unfold PySem.W.takerIn
 rw[show PySem.W.findIn K 1.9 f=ε ζ from n]
 rfl
structure pF(K:aq)(C:Addr)(m:Str)(f:Addr):Prop where
 at_:PySem.W.findIn K 1.9 m=ε (ε 10.3)
 fn:PySem.W.isFn K 10.3=η
 kp:PySem.W.keepIn K 10.3=η
section
variable {X:Cx}{pins:de}{σ:St}{H:Hp}{s:Shared}{a C dx:Addr}{fs:List (Str×V)}{f:Str}{v:V}{A:Around}{E:eL}
def Iy(I:0.5)(e:H a=ε (.ins C dx fs))(c:vB X.K C)(n:fG X.K C f)(l:fs.lookup f=ε v)
  (h:∀u s',Inv X pins σ H s'->RelV v u->Q u s'):wpAny 0.4 A (getAttr 5.5 f b) Q E s:=by
 obtain⟨mA,O,r,_,_,_⟩:=yK I.bV e
 obtain⟨u,hu,ru⟩:=pC.some_of (v:=v) (o:=mA f) (by rw[<-l];exact r f)
 exact get_map I.o7 O (c.get f) c.hd n hu (MJ ru) (h u _ (I.tok _) ru)
def IA(I:0.5)(e:H a=ε (.ins C dx fs))(c:vB X.K C)(k:pF X.K C m g)(l:fs.lookup m=ζ)
  (h:Q (.ref g,[.ref a]) s):wpAny 0.4 A (getMethod 5.5 m pl) Q E s:=by
 obtain⟨mA,O,r,_,_,_⟩:=yK I.bV e
 have hn:=pC.none_of (by rw[<-l];exact r m)
 exact OL I.o7 O (c.get m) k.at_ k.fn hn h
def IB(I:0.5)(e:H a=ε (.ins C dx fs))(c:vB X.K C)(n:fG X.K C f)(hl:fs.length<1000)(ry:RelV y u)
  (h:∀s',Inv X pins σ (upd H a (.ins C dx (mO f y fs))) s'->Q () s'):wpAny 0.4 A (setAttr 5.5 f u) Q E s:=by
 obtain⟨mA,O,r,wi,_,ho⟩:=yK I.bV e
 have hz:(fs.map (·.1)).length<=sizeLine:=by rw[aaI,sizeLine_eq];lia
 refine TH I.o7 O c.sa c.po n.acZ c.hd wi hz λh' O' sb=>h _ ?_
 have hd:∃o,h'.get? dx=ε o:=let⟨o,_,_,e',_⟩:=O'.ns;⟨o,e'⟩
 refine I.write (x:=a) (e:=dx) (by rw[e];exact True.intro) (.inr ho) (λb q hb z=>(sb.2 b hb).trans z) hd ?_
 refine⟨by rw[aB O.ne];exact ho,?_,O.ne,O'.obj,_,O'.ns,λg=>?_,λg hg=>?_⟩
 .have:=xE f y fs;lia
 .show pC ((mO f y fs).lookup g) (if g=f then ε u else mA g);rw[xD];by_cases q:g=f;.rw [abe q,abe q];exact ry
  .grind
 .by_cases q:g=f;.rw [q];exact(vA f y fs).1
  .refine (vA f y fs).2 g (wi g λz=>hg ?_);show(if g=f then ε u else mA g)=ζ;rw[abo q];exact z
def Inv.made(I:0.5):Inv X pins σ (upd (upd H s.heap.objs.size (.own 2.7)) 2.7 (.ins C s.heap.objs.size []))
  {s with heap:=(s.heap.push PySem.W.emptyDict).push 18.6}:=by
 have e1:(s.heap.push PySem.W.emptyDict).get? s.heap.objs.size=ε PySem.W.emptyDict:=aaS s.heap rfl
 have e2:((s.heap.push PySem.W.emptyDict).push 18.6).get? 2.7=ε 18.6:=by
  have:=aaS (s.heap.push PySem.W.emptyDict) (o:=PySem.W.instObj C s.heap.objs.size) rfl;rwa [aeI]at this
 have e3:(s.heap.push PySem.W.emptyDict).Ns s.heap.objs.size (λ_=>ζ):=⟨PySem.W.emptyDict,#[],_,e1,rfl,(λe he=>absurd he 0.2),λ_=>rfl⟩
 have I1:=I.laid (a:=s.heap.objs.size) (o:=.own 2.7) (h':=s.heap.push PySem.W.emptyDict) (t':=s.toks) (λb u q=>aao _ q) 5.6 ⟨_,e1⟩
 refine I1.laid (a:=s.heap.objs.size+1) (o:=.ins C s.heap.objs.size []) (t':=s.toks) (λb u q=>aao _ q) (Nat.le_of_eq (aeI _ _)) ?_
 have ne:s.heap.objs.size≠s.heap.objs.size+1:=abn (afn _)
 refine⟨by rw[aB ne,aN],afc _,ne,e2,λ_=>ζ,(Heap.Ns1.of_empty e3).at λo q=>aao _ q,λ_=>True.intro,λy hy=>absurd rfl hy⟩
def TJ(hb:attributeBase e f env (eval e env)=eval e env)
  (h:wpAny 0.7 A (eval e env) (λo b8=>wpAny 0.7 A (getAttr o f η) Q E b8) E s):wpAny 0.7 A (eval (.Attribute e f pos) env) Q E s:=
 Attribute_any_ h (by rw[arm_eval_Attribute,hb])
end
def agf(K:aq)(ta:TE)(f:Str):TE:=λ8=>ta σ H λx H1=>∃a C dx fs v,x=.ref a/\H1 a=ε (.ins C dx fs)/\vB K C/\fG K C f/\fs.lookup f=ε v/\Q v H1
def YY(K:aq)(ta tv:TE)(f:Str):TS:=λD σ H=>tv σ H λy H1=>ta σ H1 λx H2=>∃a C dx fs,x=.ref a/\H2 a=ε (.ins C dx fs)/\vB K C/\fG K C f/\fs.length<1000/\
 D.nx σ (upd H2 a (.ins C dx (mO f y fs)))
section
variable {X:Cx}{o e value:Expr}{f:Str}{pos pos':Pos}{ta tv:TE}
def DF(he:PE X e ta)(hb:attributeBase e f X.env (eval e X.env)=eval e X.env):PE X (.Attribute e f pos) (agf X.K ta f):=by
 intro 2
 refine TJ hb (eU (he pins s σ H _ I h) λu s1 ⟨x,H1,I1,rx,a,C,dx,fs,v,ex,ea,c,n,l,q⟩=>?_)
 subst ex
 obtain rfl:u=Value.ref a:=rx
 exact Iy I1 ea c n l λu' s2 I2 ru=>⟨v,H1,I2,ru,q⟩
def ON(ha:PE X o ta)(hv:PE X value tv)(hs:swapsWith value (ε (.Attribute o f pos')) pos.line X.env=pure θ):PS X (.Assign [.Attribute o f pos'] value pos) (YY X.K ta tv f):=by
 intro 17
 refine plainObj_wpAny_Assign_Attribute (eU (hv pins s σ H _ I h) λu s1 ⟨y,H1,I1,ry,q⟩=>eU (ha pins s1 σ H1 _ I1 q) λov s2 ⟨x,H2,I2,rx,a,C,dx,fs,ex,ea,c,n,l,q2⟩=>?_) hs
 subst ex
 obtain rfl:ov=Value.ref a:=rx
 exact IB I2 ea c n l ry λs3 I3=>⟨σ,_,I3,q2⟩
end
section
variable {X:Cx}{pins:de}{σ:St}{H:Hp}{s:Shared}{A:Around}{E:eL}{Q:eL}{c:Value}{b:Bool}
inductive vC(K:aq)(H:Hp):V->Value->Prop where
 |iY:vC K H .iY (.type "NoneType")
 |bl (x:Bool):vC K H (.bl x) (.type "bool")
 |int (i:Int):vC K H 17.6 (.type "int")
 |str (x:Str):vC K H 18.9 (.type "str")
 |YG (x:UInt64):vC K H (.YG x) (.type "float")
 |lst {a:Addr} {xs:List V} (e:H a=ε (.lst xs)):vC K H 5.5 (.type "list")
 |za {a:Addr} {o:Obj} {xs:List V} (e:H a=ε (.za o (.lst xs))):vC K H 5.5 (.type "list")
 |tup {a:Addr} {xs:List V} (e:H a=ε (.tup xs)):vC K H 5.5 10.2
 |dK {a:Addr} {aR:List (Key×V)} (e:H a=ε (.dK aR)):vC K H 5.5 21.4
 |dT {a:Addr} {aR:4.8} (e:H a=ε (.dT aR)):vC K H 5.5 21.4
 |ins {a C dx:Addr} {fs:List (Str×V)} (e:H a=ε (.ins C dx fs)) (cl:vB K C) (ha:PySem.W.findIn K 1.9 "__class__"=ε (ε 5.3))
   (hn:PySem.W.specialIn K 5.3 "__get__"=ε (ε (.builtin "getset_descriptor.__get__"))) (htk:PySem.W.takesIn K 5.3=ε η)
   (hm:PySem.W.mroIn K C 12.7=ε η):vC K H 5.5 1.9
theorem ML(I:0.5)(rx:RelV x u)(ty:vC X.K H x t)(e:PySem.W.kitOne X.K t c=ε b)(h:∀tk,Q (.bool b) {s with toks:=tk}):
  wpAny 0.4 A (call (.builtin "isinstance") [u,c]) Q E s:=by
 cases ty with
 |iY=>cases(show u=Value.none from rx);exact aen PySem.W.kitx_none I.o7 True.intro e 3.5 h
 |bl y=>cases(show u=Value.bool y from rx);exact aen PySem.W.kitx_bool I.o7 True.intro e 3.5 h
 |int i=>obtain⟨t,q⟩:=(show ∃t,u=Value.int i t from rx);cases q;exact aen PySem.W.kitx_int I.o7 True.intro e 3.5 h
 |str y=>obtain⟨t,q⟩:=(show ∃t,u=Value.str y t from rx);cases q;exact aen PySem.W.kitx_str I.o7 True.intro e 3.5 h
 |YG y=>obtain⟨t,q⟩:=(show ∃t,u=Value.float y t from rx);cases q;exact aen PySem.W.kitx_float I.o7 True.intro e 3.5 h
 |@lst a xs ea=>
   cases(show u=Value.ref a from rx);obtain⟨_,_,n,_,h1⟩:=(show dS X.prog X.w H s.heap a (.lst xs)from I.bV a _ ea);exact aen aiP I.o7 ⟨_,h1,rfl⟩ e 3.5 h
 |@za a ob xs ea=>
   cases(show u=Value.ref a from rx);obtain⟨_,_,_,n,_,h1⟩:=(show dS X.prog X.w H s.heap a (.za ob (.lst xs))from I.bV a _ ea);exact aen aiP I.o7 ⟨_,h1,rfl⟩ e 3.5 h
 |@tup a xs ea=>
   cases(show u=Value.ref a from rx);obtain⟨_,_,_,p⟩:=(show dS X.prog X.w H s.heap a (.tup xs)from I.bV a _ ea);obtain⟨o,h1,h2,_⟩:=p;exact aen PySem.W.kitx_tuple I.o7 ⟨o,h1,h2⟩ e 3.5 h
 |@dK a aR ea=>
   cases(show u=Value.ref a from rx);obtain⟨_,_,vs,_,p⟩:=(show dS X.prog X.w H s.heap a (.dK aR)from I.bV a _ ea);obtain⟨o,es,ep,h1,h2,_⟩:=p;exact aen PySem.W.kitx_dict I.o7 ⟨o,h1,h2.1⟩ e 3.5 h
 |@dT a aR ea=>
   cases(show u=Value.ref a from rx);obtain⟨_,_,xs,_,o,es,ep,h1,h2,_⟩:=(show dS X.prog X.w H s.heap a (.dT aR)from I.bV a _ ea);exact aen PySem.W.kitx_dict I.o7 ⟨o,h1,h2.1⟩ e 3.5 h
 |@ins a C dx fs ea cl ha hn htk hm=>
   cases(show u=Value.ref a from rx);obtain⟨mA,O,_⟩:=yK I.bV ea;obtain⟨od,J,_⟩:=O.look;exact aen (PySem.W.kitx_own (cl.get _) cl.hd ha hn htk hm) I.o7 J e 3.5 h
end
structure dQ(k:Nat)(A:Around):Prop where
 hd:A.handled=ζ
 dp:A.depth+3*k+5<recursionLimit
 un:A.units+16*k+200<cLine
def dQ.mono(r:dQ k A)(h:j<=k):dQ j A:=⟨r.hd,by have:=r.dp;lia,by have:=r.un;lia⟩
theorem dQ.deeper(r:dQ (k+1) A)(env:Env):dQ k (A.deeper env):=
 ⟨r.hd,by have:=r.dp;show A.depth+1+3*k+5<_;lia,by have:=r.un;show A.units+3+16*k+200<_;lia⟩
def IC{A:Around}:(A.under 19.4).depth=A.depth+1:=rfl
def ID{A:Around}:(A.under 19.4).units=A.units+1:=rfl
def dQ.make(r:dQ (k+1) A)(C:Addr)(us:cF)(kw:List (Str×Value)):dQ k (A.under 19.4):=
 ⟨r.hd,by have:=r.dp;rw[IC];lia,by have:=r.un;rw[ID];lia⟩
theorem dQ.depth(r:dQ k A):A.depth<recursionLimit:=by have:=r.dp;lia
theorem dQ.units(r:dQ k A):A.units+64<cLine:=by have:=r.un;lia
def OO:TA:=λ_ H Q=>Q [] H
def KH(ta:TE)(tr:TA):TA:=λ8=>ta σ H λx H1=>tr σ H1 λxs H2=>Q (x::xs) H2
section
variable {X:Cx}{e:Expr}{es:6.9}{te:TE}{t:TA}{pos:Pos}
def cz:PA X [] OO:=λ_ _ _ _ H Q I h=>Calls.spliced_nil ⟨[],H,I,.nil,h⟩
def bu(ha:PE X e te)(hr:PA X es t)(hs:starEach 4.5 X.env=1.7::starEach es X.env:=by rfl):PA X 4.5 (KH te t):=by
 intro pos pins s σ H Q I h
 rw[hs]
 refine Calls.spliced_cons (eU 7.7 λu s1 ⟨x,H1,I1,r1,q1⟩=>?_)
 exact eU (hr pos pins s1 σ H1 _ I1 q1) λus s2 ⟨xs,H2,I2,r2,q2⟩=>⟨x::xs,H2,I2,.cons r1 r2,q2⟩
def agg(t:TA):TE:=λ8=>t σ H λxs H1=>xs.length<=sizeLine/\∀p,H1 p=ζ->Q 19.0 (upd H1 p (.tup xs))
def agh(t:TA):TE:=λ8=>t σ H λxs H1=>xs.length<=sizeLine/\∀p,H1 p=ζ->Q 19.0 (upd H1 p (.lst xs))
def IE(h:PA X es t):PE X (.Tuple es x1 pos) (agg t):=by
 intro pins s σ H Q I hq
 refine wpAny_Tuple_spliced (eU (h pos pins s σ H _ I hq) λus s1 ⟨xs,H1,I1,r,z,q⟩=>⟨by rw[<-r.length];exact z,?_⟩)
 have hf:=I1.bV.fresh 5.6
 refine⟨.ref s1.heap.objs.size,upd H1 s1.heap.objs.size (.tup xs),I1.laid (t':=s1.toks) (λb u e=>aao _ e) 5.6 ?_,rfl,q _ hf⟩
 exact⟨z,us,r,⟨_,aaS _ rfl,rfl,_,rfl⟩⟩
def YZ(h:PA X es t):PE X (.List es pos) (agh t):=by
 intro pins s σ H Q I hq
 refine wpAny_List_spliced (eU (h pos pins s σ H _ I hq) λus s1 ⟨xs,H1,I1,r,z,q⟩=>⟨by rw[<-r.length];exact z,?_⟩)
 have hf:=I1.bV.fresh 5.6
 refine⟨.ref s1.heap.objs.size,upd H1 s1.heap.objs.size (.lst xs),I1.laid (t':=s1.toks) (λb u e=>aao _ e) 5.6 ?_,rfl,q _ hf⟩
 exact⟨z,us,0,r,aaS _ rfl⟩
end
abbrev Sp:=List V->Hp->VK->XK->Prop
abbrev WB:=List Env->Hp->Shared->XK->eL
structure DG(P:4.6)(w:World)(K:aq)(mg:cX)(base:Heap)(A:Around)(outer:16.1)(s:Shared)(H:Hp):Prop where
 frames:A.frames=ε outer
 mod:Mod K mg base
 bs:∀b o,base.get? b=ε o->s.heap.get? b=ε o/\H b=ζ
 Ib:base.objs.size<=s.heap.objs.size
 jX:s.heap.FunFrames base outer
 Fz:∀b∈qQ outer,H b=ζ
 bV:qP P w H s.heap
 bare:AllBare s.gens
inductive CE(outer:16.1)(P:4.6)(w:World)(H:Hp)(s:Shared)(Q:VK)(u:Value)(s':Shared):Prop|mk (v H')(_:s'.os=s.os)(_:AllBare s'.gens)(_:Un (qQ outer) [] H H' s.heap s'.heap)(_:qP P w H' s'.heap)(_:RelV v u)(_:Q v H')
def CR(CX:WB)(outer:16.1)(P:4.6)(w:World)(H:Hp)(s:Shared)(Q:VK)(E:XK)(r:Result)(s':Shared):Prop:=
 match r with
 |.ok (.ret u)=>CE outer P w H s Q u s'
 |.ok _=>False
 |.error e=>CX outer H s E e s'
structure mP(P:4.6)(w:World)(K:aq)(mg:cX)(base:Heap)(CX:WB)(k:Nat)(f:Addr)(fd:FuncData)(ps:1.4)(sp:Sp):Prop where
 len:∀vs H Q E,sp vs H Q E->vs.length=ps.length
 run:∀(A:Around) (outer:16.1) (s:Shared) (H:Hp) (args:Args) (us:cF) (vs:List V) (Q:VK) (E:XK),dQ k A->DG P w K mg base A outer s H->BindsTo s fd args (ps.zip us)->bL vs us->sp vs H Q E->
  codeAny (model P w) A (.call 10.3 args) (CR CX outer P w H s Q E) s
def DG.make{K:aq}(e:DG P w K mg base A outer s H)(C:Addr)(us:cF)(kw:List (Str×Value)):
  DG P w K mg base (A.under 19.4) outer s H:=⟨by first|exact e.frames|(simpa[Around.under]using e.frames),e.mod,e.bs,e.Ib,e.jX,e.Fz,e.bV,e.bare⟩
section
variable {X:Cx}{pins:de}{σ:St}{H:Hp}{s s':Shared}
def Inv.Y0(I:0.5):DG X.prog X.w X.K X.mg X.base X.A X.stack s H:=
 ⟨I.ok.frames,I.ok.mod,I.bs,acw I.ok.Ib I.sz,I.stack,I.DD,I.bV,I.bare⟩
def Inv.after(I:0.5)(h:CE X.stack X.prog X.w H s Q u s'):EP X pins σ Q u s':=by
 obtain⟨v,H',os,bare,un,bV,r,q⟩:=h
 obtain⟨hh,g,d,t,os'⟩:=s'
 obtain rfl:os'=s.os:=os
 exact⟨v,H',I.call (h':=hh) (g':=g) (d':=d) (t':=t) (ch:=[]) un bV bare (λb z=>absurd z 0.2),r,q⟩
end
def pO(sp:Sp)(FC:List V)(E:XK)(t:TA):TE:=λ8=>t σ H λvs H1=>sp (vs++FC) H1 Q E
def FU(C:Addr)(m:Str)(sp:Sp)(FC:List V)(E:XK)(ta:TE)(t:TA):TE:=λ8=>ta σ H λx H1=>∃a dx fs,x=.ref a/\H1 a=ε (.ins C dx fs)/\fs.lookup m=ζ/\
 t σ H1 λvs H2=>sp (x::(vs++FC)) H2 Q E
def ac0(C:Addr)(sp:Sp)(FC:List V)(E:XK)(t:TA):TE:=λ8=>t σ H λvs H1=>∀x dx,H1 x=ζ->H1 dx=ζ->dx≠x->
 sp (.ref x::(vs++FC)) (upd (upd H1 dx (.own x)) x (.ins C dx [])) (λv H2=>v=.iY/\Q (.ref x) H2) E
def Binds(K:aq)(fd:FuncData)(ps:1.4)(ds:cF):Prop:=
 ∀(s:Shared) (us:cF),K.In s.heap->(us++ds).length=ps.length->BindsTo s fd ⟨us,[]⟩ (ps.zip (us++ds))
def Binds.all{K:aq}(h:∀us:cF,us.length=ps.length->bindArgs fd ⟨us,[]⟩=pure (ps.zip us)):Binds K fd ps []:=λs us _ hl=>by
 rw[abE]at hl ⊢
 exact .of_eq (h us hl)
def kg(CX:WB)(X:Cx)(E:XK):Prop:=∀(pins:de) (σ:St) (H:Hp) (s:Shared) (e:Value) (s':Shared),Inv X pins σ H s->CX X.stack H s E e s'->X.xe e s'
section
variable {X:Cx}{CX:WB}{k:Nat}{f C:Addr}{fd:FuncData}{ps:1.4}{sp:Sp}{FC:List V}{ds:cF}{E:XK}{x m:Str}{p pos apos:Pos}{e o:Expr}{es:6.9}{ta:TE}{t:TA}
theorem OP(F:11.3)(hr:dQ k X.A)(hb:Binds X.K fd ps ds)(hd:bL FC ds)(hx:kg CX X E)
  (I:0.5)(r:bL vs us)(h:sp (vs++FC) H Q E):wpAny 0.4 X.A (call 10.3 us) 15.2 X.xe s:=by
 have r2:=r.append hd
 have hl:(us++ds).length=ps.length:=by rw[<-r2.length];exact F.len _ _ _ _ h
 refine wpAny_call (afD (F.run X.A X.stack s H ⟨us,[]⟩ (us++ds) (vs++FC) Q E hr I.Y0 (hb s us I.o7 hl) r2 h) λr s' hq=>?_)
 cases r with
 |error e=>exact hx pins σ H s e s' I hq
 |ok fl=>
   cases fl with
   |ret u=>exact I.after hq
   |next=>exact False.elim hq
   |brk=>exact False.elim hq
   |cont=>exact False.elim hq
def DH(F:11.3)(hr:dQ k X.A)(hg:Gl X x)(hm:X.mg x=ε 10.3)(hk:PySem.W.keepIn X.K 10.3=η)(hb:Binds X.K fd ps ds)(hd:bL FC ds)(hx:kg CX X E)
  (ha:PA X 4.5 t)(pP:1.1:=by decide)(he:starEach 4.5 X.env=1.7::starEach es X.env:=by rfl)(jL:0.8:=by rfl):
  PE X 3.1 (pO sp FC E t):=by
 intro 2
 refine afw (lS I hg hm ?_ pP)
 refine PySem.W.callWith_K (h₀:=X.base) I.ok.mod.kin hk (eU 11.8 λus s1 ⟨vs,H1,I1,r,q⟩=>⟨I1.o7,?_⟩) he jL
 exact OP F hr hb hd hx I1 r q
def DI{pl:Sem Bool}(he:PE X o ta)(c:vB X.K C)(hm:pF X.K C m f)(F:11.3)(hr:dQ k X.A)(hb:Binds X.K fd ps ds)(hd:bL FC ds)(hx:kg CX X E)(ha:PA X 4.5 t)
  (Ic:starEach 4.5 X.env=1.7::starEach es X.env:=by rfl)(jL:0.8:=by rfl)
  (ht:eval 6.0 X.env=(do
   let ov <-eval o X.env
   standAt apos.atName
   let(f,first) <-holding [ov] (getMethod ov m pl)
   callWith pos f first (backTo pos (starEach 4.5 X.env)) (backToKw pos 9.5)):=by rfl):
  PE X 6.0 (FU C m sp FC E ta t):=by
 intro 2
 refine PySem.W.methodCall_KW (pl:=pl) (eU (he pins s σ H _ I h) λu s1 ⟨x,H1,I1,rx,a,dx,fs,ex,ea,l,q⟩=>?_) ht
 subst ex
 obtain rfl:u=Value.ref a:=rx
 refine IA I1 ea c hm l ?_
 refine PySem.W.callWith_K (first:=[.ref a]) (h₀:=X.base) I.ok.mod.kin hm.kp (eU (ha pos pins s1 σ H1 _ I1 q) λus s2 ⟨vs,H2,I2,r,q2⟩=>⟨I2.o7,?_⟩) Ic jL
 exact OP (us:=.ref a::us) (vs:=.ref a::vs) F hr hb hd hx I2 (.cons rfl r) q2
structure Mk(K:aq)(C f:Addr):Prop where
 makes:PySem.W.makesIn K C=η
 init:PySem.W.findIn K 1.9 "__init__"=ε (ε 10.3)
 fn:PySem.W.isFn K 10.3=η
 kp:PySem.W.keepIn K 1.9=η
theorem OQ(M:Mk X.K C f)(F:11.3)(hr:dQ (k+1) X.A)(hb:Binds X.K fd ps ds)(hd:bL FC ds)
  (hx:kg CX X E)(I:0.5)(r:bL vs us)
  (h:∀x dx,H x=ζ->H dx=ζ->dx≠x->sp (.ref x::(vs++FC)) (upd (upd H dx (.own x)) x (.ins C dx [])) (λv H2=>v=.iY/\Q (.ref x) H2) E):
  wpAny 0.4 X.A (call 1.9 us) 15.2 X.xe s:=by
 have hq:=h 2.7 s.heap.objs.size (I.bV.fresh (ahv _)) 21.0 (abn (afn _))
 have I2:=Inv.made (C:=C) I
 have r2:bL (V.ref 2.7::(vs++FC)) (Value.ref 2.7::(us++ds)):=.cons rfl (r.append hd)
 have hl:(Value.ref 2.7::us++ds).length=ps.length:=by
  have e:=r2.length;rw[F.len _ _ _ _ hq]at e;exact e.symm
 refine wpAny_call (OM (f:=f) I.o7 M.makes M.init (afq.mp M.fn) (afD (F.run _ X.stack _ _ ⟨Value.ref 2.7::us,[]⟩ (Value.ref 2.7::(us++ds)) _ _ E (hr.make C us [])
  (I2.Y0.make C us []) (hb _ (Value.ref 2.7::us) I2.o7 hl) r2 hq) λr s' hq'=>?_))
 cases r with
 |error e=>exact hx pins σ _ _ e s' I2 hq'
 |ok fl=>
   cases fl with
   |ret u=>
     obtain⟨v,H',I3,rv,ev,q3⟩:=I2.after hq';subst ev;exact⟨rv,⟨V.ref 2.7,H',I3,rfl,q3⟩⟩
   |next=>exact False.elim hq'
   |brk=>exact False.elim hq'
   |cont=>exact False.elim hq'
def OR(M:Mk X.K C f)(F:11.3)(hr:dQ (k+1) X.A)(hg:Gl X x)(hm:X.mg x=ε 1.9)(hb:Binds X.K fd ps ds)(hd:bL FC ds)(hx:kg CX X E)
  (pP:1.1:=by decide):PE X (.Call (.Name x p) [] [] pos) (ac0 C sp FC E OO):=by
 intro 2
 refine afw (lS I hg hm ?_ pP)
 exact PySem.W.callWith_K0 I.o7 M.kp (OQ (us:=[]) M F hr hb hd hx I .nil h)
end
structure ax(N P:1.4)(sc:Scope):Prop where
 kind:sc.kind=.function
 co:sc.isCoroutine=θ
 gen:sc.isGenerator=θ
 nd:N.Nodup
 pre:N.take P.length=P
 par:∀x∈P,sc.names.lookup x=ε .local\/sc.names.lookup x=ε .cell
 Y1:∀y∈sc.names,y.2≠.free
theorem Cw{kindOf:Str->Option NameKind}:∀{binds:List (Str×Value)} {m:cX},(∀v,(x,v)∉binds)->bindL kindOf binds m x=m x
 |[],_,_=>rfl
 |(n,v)::r,m,h=>by
   unfold bindL;rw[Cw λw hw=>h w (aa8 _ hw)];split
   .have:x≠n:=by rintro rfl;exact h v abd
    simp[this]
   .rfl
theorem Cy{kindOf:Str->Option NameKind}:∀{binds:List (Str×Value)} {m:cX},(∀v,(x,v)∉binds)->bindC kindOf binds m x=m x
 |[],_,_=>rfl
 |(n,v)::r,m,h=>by
   unfold bindC;rw[Cy λw hw=>h w (aa8 _ hw)];split;.rfl
   .have:x≠n:=by rintro rfl;exact h v abd
    simp[this]
theorem Cz{kindOf:Str->Option NameKind}:∀{P:1.4} {vs:cF} {i:Nat} {m:cX},P.Nodup->P[i]?=ε x->vs[i]?=ε v->kindOf x=ε .local->
  bindL kindOf (P.zip vs) m x=ε v
 |[],_,_,_,_,h,_,_=>by simp at h
 |_::_,[],_,_,_,_,h,_=>by simp at h
 |p::P,w::vs,0,m,nd,h1,h2,hk=>by
   simp at h1 h2;subst h1;subst h2;show bindL kindOf ((p,w)::P.zip vs) m p=_;unfold bindL;rw[Cw λv hv=>(List.nodup_cons.mp nd).1 (aio hv).1,abe hk];simp
 |p::P,w::vs,i+1,m,nd,h1,h2,hk=>by
   show bindL kindOf ((p,w)::P.zip vs) m x=_;exact Cz (i:=i) (List.nodup_cons.mp nd).2 (by simpa using h1) (by simpa using h2) hk
theorem CA{kindOf:Str->Option NameKind}:∀{P:1.4} {vs:cF} {i:Nat} {m:cX},P.Nodup->P[i]?=ε x->vs[i]?=ε v->kindOf x≠ε .local->
  bindC kindOf (P.zip vs) m x=ε v
 |[],_,_,_,_,h,_,_=>by simp at h
 |_::_,[],_,_,_,_,h,_=>by simp at h
 |p::P,w::vs,0,m,nd,h1,h2,hk=>by
   simp at h1 h2;subst h1;subst h2;show bindC kindOf ((p,w)::P.zip vs) m p=_;unfold bindC;rw[Cy λv hv=>(List.nodup_cons.mp nd).1 (aio hv).1,abo hk];simp
 |p::P,w::vs,i+1,m,nd,h1,h2,hk=>by
   show bindC kindOf ((p,w)::P.zip vs) m x=_;exact CA (i:=i) (List.nodup_cons.mp nd).2 (by simpa using h1) (by simpa using h2) hk
def start(N:1.4)(vs:List V):St:=vs.map ε++List.replicate (N.length-vs.length) ζ
noncomputable def eV(CX:WB)(P:4.6)(w:World)(K:aq)(mg:cX)(base:Heap)(N:1.4)(qual:Str)(scope:Scope)(f:Addr)(cd:Value)(A:Around)(outer:16.1)(s:Shared)(H:Hp)(E:XK):Cx where
 prog:=P
 w:=w
 K:=K
 mg:=mg
 base:=base
 A:=A.deeper 1.2
 N:=N
 jt:=s
 Ov:=H
 env:=envOfC qual scope s.heap.objs.size f cd
 outer:=outer
 stack:=envOfC qual scope s.heap.objs.size f cd::outer
 ex:=[]
 calm:=η
 fn:=λ_=>η
 pn:=[]
 xe:=λe s'=>wpAny (model P w) (A.deeper 1.2) (leaving 1.2 e) (λ_ s''=>CX outer H s E e s'') (λe' s''=>CX outer H s E e' s'') s'
def FV{sc:Scope}(h:sc.names.lookup x=ε .cell):∃c,(cellsFrom n sc.names []).lookup x=ε c:=by
 have q:=PySem.W.cellsFrom_some sc.names n [] (.inl h)
 exact aha.mp q
theorem CC{K:aq} 
  (S:ax N ps scope)(hd:21.1)(e0:DG P w K mg base A outer s H)(hl:vs.length=ps.length)(r:bL vs us)
  (x:InCallC s s.heap.objs.size (bindL (envOfC qual scope s.heap.objs.size f cd).kindOf (ps.zip us) λ_=>ζ) (cellsFrom 2.7 scope.names []) (bindC (envOfC qual scope s.heap.objs.size f cd).kindOf (ps.zip us) λ_=>ζ) s1):
  Inv (eV CX P w K mg base N qual scope f cd A outer s H E) [] 16.7 H s1:=by
 have jL:ps.length<=N.length:=by have:=ade List.length S.pre;rw[afy]at this;lia
 obtain⟨h1,tk,rfl,hk⟩:=x.done
 have noA:∀b:Addr,b∉(eV CX P w K mg base N qual scope f cd A outer s H E).ex:=λb z=>absurd (show b∈([]:List Addr)from z) 0.2
 refine⟨⟨e0.mod,S.kind,rfl,rfl,abb _,λy z c h1 h2=>?_,λy hy=>?_,λy c _ h=>?_,λ_=>hd,Around.frames_deeper e0.frames,.inr ⟨rfl,rfl⟩,λb z=>absurd z (noA b),e0.bs,e0.Ib,λb _ _=>noA b,λb z=>absurd z (noA b),e0.jX,e0.Fz⟩,
  rfl,e0.bare,Un.kept hk,⟨_,x.toInCall.ns,λi y v h1 h2 h3=>?_⟩,λy c h=>⟨_,x.cell y c h⟩,e0.bV.fresh 5.6,λy c h=>?_,λ21=>absurd (show p∈([]:de)from hp) 0.2,e0.bV.kept hk,?_⟩
 .exact name_of_addr x.apart (agl h1) (agl h2)
 .have hy:scope.names.lookup y=ε .cell\/scope.names.lookup y=ε .free:=hy;rcases hy with hy|hy;.exact FV hy
  .exact absurd rfl (S.Y1 _ (agl hy))
 .exact afY (x.above y c (agl h))
 .have hi:i<vs.length:=by
   unfold start at h2;by_cases hi:i<vs.length;.grind
   .grind
  have ha:vs[i]?=ε v:=by
   unfold start at h2;rw[List.getElem?_append_left (by simpa using hi),List.getElem?_map]at h2;cases e:vs[i]? with
   |none=>rw[e]at h2;cases h2
   |some a=>rw[e]at h2;cases h2;rfl
  obtain⟨u,hu,rv⟩:=r.get ha;have hp:ps[i]?=ε y:=by
   rw[<-S.pre,List.getElem?_take_of_lt 0.1];exact h1
  have ndP:ps.Nodup:=by rw[<-S.pre];exact S.nd.sublist (List.take_sublist _ _)
  refine⟨u,rv,?_⟩;rcases S.par y (afd hp)with k|k;.exact .inl ⟨k,Cz ndP hp hu k⟩
  .obtain ⟨c,e⟩:=FV (n:=s.heap.objs.size+1) k;refine .inr ⟨.inl k,c,e,?_⟩;have q:=x.cell y c e;rw[CA ndP hp hu (by show scope.names.lookup y≠_;rw[k];decide)]at q;exact q
 .exact e0.bV.fresh (afY (x.above y c (agl h)))
 .unfold start;show _=N.length;rw[abm,aaI,ahL];lia
theorem KI{K:aq}{dV kV doc pm bW ct oc:Value} 
  (lk:K.lookup f=ε ⟨oc,od,.func (PySem.W.fnOf name qual params body scope dV kV doc pm an bW ct),KJ⟩)(xC:PySem.W.codeIn K bW qual=η)(S:ax N ps scope)
  (len:22.8)
  (t8:∀(A:Around) (outer:16.1) (s:Shared) (H:Hp) (vs:List V) (Q:VK) (E:XK),dQ k (A.deeper (envOfC qual scope s.heap.objs.size f bW))->sp vs H Q E->
   ∃t,ke (eV CX P w K mg base N qual scope f bW A outer s H E) body t/\t {nx:=λ_ H'=>Q .iY H',rt:=Q} 16.7 H):
  mP P w K mg base CX (k+1) f (PySem.W.fnOf name qual params body scope dV kV doc pm an bW ct) ps sp:=by
 refine⟨len,λA outer s H args us vs Q E hr e0 hb r OS=>?_⟩
 have hl:=len _ _ _ _ OS
 have KX:=e0.mod.kin.keeps λ14=>(e0.bs b o e).1
 have lim:=e0.mod.nolimit.keeps λ14=>(e0.bs b o e).1
 have OT:∀y∈ps.zip us,scope.names.lookup y.1=ε .local\/(scope.names.lookup y.1=ε .cell/\((cellsFrom 2.7 scope.names []).lookup y.1).isSome=η):=λ⟨n,v⟩ hy=>by
  rcases S.par n (aio hy).1 with q|q;.grind
  .exact .inr ⟨q,PySem.W.cellsFrom_some _ _ _ (.inl q)⟩
 refine codeAny_call_function hr.depth (KX _ _ lk) rfl S.co S.gen rfl (PySem.W.codeRec_of KX xC) (hb _ _ _ _ ?_)
 refine wpAny_newFunctionEnv_cells S.kind OT λenv he s1 x=>?_
 subst he
 refine⟨lim.keeps x.toInCall.keep,codeAny_func ?_⟩
 obtain⟨t,ht,hq⟩:=t8 A outer s H vs Q E (hr.deeper _) OS
 have I:Inv (eV CX P w K mg base N qual scope f bW A outer s H E) [] 16.7 H s1:=CC S hr.hd e0 hl r x
 refine abw (ht [] s1 16.7 H _ I hq) (λfl s' hs=>?_) λe s' hs=>hs
 have fin:∀{d8:St} {H':Hp} {v:V} {u:Value},Inv (eV CX P w K mg base N qual scope f bW A outer s H E) [] d8 H' s'->RelV v u->Q v H'->CE outer P w H s Q u s':=
  λ{d8 H' v u} J rv q=>⟨v,H',J.os,J.bare,J.base,J.bV,rv,q⟩
 cases fl with
 |ret u=>
   obtain⟨v,d8,H',J,rv,q⟩:=hs;exact fin J rv q
 |next=>
   obtain⟨d8,H',J,q⟩:=hs;exact fin (v:=V.iY) (u:=Value.none) J rfl q
 |brk=>
   obtain⟨_,_,_,q⟩:=hs;exact False.elim q
 |cont=>
   obtain⟨_,_,_,q⟩:=hs;exact False.elim q
section
variable {X:Cx}{x:Str}{p pos:Pos}{e:Expr}{es:6.9}{t:TA}{id T:String}{r:List V->Hp->VK->Prop}
def tCB(r:List V->Hp->VK->Prop)(t:TA):TE:=λ8=>t σ H λvs H1=>r vs H1 Q
def t9(hc:gN X 22.2 r)(hg:Gl X x)(hm:X.mg x=ζ)(hv:bootBuiltins x=ε 22.2)(ha:PA X 4.5 t)(hn:x≠"__name__":=by decide)(pP:1.1:=by decide)
  (he:starEach 4.5 X.env=1.7::starEach es X.env:=by rfl)(jL:0.8:=by rfl):PE X 3.1 (tCB r t):=by
 intro 2
 refine afw (nA I hg hm hv ?_ hn pP)
 exact PyProof.Rows.callWith_builtin1 (eU 11.8 λus s1 ⟨vs,H1,I1,r1,q1⟩=>hc pins s1 σ H1 vs us Q I1 r1 q1) he jL
def qS(hc:gN X 20.5 r)(hg:Gl X x)(hm:X.mg x=ζ)(hv:bootBuiltins x=ε 20.5)(ha:PA X 4.5 t)(hn:x≠"__name__":=by decide)(pP:1.1:=by decide)
  (he:starEach 4.5 X.env=1.7::starEach es X.env:=by rfl)(jL:0.8:=by rfl):PE X 3.1 (tCB r t):=by
 intro 2
 refine afw (nA I hg hm hv ?_ hn pP)
 exact afa (eU 11.8 λus s1 ⟨vs,H1,I1,r1,q1⟩=>hc pins s1 σ H1 vs us Q I1 r1 q1) he jL
end
end L2
namespace HT
open PySem PyProof.Rows
section
variable {prog:4.6}{w:World}{A:Around}{E:eL}{s:Shared}
def TL(ht:IsTup s.heap t vs.toArray)(hb:IsTup s.heap b ws.toArray)(hv:vs≠[])
  (h1:ws=[]->Q (.ref t) s)(h2:ws≠[]->Q 2.6 {s with heap:=s.heap.push {cls:=.type "tuple",data:=.seq (vs++ws).toArray}})
  (hsz:vs.length+ws.length<=sizeLine):wpAny 0.7 A (binaryOp .Add (.ref t) (.ref b)) Q E s:=by
 obtain⟨⟨cls,dd,data,sl⟩,ho,hc,n,hd⟩:=id ht
 obtain⟨⟨aj2,dd2,data2,Y2⟩,qO,hc2,n2,hd2⟩:=id hb
 subst hc hd hc2 hd2
 have e:vs.toArray++ws.toArray=(vs++ws).toArray:=by simp
 by_cases hw:ws=[]
 .exact concat_meets ⟨_,ho,rfl⟩ ⟨_,qO,rfl⟩ noFill_tuple_add seq_tuple_add ahz ahw (ahc _ _)
   (tuple_addW1 t b vs.toArray ws.toArray n n2 dd dd2 sl Y2 (by simpa using hv) (by simp[hw])) ⟨ho,qO,h1 hw⟩
 .refine concat_meets ⟨_,ho,rfl⟩ ⟨_,qO,rfl⟩ noFill_tuple_add seq_tuple_add ahz ahw (ahc _ _)
   (tuple_addW2 t b vs.toArray ws.toArray n n2 dd dd2 sl Y2 (by simpa using hv) (by simpa using hw) (by rw[List.size_toArray,List.size_toArray];exact hsz)) ⟨ho,qO,?_⟩;rw[e];exact h2 hw
noncomputable def sk(n d:Nat):Option Int->Nat
 |none=>d
 |some v=>if v<0 then(v+(n:Int)).toNat else min v.toNat n
def zo(n d:Nat):sk n d ζ=d:=rfl
def KL(n d k:Nat):sk n d 25.2=min k n:=rfl
end
end HT
namespace L2
open PySem PySem.Spec PyProof.Rows
abbrev TO:=St->Hp->(Option Int->Hp->Prop)->Prop
def PO(X:Cx)(e:Option Expr)(t:TO):Prop:=
 ∀(pins:de) (s:Shared) (σ:St) (H:Hp) (Q:Option Int->Hp->Prop),Inv X pins σ H s->t σ H Q->
   wpAny 0.4 X.A (evalPart e X.env) (λu s'=>∃o H',Inv X pins σ H' s'/\IsPart u o/\Q o H') X.xe s
def TM:TO:=λ_ H Q=>Q ζ H
def ac4(t:TE):TO:=λ8=>t σ H λx H1=>∃i,x=.int i/\Q (ε i) H1
theorem intsAre_of:∀{us:cF},bL 19.2 us->IntsAre us ns:=by
 induction ns with
 |nil=>intro us r;rw[ait]at r;cases r;exact .nil
 |cons n ns ih=>
   intro us r;cases r with
   |cons r1 r2=>
     obtain⟨t,e⟩:=r1;subst e;exact .cons n t (ih r2)
section
variable {X:Cx}{e:Expr}{te:TE}{lo hi:Option Expr}{tl th:TO}{pos p2:Pos}
def TN:PO X ζ TM:=by
 intro 2
 exact aaR ⟨ζ,H,I,.none,h⟩
def TQ(h:PE X e te):PO X (ε e) (ac4 te):=by
 intro pins s σ H Q I hw
 refine eU (h pins s σ H _ I hw) λu s1 ⟨x,H1,I1,r1,q1⟩=>?_
 obtain⟨i,rfl,q⟩:=q1
 obtain⟨t,rfl⟩:=r1
 exact⟨ε i,H1,I1,.int i t,q⟩
def SlR(X:Cx)(r:V->Option Int->Option Int->Hp->VK->Prop):Prop:=
 ∀(pins:de) (s:Shared) (σ:St) (H:Hp) (x:V) (v vl vu:Value) (lo hi:Option Int) (sl:Addr) (Q:VK),Inv X pins σ H s->RelV x v->s.heap.IsSliceOf sl vl vu .none->IsPart vl lo->IsPart vu hi->r x lo hi H Q->
   ∃T id,typeLookup 20.5 "__getitem__"=pure (ε 22.2)/\s.TypeIs v T/\wpAny 0.4 X.A (getItem v (.ref sl)) 15.2 X.xe s
def tSl(r:V->Option Int->Option Int->Hp->VK->Prop)(te:TE)(tl th:TO):TE:=λ8=>te σ H λx H1=>tl σ H1 λl H2=>th σ H2 λu H3=>r x l u H3 Q
def FW(hr:SlR X r)(he:PE X e te)(hl:PO X lo tl)(hu:PO X hi th):PE X (.Subscript e (.Slice lo hi ζ p2) pos) (tSl r te tl th):=by
 intro 2
 refine Subscript_ (eU (he pins s σ H _ I h) λv s1 ⟨x,H1,I1,r1,q1⟩=>?_)
 refine wpAny_Slice (eU (hl pins s1 σ H1 _ I1 q1) λvl s2 ⟨l,H2,I2,pl,q2⟩=>eU (hu pins s2 σ H2 _ I2 q2) λvu s3 ⟨u,H3,I3,pu,q3⟩=>?_)
 refine aaR ?_
 have I4:Inv X pins σ H3 {s3 with heap:=s3.heap.push {cls:=.type "slice",data:=.fields #[vl,vu,.none]}}:=I3.kept (t':=s3.toks) λb ob q=>aao _ q
 obtain⟨T,id,hT,ht,hg⟩:=hr pins {s3 with heap:=s3.heap.push {cls:=.type "slice",data:=.fields #[vl,vu,.none]}} σ H3 x v vl vu l u s3.heap.objs.size Q I4 r1 (Heap.IsSliceOf.new ..) pl pu q3
 exact tail_any (ops:=[.ref s3.heap.objs.size,v]) ht hT hg 7.8
def OU(xs:List V)(lo hi:Option Int):List V:=(xs.drop (HT.sk xs.length 0 lo)).take (HT.sk xs.length xs.length hi-HT.sk xs.length 0 lo)
def FX(xs:List V)(lo hi:Option Int):(OU xs lo hi).length<=xs.length:=by
 unfold OU
 rw[afy,afz]
 lia
def WC(K:aq):R2:=λ13=>∃a b xs ys,x=.ref a/\y=.ref b/\o8 K H a xs/\o8 K H b ys/\xs≠[]/\xs.length+ys.length<=sizeLine/\
 (ys=[]->Q 5.5 H)/\(ys≠[]->∀p,H p=ζ->Q 19.0 (upd H p (.tup (xs++ys))))
theorem bL.yL(r:bL xs us):us=[]↔xs=[]:=by
 cases r with
 |nil=>simp
 |cons _ _=>simp
def TR:kQ X (binaryOp .Add) (WC X.K):=by
 intro 3
 obtain⟨a,b,xs,ys,rfl,rfl,ha,hb,hx,hz,q1,q2⟩:=h
 cases rx
 cases ry
 obtain⟨its,r1,p1,_⟩:=I.tuple ha
 obtain⟨Bv,r2,p2,_⟩:=I.tuple hb
 refine HT.TL p1 p2 (λz=>hx (r1.yL.mp z)) (λz=>⟨.ref a,H,I,rfl,q1 (r2.yL.mp z)⟩) (λz=>?_) (by rw[<-r1.length,<-r2.length];exact hz)
 refine⟨.ref s.heap.objs.size,_,I.laid (t':=s.toks) (o:=.tup (xs++ys)) (λb ob q=>aao _ q) 5.6 ?_,rfl,q2 (λw=>z (r2.yL.mpr w)) _ 21.0⟩
 exact⟨by rw[abm];exact hz,_,r1.append r2,IsTup.new _ _⟩
end
noncomputable def ixN(n:Nat)(i:Int):Option Nat:=if 0<=i then(if i<n then ε i.toNat else ζ)else if -(n:Int)<=i then ε (i+n).toNat else ζ
def CD{α:Type}(xs:List α)(i:Int):Option α:=(ixN xs.length i).bind λj=>xs[j]?
def TU(h:ixN n i=ε j):seqIndex? i n=ε j/\j<n/\-(n:Int)<=i/\i<n:=by
 unfold ixN at h
 by_cases h0:0<=i
 .rw [abe h0]at h;by_cases h1:i<n
  .rw [abe h1]at h;have e:=adM h;exact⟨by rw[seqIndex_of h0 h1,e],by lia,by lia,h1⟩
  .grind
 .rw [abo h0]at h;by_cases h1:-(n:Int)<=i
  .rw [abe h1]at h;have e:=adM h;exact⟨by rw[seqIndex_neg 0.1 h1,e],by lia,h1,by lia⟩
  .grind
theorem DJ(h:CD xs i=ε v):∃j,seqIndex? i xs.length=ε j/\xs[j]?=ε v/\j<xs.length/\-(xs.length:Int)<=i/\i<xs.length:=by
 unfold CD at h
 cases e:ixN xs.length i with
 |none=>rw[e]at h;cases h
 |some j=>
   rw[e]at h;obtain⟨h1,h2,h3,h4⟩:=TU e;exact⟨j,h1,h,h2,h3,h4⟩
def iI{j:Nat}(h:xs[j]?=ε v):CD xs (j:Int)=ε v:=by
 have hj:=(abp.mp h).1
 have e:ixN xs.length (j:Int)=ε j:=by
  unfold ixN;rw[abe 0.1,abe 0.1];simp
 unfold CD;rw[e];exact h
def yM(b:Expr):Prop:=∀o i,subscripted b θ o i=operate [o,i] (getItem o i)
def TV(X:Cx)(r:R2):Prop:=
 ∀(value slice:Expr) (pins:de) (s:Shared) (σ:St) (H:Hp) (x y:V) (v u:Value) (Q:VK),Inv X pins σ H s->RelV x v->RelV y u->r x y H Q->
   subscripted slice θ v u=operate [v,u] (getItem v u)->wpAny 0.4 X.A (subscriptTail value slice v u) 15.2 X.xe s
def TX(X:Cx)(id:String)(r:V->List V->Hp->VK->Prop):Prop:=
 ∀(pins:de) (s:Shared) (σ:St) (H:Hp) (x:V) (xs:List V) (v:Value) (us:cF) (Q:VK),Inv X pins σ H s->RelV x v->bL xs us->r x xs H Q->
   wpAny 0.4 X.A (call 22.2 (v::us)) 15.2 X.xe s
section
variable {X:Cx}{a b:Expr}{ta tb:TE}{pos:Pos}
def TV.or(h:TV X r)(h':TV X r'):TV X (λ13=>r x y H Q\/r' x y H Q):=by
 intro value slice pins s σ H x y v u Q I rx ry q hs
 rcases q with q|q
 .exact h value slice pins s σ H x y v u Q I rx ry q hs
 .exact h' value slice pins s σ H x y v u Q I rx ry q hs
def WD(hr:TV X r)(ha:PE X a ta)(hb:PE X b tb)(hs:yM b):PE X (.Subscript a b pos) (YR r ta tb):=by
 intro 2
 exact Subscript_ (YS ha hb I h λv u s2 x y H2 I2 rx ry q=>hr a b pins s2 σ H2 x y v u Q I2 rx ry q (hs _ _))
def ac5(K:aq):R2:=λ13=>∃p xs i v,x=.ref p/\y=.int i/\nD K H p xs/\CD xs i=ε v/\Q v H
def ac6(K:aq):R2:=λ13=>∃p xs i v,x=.ref p/\y=.int i/\o8 K H p xs/\CD xs i=ε v/\Q v H
def ac7:R2:=λ13=>∃z i c,x=.str z/\y=.int i/\z.length<=sizeLine/\CD z.cps.toList i=ε c/\Q (.str ⟨#[c]⟩) H
def TY:TV X (ac5 X.K):=by
 intro value slice pins s σ H x y v u Q I rx ry h hs
 obtain⟨p,xs,i,z,rfl,rfl,hq,he,q⟩:=h
 cases rx
 obtain⟨t,rfl⟩:=ry
 obtain⟨its,r,pl,hz⟩:=I.list hq
 obtain⟨j,h1,h2,h3,h4,h5⟩:=DJ he
 obtain⟨w,ew,OV⟩:=r.get h2
 have hl:=r.length
 have hn:=zl
 have fin:EP X pins σ Q w s:=⟨z,H,I,OV,q⟩
 by_cases h0:0<=i
 .have hj:i.toNat=j:=by
   rw[seqIndex_of h0 h5]at h1;exact adM h1
  exact item_listR pl.isList h0 0.1 (by rw[hj];simpa using ew) fin hs
 .have hj:(i+(its.toArray.size:Int)).toNat=j:=by
   rw[seqIndex_neg 0.1 h4]at h1;rw[abr,<-hl];exact adM h1
  exact subscriptTail_builtinR (x:=w) pl.isList.typeIs slot_list_getitem.lookup
   (wpAny_getItem_list_neg (Q:=λr s'=>r=w/\EP X pins σ Q r s') pl.isList 0.1 (by rw[List.size_toArray]<;>lia) 0.1 (by rw[hj];simpa using ew) ⟨rfl,fin⟩) hs
def Y3:TV X (ac6 X.K):=by
 intro value slice pins s σ H x y v u Q I rx ry h hs
 obtain⟨p,xs,i,z,rfl,rfl,hq,he,q⟩:=h
 cases rx
 obtain⟨t,rfl⟩:=ry
 obtain⟨its,r,pl,hz⟩:=I.tuple hq
 obtain⟨j,h1,h2,h3,h4,h5⟩:=DJ he
 obtain⟨w,ew,OV⟩:=r.get h2
 have hl:=r.length
 have hn:=zl
 have fin:EP X pins σ Q w s:=⟨z,H,I,OV,q⟩
 exact subscriptTail_builtinR (x:=w) pl.typeIs slot_tuple_getitem.lookup
  (getItem_tuple (j:=j) (Q:=λr s'=>r=w/\EP X pins σ Q r s') pl 0.1 0.1 (by rw[List.size_toArray,<-hl];exact h1) (by simpa using ew) ⟨rfl,fin⟩) hs
def Y4:TV X ac7:=by
 intro value slice pins s σ H x y v u Q I rx ry h hs
 obtain⟨z,i,c,rfl,rfl,hz,he,q⟩:=h
 intro 10
 obtain⟨t',rfl⟩:=ry
 obtain⟨j,h1,h2,h3,h4,h5⟩:=DJ he
 have hl:z.cps.toList.length=z.length:=by simp[Str.length]
 rw[hl]at h1 h4 h5
 have hn:=zl
 exact tail_any (agO s z t) slot_str_getitem.lookup (getItem_str (c:=c) (by
  have e1:ι (i< -(2^63:Int))=false:=abD 0.1;have e2:ι (i >=2^63)=false:=abD 0.1;rw[e1,e2,Bool.or_false]) (by rw[h1];simpa using h2) ⟨.str ⟨#[c]⟩,H,I.tok _,⟨_,rfl⟩,q⟩) hs
def rIx(K:aq):R2:=λ13=>ac5 K x y H Q\/ac6 K x y H Q\/ac7 x y H Q
def OW:TV X (rIx X.K):=TY.or (Y3.or Y4)
theorem DL(lo hi:Option Int)(n:Nat):(sliceBounds lo hi ζ n).1=((HT.sk n 0 lo:Nat):Int)/\(sliceBounds lo hi ζ n).2.1=((HT.sk n n hi:Nat):Int)/\(sliceBounds lo hi ζ n).2.2=1:=by
 refine⟨?_,?_,rfl⟩
 .cases lo with
  |none=>simp[sliceBounds,HT.sk]
  |some i=>
    simp only[sliceBounds,HT.sk];by_cases h:i<0;.grind
    .grind
 .cases hi with
  |none=>simp[sliceBounds,HT.sk]
  |some i=>
    simp only[sliceBounds,HT.sk];by_cases h:i<0;.grind
    .grind
def Bw(its:cF)(lo hi:Option Int):slicePick its.toArray lo hi ζ=((its.drop (HT.sk its.length 0 lo)).take (HT.sk its.length its.length hi-HT.sk its.length 0 lo)).toArray:=by
 obtain⟨h1,h2,h3⟩:=DL lo hi its.toArray.size
 unfold slicePick
 rw[h1,h2,h3]
 simp only[sliceRange_one,pick_run]<;>rfl
def agk(K:aq):V->Option Int->Option Int->Hp->VK->Prop:=λx lo hi H Q=>∃a xs,x=.ref a/\nD K H a xs/\∀p,H p=ζ->Q 19.0 (upd H p (.lst (OU xs lo hi)))
def TZ:SlR X (agk X.K):=by
 intro pins s σ H x v vl vu lo hi sl Q I rx hs pl pu h
 obtain⟨a,xs,rfl,hx,q⟩:=h
 cases rx
 obtain⟨its,r,ht,hz⟩:=I.list hx
 have hlen:=r.length
 refine⟨"list",_,slot_list_getitem.lookup,ht.isList.typeIs,?_⟩
 refine wpAny_getItem_list_slice ht.isList hs pl pu .none 0.2 ?_ (by rw[abr]<;>lia)
 rw[Bw,<-hlen]
 refine⟨.ref s.heap.objs.size,_,I.laid (t':=s.toks) (o:=.lst (OU xs lo hi)) (λb ob q=>aao _ q) 5.6 ?_,rfl,q _ 21.0⟩
 exact⟨acw (FX xs lo hi) hz,_,0,(r.drop (HT.sk xs.length 0 lo)).take (HT.sk xs.length xs.length hi-HT.sk xs.length 0 lo),aaS _ rfl⟩
def o9:V->Bool
 |.iY=>η
 |.bl _=>η
 |.int _=>η
 |.str _=>η
 |_=>θ
noncomputable def T1:V->V->Bool
 |.iY,.iY=>η
 |.bl a,.bl b=>a==b
 |.bl a,.int b=>(if a then 1 else 0)==b
 |.int a,.bl b=>a==(if b then 1 else 0)
 |.int a,.int b=>a==b
 |.str a,.str b=>a==b
 |_,_=>θ
theorem Y5(ry:RelV y u)(rx:RelV x v)(fy:o9 y=η)(fx:o9 x=η):SeqAt.EqAt A s u v (T1 y x):=by
 cases y with
 |iY=>
   cases ry;cases x with
   |iY=>cases rx;exact SeqAt.EqAt.same _
   |bl b=>cases rx;exact SeqAt.EqAt.none_bool b
   |int b=>obtain⟨t,rfl⟩:=rx;exact SeqAt.EqAt.none_int b t
   |str b=>obtain⟨t,rfl⟩:=rx;exact SeqAt.EqAt.none_str b t
   |_=>exact absurd (show θ=η from fx) abj
 |bl a=>
   cases ry;cases x with
   |iY=>cases rx;exact SeqAt.EqAt.bool_none a
   |bl b=>cases rx;exact SeqAt.EqAt.bool_bool a b
   |int b=>obtain⟨t,rfl⟩:=rx;exact SeqAt.EqAt.bool_int a b t
   |str b=>obtain⟨t,rfl⟩:=rx;exact SeqAt.EqAt.bool_str a b t
   |_=>exact absurd (show θ=η from fx) abj
 |int a=>
   obtain⟨t',rfl⟩:=ry;cases x with
   |iY=>cases rx;exact SeqAt.EqAt.int_none a t'
   |bl b=>cases rx;exact SeqAt.EqAt.int_bool a t' b
   |int b=>obtain⟨t,rfl⟩:=rx;exact SeqAt.EqAt.int_int a t' b t
   |str b=>obtain⟨t,rfl⟩:=rx;exact SeqAt.EqAt.int_str a t' b t
   |_=>exact absurd (show θ=η from fx) abj
 |str a=>
   obtain⟨t',rfl⟩:=ry;cases x with
   |iY=>cases rx;exact SeqAt.EqAt.str_none a t'
   |bl b=>cases rx;exact SeqAt.EqAt.str_bool a t' b
   |int b=>obtain⟨t,rfl⟩:=rx;exact SeqAt.EqAt.str_int a t' b t
   |str b=>obtain⟨t,rfl⟩:=rx;exact SeqAt.EqAt.str_str a t' b t
   |_=>exact absurd (show θ=η from fx) abj
 |_=>exact absurd (show θ=η from fy) abj
def IF(x:V)(u:Value):Bool:=match u with
 |.none=>T1 .iY x
 |.bool b=>T1 (.bl b) x
 |.int i _=>T1 17.6 x
 |.str z _=>T1 (.str z) x
 |_=>θ
theorem OX(r:RelV y u)(f:o9 y=η):IF x u=T1 y x:=by
 cases y with
 |iY=>cases r;rfl
 |bl b=>cases r;rfl
 |int i=>obtain⟨t,rfl⟩:=r;rfl
 |str z=>obtain⟨t,rfl⟩:=r;rfl
 |_=>exact absurd (show θ=η from f) abj
theorem ua:∀{xs:List V} {us:cF},bL xs us->xs.all o9=η->us.any (IF x)=xs.any λy=>T1 y x
 |_,_,.nil,_=>rfl
 |y::xs,u::us,.cons r t,f=>by
   rw[ahe,abi]at f;rw[ahh,ahh,OX r f.1,ua t f.2]
theorem pQ(rx:RelV x v)(fx:o9 x=η):∀{xs:List V} {us:cF},bL xs us->xs.all o9=η->∀u∈us,SeqAt.EqAt A s u v (IF x u)
 |_,_,.nil,_=>λu hu=>by cases hu
 |y::xs,u::us,.cons r t,f=>λu' hu=>by
   rw[ahe,abi]at f;rcases aa9.mp hu with rfl|hu;.rw [OX r f.1];exact Y5 r rx f.1 fx
   .exact pQ rx fx t f.2 u' hu
def inV(x:V)(xs:List V):Bool:=xs.any λy=>T1 y x
def rIn(K:aq)(neg:Bool):R2:=λ13=>∃p xs,y=.ref p/\(nD K H p xs\/o8 K H p xs)/\o9 x=η/\xs.all o9=η/\Q (.bl (if neg then !inV x xs else inV x xs)) H
def MM:kQ X (compareOp .In) (rIn X.K θ):=by
 intro 3
 obtain⟨p,xs,rfl,hq,fx,fs,q⟩:=h
 cases ry
 rcases hq with hq|hq
 .obtain ⟨its,r,pl,hz⟩:=I.list hq;refine SeqAt.in_listAt (IF x) pl.isList 24.1 ⟨.bl _,H,I,rfl,?_⟩;rw[show its.toArray.any (IF x)=its.any (IF x)by simp,ua r fs];exact q
 .obtain ⟨its,r,pl,hz⟩:=I.tuple hq;refine SeqAt.in_tupleAt (IF x) pl 24.1 ⟨.bl _,H,I,rfl,?_⟩;rw[show its.toArray.any (IF x)=its.any (IF x)by simp,ua r fs];exact q
def DM:kQ X (compareOp .NotIn) (rIn X.K η):=by
 intro 3
 obtain⟨p,xs,rfl,hq,fx,fs,q⟩:=h
 cases ry
 rcases hq with hq|hq
 .obtain ⟨its,r,pl,hz⟩:=I.list hq;refine SeqAt.notIn_listAt (IF x) pl.isList 24.1 ⟨.bl _,H,I,rfl,?_⟩;rw[show its.toArray.any (IF x)=its.any (IF x)by simp,ua r fs];exact q
 .obtain ⟨its,r,pl,hz⟩:=I.tuple hq;refine SeqAt.notIn_tupleAt (IF x) pl 24.1 ⟨.bl _,H,I,rfl,?_⟩;rw[show its.toArray.any (IF x)=its.any (IF x)by simp,ua r fs];exact q
def DN:gN X (.builtin "len") (λ16=>∃p ys,xs=[.ref p]/\(nD X.K H p ys\/o8 X.K H p ys)/\Q (.int ys.length) H):=by
 intro 7
 obtain⟨p,ys,rfl,hq,q⟩:=h
 obtain⟨u,rfl,rx⟩:=vals1 r
 cases rx
 have hn:=zl
 rcases hq with hq|hq
 .obtain ⟨its,r',pl,hz⟩:=I.list hq;have hlen:=r'.length;exact Calls.call_len_list pl.isList (by simp only[abr]<;>lia) ⟨.int ys.length,H,I.tok _,⟨s.toks+1,by rw[abr,hlen]⟩,q⟩
 .obtain ⟨its,r',pl,hz⟩:=I.tuple hq;have hlen:=r'.length;exact len_tuple pl (by simp only[abr]<;>lia) ⟨.int ys.length,H,I.tok _,⟨s.toks+1,by rw[abr,hlen]⟩,q⟩
def DO:gN X (.builtin "len") (λ16=>∃z,xs=[.str z]/\z.length<=sizeLine/\Q (.int z.length) H):=by
 intro 7
 obtain⟨z,rfl,hz,q⟩:=h
 obtain⟨u,rfl,t,rfl⟩:=vals1 r
 have hn:=zl
 exact len_str 0.1 ⟨.int z.length,H,I.tok _,⟨_,rfl⟩,q⟩
def gN.or(h:gN X f r)(h':gN X f r'):gN X f (λ16=>r xs H Q\/r' xs H Q):=by
 intro pins s σ H xs us Q I rs q
 rcases q with q|q
 .exact h pins s σ H xs us Q I rs q
 .exact h' pins s σ H xs us Q I rs q
def ub:gN X (.type "list") (λ16=>∃p ys,xs=[.ref p]/\(nD X.K H p ys\/o8 X.K H p ys)/\∀l,H l=ζ->Q (.ref l) (upd H l 14.4)):=by
 intro 7
 obtain⟨p,ys,rfl,hq,q⟩:=h
 obtain⟨u,rfl,rx⟩:=vals1 r
 cases rx
 have fin:∀(its:cF),bL ys its->ys.length<=sizeLine->∀(h':Heap) (c':Nat),(∀b o',s.heap.get? b=ε o'->h'.get? b=ε o')->
   h'.get? s.heap.objs.size=ε {cls:=.type "list",dict:=ζ,data:=.seq its.toArray c',slots:=#[]}->EP X pins σ Q 2.6 2.0:=λits r' hz h' c' kp e=>
  ⟨.ref s.heap.objs.size,_,I.laid (t':=s.toks) kp 5.6 (show dS X.prog X.w _ h' _ 14.4 from⟨hz,its,c',r',e⟩),rfl,q _ 21.0⟩
 rcases hq with hq|hq
 .obtain ⟨its,r',pl,hz⟩:=I.list hq;have hlen:=r'.length;obtain⟨o,ho,hc,n,hd⟩:=pl.isList;exact call_list_seq p 15.6 ho hc hd (λh' c' kp e=>fin its r' hz h' c' kp e) (by simp only[abr]<;>lia)
 .obtain ⟨its,r',pl,hz⟩:=I.tuple hq;have hlen:=r'.length;obtain⟨o,ho,hc,n,hd⟩:=pl;exact call_list_seq p (.inr rfl) ho hc hd (λh' c' kp e=>fin its r' hz h' c' kp e) (by simp only[abr]<;>lia)
def mj:gN X 10.2 (λ16=>∃p ys,xs=[.ref p]/\((nD X.K H p ys/\∀l,H l=ζ->Q (.ref l) (upd H l (.tup ys)))\/(o8 X.K H p ys/\Q 19.0 H))):=by
 intro 7
 obtain⟨p,ys,rfl,h⟩:=h
 obtain⟨u,rfl,rx⟩:=vals1 r
 cases rx
 rcases h with⟨hq,q⟩|⟨hq,q⟩
 .obtain ⟨its,r',pl,hz⟩:=I.list hq;have hlen:=r'.length;refine call_tuple_list pl.isList (λh' kp=>?_) (by simp only[abr]<;>lia);have I1:=I.kept (t':=s.toks) kp;have I2:Inv X pins σ (upd H h'.objs.size (.tup ys)) {s with heap:=h'.push {cls:=.type "tuple",data:=.seq its.toArray}}:=
   I1.laid (t':=s.toks) (λ14=>aao _ e) 5.6 (show dS X.prog X.w _ _ _ (.tup ys)from⟨hz,its,r',IsTup.new _ _⟩);exact⟨.ref h'.objs.size,_,I2,rfl,q _ (I1.bV.fresh 5.6)⟩
 .obtain ⟨its,r',pl,hz⟩:=I.tuple hq;exact call_tuple_same pl ⟨.ref p,H,I,rfl,q⟩
def tyV(K:aq)(T:String)(x:V)(H:Hp):Prop:=match x with
 |.str _=>T="str"
 |.int _=>T="int"
 |.ref p=>(T="list"/\∃xs,nD K H p xs)\/(T="tuple"/\∃o,K.lookup p=ε o/\o.cls=.type "tuple"/\o.dict=ζ)\/
   (T="dict"/\((∃aR,H p=ε (.dK aR))\/∃aR,H p=ε (.dT aR)))\/(T="set"/\∃S n,H p=ε (.set S n))
 |_=>False
theorem OY(I:0.5)(r:RelV x v)(ty:tyV X.K T x H):
  s.TypeIs v T/\∀a,v=.ref a->∃ob,s.heap.get? a=ε ob/\ob.dict=none:=by
 cases x with
 |str z=>
   obtain⟨t,rfl⟩:=r;cases(show T="str" from ty);exact⟨agO s z t,λ_ e=>nomatch e⟩
 |int i=>
   obtain⟨t,rfl⟩:=r;cases(show T="int" from ty);exact⟨typeIs_int s i t,λ_ e=>nomatch e⟩
 |ref p=>
   cases r;rcases ty with⟨rfl,xs,hq⟩|⟨rfl,o,hk,hc,hd⟩|⟨rfl,hk⟩|⟨rfl,S,n,hk⟩
   .obtain ⟨its,_,pl,_⟩:=I.list hq;refine⟨pl.isList.typeIs,λa e=>?_⟩;cases e;obtain⟨o,n,e,c,hd,_⟩:=pl;exact⟨o,e,hd⟩
   .refine ⟨⟨o,I.o7 p o hk,hc⟩,λa e=>?_⟩;cases e;exact⟨o,I.o7 _ o hk,hd⟩
   .have z:∃o,s.heap.get? p=ε o/\o.ExactDict:=by
     rcases hk with⟨aR,hk⟩|⟨aR,hk⟩;.obtain ⟨_,_,_,_,o,_,_,e,ex,_⟩:=I.bV p _ hk;exact⟨o,e,ex⟩
     .obtain ⟨_,_,_,_,o,_,_,e,ex,_⟩:=I.bV p _ hk;exact⟨o,e,ex⟩
    obtain⟨o,e,ex⟩:=z;refine⟨⟨o,e,ex.1⟩,λa e2=>?_⟩;cases e2;exact⟨o,e,ex.2.1⟩
   .obtain ⟨o,_,_,_,e,ex,_⟩:=I.bV p _ hk;refine⟨⟨o,e,ex.1⟩,λa e2=>?_⟩;cases e2;exact⟨o,e,ex.2.1⟩
 |_=>exact False.elim ty
def ac9(K:aq)(T:String)(r:V->List V->Hp->VK->Prop)(to:TE):TE:=λ8=>to σ H λx H1=>tyV K T x H1/\r x [] H1 Q
def tBM(K:aq)(T:String)(r:V->List V->Hp->VK->Prop)(to:TE)(t:TA):TE:=λ8=>to σ H λx H1=>tyV K T x H1/\t σ H1 λxs H2=>r x xs H2 Q
variable {o e:Expr}{es:6.9}{to:TE}{t:TA}{name:Str}{apos cY:Pos}{T id:String}{r:V->List V->Hp->VK->Prop}
def OZ(pa:PlainAttrs T)(slot:Slot T name id)(hty:typeOf 22.2=pure (.type "method_descriptor"))(hm:TX X id r)(ho:PE X o to)
  (jY:attributeBase o name X.env 12.3=eval o X.env:=by rfl)(jZ:7.9:=by rfl):PE X (.Call (.Attribute o name apos) [] [] cY) (ac9 X.K T r to):=by
 intro 2
 refine wpAny_Call_method0_late jY jZ (eU (ho pins s σ H _ I h) λv s1 ⟨x,H1,I1,r1,ty,q1⟩=>?_)
 obtain⟨h1,h2⟩:=OY I1 r1 ty
 exact⟨T,id,pa,slot,hty,h1,h2,ahA rfl (PySem.evalArgs_none (hm pins s1 σ H1 x [] v [] Q I1 r1 .nil q1))⟩
def kY(pa:PlainAttrs T)(slot:Slot T name id)(hty:typeOf 22.2=pure (.type "method_descriptor"))(hm:TX X id r)(ho:PE X o to)(ha:PA X 4.5 t)
  (jY:attributeBase o name X.env 12.3=eval o X.env:=by rfl)
  (DP:((backTo cY (starEach 4.5 X.env)).all (λx=> !x.1)&&(backToKw cY 9.5).all (λx=>x.1.isSome)
   &&ι ((e::es).length+([]:List Keyword).length+10.0<30))=true:=by rfl)
  (jZ:7.9:=by rfl)(hs:starEach 4.5 X.env=1.7::starEach es X.env:=by rfl)(IG:(backTo cY (starEach es X.env)).any (·.1)=false:=by rfl):
  PE X (.Call (.Attribute o name apos) 4.5 [] cY) (tBM X.K T r to t):=by
 intro 2
 refine wpAny_Call_method_late jY DP jZ rfl (eU (ho pins s σ H _ I h) λv s1 ⟨x,H1,I1,r1,ty,q1⟩=>?_)
 obtain⟨h1,h2⟩:=OY I1 r1 ty
 refine⟨T,id,pa,slot,hty,h1,h2,?_⟩
 have hA:=ha cY pins s1 σ H1 _ I1 q1
 rw[hs]at hA ⊢
 refine ahA (by show(θ||(backTo cY (starEach es X.env)).any (·.1))=θ;rw[IG]<;>rfl) (aik ?_)
 exact eU hA λus s2 ⟨vs,H2,I2,r2,q2⟩=>hm pins s2 σ H2 x vs v us Q I2 r1 r2 q2
/- xs.append(e),list.index on a module's tuple .. are TX facts of 06m -/
end
def MtM(X:Cx)(id:String)(r:V->List V->Hp->VK->Prop):Prop:=
 ∀(pins:de) (s:Shared) (σ:St) (H:Hp) (x:V) (xs:List V) (v:Value) (us:cF) (Q:VK),Inv X pins σ H s->RelV x v->bL xs us->r x xs H Q->
   wpAny 0.4 X.A (call 22.2 (v::us)) 15.2 X.xe s
theorem bL.one:∀{x:V} {us:cF},bL [x] us->∃u,us=[u]/\RelV x u
 |_,_,.cons r .nil=>⟨_,rfl,r⟩
theorem bL.two:∀{x y:V} {us:cF},bL [x,y] us->∃u v,us=[u,v]/\RelV x u/\RelV y v
 |_,_,_,.cons r (.cons q .nil)=>⟨_,_,rfl,r,q⟩
theorem bL.zero:∀{us:cF},bL [] us->us=[]
 |_,.nil=>rfl
section
variable {X:Cx}{pins:de}{σ:St}{H:Hp}{s:Shared}{l:Addr}{xs ys:List V}
def Inv.ada{its its':cF}(I:0.5)(hH:H l=ε (.lst xs))
  (e:s.heap.get? l=ε 9.3)(hf:f its.toArray=its'.toArray)(hv:bL ys its')(hz:ys.length<=sizeLine):
  Inv X pins σ (upd H l 14.4) {s with heap:=s.heap.update l (Obj.mapSeq f),toks:=t'}:=by
 have q:=PySem.IsL.update e f
 rw[hf]at q
 refine I.write (x:=l) (e:=l) (by rw[hH];exact trivial) 15.6 (λb' u hb hu=>(ac8 s.heap (Obj.mapSeq f) (afh hb)).trans hu) ⟨_,q⟩ ?_
 exact⟨hz,its',_,hv,q⟩
def Inv.ago(I:0.5)(hv:bL ys its)(hz:ys.length<=sizeLine):
  Inv X pins σ (upd H s.heap.objs.size 14.4) {s with heap:=s.heap.push {cls:=.type "list",data:=.seq its.toArray},toks:=t'}:=
 I.laid (λ_ _ q=>aao _ q) 5.6 ⟨hz,its,0,hv,aaS _ rfl⟩
theorem Inv.fresh(I:0.5):H s.heap.objs.size=none:=I.bV.fresh 5.6
def Inv.Y6(I:0.5)(hH:H l=ε (.lst xs)):xs.length<=sizeLine/\∃(its:cF) (n:Nat),bL xs its/\xs.length=its.length/\s.heap.get? l=ε 9.3:=by
 obtain⟨z,its,n,r,e⟩:=I.bV l _ hH
 exact⟨z,its,n,r,r.length,e⟩
def O0(h:n<=sizeLine):Builtin.List.listTooLong n=false:=by
 exact abD 0.1
end
section
variable {X:Cx}
def KN:V->List V->Hp->VK->Prop:=λx vs H Q=>∃l xs y,x=.ref l/\vs=[y]/\H l=ε (.lst xs)/\xs.length<sizeLine/\Q .iY (upd H l (.lst (xs++[y])))
def g8:MtM X "list.append" KN:=by
 intro 13
 obtain⟨l,xs,y,rfl,rfl,hH,hz,q⟩:=h
 cases rx
 obtain⟨u,rfl,ru⟩:=rv.one
 obtain⟨z,its,n,r,hl,e⟩:=I.Y6 hH
 refine agP ac1 ⟨_,e,rfl⟩ F.entry_list_append (F.args_list_append_2 _ _) (PySem.list_append l its.toArray n u (by rw[abr];lia)) ⟨e,?_⟩
 refine⟨.iY,_,I.ada (its':=its++[u]) hH e 0.2 (r.append (.cons ru .nil)) ?_,rfl,q⟩
 rw[abm,ad3]
 lia
def KO:V->List V->Hp->VK->Prop:=λx vs H Q=>∃l b xs zs,x=.ref l/\vs=[.ref b]/\H l=ε (.lst xs)/\H b=ε (.lst zs)/\xs.length+zs.length<=sizeLine/\Q .iY (upd H l (.lst (xs++zs)))
def CF:MtM X "list.extend" KO:=by
 intro 13
 obtain⟨l,b,xs,zs,rfl,rfl,hH,hB,hz,q⟩:=h
 cases rx
 obtain⟨u,rfl,ru⟩:=rv.one
 cases ru
 obtain⟨z,its,n,r,hl,e⟩:=I.Y6 hH
 obtain⟨z2,Bv,n2,r2,MN,e2⟩:=I.Y6 hB
 have hsz:its.toArray.size+Bv.toArray.size<=sizeLine:=by rw[abr,abr];lia
 have adb:¬(!its.toArray.isEmpty&&Builtin.List.listTooLong (its.toArray.size+Bv.toArray.size))=true:=by
  rw[O0 hsz,afP];exact abj
 refine agP ahC ⟨_,e,rfl⟩ F.entry_list_extend (F.args_list_extend_2 _ _)
  (AutoSeq1.list_extend_list_list_0 l its.toArray n b Bv.toArray n2 adb (by rw[abr];lia) 0.1) ⟨e,e2,?_⟩
 refine⟨.iY,_,I.ada (its':=its++Bv) hH e 0.2 (r.append r2) ?_,rfl,q⟩
 rw[abm]
 lia
end
end L2
namespace Att
open PySem PySem.W PySem.Calls PyProof.Rows
theorem yd:∀(ns:3.6) (vs:cF),WellAll P h vs (ns.map WData.int)->IntsAre vs ns:=by
 intro ns
 induction ns with
 |nil=>
   intro vs w;cases w;exact .nil
 |cons n ns ih=>
   intro vs w;cases w with
   |cons a b=>
     cases a;exact .cons _ _ (ih _ b)
theorem MO{l:OpenLaw}(hn:l.most=ε n) 
  (T2:l.row.toRowW.claim.pre args=η)(hwl:WellAll P h vals args):
  ∃a vs ns,vals=[Value.ref a]/\args=[WData.list (ns.map WData.int)]/\h.get? a=ε 14.9/\IntsAre vs ns/\ns.length<=n:=by
 have hsh:=(pre_splitW T2).1
 have hc:=(pre_splitW T2).2
 obtain⟨d,r,rfl,h1,h2⟩:=hasAllW_cons hsh
 obtain rfl:=hasAllW_nil h2
 obtain⟨xs,rfl,h3⟩:=hasW_list h1
 obtain⟨ns,rfl⟩:=items_int h3
 have hlen:ns.length<=n:=by
  have h4:(WTm.not (.lt (.lit (.int (n:Int))) (.len (.arg 0)))).holds [] {args:=[.list 9.1]}=true:=by
   have h4:=(holds_andW hc).1;rw[hn]at h4;exact h4
  have h5:=condW_of h4 (w_not (w_lt w_lit (w_len_list (w_arg rfl))));first
   |(rw[abq q']at h5;exact absurd h5 0.0)
   |(simp at h5;lia)
 cases hwl with
 |cons w1 w2=>
   cases w2;cases w1 with
   |list ho T3=>exact⟨_,_,ns,rfl,rfl,ho,yd ns _ T3,hlen⟩
def MP(l:OpenLaw)(args:List WData):l.row.toRowW.claim.post args 11.6 args=true:=
 postW_of (r:=l.row.toRowW) (X:=(η==η))
  (show WShape.has [] 11.6 .bool=η by first|rfl|decide|simp[WShape.has])
  (show(WTm.eq .res (.lit 11.6)).value [] {args:=args,res:=ε 11.6,after:=args}=ε (.bool (η==η))from w_eq_bool (w_res rfl) w_lit) rfl
def FY{l:OpenLaw} 
  (hn:l.most=ε n)(hdf:d.params.defaults=[])
  (call:∀(w:World) (jt b8:Shared) (mg mb:cX) (fa:Addr) (o:Obj) (pm cd doc:Value) (a:Addr) (vs:cF) (ns:3.6),
   Ground q loose [] XP w jt mg mb b8.heap->YP w b8.heap->
   b8.heap.get? fa=ε o->o.data=.func (docDef d.name d.params d.body d.scope pm cd doc)->b8.heap.CodeRec cd d.name->mg d.name=ε (.ref fa)->
   b8.heap.get? a=ε 14.9->IntsAre vs ns->ns.length<=n->b8.gens=#[]->
   codeAny (model l.prog w) callerA (.call (.ref fa) ⟨[.ref a],[]⟩) (λr s'=>r=.ok (.ret 11.6)/\OldK b8.heap s'.heap/\s'.os=b8.os/\AllBare s'.gens) b8):
  WalkO q loose XP YP l.row.toRowW d [] (λf vs=>PySem.call f vs):=by
 intro w jt b8 mg mb G Y fa o pm cd doc dV kV ho hd xC hD hmg hg args vals as T2 aj4 hrd hwl hlo
 obtain rfl:dV=.none:=Dflts.none hD hdf
 obtain rfl:kV=.none:=Dflts.noKw hD
 obtain⟨a,vs,ns,rfl,rfl,Y7,hints,hlen⟩:=MO hn T2 hwl
 refine enter_call (afD (call w jt b8 mg mb fa o pm cd doc a vs ns G Y ho (fd_plain hd) xC hmg Y7 hints hlen hg) λr s' hq=>?_)
 obtain⟨rfl,h2,h3,h4⟩:=hq
 exact⟨.inl ⟨.bool η,.bool η,[],rfl,λ_=>rfl,.bool η,MP l _,λ_=>⟨List.Pairwise.nil,λ_ hm=>(nomatch hm)⟩⟩,h2,h3,h4⟩
end Att
namespace L2
open PySem PySem.Spec PyProof.Rows
theorem CG:∀{vs:cF} {ns:3.6},IntsAre vs ns->bL 19.2 vs
 |_,_,.nil=>.nil
 |_,_,.cons n t h=>.cons ⟨t,rfl⟩ (CG h)
def Ie(K:aq)(H:Hp)(a:Addr)(xs:List V):Prop:=
 Rd H a (.lst xs)\/∃(its:cF) (n:Nat),K.lookup a=ε 9.3/\its.length<=sizeLine/\bL xs its
abbrev Bp:WB:=λ3=>False
abbrev E0:XK:=λ18=>False
def KP{X:Cx}:kg Bp X E0:=λ_ _ _ _ _ _ _ h=>h.elim
structure Bx(K:aq)(x qual:Str)(st:Stmt)(f:Addr)(fd:FuncData):Prop where
 ex:∃(oc:Value) (od:23.6) (kV doc pm:Value) (an:23.6) (bW ct:Value) (KJ:15.4),
  fd=PySem.W.fnOf x qual (eR st) (bR st) (ai st) .none kV doc pm an bW ct/\K.lookup f=ε ⟨oc,od,.func fd,KJ⟩/\PySem.W.codeIn K bW qual=η
 kp:PySem.W.keepIn K 10.3=η
section
variable {P:4.6}{w:World}{K:aq}{mg:cX}{base:Heap}
def Bx.ok{st:Stmt}(F:Bx K x qual st f fd)(S:15.0)(len:22.8)
  (t8:∀(bW:Value) (A:Around) (outer:16.1) (s:Shared) (H:Hp) (vs:List V) (Q:VK) (E:XK),dQ k (A.deeper (envOfC qual (ai st) s.heap.objs.size f bW))->sp vs H Q E->
   ∃t,ke (eV Bp P w K mg base N qual (ai st) f bW A outer s H E).SR (bR st) t/\t {nx:=λ_ H'=>Q .iY H',rt:=Q} 16.7 H):mP P w K mg base Bp (k+1) f fd ps sp:=by
 intro 9
 refine KI lk xC S len λA outer s H vs Q E hr OS=>?_
 obtain⟨t,h,q⟩:=t8 bW A outer s H vs Q E hr OS
 exact⟨t,h.SR,q⟩
def Bx.binds{st:Stmt}(F:Bx K x qual st f fd)
  (h:∀(kV doc pm:Value) (an:23.6) (bW ct:Value) (us:cF),us.length=ps.length->bindArgs (PySem.W.fnOf x qual (eR st) (bR st) (ai st) .none kV doc pm an bW ct) ⟨us,[]⟩=pure (ps.zip us)):Binds K fd ps []:=by
 intro 9
 exact .all (h kV doc pm an bW ct)
def e9{st:Stmt}{kV doc pm bW ct:Value}(l:K.lookup f=ε ⟨oc,od,.func (PySem.W.fnOf x qual (eR st) (bR st) (ai st) .none kV doc pm an bW ct),KJ⟩)
  (c:PySem.W.codeIn K bW qual=η)(k:PySem.W.keepIn K 10.3=η):Bx K x qual st f (PySem.W.fnOf x qual (eR st) (bR st) (ai st) .none kV doc pm an bW ct):=⟨⟨oc,od,kV,doc,pm,an,bW,ct,KJ,rfl,l,c⟩,k⟩
end
def T4:Option NameKind->Bool
 |some .local=>η
 |some .cell=>η
 |some .free=>η
 |_=>θ
theorem Y8(h:T4 (sc.names.lookup x)=η):Vis sc x:=by
 unfold Vis
 cases e:sc.names.lookup x with
 |none=>rw[e]at h;cases h
 |some k=>
   rw[e]at h;cases k<;>first|exact .inl rfl|exact .inr (.inl rfl)|exact .inr (.inr rfl)|cases h
section
variable {X:Cx}
def pv(i:Nat)(hN:X.N[i]?=ε x:=by rfl)(hv:T4 (X.env.scope.names.lookup x)=true:=by rfl)(hd:1.1:=by decide)
  (xC:(x==("__classdict__":Str))=false:=by decide):PE X 20.0 (mi i):=YI hN (Y8 hv) hd xC
end
def aE(H H':Hp):Prop:=∀b o,H b=ε o->H' b=ε o
def aE.refl(H:Hp):aE H H:=λ_ _ h=>h
def aE.trans(a:aE H H1)(b:aE H1 H2):aE H H2:=λc o h=>b c o (a c o h)
theorem aE.free(e:23.1)(h:H' l=Option.none):H l=Option.none:=by
 cases q:H l with
 |none=>rfl
 |some o=>
   rw[e l o q]at h;cases h
section
variable {κ:Type}[DecidableEq κ]
def pR(aR:List (κ×V))(k:κ):Option V:=(aR.find? λkv=>ι (kv.1=k)).map (·.2)
noncomputable def putK(aR:List (κ×V))(k:κ)(v:V):List (κ×V):=
 if(aR.any λkv=>ι (kv.1=k))=η then aR.map (λkv=>if kv.1=k then(kv.1,v)else kv)else aR++[(k,v)]
def pT{k:κ}(e:p.1=k):pR (p::r) k=ε p.2:=by simp[pR,e]
def pU{k:κ}(e:¬p.1=k):pR (p::r) k=pR r k:=by simp[pR,e]
theorem zp(k:κ):∀aR:List (κ×V),(aR.any λkv=>ι (kv.1=k))=(pR aR k).isSome
 |[]=>rfl
 |p::r=>by
   rw[ahh];by_cases e:p.1=k;.simp only[pT e,abq e,Bool.true_or,Option.isSome_some]
   .rw [pU e,abD e,Bool.false_or];exact zp k r
def xF(aR:List (κ×V))(k:κ)(v:V):(putK aR k v).length<=aR.length+1:=by
 unfold putK
 split
 .simp_all
 .grind
theorem pC.vD(r:pC o u):o.isSome=u.isSome:=by
 cases o with
 |none=>cases u with
   |none=>rfl
   |some _=>exact(show False from r).elim
 |some _=>cases u with
   |none=>exact(show False from r).elim
   |some _=>rfl
theorem pC.getD(r:pC o u)(rd:RelV d d'):RelV (o.getD d) (u.getD d'):=by
 cases o with
 |none=>cases u with
   |none=>exact rd
   |some _=>exact(show False from r).elim
 |some _=>cases u with
   |none=>exact(show False from r).elim
   |some _=>exact r
theorem KV.val(r:KV aR vs)(k:κ):pC (pR aR k) (valueAt vs k):=by
 induction r with
 |nil=>exact True.intro
 |@cons p q ps qs h t ih=>
   obtain⟨h1,h2⟩:=h;by_cases e:p.1=k
   .have e':q.1=k:=h1.symm.trans e;have b:valueAt (q::qs) k=ε q.2:=by simp[valueAt,e']
    rw[pT e,b];exact h2
   .have e':¬q.1=k:=λz=>e (h1.trans z);have b:valueAt (q::qs) k=valueAt qs k:=by simp[valueAt,e']
    rw[pU e,b];exact ih
theorem KV.any(r:KV aR vs)(k:κ):(aR.any λkv=>ι (kv.1=k))=vs.any λkv=>ι (kv.1=k):=by
 induction r with
 |nil=>rfl
 |cons h t ih=>rw[ahh,ahh,ih,h.1]
theorem KV.Y9(r:KV aR vs)(k:κ)(ry:RelV y u):
  KV (aR.map λkv=>if kv.1=k then(kv.1,y)else kv) (vs.map λkv=>if kv.1=k then(kv.1,u)else kv):=by
 induction r with
 |nil=>exact .nil
 |@cons p q ps qs h t ih=>
   refine .cons ?_ ih;by_cases e:p.1=k;.grind
   .grind
def KV.put(r:KV aR vs)(k:κ)(ry:RelV y u):KV (putK aR k y) (stored vs k u):=by
 unfold putK stored
 rw[r.any k]
 by_cases e:(vs.any λkv=>ι (kv.1=k))=η
 .rw [abe e,abe e];exact r.Y9 k ry
 .rw [abo e,abo e];exact Paired.snoc r ⟨rfl,ry⟩
theorem KV.length{vs:List (κ×Value)}(r:KV aR vs):aR.length=vs.length:=Paired.length r
end
theorem zq(r:RelV (kV k) u):(eu P w).is k u=true:=by
 cases k with
 |inl i=>obtain⟨t,e⟩:=(show ∃t,u=Value.int i t from r);subst e;exact FL P w i t
 |inr x=>obtain⟨t,e⟩:=(show ∃t,u=Value.str x t from r);subst e;exact FN P w x t
theorem CH:∀{ks:24.8} {us:cF},bL (ks.map kV) us->ItemsAre (eu P w) ks us
 |[],_,r=>by rw[ait]at r;cases r;exact .nil
 |k::ks,_,r=>by
   cases r with
   |cons h t=>exact .cons (zq h) (CH t)
abbrev KT(H:Hp):List (List Key×V)->List (List Key×Addr×Value)->Prop:=Paired λp q=>p.1=q.1/\fY H q.2.1 (p.1.map kV)/\RelV p.2 q.2.2
theorem KT.val(r:KT H aR xs)(k:24.8):pC (pR aR k) ((atKey xs k).map (·.2)):=by
 induction r with
 |nil=>exact True.intro
 |@cons p q ps qs h t ih=>
   obtain⟨h1,_,h2⟩:=h;by_cases e:p.1=k
   .have e':q.1=k:=h1.symm.trans e;have b:atKey (q::qs) k=ε q.2:=by simp[atKey,e']
    rw[pT e,b];exact h2
   .have e':¬q.1=k:=λz=>e (h1.trans z);have b:atKey (q::qs) k=atKey qs k:=by simp[atKey,e']
    rw[pU e,b];exact ih
theorem KT.Y9(r:KT H aR xs)(k:24.8)(ry:RelV y u):
  KT H (aR.map λkv=>if kv.1=k then(kv.1,y)else kv) (xs.map (putAt k u)):=by
 induction r with
 |nil=>exact .nil
 |@cons p q ps qs h t ih=>
   refine .cons ?_ ih;unfold putAt;by_cases e:p.1=k;.grind
   .grind
def KT.put(r:KT H aR xs)(k:24.8)(hb:fY H b (k.map kV))(ry:RelV y u):
  KT H (putK aR k y) (storedH xs k b u):=by
 have e:(aR.any λkv=>ι (kv.1=k))=(atKey xs k).isSome:=by
  rw[zp,(r.val k).vD,aiQ]
 unfold putK storedH
 rw[e]
 by_cases q:(atKey xs k).isSome=η
 .rw [abe q,abe q];exact r.Y9 k ry
 .rw [abo q,abo q];exact Paired.snoc r ⟨rfl,hb,ry⟩
def KT.keeps(r:KT H aR xs)(ht:∀b ys,fY H b ys->fY H' b ys):KT H' aR xs:=
 Paired.YH r λ22=>⟨z.1,ht _ _ z.2.1,z.2.2⟩
section
variable {P:4.6}{w:World}{H:Hp}{h:Heap}{a:Addr}
def WE(ok:24.9)(e:Rd H a u):dS P w H h a u:=e.ok ok
def CI(ok:24.9)(e:Rd H a (.dK aR)):aR.length<=sizeLine/\21.8=θ/\∃vs,KV aR vs/\h.DictOf (eu P w) a vs:=
 show dS P w H h a (.dK aR)from WE ok e
def adg(ok:24.9)(e:H a=ε (.dK aR)):aR.length<=sizeLine/\21.8=θ/\∃vs,KV aR vs/\h.DictOf (eu P w) a vs:=CI ok (.inl e)
def vE(ok:24.9)(e:fY H a (ks.map kV)):(tupleKind (eu P w)).is h ks a:=by
 obtain⟨_,its,r,o,h1,h2,n,h3⟩:=(show dS P w H h a (.tup (ks.map kV))from Rd.ok e ok)
 exact⟨o,its.toArray,n,h1,h2,h3,by simpa using CH r⟩
theorem CJ(ok:24.9)(e:Rd H a (.dT aR)):aR.length<=sizeLine/\21.8=θ/\
  ∃xs,KT H aR xs/\h.DictOfH (tupleKind (eu P w)) a xs:=by
 obtain⟨z,y,xs,r,o,es,ep,h1,h2,h3,h4,h5⟩:=(show dS P w H h a (.dT aR)from WE ok e)
 refine⟨z,y,xs,r,o,es,ep,h1,h2,h3,h4,λ20=>?_,h5⟩
 have all:∀{l:4.8} {m:List (List Key×Addr×Value)},KT H l m->∀x∈m,(tupleKind (eu P w)).is h x.1 x.2.1:=by
  intro l m q;induction q with
  |nil=>intro x hx;exact nomatch hx
  |@cons p q ps qs hq t ih=>
    intro x hx;rcases aa9.mp hx with e|hx;.subst e;exact vE ok (by rw[<-hq.1];exact hq.2.1)
    .grind
 exact all r x hx
def WG(ok:24.9)(e:H a=ε (.dT aR)):aR.length<=sizeLine/\21.8=θ/\
  ∃xs,KT H aR xs/\h.DictOfH (tupleKind (eu P w)) a xs:=CJ ok (.inl e)
end
def uc(H:Hp)(a:Addr)(y:V)(r:Option V):Prop:=
 (∃aR k,Rd H a (.dK aR)/\y=kV k/\r=pR aR k)\/∃aR k b,Rd H a (.dT aR)/\y=.ref b/\fY H b (k.map kV)/\r=pR aR k
def DQ(H:Hp)(a:Addr)(y v:V)(H':Hp):Prop:=
 (∃aR k,H a=ε (.dK aR)/\y=kV k/\aR.length<sizeLine/\H'=upd H a (.dK (putK aR k v)))\/
 ∃aR k b,H a=ε (.dT aR)/\y=.ref b/\fY H b (k.map kV)/\aR.length<sizeLine/\H'=upd H a (.dT (putK aR k v))
theorem uc.k{k:Key}(e:H a=ε (.dK aR)):uc H a (kV k) (pR aR k):=.inl ⟨aR,k,.inl e,rfl,rfl⟩
def uc.t{k:24.8}(e:H a=ε (.dT aR))(eb:fY H b (k.map kV)):uc H a (.ref b) (pR aR k):=.inr ⟨aR,k,b,.inl e,rfl,eb,rfl⟩
theorem DQ.k{k:Key}(e:H a=ε (.dK aR))(hl:aR.length<sizeLine):DQ H a (kV k) v (upd H a (.dK (putK aR k v))):=.inl ⟨aR,k,e,rfl,hl,rfl⟩
def DQ.t{k:24.8}(e:H a=ε (.dT aR))(eb:fY H b (k.map kV))(hl:aR.length<sizeLine):
  DQ H a (.ref b) v (upd H a (.dT (putK aR k v))):=.inr ⟨aR,k,b,e,rfl,eb,hl,rfl⟩
section
variable {X:Cx}{pins:de}{σ:St}{H:Hp}{s:Shared}{a:Addr}{y v:V}{u r:Value}{o:Option V}{A:Around}{E:eL}
def Inv.big(I:0.5):sysModules<s.heap.objs.size:=by
 have h:=(I.mod.glob.keeps I.bk).lt
 exact Nat.lt_trans 0.0 h
def MQ(hu:A.units+1<cLine)(I:0.5)(g:uc H a y (ε v))(ry:RelV y u)(h:∀w' s',Inv X pins σ H s'->RelV v w'->Q w' s'):
  wpAny 0.4 A (getItem 5.5 u) Q E s:=by
 rcases g with⟨aR,k,e,ey,l⟩|⟨aR,k,b,e,ey,eb,l⟩
 .subst ey;obtain⟨z,hd,vs,rel,dd⟩:=CI I.bV e;obtain⟨w',hw,OV⟩:=pC.some_of (v:=v) (o:=valueAt vs k) (by rw[l];exact rel.val k);exact wpAny_getItem_of (zq ry) dd.mapOf hw (h w' _ (I.tok _) OV)
 .subst ey;cases(show u=Value.ref b from ry);obtain⟨z,hd,xs,rel,dd⟩:=CJ I.bV e;obtain⟨w',hw,OV⟩:=pC.some_of (v:=v) (o:=(atKey xs k).map (·.2)) (by rw[l];exact rel.val k);obtain⟨p,hp,hp2⟩:=adT.mp hw;refine wpAny_getItem_heap (ahs hu) (vE I.bV eb) dd hp ?_;rw[hp2];exact h w' _ (I.tok _) OV
def T5(hu:A.units+1<cLine)(I:0.5)(g:uc H a y o)(ry:RelV y u)(h:∀s',Inv X pins σ H s'->Q (.bool (!o.isSome)) s'):
  wpAny 0.4 A (compareOp .NotIn u 5.5) Q E s:=by
 rcases g with⟨aR,k,e,ey,l⟩|⟨aR,k,b,e,ey,eb,l⟩
 .subst ey;obtain⟨z,hd,vs,rel,dd⟩:=CI I.bV e;refine wpAny_notIn_of (zq ry) hd dd.mapOf ?_;rw[<-(rel.val k).vD,<-l];exact h _ (I.tok _)
 .subst ey;cases(show u=Value.ref b from ry);obtain⟨z,hd,xs,rel,dd⟩:=CJ I.bV e;refine wpAny_notIn_heap (ahs hu) (vE I.bV eb) hd dd ?_;have q:=(rel.val k).vD;rw[aiQ]at q;rw[<-q,<-l];exact h _ (I.tok _)
def DR(I:0.5)(mu:Mut (H a))(hs:Heap.SameBut a s.heap h')(he:∃q,h'.get? a=ε q)(new:dS X.prog X.w (upd H a ob) h' a ob):
  Inv X pins σ (upd H a ob) 16.5:=
 I.write (x:=a) (e:=a) mu 15.6 (λb q hb z=>(hs.2 b hb).trans z) he new
def Za(z:aR.length<=sizeLine)(hd:21.8=θ)(rel:KV aR vs)(dd:h'.DictOf (eu P w) a vs):
  dS P w H' h' a (.dK aR):=⟨z,hd,vs,rel,dd⟩
def MR(hu:A.units+1<cLine)(I:0.5)(g:DQ H a y v H')(ry:RelV y u)(rv:RelV v r)(h:∀s',Inv X pins σ H' s'->Q () s'):
  wpAny 0.4 A (setItem 5.5 u r) Q E s:=by
 rcases g with⟨aR,k,e,ey,l,eH⟩|⟨aR,k,b,e,ey,eb,l,eH⟩
 .subst ey eH;obtain⟨z,hd,vs,rel,dd⟩:=adg I.bV e;have hz:vs.length<=sizeLine:=by rw[<-rel.length];exact z
  have hl:(putK aR k v).length<=sizeLine:=by have:=xF aR k v;lia
  refine wpAny_setItem_pairs (hsz:=hz) (zq ry) dd λh' dd' hs=>h _ ?_;have he:∃q,h'.get? a=ε q:=let⟨q,_,_,hq,_⟩:=dd';⟨q,hq⟩;exact DR I (by rw[e];exact True.intro) hs he (Za hl hd (rel.put k rv) dd')
 .subst ey eH;cases(show u=Value.ref b from ry);obtain⟨z,hd,xs,rel,dd⟩:=WG I.bV e;have hz:xs.length<=sizeLine:=by rw[<-Paired.length rel];exact z
  have hl:(putK aR k v).length<=sizeLine:=by have:=xF aR k v;lia
  refine wpAny_setItem_heap (hsz:=hz) (ahs hu) (vE I.bV eb) dd λh' dd' hs=>h _ ?_;obtain⟨q,es,ep,hq,h2,h3,h4,_,h5⟩:=dd';refine DR I (by rw[e];exact True.intro) hs ⟨q,hq⟩ ⟨hl,hd,_,(rel.put k eb rv).keeps λc ys ec=>?_,q,es,ep,hq,h2,h3,h4,h5⟩;exact ec.dT e
end
def T6(i:Expr):Prop:=∀ov iv,subscripted i θ ov iv=operate [ov,iv] (getItem ov iv)
theorem KQ{T id:String} 
  (hl:typeLookup 20.5 "__getitem__"=pure (ε 22.2))(hs:T6 slice)
  (h:wpAny 0.7 A (eval value env) (λo b8=>wpAny 0.7 A (eval slice env) (λi pE=>pE.TypeIs o T/\wpAny 0.7 A (getItem o i) Q E pE) E b8) E s):
  wpAny 0.7 A (eval (.Subscript value slice pos) env) Q E s:=by
 refine Subscript_ (abw h (λo b8 vF=>abw vF (λi pE zr=>?_) λ_ _ x=>x) λ_ _ x=>x)
 obtain⟨hT,zr⟩:=zr
 refine aab ?_
 refine aab (wpAny_specialOf hT hl ?_)
 have fin:wpAny 0.7 A (subscripted slice θ o i) (λr vG=>wpAny 0.7 A (letTemporaryGo value o r >>= λ_=>pure r) Q E vG) E pE:=by
  rw[hs o i];exact wpAny_operating (abw zr (λr vG Zb=>aab (wpAny_letTemporaryGo (aaR Zb))) λ_ _ x=>x)
 first
  |exact aaR (aab fin)
  |exact aab (aaR (aab fin))
  |exact aab fin
def FZ(I:0.5)(g:uc H a y o):s.TypeIs 5.5 "dict":=by
 rcases g with⟨aR,k,e,_,_⟩|⟨aR,k,b,e,_,_,_⟩
 .obtain ⟨_,_,vs,_,dd⟩:=CI I.bV e;exact dd.typeIs
 .obtain ⟨_,_,xs,_,dd⟩:=CJ I.bV e;exact dd.typeIs
def adh(td ty:TE):TE:=λ8=>td σ H λx H1=>ty σ H1 λy H2=>∃a v,x=.ref a/\uc H2 a y (ε v)/\Q v H2
def T7(ty td:TE):TE:=λ8=>ty σ H λy H1=>td σ H1 λx H2=>∃a o,x=.ref a/\uc H2 a y o/\Q (.bl (!o.isSome)) H2
def WH(td ty tv:TE):TS:=λD σ H=>tv σ H λv H1=>td σ H1 λx H2=>ty σ H2 λy H3=>∃a H4,x=.ref a/\DQ H3 a y v H4/\D.nx σ H4
section
variable {X:Cx}{o i value:Expr}{pos pos':Pos}{td ty tv:TE}
def T8(hu:12.2)(ho:PE X o td)(hi:PE X i ty)(hs:T6 i):PE X (.Subscript o i pos) (adh td ty):=by
 intro 2
 refine KQ PySem.F.slot_dict_getitem.lookup hs (eU (ho pins s σ H _ I h) λu s1 ⟨x,H1,I1,rx,q1⟩=>eU (hi pins s1 σ H1 _ I1 q1) λiv s2 ⟨y,H2,I2,ry,a,v,ex,g,q2⟩=>?_)
 subst ex
 obtain rfl:u=Value.ref a:=rx
 exact⟨FZ I2 g,MQ hu I2 g ry λw' s3 I3 OV=>⟨v,H2,I3,OV,q2⟩⟩
def MS(hu:12.2)(hi:PE X i ty)(ho:PE X o td):PC X .NotIn i o (T7 ty td):=by
 intro 2
 refine eU (hi pins s σ H _ I h) λiv s1 ⟨y,H1,I1,ry,q1⟩=>eU (ho pins s1 σ H1 _ I1 q1) λu s2 ⟨x,H2,I2,rx,a,ov,ex,g,q2⟩=>?_
 subst ex
 obtain rfl:u=Value.ref a:=rx
 exact T5 hu I2 g ry λs3 I3=>⟨.bl (!ov.isSome),H2,I3,rfl,q2⟩
def DT(hu:12.2)(ho:PE X o td)(hi:PE X i ty)(hv:PE X value tv)(hs:swapsWith value (ε (.Subscript o i pos')) pos.line X.env=pure θ):
  PS X (.Assign [.Subscript o i pos'] value pos) (WH td ty tv):=by
 intro 17
 refine wpAny_Assign_Subscript (eU (hv pins s σ H _ I h) λr s1 ⟨v,H1,I1,rv,q1⟩=>eU (ho pins s1 σ H1 _ I1 q1) λu s2 ⟨x,H2,I2,rx,q2⟩=>eU (hi pins s2 σ H2 _ I2 q2) λiv s3 ⟨y,H3,I3,ry,a,H4,ex,g,q3⟩=>?_) hs
 subst ex
 obtain rfl:u=Value.ref a:=rx
 exact MR hu I3 g ry rv λs4 I4=>⟨σ,H4,I4,q3⟩
end
def O6(h:Heap)(hb:sysModules<h.objs.size):dS P w H (h.push {cls:=.type "dict",data:=.dict #[]}) h.objs.size (.dK []):=
 ⟨afc _,agm.mpr (afh (abn hb)),[],.nil,Heap.DictOf.new h⟩
def O7(h:Heap)(hb:sysModules<h.objs.size):dS P w H (h.push {cls:=.type "dict",data:=.dict #[]}) h.objs.size (.dT []):=
 ⟨afc _,agm.mpr (afh (abn hb)),[],.nil,_,#[],0,aaS _ rfl,⟨rfl,rfl,rfl⟩,rfl,rfl,List.nodup_nil⟩
def IH:List (TE×TE)->St->Hp->(List (V×V)->Hp->Prop)->Prop
 |[],_,H,Q=>Q [] H
 |(tk,tv)::r,σ,H,Q=>tk σ H λx H1=>tv σ H1 λy H2=>IH r σ H2 λps H3=>Q ((x,y)::ps) H3
abbrev VV:List (V×V)->List (Value×Value)->Prop:=Paired λp q=>RelV p.1 q.1/\RelV p.2 q.2
def PPs(X:Cx)(pos:Pos)(keys:List (Option Expr))(values:6.9)(trs:List (TE×TE)):Prop:=
 ∀(pins:de) (s:Shared) (σ:St) (H:Hp) (Q:List (V×V)->Hp->Prop),Inv X pins σ H s->IH trs σ H Q->
   wpAny 0.4 X.A (evalPairs (pairTrees keys values X.env pos)) (λvs s'=>∃ps H',Inv X pins σ H' s'/\VV ps vs/\Q ps H') X.xe s
def T9:PPs X pos [] [] []:=λpins s σ H Q I h=>pairTrees_nil_walk ⟨[],H,I,.nil,h⟩
def O8(hk:PE X k tk)(hv:PE X v tv)(hr:PPs X pos ks vs trs):
  PPs X pos (ε k::ks) (v::vs) ((tk,tv)::trs):=λpins s σ H Q I h=>
 pairTrees_cons_walk (eU (hk pins s σ H _ I h) λu s1 ⟨x,H1,I1,rx,q1⟩=>eU (hv pins s1 σ H1 _ I1 q1) λw2 s2 ⟨y,H2,I2,ry,q2⟩=>
  eU (hr pins s2 σ H2 _ I2 q2) λws s3 ⟨ps,H3,I3,rel,q3⟩=>⟨(x,y)::ps,H3,I3,.cons ⟨rx,ry⟩ rel,q3⟩)
structure M2(X:Cx)(o:Expr)(m:Str)(apos:Pos)(e f:Expr)(cY:Pos):Prop where
 base:attributeBase o m X.env 12.3=eval o X.env
 few:((backTo cY (starEach [e,f] X.env)).all (λx=> !x.1)&&(backToKw cY 9.5).all (λx=>x.1.isSome)
  &&ι (([e,f]:List Expr).length+([]:List Keyword).length+10.0<30))=η
 line:(apos.endLine==cY.line)=η
 trees:backTo cY (starEach [e,f] X.env)=[1.7,(θ,eval f X.env)]
def WI(H:Hp)(a:Addr):Prop:=(∃aR,Rd H a (.dK aR))\/∃aR,Rd H a (.dT aR)
def Zc(I:0.5)(d:WI H a):
  s.TypeIs 5.5 "dict"/\(∀b,Value.ref a=.ref b->∃ob,s.heap.get? b=ε ob/\ob.dict=ζ)/\21.8=false:=by
 rcases d with⟨aR,e⟩|⟨aR,e⟩
 .obtain ⟨_,hd,vs,_,dd⟩:=CI I.bV e;refine⟨dd.typeIs,λb q=>?_,hd⟩;cases q;obtain⟨ob,_,_,h1,h2,_⟩:=dd;exact⟨ob,h1,h2.2.1⟩
 .obtain ⟨_,hd,xs,_,dd⟩:=CJ I.bV e;refine⟨dd.typeIs,λb q=>?_,hd⟩;cases q;obtain⟨ob,_,_,h1,h2,_⟩:=dd;exact⟨ob,h1,h2.2.1⟩
section
variable {X:Cx}{pins:de}{σ:St}{H:Hp}{s:Shared}{a:Addr}{y d:V}{u r:Value}{o:Option V}{A:Around}{E:eL}
def Zd(hu:A.units+1<cLine)(I:0.5)(g:uc H a y o)(ry:RelV y u)(rd:RelV d r)(h:∀w' s',Inv X pins σ H s'->RelV (o.getD d) w'->Q w' s'):
  wpAny 0.4 A (call (.builtin "dict.get") [.ref a,u,r]) Q E s:=by
 rcases g with⟨aR,k,e,ey,l⟩|⟨aR,k,b,e,ey,eb,l⟩
 .subst ey;obtain⟨z,hd,vs,rel,dd⟩:=CI I.bV e;refine call_meetsIn ahP dd.typeIs PySem.F.entry_dict_get (PySem.F.args_dict_get_3 _ _ _) (meets_dict_get_default (eu X.prog X.w) a (zq ry) hd r) ⟨_,dd.mapOf,h _ _ (I.tok _) ?_⟩;rw[l];exact(rel.val k).getD rd
 .subst ey;cases(show u=Value.ref b from ry);obtain⟨z,hd,xs,rel,dd⟩:=CJ I.bV e;refine call_meetsIn ahP dd.typeIs PySem.F.entry_dict_get (PySem.F.args_dict_get_3 _ _ _) (meetsH_dict_get_default (tupleKind (eu X.prog X.w)) a b hd r) ⟨ahs hu,k,xs,vE I.bV eb,dd,h _ _ (I.tok _) ?_⟩;rw[l];exact(rel.val k).getD rd
end
def Ze(td ty tx:TE):TE:=λ8=>td σ H λx H1=>∃a,x=.ref a/\WI H1 a/\ty σ H1 λy H2=>tx σ H2 λz H3=>∃o,uc H3 a y o/\Q (o.getD z) H3
section
variable {X:Cx}{o e f:Expr}{apos cY:Pos}{td ty tx:TE}
def O9(hu:12.2)(ho:PE X o td)(he:PE X e ty)(hf:PE X f tx)(m:M2 X o "get" apos e f cY):PE X (.Call (.Attribute o "get" apos) [e,f] [] cY) (Ze td ty tx):=by
 intro 2
 refine wpAny_Call_method m.base m.few m.line PySem.F.plainAttrs_dict ahP PySem.F.type_dict_get (eU (ho pins s σ H _ I h) λu s1 ⟨x,H1,I1,rx,a,ex,d,q1⟩=>?_)
 subst ex
 obtain rfl:u=Value.ref a:=rx
 obtain⟨t1,t2,_⟩:=Zc I1 d
 refine⟨t1,t2,?_⟩
 rw[m.trees]
 refine ahA rfl (aik (Calls.spliced_cons (eU (he pins s1 σ H1 _ I1 q1) λiv s2 ⟨y,H2,I2,ry,q2⟩=>
  Calls.spliced_cons (eU (hf pins s2 σ H2 _ I2 q2) λfv s3 ⟨z,H3,I3,rz,ov,g,q3⟩=>Calls.spliced_nil ?_))))
 exact Zd hu I3 g ry rz λw' s4 I4 OV=>⟨_,H3,I4,OV,q3⟩
end
end L2
set_option maxHeartbeats 4000000
namespace L2
open PySem PySem.Spec PyProof.Rows
section
variable {X:Cx}
def jb:kQ X (binaryOp .Mult) (rI IntMulOk λi j=>.int (i*j)):=opI λ_ _ _ _ _ _ _ hc q=>mul_int q hc
def KR(i j:Int):Prop:=j≠0/\Builtin.divisionGoesByPylong i j=θ
def fH:kQ X (binaryOp .FloorDiv) (rI KR λi j=>.int (i.fdiv j)):=opI λ_ _ _ _ _ _ _ hc q=>floordiv_int hc.1 q (.inl hc.2)
def CL(h:Builtin.Int.intBits j<=9000):Builtin.divisionGoesByPylong i j=false:=by
 refine PyProof.noPylong_of_log2 ?_
 unfold Builtin.Int.intBits at h
 by_cases hj:j=0
 .simp_all
 .rw [if_neg (by simpa using hj)]at h;lia
def mul_right(h1:-(2^64)<j)(h2:j<2^64):IntMulOk i j:=.of_right (intBits_le_64 h1 h2)
def TyW(K:aq)(H:Hp)(x:V)(t:String):Prop:=
 vC K H x (.type t)\/(∃a xs,x=.ref a/\o8 K H a xs/\t="tuple")\/(∃a xs,x=.ref a/\nD K H a xs/\t="list")
def agr(K:aq):List V->Hp->VK->Prop:=λ16=>∃x n t b,xs=[x,.ty n]/\TyW K H x t/\PySem.W.kitOne K (.type t) (.type n)=ε b/\Q (.bl b) H
theorem Pa:gN X (.builtin "isinstance") (agr X.K):=by
 intro 7
 obtain⟨x,n,t,b,rfl,ty,e,q⟩:=h
 obtain⟨u1,u2,rfl,r1,r2⟩:∃u1 u2,us=[u1,u2]/\RelV x u1/\RelV (.ty n) u2:=by
  cases r with
  |cons p q=>cases q with
    |cons p' q'=>cases q';exact⟨_,_,rfl,p,p'⟩
 cases(show u2=Value.type n from r2)
 have fin:∀tk,EP X pins σ Q (.bool b) {s with toks:=tk}:=λtk=>⟨.bl b,H,I.tok _,rfl,q⟩
 rcases ty with ty|⟨a,ys,rfl,hq,rfl⟩|⟨a,ys,rfl,hq,rfl⟩
 .exact ML I r1 ty e fin
 .cases (show u1=Value.ref a from r1);obtain⟨its,_,p,_⟩:=I.tuple hq;obtain⟨o,h1,h2,_⟩:=p;exact aen PySem.W.kitx_tuple I.o7 ⟨o,h1,h2⟩ e 3.5 fin
 .cases (show u1=Value.ref a from r1);obtain⟨its,_,p,_⟩:=I.list hq;obtain⟨o,n,h1,h2,_⟩:=p;exact aen aiP I.o7 ⟨o,h1,h2⟩ e 3.5 fin
def Pb{K:aq}:PySem.W.kitOne K (.type t) (.type t)=ε true:=by
 unfold PySem.W.kitOne
 rw[abe 0.2]
inductive Dn(P:4.6)(w:World)(K:aq)(mg:cX)(base:Heap)(k:Nat)(x:Str)(ps:1.4)(sp:Sp):Prop|mk (f fd)(_:mP P w K mg base Bp k f fd ps sp)(_:mg x=ε 10.3)(_:PySem.W.keepIn K 10.3=η)(_:Binds K fd ps [])
def F4(D:Dn X.prog X.w X.K X.mg X.base k x ps sp)(hr:dQ kk X.A)(hk:k<=kk)(ha:PA X 4.5 t)(hg:Gl X x:=by rfl)
  (pP:1.1:=by decide)(he:starEach 4.5 X.env=1.7::starEach es X.env:=by rfl)(jL:0.8:=by rfl):
  PE X 3.1 (pO sp [] E0 t):=by
 obtain⟨f,fd,F,m,kp,b⟩:=D
 exact DH F (hr.mono hk) hg m kp b .nil KP ha pP he jL
structure Bs(mg:cX):Prop where
 len:mg "len"=ζ
 range:mg "range"=ζ
 isinstance:mg "isinstance"=ζ
 max:mg "max"=ζ
 min:mg "min"=ζ
 int:mg "int"=ζ
 bool:mg "bool"=ζ
 tuple:mg "tuple"=ζ
 list:mg "list"=ζ
 abs:mg "abs"=ζ
 str:mg "str"=ζ
 sum:mg "sum"=ζ
 sorted:mg "sorted"=ζ
 reversed:mg "reversed"=ζ
 enumerate:mg "enumerate"=ζ
 set:mg "set"=ζ
 all:mg "all"=ζ
 zip:mg "zip"=ζ
 any:mg "any"=ζ
inductive Df(K:aq)(mg:cX)(x:Str)(st:Stmt)(ps:1.4):Prop|mk (f fd)(_:Bx K x x st f fd)(_:mg x=ε 10.3)(_:Binds K fd ps [])
theorem Df.ok{K:aq}{st:Stmt}(F:Df K mg x st ps)(S:15.0)(len:22.8)
  (t8:∀(f:Addr) (bW:Value) (A:Around) (outer:16.1) (s:Shared) (H:Hp) (vs:List V) (Q:VK) (E:XK),dQ k 3.0->sp vs H Q E->
   ∃t,ke (eV Bp P w K mg base N x (ai st) f bW A outer s H E).SR (bR st) t/\t {nx:=λ_ H'=>Q .iY H',rt:=Q} 16.7 H):Dn P w K mg base (k+1) x ps sp:=by
 obtain⟨f,fd,F,m,b⟩:=F
 exact⟨f,fd,F.ok S len (t8 f),m,F.kp,b⟩
def Cn(mg:cX)(x:Str)(v:V):Prop:=∃u,mg x=ε u/\RelV v u
def kZ(c:Cn X.mg x v)(hg:Gl X x:=by rfl)(hd:1.1:=by decide):PE X 20.0 (tC v):=by
 obtain⟨u,m,r⟩:=c
 exact Tu hg m r hd
end
def cy(h:H p=ζ)(o:HO):aE H (upd H p o):=λb u q=>by rw[aB (cw q h)];exact q
def small(h:n<=100000):n<=sizeLine:=acw h 0.0
def nF(h:n<=100000):n<sizeLine:=afA h 0.0
section
variable {X:Cx}
def WJ:V->List V->Hp->VK->Prop:=λx vs H Q=>∃i:Int,x=.int i/\vs=[]/\Q (.int (Builtin.Int.intBits i:Nat)) H
def Ua:TX X "int.bit_length" WJ:=by
 intro 13
 obtain⟨i,rfl,rfl,q⟩:=h
 intro 10
 cases rv
 exact call_int_bit_length ⟨.int _,H,I.tok _,⟨_,rfl⟩,q⟩
def Ub(ho:PE X o to)(jY:attributeBase o "bit_length" X.env 12.3=eval o X.env:=by rfl)(jZ:7.9:=by rfl):
  PE X (.Call (.Attribute o "bit_length" apos) [] [] cY) (ac9 X.K "int" WJ to):=OZ PySem.F.plainAttrs_int PySem.F.slot_int_bit_length PySem.F.type_int_bit_length Ua ho jY jZ
end
theorem aE.upd(s:23.1)(h:H l=ζ)(o:HO):aE H (upd H' l o):=λb u q=>by rw[aB (cw q h)];exact s b u q
def DU:bootBuiltins "int"=ε (.type "int"):=⋯
def Uc:bootBuiltins "bool"=ε (.type "bool"):=⋯
def pV:bootBuiltins "tuple"=ε 10.2:=⋯
def KS:bootBuiltins "list"=ε (.type "list"):=⋯
def ml:bootBuiltins "str"=ε (.type "str"):=⋯
def cZ:bootBuiltins "len"=ε (.builtin "len"):=⋯
def II:bootBuiltins "abs"=ε (.builtin "abs"):=⋯
def Pc:bootBuiltins "max"=ε (.builtin "max"):=⋯
def rK:bootBuiltins "isinstance"=ε (.builtin "isinstance"):=⋯
section
variable {X:Cx}
theorem so(h:∀y∈scope.names,y.2=.free->∃c,env.cells.lookup y.1=ε c):
  ∃cl:List (Str×Addr),closureFor scope env=pure cl/\(∀n c,cl.lookup n=ε c->env.cells.lookup n=ε c)/\∀n,(n,NameKind.free)∈scope.names->∃c,cl.lookup n=ε c:=by
 have go:∀(l:List (Str×NameKind)) (cs:List (Str×Addr)),(∀y∈l,y.2=.free->∃c,env.cells.lookup y.1=ε c)->(∀n c,cs.lookup n=ε c->env.cells.lookup n=ε c)->
   ∃cl:List (Str×Addr),(forIn l cs λx r=>(match x with|(name,kind)=>if(kind==NameKind.free)=η then(do let a <-cellOf env name;pure (ForInStep.yield ((name,a)::r)))else pure (ForInStep.yield r):Sem (ForInStep (List (Str×Addr)))))=(pure cl:Sem _)/\
     (∀n c,cl.lookup n=ε c->env.cells.lookup n=ε c)/\(∀n,(n,NameKind.free)∈l->∃c,cl.lookup n=ε c)/\∀n c,cs.lookup n=ε c->∃c',cl.lookup n=ε c':=by
  intro l;induction l with
  |nil=>intro cs _ hc;exact⟨cs,rfl,hc,λn hn=>by simp at hn,λn c e=>⟨c,e⟩⟩
  |cons y r ih=>
    intro cs hl hc;obtain⟨name,kind⟩:=y;by_cases hk:kind=.free
    .subst hk;obtain⟨c,e⟩:=hl (name,.free) abd rfl;have hc':∀n d,((name,c)::cs).lookup n=ε d->env.cells.lookup n=ε d:=by grind
     obtain⟨cl,h1,h2,h3,h4⟩:=ih ((name,c)::cs) (λy hy=>hl y (aa8 _ hy)) hc';refine⟨cl,?_,h2,λn hn=>?_,λn d q=>?_⟩
     .rw [afE];have ec:cellOf env name=pure c:=by unfold cellOf;rw[e]
      simp only[ec];exact h1
     .grind
     .grind
    .obtain ⟨cl,h1,h2,h3,h4⟩:=ih cs (λy hy=>hl y (aa8 _ hy)) hc;refine⟨cl,?_,h2,λn hn=>?_,h4⟩;.grind
     .grind
 obtain⟨cl,h1,h2,h3,_⟩:=go scope.names [] h (λn c e=>by simp at e)
 refine⟨cl,?_,h2,h3⟩
 simp only[closureFor]
 rw[h1]
 rfl
noncomputable def bI(X:Cx)(scope:Scope)(N':1.4)(cl:List (Str×Addr))(C:Addr)(s2:Shared)(H2:Hp)(fp:4.0)(pins:de):Cx:=
 {X with N:=N',jt:=s2,Ov:=H2,env:=compEnvC scope cl C X.env,outer:=X.stack,stack:=X.stack,ex:=fp,fn:=λ_=>θ,pn:=X.pn++pins,xe:=λ_ _=>False}
def By(ix:1.0)(σ:St):St:=ix.map λj=>(σ[j]?).join
section
variable {scope:Scope}{x:Str}{ix:1.0}{N':1.4}{cl:List (Str×Addr)}{C:Addr}{s2:Shared}{H2:Hp}{fp:4.0}{pins:de}{σ:St}
theorem Pd{j:Nat}(h:(By ix σ)[j]?=ε (ε v)):∃i,ix[j]?=ε i/\σ[i]?=ε (ε v):=by
 unfold By at h
 rw[abv]at h
 cases e:ix[j]? with
 |none=>rw[e]at h;cases h
 |some i=>grind
abbrev SV(its:cF)(n:Nat):Obj:=9.3
def Inv.adi(I:0.5)(hD:H D=ζ)(hs:X.jt.heap.objs.size<=D)(hl:D≠X.env.locals)(hc:∀x c,X.env.cells.lookup x=ε c->c≠D)
  (hp:∀p∈X.pn++pins,p.1≠D)(e:s.heap.get? D=ε (SV its n))(r:bL ys its)(hz:ys.length<=sizeLine):Inv X pins σ (upd H D 14.4) s:=by
 have h:=I.step (H':=upd H D 14.4) (h':=s.heap) (g':=s.gens) (t':=s.toks) (d':=s.drawn) (ch:=[D]) (λ10=>by
   have e:b=D:=by simpa using hb
   subst e;exact⟨.inr hs,hl,hc,hp⟩)
  (λb o _ _ _ q _=>q) (λb o _ _ _ q _=>⟨o.slots,q⟩) (λb o hb _ q=>by rw[aB (by simpa using hb)];exact q) (λb o _ q=>⟨o,q⟩)
  (λb xs q=>by rw[aB (cw q hD)];exact q) (λb o u q=>by rw[aB (cw q hD)];exact q) (λb ps q=>⟨#[],by rw[aB (cw q hD),aiz];exact q⟩) (λm hm=>hm) (λb u q=>?_) I.bare
 .exact h
 .by_cases hb:b=D
  .subst hb;rw[aN]at q;cases q;exact⟨hz,its,n,r,e⟩
  .rw [aB hb]at q;exact(I.bV b u q).yb (λ_ _ _ z=>z) (λc z=>by rw[aB (cw z hD)];exact z) λc xs z=>z.new hD
def MT(I0:Inv X pins σ H2 s2)(hC:s2.heap.objs.size<=C)(hD:s2.heap.objs.size<=D)(hf:∀b∈fp,t6 X pins H2 b) 
  (I:Inv 0.6 ((D,SV its n)::more) d8 H s1)(r:bL ys its)(hz:ys.length<=sizeLine)(hs:Heap.SameBut C s1.heap h')(Zf:D≠C):
  Inv X pins σ (upd H D 14.4) {s1 with heap:=h'}:=by
 have nC:∀b o,s2.heap.get? b=ε o->b≠C:=λ14=>abn (abc (aba e) hC)
 have B:=I.base
 have fC:H C=none:=I.free
 have pD:=I.pin (D,SV its n) (aaW _ abd)
 have u:Un (qQ X.stack) fp H2 H s2.heap h':=⟨λ11=>(hs.2 b (nC b o e)).trans (B.keep b o e n hb hx),λ11=>by
   obtain⟨sl,q⟩:=B.slot b o e n hb hx;exact⟨sl,(hs.2 b (nC b o e)).trans q⟩,B.free,λb o e hx=>by
   obtain⟨o',q⟩:=B.there b o e hx;exact⟨o',(hs.2 b (nC b o e)).trans q⟩,B.rh,B.ri,B.sj⟩
 have bV:qP X.prog X.w H h':=λ14=>(I.bV b o e).yb (λc v hc q=>(hs.2 c (by
   rintro rfl;rcases hc with z|z;.grind
   .rw [fC]at z;cases z)).trans q) (λ_ q=>q) λ_ _ q=>q
 have I1:=I0.FQ (s':={s1 with heap:=h'}) (ch:=fp) I.os u bV I.bare λ10=>⟨(hf b hb).2.2.2.1,(hf b hb).2.1,(hf b hb).2.2.2.2.1,(hf b hb).2.2.2.2.2⟩
 refine I1.adi (its:=its) (n:=n) pD.2.1 (acw I0.sz hD) (agD (abc I0.lt hD)) (λa c e z=>?_) (λp hp z=>?_) ((hs.2 D Zf).trans pD.1) r hz
 .obtain ⟨v,q⟩:=I0.cell a c e;exact absurd (abc q.lt (by rw[z];exact hD)) (ac3 _)
 .exact absurd (abc (aba (I0.pin p hp).1) (by rw[z];exact hD)) (ac3 _)
end
noncomputable def Ud(sc scope:Scope):List (Str×NameKind):=scope.names.map λ(n,k)=>if(k==.free&&sc.kind==.function&&sc.names.lookup n==ε .cell)then(n,.cell)else(n,k)
theorem lookup_mem:∀{l:List (Str×NameKind)},l.lookup n=ε k->(n,k)∈l
 |[],h=>by simp at h
 |(a,b)::r,h=>by
   rw[ai7]at h;cases e:n==a with
   |true=>rw[e]at h;cases h;rw[eq_of_beq e];exact abd
   |false=>rw[e]at h;exact aa8 _ (lookup_mem h)
end
abbrev Ue:=Int×Int
def dF(q:Ue):PyData:=.tuple [.int q.1,.int q.2]
def dP(l:List Ue):PyData:=.list (l.map dF)
def Zg(a b:Ue):PyData.eqv (dF a) (dF b)=ι (a=b):=by
 obtain⟨a1,a2⟩:=a
 obtain⟨b1,b2⟩:=b
 simp only[dF,PyData.eqv,PyData.eqvAll]
 rw[afX];simp
def WK(q:Ue):SeqAt.shaped (dF q)=true:=rfl
abbrev D:=PyData
abbrev DS:=List (Option D)
noncomputable def dw:List (Addr×List V):=[(554,[.str "number"]),(555,[.str "number",.str "number"]),(556,[.str "number",.str "number or -1",.str "number",.str "number"]),(557,[.str "number",.str "number",.str "number",.str "number",.str "number"]),(558,[]),(559,[]),(560,[.str "number",.str "number"]),(561,[.str "number",.str "number",.str "fraction"]),(562,[.str "fraction"]),(563,[.str "number",.str "number"]),(564,[]),(565,[.str "fraction",.str "fraction",.str "fraction"]),(566,[.str "name"]),(567,[]),(568,[]),(569,[]),(336,[.int 0,.int 1]),(432,[.int 1,.int 1])]
def aE.sr(s:23.1)(h:fY H a xs):fY H' a xs:=by
 rcases h with h|⟨ob,h⟩
 .exact .inl (s _ _ h)
 .exact .inr ⟨ob,s _ _ h⟩
noncomputable def wo(H:Hp)(A:4.0):Hp:=λa=>if a∈A then ζ else H a
section
variable {H H':Hp}{A A':4.0}{a l p r:Addr}{o:HO}
def aZ(h:a∉A):wo H A a=H a:=by unfold wo;rw[if_neg h]
def il(h:a∈A):wo H A a=none:=by unfold wo;rw[if_pos h]
def nG(h:wo H A a=ε o):a∉A/\H a=ε o:=by
 unfold wo at h
 split at h
 .cases h
 .grind
def cH:aE 19.5 H:=λ_ _ h=>(nG h).2
def b9(s:23.1):aE 19.5 (wo H' A):=λb u h=>by
 obtain⟨h1,h2⟩:=nG h
 rw[aZ h1];exact s b u h2
def iP(h:∀a∈A',a∈A):aE 19.5 (wo H A'):=λb u q=>by
 obtain⟨h1,h2⟩:=nG q
 rw[aZ λz=>h1 (h b z)];exact h2
def Pe:wo H []=H:=by funext a;exact aZ 0.2
def Pf(h:p∉A):wo (upd H p o) A=upd 19.5 p o:=by
 funext a
 by_cases e:a=p
 .subst e;rw[aZ h,aN,aN]
 .rw [aB e];by_cases z:a∈A;.rw [il z,il z]
  .rw [aZ z,aZ z,aB e]
def Pg(h:l∈A):wo (upd H l o) A=wo H A:=by
 funext a
 by_cases z:a∈A
 .rw [il z,il z]
 .rw [aZ z,aZ z,aB];intro e;subst e;exact z h
def F5(h:H r=ζ):wo (upd H r o) (r::A)=wo H A:=by
 funext a
 by_cases e:a=r
 .subst e;rw[il 0.2];by_cases z:a∈A;.rw [il z]
  .rw [aZ z,h]
 .by_cases z:a∈A;.rw [il (by simp[z]),il z]
  .rw [aZ (by simp[e,z]),aZ z,aB e]
def KU(s:23.1)(h:H r=ζ):aE 19.5 (wo H' (r::A)):=λb u q=>by
 obtain⟨h1,h2⟩:=nG q
 rw[aZ (by simp only[aa9,not_or];exact⟨cw h2 h,h1⟩)]
 exact s b u h2
def F6:HO->Prop
 |.lst _=>True
 |.dT _=>True
 |.dK _=>True
 |.ins _ _ _=>True
 |.own _=>True
 |_=>False
def Ls(A:4.0)(H:Hp):Prop:=(∀a∈A,∃o,H a=ε o/\F6 o)/\∀p xs,(p,xs)∈dw->fY H p xs
def Ls.same(h:Ls A H)(s:23.1):Ls A H':=⟨λa ha=>let⟨o,e,q⟩:=h.1 a ha;⟨o,s _ _ e,q⟩,λp xs m=>s.sr (h.2 p xs m)⟩
def fY.apart(t:fY H p xs)(e:H l=ε o)(w:F6 o):p≠l:=λz=>by
 subst z
 rcases t with t|⟨ob,t⟩<;>rw[e]at t<;>cases t<;>exact w
theorem fY.wo(t:fY H p xs)(n:p∉A):fY (L2.wo H A) p xs:=by
 rcases t with t|⟨ob,t⟩
 .exact .inl (by rw[aZ n];exact t)
 .exact .inr ⟨ob,by rw[aZ n];exact t⟩
def Ls.free(h:Ls A H)(n:H p=ζ):p∉A:=λz=>by
 obtain⟨ys,e,_⟩:=h.1 p z
 rw[n]at e;cases e
end
def cD(h:Heap)(e:Addr):Prop:=∃o fs,h.get? e=ε o/\o.data=.fields fs/\fs[2]?=ε Value.none
def WL(a C:Addr):HO:=.ext λh=>(∃o,h.get? a=ε o/\o.cls=.ref C)/\cD h a
def rj:Key->D:=Sum.elim .int .str
mutual
inductive HD (K:aq) (H:Hp):V->D->Prop
 |iY:HD K H .iY .none
 |bl (b:Bool):HD K H (.bl b) (.bool b)
 |int (i:Int):HD K H 17.6 17.6
 |str (x:Str):HD K H 18.9 18.9
 |lst {a:Addr} {xs:List V} {ds:List D}:Ie K H a xs->ee K H xs ds->HD K H 5.5 (.list ds)
 |tup {a:Addr} {xs:List V} {ds:List D}:fY H a xs->ee K H xs ds->HD K H 5.5 (.tuple ds)
 |ye {a:Addr} {aR:4.8} {kds:List (D×D)}:H a=ε (.dT aR)->kds.map (·.1)=aR.map 10.7->ee K H (aR.map (·.2)) (kds.map (·.2))->HD K H 5.5 15.9
 |exc {a C:Addr} {c:Str}:PySem.W.nsIn K mainGlobals c=ε (ε 1.9)->H a=ε (WL a C)->HD K H 5.5 (.dict [(.list [],.tuple [.int (a:Nat),.str c])])
 |ptr (a:Addr):HD K H 5.5 (.dict [(.list [],.int (a:Nat))])
inductive ee (K:aq) (H:Hp):List V->List D->Prop
 |nil:ee K H [] []
 |cons {x:V} {xs:List V} {d:D} {ds:List D}:HD K H x d->ee K H xs ds->ee K H (x::xs) (d::ds)
end
def aE.rd(s:23.1)(h:Rd H a u):Rd H' a u:=by
 rcases h with h|⟨o,h⟩
 .exact .inl (s _ _ h)
 .exact .inr ⟨o,s _ _ h⟩
def Ie.of{K:aq}(h:H a=ε (.lst xs)):Ie K H a xs:=.inl (.inl h)
def Ie.sq{K:aq}(h:Ie K H a xs):nD K H a xs:=by
 rcases h with h|⟨its,n,h1,h2,h3⟩
 .exact .inl h
 .exact .inr ⟨_,its.toArray,n,h1,rfl,rfl,rfl,by rw[List.size_toArray];exact h2,by simpa using h3⟩
def Ie.same{K:aq}(s:23.1)(h:Ie K H a xs):Ie K H' a xs:=by
 rcases h with h|h
 .exact .inl (s.rd h)
 .exact .inr h
def Inv.lsd(I:0.5)(h:Ie X.K H a xs):xs.length<=sizeLine/\∃(its:cF) (n:Nat),bL xs its/\s.heap.get? a=ε 9.3:=by
 rcases h with h|⟨its,n,h1,h2,h3⟩
 .exact h.ok I.bV
 .exact ⟨by rw[h3.length];exact h2,its,n,h3,I.o7 a _ h1⟩
theorem HD.same{K:aq}(e:23.1)(h:HD K H x d):HD K H' x d:=
 HD.rec (motive_1:=λx d _=>HD K H' x d) (motive_2:=λx d _=>ee K H' x d) .iY .bl .int .str (λhq _ i=>.lst (hq.same e) i) (λhq _ i=>.tup (e.sr hq) i) (λhq k _ i=>.ye (e _ _ hq) k i) (λk h=>.exc k (e _ _ h)) (λa=>.ptr a) .nil (λ_ _ i j=>.cons i j) h
theorem ee.same{K:aq}(e:23.1)(h:ee K H x d):ee K H' x d:=
 ee.rec (motive_1:=λx d _=>HD K H' x d) (motive_2:=λx d _=>ee K H' x d) .iY .bl .int .str (λhq _ i=>.lst (hq.same e) i) (λhq _ i=>.tup (e.sr hq) i) (λhq k _ i=>.ye (e _ _ hq) k i) (λk h=>.exc k (e _ _ h)) (λa=>.ptr a) .nil (λ_ _ i j=>.cons i j) h
section
variable {X:Cx}{pins:de}{σ:St}{H:Hp}{s:Shared}
def iQ(h:SeqAt.shaped d=η):d.canLay0=true:=by
 unfold SeqAt.shaped at h
 rw[abi]at h
 exact h.1
def Zh(I:0.5)(hq:Ie X.K H a xs)(r:RelV 5.5 u)(h:∀{us},bL xs us->∃as,ReadsAll s.heap us ds as):∃as,Reads s.heap u (.list ds) as:=by
 cases(show u=Value.ref a from r)
 obtain⟨its,rv,⟨o,n,h1,h2,_,h3⟩,_⟩:=I.list hq.sq
 obtain⟨as,q⟩:=h rv
 exact⟨_,.list h1 h2 h3 (by simpa using q)⟩
def Zi(I:0.5)(hq:fY H a xs)(r:RelV 5.5 u)(h:∀{us},bL xs us->∃as,ReadsAll s.heap us ds as):∃as,Reads s.heap u (.tuple ds) as:=by
 cases(show u=Value.ref a from r)
 obtain⟨its,rv,⟨o,h1,h2,n,h3⟩,_⟩:=I.tuple (.inl hq)
 obtain⟨as,q⟩:=h rv
 exact⟨_,.tuple h1 h2 h3 (by simpa using q)⟩
theorem HD.reads(I:0.5)(h:HD X.K H x d):∀{u:Value},RelV x u->PyData.canLay0 d=η->∃as,Reads s.heap u d as:=
 HD.rec (motive_1:=λx d _=>∀{u},RelV x u->d.canLay0=η->∃as,Reads s.heap u d as) (motive_2:=λx d _=>∀{u},bL x u->PyData.canLayAll0 d=η->∃as,ReadsAll s.heap u d as)
  (λ{u} r _=>by cases(show u=Value.none from r);exact⟨_,.none⟩) (λb {u} r _=>by cases(show u=Value.bool b from r);exact⟨_,.bool b⟩) (λi {u} r _=>by obtain⟨t,rfl⟩:=r;exact⟨_,.int i t⟩) (λi {u} r _=>by obtain⟨t,rfl⟩:=r;exact⟨_,.str i t⟩)
  (λ{_ _ _} hq _ i {_} r c=>Zh I hq r λrv=>i rv (by rw[PyData.canLay0]at c;exact c)) (λ{_ _ _} hq _ i {_} r c=>Zi I hq r λrv=>i rv (by rw[PyData.canLay0]at c;exact c)) (λ{_ _ _} _ _ _ _ {_} _ c=>by rw[PyData.canLay0]at c;cases c) (λ{_ _ _} _ _ {_} _ c=>by rw[PyData.canLay0]at c;cases c) (λ_ {_} _ c=>by rw[PyData.canLay0]at c;cases c)
  (λ{_} r _=>by cases r;exact⟨_,.nil⟩) (λ{_ _ _ _} _ _ i j {_} r c=>by
   rw[PyData.canLayAll0,abi]at c;cases r with
   |cons r rs=>
     obtain⟨as,q⟩:=i r c.1;obtain⟨bs,qs⟩:=j rs c.2;exact⟨_,.cons q qs⟩) h
end
theorem ee.len{K:aq}:∀{xs:List V} {ds:List D},ee K H xs ds->xs.length=ds.length
 |_,_,.nil=>rfl
 |_,_,.cons _ t=>by rw[abk,abk,ee.len t]
theorem ee.get{K:aq}:∀{xs:List V} {ds:List D} {i:Nat} {d:D},ee K H xs ds->ds[i]?=ε d->∃x,xs[i]?=ε x/\HD K H x d
 |_,_,_,_,.nil,e=>by simp at e
 |_,_,0,_,.cons r _,e=>by simp at e;subst e;exact⟨_,rfl,r⟩
 |_,_,i+1,y,.cons _ t,e=>by
   obtain⟨u,h1,h2⟩:=ee.get (i:=i) (d:=y) t (by simpa using e);exact⟨u,by simpa using h1,h2⟩
theorem ee.app{K:aq}:∀{xs xs':List V} {ds ds':List D},ee K H xs ds->ee K H xs' ds'->ee K H (xs++xs') (ds++ds')
 |_,_,_,_,.nil,s=>s
 |_,_,_,_,.cons r t,s=>.cons r (ee.app t s)
theorem ee.WM{K:aq}:∀{xs:List V} {ds:List D} (n:Nat),ee K H xs ds->ee K H (xs.take n) (ds.take n)
 |_,_,0,_=>.nil
 |_,_,_+1,.nil=>.nil
 |_,_,n+1,.cons r t=>.cons r (ee.WM n t)
theorem ee.WN{K:aq}:∀{xs:List V} {ds:List D} (n:Nat),ee K H xs ds->ee K H (xs.drop n) (ds.drop n)
 |_,_,0,r=>r
 |_,_,_+1,.nil=>.nil
 |_,_,n+1,.cons _ t=>ee.WN n t
theorem ee.ints{K:aq}:∀ns:List Int,ee K H 19.2 (ns.map PyData.int)
 |[]=>.nil
 |n::ns=>.cons (.int n) (ee.ints ns)
def Ug(h:fY H a xs)(al:Ls A H):fY 19.5 a xs:=by
 rcases h with h|⟨ob,h⟩
 .refine .inl ?_;rw[aZ λz=>?_];exact h;obtain⟨o,e,q⟩:=al.1 a z;rw[h]at e;cases e;exact q
 .refine .inr ⟨ob,?_⟩;rw[aZ λz=>?_];exact h;obtain⟨o,e,q⟩:=al.1 a z;rw[h]at e;cases e;exact q
inductive IJ(K:aq)(H:Hp):HO->D->Prop
 |lst {ys:List V} {ds:List D}:ee K H ys ds->IJ K H 14.4 (.list ds)
 |ye {aR:4.8} {kds:List (D×D)}:kds.map (·.1)=aR.map 10.7->ee K H (aR.map (·.2)) (kds.map (·.2))->IJ K H (.dT aR) 15.9
theorem IJ.same{K:aq}(s:23.1)(h:IJ K H o d):IJ K H' o d:=by
 cases h with
 |lst q=>exact .lst (q.same s)
 |ye k q=>exact .ye k (q.same s)
def IJ.own{K:aq}(h:IJ K H o d):F6 o:=by cases h<;>trivial
theorem IJ.hd{K:aq}(h:IJ K H o d)(e:H l=ε o):HD K H (.ref l) d:=by
 cases h with
 |lst q=>exact .lst (.of e) q
 |ye k q=>exact .ye e k q
def Uh:List (D×D)->Bool
 |(.list [],_)::_=>η
 |_=>θ
def kc(K:aq)(A:4.0)(H:Hp)(v:V)(d:D):Prop:=HD K 19.5 v d\/∃l o,v=.ref l/\H l=ε o/\IJ K 19.5 o d
section
variable {K:aq}{H H':Hp}{A:4.0}{v:V}{d:D}
def kc.of(h:HD K 19.5 v d):kc K A H v d:=.inl h
theorem kc.same(s:23.1)(h:kc K A H v d):kc K A H' v d:=by
 rcases h with h|⟨l,o,rfl,e,q⟩
 .exact .inl (h.same (b9 s))
 .exact .inr ⟨l,o,rfl,s _ _ e,q.same (b9 s)⟩
def kc.WO(h:kc K A H v d):HD K H v d:=by
 rcases h with h|⟨l,o,rfl,e,q⟩
 .exact h.same cH
 .exact (q.same cH).hd e
theorem kc.list(h:kc K A H v (.list ds)):∃l ys,v=.ref l/\Ie K H l ys/\ee K 19.5 ys ds:=by
 rcases h with h|⟨l,o,rfl,e,q⟩
 .cases h with
  |lst hq h=>exact⟨_,_,rfl,hq.same cH,h⟩
 .cases q with
  |lst q=>exact⟨l,_,rfl,.of e,q⟩
theorem kc.adj(h:kc K A H v (.tuple ds)):∃l ys,v=.ref l/\fY H l ys/\ee K 19.5 ys ds:=by
 rcases h with h|⟨l,o,rfl,e,q⟩
 .cases h with
  |tup hq h=>exact⟨_,_,rfl,cH.sr hq,h⟩
 .cases q
theorem kc.tuple(h:kc K A H v (.tuple ds)):∃l ys,v=.ref l/\o8 K H l ys/\ee K 19.5 ys ds:=
 let⟨l,ys,a,b,c⟩:=h.adj;⟨l,ys,a,.inl b,c⟩
theorem kc.dict(h:kc K A H v 15.9)(hf:Uh kds=θ):∃l aR,v=.ref l/\H l=ε (.dT aR)/\kds.map (·.1)=aR.map 10.7/\ee K 19.5 (aR.map (·.2)) (kds.map (·.2)):=by
 rcases h with h|⟨l,o,rfl,e,q⟩
 .cases h with
  |ye hq k h=>exact⟨_,_,rfl,cH _ _ hq,k,h⟩
  |exc _ _=>cases hf
  |ptr _=>cases hf
 .cases q with
  |ye k q=>exact⟨l,_,rfl,e,k,q⟩
def kc.fz(h:kc K A H v (.tuple ds)):HD K 19.5 v (.tuple ds):=by
 rcases h with h|⟨l,o,rfl,e,q⟩
 .exact h
 .cases q
theorem kc.int(h:kc K A H v 17.6):v=.int i:=by
 rcases h with h|⟨l,o,rfl,e,q⟩
 .cases h;rfl
 .cases q
theorem kc.bool(h:kc K A H v (.bool b)):v=.bl b:=by
 rcases h with h|⟨l,o,rfl,e,q⟩
 .cases h;rfl
 .cases q
theorem kc.str(h:kc K A H v (.str b)):v=.str b:=by
 rcases h with h|⟨l,o,rfl,e,q⟩
 .cases h;rfl
 .cases q
theorem kc.iY(h:kc K A H v .none):v=.iY:=by
 rcases h with h|⟨l,o,rfl,e,q⟩
 .cases h;rfl
 .cases q
end
structure Rel(K:aq)(O:1.0)(U A0:4.0)(σ:St)(δ:DS)(H:Hp):Prop where
 len:σ.length=δ.length
 fz:∀(i:Nat) d,i∉O->δ[i]?=ε (ε d)->∃v,σ[i]?=ε (ε v)/\HD K (wo H 8.0) v d
 ow:∀(i:Nat) d,i∈O->δ[i]?=ε (ε d)->∃l o,σ[i]?=ε (ε (.ref l))/\l∈U/\H l=ε o/\IJ K (wo H 8.0) o d
 inj:∀(i j:Nat) d e l,i∈O->j∈O->i≠j->δ[i]?=ε (ε d)->δ[j]?=ε (ε e)->σ[i]?=ε (ε (.ref l))->σ[j]?=ε (ε (.ref l))->False
 al:Ls 8.0 H
section
variable {K:aq}{O:1.0}{U A0:4.0}{σ:St}{δ:DS}{H H':Hp}
theorem Rel.same(R:2.2)(s:23.1):Rel K O U A0 σ δ H' where
 len:=R.len
 fz:=λi d hi e=>let⟨v,a,b⟩:=R.fz i d hi e;⟨v,a,b.same (b9 s)⟩
 ow:=λi d hi e=>let⟨l,o,a,c,f,g⟩:=R.ow i d hi e;⟨l,o,a,c,s _ _ f,g.same (b9 s)⟩
 inj:=R.inj
 al:=R.al.same s
theorem Rel.owL(R:2.2)(i:Nat)(d:D)(hi:i∈O)(e:δ[i]?=ε (ε d)):(∃l ys ds,σ[i]?=ε (ε (.ref l))/\d=.list ds/\l∈U/\H l=ε 14.4/\ee K (wo H 8.0) ys ds)\/∃kds,d=.dict kds:=by
 obtain⟨l,o,a,c,f,g⟩:=R.ow i d hi e
 cases g with
 |lst q=>exact .inl ⟨l,_,_,a,rfl,c,f,q⟩
 |ye k q=>exact .inr ⟨_,rfl⟩
def Rel.at(R:2.2){i:Nat}(e:δ[i]?=ε (ε d)):∃v,σ[i]?=ε (ε v)/\kc K 8.0 H v d:=by
 by_cases hi:i∈O
 .obtain ⟨l,o,a,c,f,g⟩:=R.ow i d hi e;exact⟨_,a,.inr ⟨l,o,rfl,f,g⟩⟩
 .obtain ⟨v,a,b⟩:=R.fz i d hi e;exact⟨v,a,.inl b⟩
theorem Rel.set(R:2.2)(hi:i∉O)(h:HD K (wo H 8.0) v d):Rel K O U A0 (σ.set i (ε v)) 23.4 H where
 len:=by rw[afk,afk];exact R.len
 fz:=λj e hj q=>by
  by_cases Bz:i=j
  .subst Bz;have hl:i<δ.length:=by have:=(abp.mp q).1;rwa [afk]at this
   rw[adt hl]at q;cases q;exact⟨v,adt (by rw[R.len];exact hl),h⟩
  .rw [acL Bz]at q ⊢;exact R.fz j e hj q
 ow:=λj e hj q=>by
  have Bz:i≠j:=λz=>hi (z ▸ hj);rw[acL Bz]at q ⊢;exact R.ow j e hj q
 inj:=λj k d e l hj hk hjk q1 q2 e1 e2=>by
  have Bz:i≠j:=λz=>hi (z ▸ hj);have Zj:i≠k:=λz=>hi (z ▸ hk);rw[acL Bz]at q1 e1;rw[acL Zj]at q2 e2;exact R.inj j k d e l hj hk hjk q1 q2 e1 e2
 al:=R.al
def Rel.adk(R:2.2)(s:23.1)(hr:H r=ζ)(h:H' r=ε ob)(q:IJ K (wo H' (r::8.0)) ob db)(hi:i∈O):
  Rel K O (r::U) A0 (σ.set i (ε (.ref r))) (δ.set i (ε db)) H' where
 len:=by rw[afk,afk];exact R.len
 fz:=λj e hj q=>by
  have Bz:i≠j:=λz=>hj (z ▸ hi);rw[acL Bz]at q ⊢;obtain⟨v,a,b⟩:=R.fz j e hj q;exact⟨v,a,b.same (KU s hr)⟩
 ow:=λj e hj w=>by
  by_cases Bz:i=j
  .subst Bz;have hl:i<δ.length:=by have:=(abp.mp w).1;rwa [afk]at this
   rw[adt hl]at w;cases w;exact⟨r,ob,adt (by rw[R.len];exact hl),by simp,h,q⟩
  .rw [acL Bz]at w ⊢;obtain⟨l,o,a,c,f,g⟩:=R.ow j e hj w;exact⟨l,o,a,by simp[c],s _ _ f,g.same (KU s hr)⟩
 inj:=λj k d e l hj hk hjk q1 q2 e1 e2=>by
  have adl:∀{x:D},(δ.set i (ε db))[i]?=ε (ε x)->i<δ.length:=λw=>by have:=(abp.mp w).1;rwa [afk]at this
  by_cases Bz:i=j
  .subst Bz;have Zj:=hjk;rw[adt (by rw[R.len];exact adl q1)]at e1;rw[acL Zj]at q2 e2;cases e1;obtain⟨l,o,a,c,f,g⟩:=R.ow k e hk q2;rw[a]at e2;cases e2;rw[hr]at f;cases f
  .by_cases Zj:i=k
   .subst Zj;rw[adt (by rw[R.len];exact adl q2)]at e2;rw[acL Bz]at q1 e1;cases e2;obtain⟨l,o,a,c,f,g⟩:=R.ow j d hj q1;rw[a]at e1;cases e1;rw[hr]at f;cases f
   .rw [acL Bz]at q1 e1;rw[acL Zj]at q2 e2;exact R.inj j k d e l hj hk hjk q1 q2 e1 e2
 al:=⟨λa ha=>by
  rcases abg.mp ha with z|z
  .rcases aa9.mp z with z|z;.subst z;exact⟨ob,h,q.own⟩
   .exact (R.al.same s).1 a (abC _ z)
  .exact (R.al.same s).1 a (aaW _ z),(R.al.same s).2⟩
def Rel.agt(R:2.2)(s:23.1)(hr:H r=ζ)(h:H' r=ε 14.4)(q:ee K (wo H' (r::8.0)) ys ds)(hi:i∈O):
  Rel K O (r::U) A0 (σ.set i (ε (.ref r))) (δ.set i (ε (.list ds))) H':=R.adk s hr h (.lst q) hi
def Rel.adm(R:2.2)(hi:i∈O)(hl:σ[i]?=ε (ε (.ref l)))(hU:l∈U)(q:IJ K (wo H 8.0) ob db)(hd:∃d,δ[i]?=ε (ε d)):
  Rel K O U A0 σ (δ.set i (ε db)) (upd H l ob):=by
 have hw:wo (upd H l ob) 8.0=wo H 8.0:=Pg (abC _ hU)
 obtain⟨d0,hd⟩:=hd
 have hlen:=(abp.mp hd).1
 exact{
  len:=by rw[afk];exact R.len
  fz:=λj e hj w=>by
   have Bz:i≠j:=λz=>hj (z ▸ hi);rw[acL Bz]at w;rw[hw];exact R.fz j e hj w
  ow:=λj e hj w=>by
   rw[hw];by_cases Bz:i=j
   .subst Bz;rw[adt hlen]at w;cases w;exact⟨l,ob,hl,hU,aN,q⟩
   .rw [acL Bz]at w;obtain⟨l',o',a,c,f,g⟩:=R.ow j e hj w;have gT:l'≠l:=by
     intro z;subst z;exact R.inj i j d0 e _ hi hj Bz hd w hl a
    exact⟨l',o',a,c,by rw[aB gT];exact f,g⟩
  inj:=λj k d e l hj hk hjk q1 q2 e1 e2=>by
   have f:∀{m:Nat} {x:D},(δ.set i (ε db))[m]?=ε (ε x)->∃y,δ[m]?=ε (ε y):=by grind
   obtain⟨y1,w1⟩:=f q1;obtain⟨y2,w2⟩:=f q2;exact R.inj j k y1 y2 l hj hk hjk w1 w2 e1 e2
  al:=⟨λa ha=>by
   by_cases e:a=l;.subst e;exact⟨ob,aN,q.own⟩
   .rw [aB e];exact R.al.1 a ha,λp xs m=>
    let⟨_,e,w⟩:=R.al.1 l (abC _ hU);(R.al.2 p xs m).ne ((R.al.2 p xs m).apart e w)⟩}
def Rel.put(R:2.2)(hi:i∈O)(hl:σ[i]?=ε (ε (.ref l)))(hU:l∈U)(q:ee K (wo H 8.0) ys ds)(hd:∃d,δ[i]?=ε (ε d)):
  Rel K O U A0 σ (δ.set i (ε (.list ds))) (upd H l 14.4):=R.adm hi hl hU (.lst q) hd
end
structure Fx(H0:Hp)(A0 U:4.0)(H:Hp):Prop where
 same:aE H0 H
 new:∀a∈U,H0 a=ζ
 old:Ls A0 H0
section
variable {U U' A0:4.0}{H0 H H':Hp}
def Fx.grow(F:Fx H0 A0 U H)(s:23.1):Fx H0 A0 U H':=⟨F.same.trans s,F.new,F.old⟩
def Fx.more(F:Fx H0 A0 U H)(s:23.1)(hr:H r=ζ):Fx H0 A0 (r::U) H':=⟨F.same.trans s,λa ha=>by
 rcases aa9.mp ha with z|z
 .subst z;exact F.same.free hr
 .exact F.new a z,F.old⟩
def Fx.put(F:Fx H0 A0 U H)(hl:l∈U)(o:HO):Fx H0 A0 U (upd H l o):=⟨F.same.upd (F.new l hl) o,F.new,F.old⟩
def Fx.out(F:Fx H0 A0 U H)(hl:l∈U):l∉A0:=λz=>by
 obtain⟨ys,e,_⟩:=F.old.1 l z
 rw[F.new l hl]at e;cases e
def Fx.here(F:Fx H0 A0 U H):Fx (wo H U) A0 U H:=⟨cH,λ_ h=>il h,λa ha=>by
 obtain⟨ys,e,q⟩:=F.old.1 a ha
 refine⟨ys,?_,q⟩
 rw[aZ λz=>?_]
 .exact F.same _ _ e
 .exact F.out z ha,λp xs m=>(F.same.sr (F.old.2 p xs m)).wo λz=>by
 rcases F.old.2 p xs m with t|⟨ob,t⟩<;>rw[F.new p z]at t<;>cases t⟩
theorem Fx.trans(F:Fx H0 A0 U H)(G:Fx (wo H U) A0 U' H'):Fx H0 A0 U' H':=by
 have k:∀a o,H0 a=ε o->wo H U a=ε o:=λa o e=>by
  rw[aZ λz=>?_];.exact F.same _ _ e
  .rw [F.new a z]at e;cases e
 refine⟨λa o e=>G.same _ _ (k a o e),λa ha=>?_,F.old⟩
 cases e:H0 a with
 |none=>rfl
 |some o=>
   have:=G.new a ha;rw[k a o e]at this;cases this
def Fx.keeps(G:Fx (wo H U) A0 U' H'):aE (wo H 8.0) (wo H' (U'++A0)):=λ14=>by
 obtain⟨h1,h2⟩:=nG e
 simp only[abg,not_or]at h1
 have h3:wo H U b=ε o:=by rw[aZ h1.1];exact h2
 rw[aZ]
 .exact G.same _ _ h3
 .simp only[abg,not_or];refine⟨λz=>?_,h1.2⟩;rw[G.new b z]at h3;cases h3
end
inductive tE(K:aq)(O:1.0)(g:DS->Option D)(σ:St)(H:Hp)(Q:VK):Prop|mk (U A0 δ d)(_:2.2)(_:g δ=ε d)(_:∀v H',aE H H'->HD K (wo H' 8.0) v d->Q v H')
def tE.e{K:aq}  {GG:Prop}(hh:tE K O g σ H Q)(kk:∀U A0 δ d,6.3->(g δ=ε d)->(∀v H',aE H H'->HD K (wo H' 8.0) v d->Q v H')->GG):GG:=by obtain⟨U,A0,δ,d,x0,x1,x2⟩:=hh;exact kk U A0 δ d x0 x1 x2
inductive ir(K:aq)(O:1.0)(g:DS->Option D)(σ:St)(H:Hp)(Q:VK):Prop|mk (U A0 δ d)(_:2.2)(_:g δ=ε d)(_:∀v H',aE H H'->kc K 8.0 H' v d->Q v H')
def ir.e{K:aq}  {GG:Prop}(hh:ir K O g σ H Q)(kk:∀U A0 δ d,6.3->(g δ=ε d)->(∀v H',aE H H'->kc K 8.0 H' v d->Q v H')->GG):GG:=by obtain⟨U,A0,δ,d,x0,x1,x2⟩:=hh;exact kk U A0 δ d x0 x1 x2
inductive tN(K:aq)(O:1.0)(g:DS->Option (List D))(σ:St)(H:Hp)(Q:VK):Prop|mk (U A0 δ ds)(_:2.2)(_:g δ=ε ds)(_:∀r ys H',aE H H'->H r=ζ->H' r=ε 14.4->ee K (wo H' (r::8.0)) ys ds->Q (.ref r) H')
def tN.e{K:aq}  {GG:Prop}(hh:tN K O g σ H Q)(kk:∀U A0 δ ds,6.3->(g δ=ε ds)->(∀r ys H',aE H H'->H r=ζ->H' r=ε 14.4->ee K (wo H' (r::8.0)) ys ds->Q (.ref r) H')->GG):GG:=by obtain⟨U,A0,δ,ds,x0,x1,x2⟩:=hh;exact kk U A0 δ ds x0 x1 x2
inductive tT(K:aq)(O:1.0)(g:DS->Option Bool)(σ:St)(H:Hp)(Q:Bool->Hp->Prop):Prop|mk (U A0 δ b)(_:2.2)(_:g δ=ε b)(_:∀H',aE H H'->Q b H')
def tT.e{K:aq}  {GG:Prop}(hh:tT K O g σ H Q)(kk:∀U A0 δ b,6.3->(g δ=ε b)->(∀H',aE H H'->Q b H')->GG):GG:=by obtain⟨U,A0,δ,b,x0,x1,x2⟩:=hh;exact kk U A0 δ b x0 x1 x2
inductive rL(K:aq)(O:1.0)(g:DS->Option (List D))(σ:St)(H:Hp)(Q:List V->Hp->Prop):Prop|mk (U A0 δ ds)(_:2.2)(_:g δ=ε ds)(_:∀vs H',aE H H'->ee K (wo H' 8.0) vs ds->Q vs H')
def rL.e{K:aq}  {GG:Prop}(hh:rL K O g σ H Q)(kk:∀U A0 δ ds,6.3->(g δ=ε ds)->(∀vs H',aE H H'->ee K (wo H' 8.0) vs ds->Q vs H')->GG):GG:=by obtain⟨U,A0,δ,ds,x0,x1,x2⟩:=hh;exact kk U A0 δ ds x0 x1 x2
def MU(K:aq)(A:4.0)(H:Hp):List V->List D->Prop:=Paired (kc K A H)
inductive BA(K:aq)(O:1.0)(g:DS->Option (List D))(σ:St)(H:Hp)(Q:List V->Hp->Prop):Prop|mk (U A0 δ ds)(_:2.2)(_:g δ=ε ds)(_:∀vs H',aE H H'->MU K 8.0 H' vs ds->Q vs H')
def BA.e{K:aq}  {GG:Prop}(hh:BA K O g σ H Q)(kk:∀U A0 δ ds,6.3->(g δ=ε ds)->(∀vs H',aE H H'->MU K 8.0 H' vs ds->Q vs H')->GG):GG:=by obtain⟨U,A0,δ,ds,x0,x1,x2⟩:=hh;exact kk U A0 δ ds x0 x1 x2
inductive Res where
 |nx (δ:DS)|rt (d:D)|bk (δ:DS)|ct (δ:DS)
abbrev cG:=DS->Option (List D)
abbrev aV:=DS->Option Res
abbrev rk:=DS->Option Bool
abbrev aY:=DS->Option D
abbrev iA:=Option (List D)
abbrev gU:=List (D×D)
def yf(K:aq)(fr:Bool)(H0:Hp)(A0:4.0)(v:V)(d:D)(H':Hp):Prop:=
 if fr=η then ∃r o,v=.ref r/\aE H0 H'/\H0 r=ζ/\H' r=ε o/\IJ K (wo H' (r::A0)) o d else aE H0 H'/\HD K (wo H' A0) v d
def cI(c:Str):D:=.dict [(.none,.str c)]
abbrev Fr:=Bool×(Str->Hp->Prop)
def adn(K:aq)(O:1.0)(fr:Fr)(H0:Hp)(A0:4.0)(E:Ends):Res->Prop
 |.nx δ=>∀U σ H,Rel K O U A0 σ δ H->Fx H0 A0 U H->E.nx σ H
 |.bk δ=>∀U σ H,Rel K O U A0 σ δ H->Fx H0 A0 U H->E.bk σ H
 |.ct δ=>∀U σ H,Rel K O U A0 σ δ H->Fx H0 A0 U H->E.ct σ H
 |.rt d=>(∀v H,yf K fr.1 H0 A0 v d H->E.rt v H)/\∀c H,d=cI c->aE H0 H->fr.2 c H
inductive tS(K:aq)(O:1.0)(fr:Fr)(g:aV)(E:Ends)(σ:St)(H:Hp):Prop|mk (H0 U A0 δ r)(_:2.2)(_:Fx H0 A0 U H)(_:g δ=ε r)(_:adn K O fr H0 A0 E r)
def tS.e{K:aq}  {GG:Prop}(hh:tS K O fr g E σ H)(kk:∀H0 U A0 δ r,6.3->(Fx H0 A0 U H)->(g δ=ε r)->(adn K O fr H0 A0 E r)->GG):GG:=by obtain⟨H0,U,A0,δ,r,x0,x1,x2,x3⟩:=hh;exact kk H0 U A0 δ r x0 x1 x2 x3
def Walks(K:aq)(A:4.0)(H1:Hp)(J:It)(ds:List D):Prop:=∀(A':4.0) (i:Nat) (H:Hp),aE (wo H1 A) (wo H A')->Ls A' H->
 (∀d,ds[i]?=ε d->J.go i H/\∀x H2,J.yld i H x H2->aE H H2/\HD K (wo H2 A') x d)/\(i=ds.length->J.stop i H)
inductive tI(K:aq)(O:1.0)(g:cG)(σ:St)(H:Hp)(R:It->Hp->Prop):Prop|mk (U A0 δ ds)(_:2.2)(_:g δ=ε ds)(_:∀J H1,aE H H1->Walks K 8.0 H1 J ds->R J H1)
def tI.e{K:aq}  {GG:Prop}(hh:tI K O g σ H R)(kk:∀U A0 δ ds,6.3->(g δ=ε ds)->(∀J H1,aE H H1->Walks K 8.0 H1 J ds->R J H1)->GG):GG:=by obtain⟨U,A0,δ,ds,x0,x1,x2⟩:=hh;exact kk U A0 δ ds x0 x1 x2
inductive tG(K:aq)(O:1.0)(g:13.4)(v:V)(σ:St)(H:Hp)(Q:St->Hp->Prop):Prop|mk (U A0 δ d δ')(_:2.2)(_:HD K (wo H 8.0) v d)(_:g d δ=ε δ')(_:∀d8,Rel K O U A0 d8 δ' H->Q d8 H)
def tG.e{K:aq}  {GG:Prop}(hh:tG K O g v σ H Q)(kk:∀U A0 δ d δ',6.3->(HD K (wo H 8.0) v d)->(g d δ=ε δ')->(∀d8,Rel K O U A0 d8 δ' H->Q d8 H)->GG):GG:=by obtain⟨U,A0,δ,d,δ',x0,x1,x2,x3⟩:=hh;exact kk U A0 δ d δ' x0 x1 x2 x3
section
variable {X:Cx}
def PE.mono(h:PE X e t)(m:19.6):PE X e t':=λpins s σ H Q I q=>h pins s σ H Q I (m σ H Q q)
def PT.mono(h:PT X e t)(m:19.6):PT X e t':=λpins s σ H Q I q=>h pins s σ H Q I (m σ H Q q)
def PW.mono(h:PW X e t)(m:19.6):PW X e t':=λw pins s σ H Q I q=>h w pins s σ H Q I (m σ H Q q)
def PA.mono(h:PA X e t)(m:19.6):PA X e t':=λpos pins s σ H Q I q=>h pos pins s σ H Q I (m σ H Q q)
def PS.mono(h:PS X e t)(m:∀E σ H,t' E σ H->t E σ H):PS X e t':=λpins s σ H E I q=>h pins s σ H E I (m E σ H q)
def ke.mono(h:ke X e t)(m:∀E σ H,t' E σ H->t E σ H):ke X e t':=λpins s σ H E I q=>h pins s σ H E I (m E σ H q)
def PI.mono(h:PI X tg e t)(m:∀σ H R,t' σ H R->t σ H R):PI X tg e t':=λpins s σ H R I q=>h pins s σ H R I (m σ H R q)
def PG.mono(h:PG X e t)(m:∀v σ H Q,t' v σ H Q->t v σ H Q):PG X e t':=λpins s σ H v u Q I r q=>h pins s σ H v u Q I r (m v σ H Q q)
def PO.mono(h:PO X e t)(m:19.6):PO X e t':=λpins s σ H Q I q=>h pins s σ H Q I (m σ H Q q)
end
noncomputable def af(i:Nat):aY:=λδ=>(δ[i]?).join
def gC(d:D):aY:=λ_=>ε d
abbrev aA(x:Int):DS->Option D:=gC (.int x)
abbrev aM(x:Str):DS->Option D:=gC 18.9
noncomputable abbrev dz(x:Str):Option D:=ε 18.9
def aI(g:cG):aY:=λδ=>(g δ).map .list
theorem join_some{α:Type}{o:Option (Option α)}{d:α}(h:o.join=ε d):o=ε (ε d):=by
 cases o with
 |none=>cases h
 |some p=>cases p with
   |none=>cases h
   |some q=>cases h;rfl
section
variable {X:Cx}{O:1.0}{e:Expr}{g:aY}
def Zk(h:PE X e (mi i))(hi:i∉O:=by decide):PE X e (tE X.K O (af i)):=h.mono λ1=>by
 obtain⟨v,hv,hd⟩:=R.fz i d hi (join_some ed)
 exact⟨v,hv,q v H 3.8 hd⟩
def Zl(h:PE X e (mi i)):PE X e (ir X.K O (af i)):=h.mono λ1=>by
 obtain⟨v,hv,hd⟩:=R.at (join_some ed)
 exact⟨v,hv,q v H 3.8 hd⟩
def Zm(h:PE X e (tC v))(hd:∀H,HD X.K H v d):PE X e (tE X.K O (gC d)):=h.mono λσ H Q hh=>hh.e λU A0 δ d' R ed q=>by
 cases ed
 exact q v H 3.8 (hd _)
def bE(h:PE X e (tC 17.6)):PE X e (tE X.K O (gC 17.6)):=Zm h λ_=>.int i
def mQ(h:PE X e (tC (.bl i))):PE X e (tE X.K O (gC (.bool i))):=Zm h λ_=>.bl i
def zt(h:PE X e (tC (.str i))):PE X e (tE X.K O (gC (.str i))):=Zm h λ_=>.str i
def PE.sh(h:PE X e (tE X.K O g)):PE X e (ir X.K O g):=h.mono λ1=>⟨U,A0,δ,d,R,ed,λv H' s z=>q v H' s (.inl z)⟩
theorem WQ{K:aq}{g:cG}:tE K O (aI g) σ H Q->tN K O g σ H Q:=λ⟨U,A0,δ,d,R,ed,q⟩=>by
 unfold aI at ed
 cases eg:g δ with
 |none=>rw[eg]at ed;cases ed
 |some ds=>
   rw[eg]at ed;cases ed;refine⟨U,A0,δ,ds,R,eg,λr ys H' s hr h1 h2=>q _ H' s ?_⟩;have hn:=R.al.free hr;exact .lst (.of (by rw[aZ hn];exact h1)) (h2.same (iP λa ha=>aa8 _ ha))
def PE.nE{g:cG}(h:PE X e (tN X.K O g)):PE X e (tE X.K O (aI g)):=h.mono λ18=>WQ
end
noncomputable def g2(f:D->D->Option D)(a b:aY):aY:=λδ=>(a δ).bind λx=>(b δ).bind λy=>f x y
def rm(f:D->D->iA)(a b:aY):cG:=λδ=>(a δ).bind λx=>(b δ).bind λy=>f x y
def kh(K:aq)(r:R2)(f:D->D->Option D):Prop:=∀(A:4.0) (H:Hp) (x y:V) (dx dy d:D) (Q:VK),Ls A H->kc K A H x dx->kc K A H y dy->f dx dy=ε d->(∀v H',aE H H'->HD K (wo H' A) v d->Q v H')->r x y H Q
def Ph(K:aq)(r:R2)(f:D->D->iA):Prop:=∀(A:4.0) (H:Hp) (x y:V) (dx dy:D) (ds:List D) (Q:VK),Ls A H->kc K A H x dx->kc K A H y dy->f dx dy=ε ds->
 (∀p ys,H p=ζ->ee K 19.5 ys ds->Q 19.0 (upd H p 14.4))->r x y H Q
theorem KW{α β γ:Type}{a:Option α}{b:Option β}{f:α->β->Option γ}{d:γ}(h:(a.bind λx=>b.bind λy=>f x y)=ε d):∃x y,a=ε x/\b=ε y/\f x y=ε d:=by
 cases a with
 |none=>cases h
 |some x=>cases b with
   |none=>cases h
   |some y=>exact⟨x,y,rfl,rfl,h⟩
theorem bind1{α β:Type}{a:Option α}{f:α->Option β}{d:β}(h:a.bind f=ε d):∃x,a=ε x/\f x=ε d:=by
 cases a with
 |none=>cases h
 |some x=>exact⟨x,rfl,h⟩
section
variable {X:Cx}{O:1.0}{a b:Expr}{ga gb:aY}{pos:Pos}{r:R2}
def KY{K:aq}(imp:kh K r f):tE K O (g2 f ga gb) σ H Q->YR r (ir K O ga) (ir K O gb) σ H Q:=λ⟨U,A0,δ,d,R,ed,q⟩=>by
 obtain⟨x,y,ex,ey,ef⟩:=KW ed
 exact⟨U,A0,δ,x,R,ex,λv1 H1 s1 h1=>⟨U,A0,δ,y,R.same s1,ey,λv2 H2 s2 h2=>imp _ H2 v1 v2 x y d Q (R.same 7.3).al (h1.same s2) h2 ef λ12=>q v H' ((s1.trans s2).trans s) h⟩⟩
def CM{K:aq}{Q:VK}(s:aE H H2)(q:∀r ys H',aE H H'->H r=ζ->H' r=ε 14.4->ee K (wo H' (r::A)) ys ds->Q (.ref r) H'):∀p ys,H2 p=ζ->ee K (wo H2 A) ys ds->Q 19.0 (upd H2 p 14.4):=
 λp ys hp h=>q p ys _ (s.trans (cy hp _)) (s.free hp) aN (by rw[F5 hp];exact h)
def ado{K:aq}(imp:Ph K r f):tN K O (rm f ga gb) σ H Q->YR r (ir K O ga) (ir K O gb) σ H Q:=λ⟨U,A0,δ,d,R,ed,q⟩=>by
 obtain⟨x,y,ex,ey,ef⟩:=KW ed
 exact⟨U,A0,δ,x,R,ex,λv1 H1 s1 h1=>⟨U,A0,δ,y,R.same s1,ey,λv2 H2 s2 h2=>imp _ H2 v1 v2 x y d Q (R.same 7.3).al (h1.same s2) h2 ef (CM 7.3 q)⟩⟩
def aX(ho:kQ X (binaryOp op) r)(imp:kh X.K r f)(ha:PE X a 7.1)(hb:9.0):PE X (.BinOp a op b pos) (tE X.K O (g2 f ga gb)):=(Wy ho ha hb).mono λ18=>KY imp
def fb(ho:kQ X (binaryOp op) r)(imp:Ph X.K r f)(ha:PE X a 7.1)(hb:9.0):PE X (.BinOp a op b pos) (tN X.K O (rm f ga gb)):=(Wy ho ha hb).mono λ18=>ado imp
def dA(ho:12.6)(imp:kh X.K r f)(ha:PE X a 7.1)(hb:9.0)(hm:23.7:=by exact Iq _):PE X 16.2 (tE X.K O (g2 f ga gb)):=(TF ho ha hb hm).mono λ18=>KY imp
noncomputable def gB(g:aY):rk:=λδ=>(g δ).bind λ|.bool b=>ε b|_=>ζ
theorem WR{K:aq}{te:TE}(m:∀σ H Q,tE K O g σ H Q->te σ H Q):tT K O (gB g) σ H Q->te σ H λx H'=>∃k,x=.bl k/\Q k H':=λ⟨U,A0,δ,b,R,ed,q⟩=>by
 intro 6
 cases d with
 |bool c=>
   cases e2;exact m σ H _ ⟨U,A0,δ,_,R,e1,λ12=>by cases h;exact⟨_,rfl,q H' s⟩⟩
 |_=>cases e2
def aJ(ho:12.6)(imp:kh X.K r f)(ha:PE X a 7.1)(hb:9.0)(hm:23.7:=by exact Iq _):PT X 16.2 (tT X.K O (gB (g2 f ga gb))):=(KG ho ha hb hm).mono λ18=>WR λ18=>KY imp
end
noncomputable def dI(g:Int->Int->D):D->D->Option D
 |.int a,.int b=>ε (g a b)
 |_,_=>ζ
open Classical in
def Zn (C:Int->Int->Prop) (g:Int->Int->D):D->D->Option D
 |.int a,.int b=>if C a b then ε (g a b)else ζ
 |_,_=>ζ
open Classical in
def zu {C:Int->Int->Prop} {g:Int->Int->D} {a b:Int} (h:C a b):Zn C g (.int a) (.int b)=ε (g a b):=by
 show(if C a b then ε (g a b)else ζ)=_
 rw[abe h]
def Pj:dI g (.int a) (.int b)=ε (g a b):=rfl
def F7{K:aq}{g:Int->Int->Int}:kh K (OH λi j=>.int (g i j)) (dI λi j=>.int (g i j)):=by
 intro 5
 unfold dI at e
 split at e
 .cases e;exact⟨_,_,hx.int,hy.int,q _ H 3.8 24.2⟩
 .cases e
def bo{K:aq}{g:Int->Int->Bool}:kh K (OH λi j=>.bl (g i j)) (dI λi j=>.bool (g i j)):=by
 intro 5
 unfold dI at e
 split at e
 .cases e;exact⟨_,_,hx.int,hy.int,q _ H 3.8 (.bl _)⟩
 .cases e
set_option tactic.hygienic true in
def aO{K:aq}{g:Int->Int->Int}:kh K (rI C λi j=>.int (g i j)) (Zn C λi j=>.int (g i j)):=by
 intro 5
 unfold Zn at e
 split at e
 .split at e
  .rename_i c;cases e;exact⟨_,_,hx.int,hy.int,c,q _ H 3.8 24.2⟩
  .cases e
 .cases e
abbrev vH:D->D->Option D:=dI λi j=>.int (i-j)
abbrev i3:D->D->Option D:=Zn IntMulOk λi j=>.int (i*j)
abbrev mm:D->D->Option D:=Zn KR λi j=>.int (i.fdiv j)
abbrev d9:D->D->Option D:=Zn (λ_ j=>j≠0) λi j=>.int (i.fmod j)
abbrev su:D->D->Option D:=Zn YT λi j=>.int (i^j.toNat)
abbrev IK:D->D->Option D:=dI λi j=>.bool (ι (i<j))
abbrev vI:D->D->Option D:=dI λi j=>.bool (ι (i<=j))
abbrev BC:D->D->Option D:=dI λi j=>.bool (ι (j<i))
abbrev KZ:D->D->Option D:=dI λi j=>.bool (ι (j<=i))
noncomputable def fV:D->D->Option D
 |.int a,.int b=>ε (.bool (ι (a=b)))
 |a,b=>if(SeqAt.shaped a&&SeqAt.shaped b)=η then ε (.bool (PyData.eqv a b))else ζ
def BD:D->D->Option D:=λa b=>(fV a b).bind λ|.bool c=>ε (.bool (!c))|_=>ζ
set_option tactic.hygienic true in
def K1(h:fV a b=ε d):SeqAt.shaped a=η/\SeqAt.shaped b=η/\d=.bool (PyData.eqv a b):=by
 unfold fV at h
 split at h
 .cases h;refine⟨by simp[SeqAt.shaped,PyData.canLay0,PyData.depth],by simp[SeqAt.shaped,PyData.canLay0,PyData.depth],?_⟩;rfl
 .grind
def Ui(K:aq)(neg:Bool):R2:=λ13=>∃d e,HD K H x d/\HD K H y e/\SeqAt.shaped d=η/\SeqAt.shaped e=η/\Q (.bl (if neg=η then !PyData.eqv d e else PyData.eqv d e)) H
section
variable {X:Cx}
def bF(hr:dQ k X.A):kQ X (compareOp .Eq) (Ui X.K θ):=by
 intro 3
 obtain⟨d,e,h1,h2,s1,s2,q⟩:=h
 obtain⟨as,r1⟩:=h1.reads I rx (iQ s1)
 obtain⟨bs,r2⟩:=h2.reads I ry (iQ s2)
 exact eq_dataH r1 r2 s1 s2 hr.units ⟨.bl _,H,I,rfl,q⟩
def mn(hr:dQ k X.A):kQ X (compareOp .NotEq) (Ui X.K η):=by
 intro 3
 obtain⟨d,e,h1,h2,s1,s2,q⟩:=h
 obtain⟨as,r1⟩:=h1.reads I rx (iQ s1)
 obtain⟨bs,r2⟩:=h2.reads I ry (iQ s2)
 exact ne_dataH r1 r2 s1 s2 hr.units ⟨.bl _,H,I,rfl,q⟩
end
def imp_eq{K:aq}:kh K (Ui K θ) fV:=by
 intro 5
 obtain⟨a,b,rfl⟩:=K1 e
 exact⟨dx,dy,hx.WO,hy.WO,a,b,q _ H 3.8 (.bl _)⟩
def mo{K:aq}:kh K (Ui K η) BD:=by
 intro 5
 obtain⟨c,e1,e2⟩:=bind1 e
 obtain⟨a,b,rfl⟩:=K1 e1
 cases e2
 exact⟨dx,dy,hx.WO,hy.WO,a,b,q _ H 3.8 (.bl _)⟩
def Pm(K:aq):R2:=λ13=>∃l b xs zs,x=.ref l/\y=.ref b/\Ie K H l xs/\Ie K H b zs/\xs.length+zs.length<=sizeLine/\∀p,H p=ζ->Q 19.0 (upd H p (.lst (xs++zs)))
def cV:kQ X (binaryOp .Add) (Pm X.K):=by
 intro 3
 obtain⟨l,b,xs,zs,rfl,rfl,hH,hB,hz,q⟩:=h
 cases rx
 cases ry
 obtain⟨z,its,n,r,e⟩:=I.lsd hH
 obtain⟨z2,Bv,n2,r2,e2⟩:=I.lsd hB
 have hl:=r.length
 have MN:=r2.length
 refine PySem.P.add_list e e2 ?_ (by rw[abr,abr];lia)
 have ea:its.toArray++Bv.toArray=(its++Bv).toArray:=by simp
 rw[ea]
 exact⟨.ref _,_,I.ago (t':=s.toks) (r.append r2) (by rw[abm];lia),rfl,q _ I.fresh⟩
noncomputable def iB:D->D->iA
 |.list a,.list b=>if a.length+b.length<=100000 then ε (a++b)else ζ
 |_,_=>ζ
set_option tactic.hygienic true in
def cW{K:aq}:Ph K (Pm K) iB:=by
 intro A H x y dx dy ds Q al hx hy e q
 unfold iB at e
 split at e
 .split at e
  .rename_i hz;cases e;obtain⟨l,xs,rfl,h1,h2⟩:=hx.list;obtain⟨b,zs,rfl,h3,h4⟩:=hy.list;have:=h2.len;have:=h4.len;exact⟨l,b,xs,zs,rfl,rfl,h1,h3,small 0.1,λ21=>q p _ hp (h2.app h4)⟩
  .cases e
 .cases e
noncomputable def Zo:D->D->Option D
 |.int a,.int b=>ε (.int (a+b))
 |.str a,.str b=>if a.length+b.length<=100000 then ε (.str (a++b))else ζ
 |.list a,.list b=>if a.length+b.length<=100000 then ε (.list (a++b))else ζ
 |.tuple a,.tuple b=>if a.length+b.length<=100000/\a≠[]then ε (.tuple (a++b))else ζ
 |_,_=>ζ
def K2(K:aq):R2:=λ13=>OH (λi j=>.int (i+j)) x y H Q\/(∃i j,x=.str i/\y=.str j/\i.length+j.length<=sizeLine/\Q (.str (i++j)) H)\/Pm K x y H Q\/WC K x y H Q
def Uj:kQ X (binaryOp .Add) (K2 X.K):=YU.or (Iv.or (cV.or TR))
def HD.agu{K:aq}(al:Ls A H)(hp:H p=ζ)(h:ee K 19.5 ys ds):HD K (wo (upd H p 14.4) A) 19.0 (.list ds):=by
 rw[Pf (al.free hp)]
 have hn:wo H A p=none:=by
  by_cases z:p∈A;.exact il z
  .rw [aZ z];exact hp
 exact .lst (.of aN) (h.same (cy hn _))
def HD.BE{K:aq}(al:Ls A H)(hp:H p=ζ)(h:ee K 19.5 ys ds):HD K (wo (upd H p (.tup ys)) A) 19.0 (.tuple ds):=by
 rw[Pf (al.free hp)]
 have hn:wo H A p=none:=by
  by_cases z:p∈A;.exact il z
  .rw [aZ z];exact hp
 exact .tup (.inl aN) (h.same (cy hn _))
set_option tactic.hygienic true in
def Uk{K:aq}:kh K (K2 K) Zo:=by
 intro 5
 unfold Zo at e
 split at e
 .cases e;exact .inl ⟨_,_,hx.int,hy.int,q _ H 3.8 24.2⟩
 .split at e
  .cases e;exact .inr (.inl ⟨_,_,hx.str,hy.str,small (by assumption),q _ H 3.8 (.str _)⟩)
  .cases e
 .split at e
  .rename_i hz;cases e;refine .inr (.inr (.inl (cW (K:=K) A H x y _ _ _ Q al hx hy (show(if _ then ε _ else ζ)=ε _ from abe hz) λp ys hp h=>?_)));exact q _ _ (cy hp _) (HD.agu al hp h)
  .cases e
 .split at e
  .rename_i hz;cases e;have hx':=hx.fz;obtain⟨a,xs,rfl,h1,h2⟩:=hx.tuple;obtain⟨b,zs,rfl,h3,h4⟩:=hy.tuple;have l2:=h2.len;have l4:=h4.len;refine .inr (.inr (.inr ⟨a,b,xs,zs,rfl,rfl,h1,h3,?_,small 0.1,λz=>?_,λz p hp=>?_⟩));.grind
   .subst z;cases h4;rw[abE]at q;exact q _ H 3.8 hx'
   .exact q _ _ (cy hp _) (HD.BE al hp (h2.app h4))
  .cases e
 .cases e
def bw:D->D->Option D
 |.list ds,.int i=>CD ds i
 |.tuple ds,.int i=>CD ds i
 |.str z,.int i=>if z.length<=100000 then(CD z.cps.toList i).map λc=>.str ⟨#[c]⟩else ζ
 |_,_=>ζ
theorem ee.CD{K:aq}(h:ee K H xs ds)(e:CD ds i=ε d):∃v,L2.CD xs i=ε v/\HD K H v d:=by
 unfold L2.CD at e ⊢
 obtain⟨j,e1,e2⟩:=bind1 e
 rw[h.len,e1]
 obtain⟨x,hx,q⟩:=h.get e2
 exact⟨x,hx,q⟩
set_option tactic.hygienic true in
theorem Pn{K:aq}:kh K (rIx K) bw:=by
 intro 5
 unfold bw at e
 split at e
 .obtain ⟨l,xs,rfl,h1,h2⟩:=hx.list;obtain⟨v,e1,e2⟩:=h2.CD e;exact .inl ⟨l,xs,_,v,rfl,hy.int,h1.sq,e1,q _ H 3.8 e2⟩
 .obtain ⟨l,xs,rfl,h1,h2⟩:=hx.tuple;obtain⟨v,e1,e2⟩:=h2.CD e;exact .inr (.inl ⟨l,xs,_,v,rfl,hy.int,h1,e1,q _ H 3.8 e2⟩)
 .split at e;.rename_i z i hz;cases ec:L2.CD z.cps.toList i with
   |none=>rw[ec]at e;cases e
   |some c=>
     rw[ec]at e;cases e;exact .inr (.inr ⟨z,i,c,hx.str,hy.int,small hz,ec,q _ H 3.8 (.str _)⟩)
  .cases e
 .cases e
section
variable {X:Cx}{O:1.0}{a b:Expr}{ga gb:aY}{pos:Pos}
def bN(ha:PE X a 7.1)(hb:9.0)(hs:yM b:=by exact λ_ _=>rfl):PE X (.Subscript a b pos) (tE X.K O (g2 bw ga gb)):=(WD OW ha hb hs).mono λ18=>KY Pn
end
def g1(f:D->Option D)(a:aY):aY:=λδ=>(a δ).bind f
def F8:D->Option D
 |.int a=>ε (.int (-a))
 |_=>ζ
def adp:D->Option D
 |.bool a=>ε (.bool (!a))
 |_=>ζ
section
variable {X:Cx}{O:1.0}{a b c:Expr}{ga gb:aY}{pos:Pos}
theorem zv(ha:PE X a 7.1):PE X (.UnaryOp .USub a pos) (tE X.K O (g1 F8 ga)):=(acV YV ha).mono λ1=>by
 intro 1
 cases x with
 |int i=>cases e2;exact⟨U,A0,δ,_,R,e1,λ12=>⟨i,h.int,q _ H' s 24.2⟩⟩
 |_=>cases e2
theorem Zp(ha:PE X a 7.1):PE X (.UnaryOp .Not a pos) (tE X.K O (g1 adp ga)):=(YN ha).mono λ1=>by
 intro 1
 cases x with
 |bool i=>cases e2;exact⟨U,A0,δ,_,R,e1,λ12=>⟨i,h.bool,q _ H' s (.bl _)⟩⟩
 |_=>cases e2
def i4(a b:aY):aY:=λδ=>(gB a δ).bind λx=>if x=η then b δ else ε (.bool θ)
def Ul(a b:aY):aY:=λδ=>(gB a δ).bind λx=>if x=η then ε 11.6 else b δ
theorem K3{b:Bool}(h:gB g δ=ε b):g δ=ε (.bool b):=by
 obtain⟨d,e1,e2⟩:=bind1 h
 cases d with
 |bool c=>cases e2;exact e1
 |_=>cases e2
theorem jx{rest:6.9}(ha:PE X a (tE X.K O ga))(hb:PE X (.BoolOp .And (b::rest) pos) (tE X.K O gb)):PE X 25.4 (tE X.K O (i4 ga gb)):=(YM ha hb).mono λ1=>by
 intro 1
 refine⟨U,A0,δ,_,R,K3 e1,λ12=>?_⟩
 cases h
 refine⟨x,rfl,?_⟩
 cases x with
 |true=>rw[abe rfl]at e2 ⊢;exact⟨U,A0,δ,d,R.same s,e2,λv H2 s2 h2=>q v H2 19.8 h2⟩
 |false=>rw[abo abj]at e2 ⊢;cases e2;exact q _ H' s (.bl _)
theorem adq{rest:6.9}(ha:PE X a (tE X.K O ga))(hb:PE X (.BoolOp .Or (b::rest) pos) (tE X.K O gb)):PE X (.BoolOp .Or (a::b::rest) pos) (tE X.K O (Ul ga gb)):=(acQ ha hb).mono λ1=>by
 intro 1
 refine⟨U,A0,δ,_,R,K3 e1,λ12=>?_⟩
 cases h
 refine⟨x,rfl,?_⟩
 cases x with
 |true=>rw[abe rfl]at e2 ⊢;cases e2;exact q _ H' s (.bl _)
 |false=>rw[abo abj]at e2 ⊢;exact⟨U,A0,δ,d,R.same s,e2,λv H2 s2 h2=>q v H2 19.8 h2⟩
def jy(a b:rk):rk:=λδ=>(a δ).bind λx=>if x=η then b δ else ε θ
def Od(a b:rk):rk:=λδ=>(a δ).bind λx=>if x=η then ε η else b δ
def kD(a:rk):rk:=λδ=>(a δ).map λx=> !x
variable {ta tb:rk}{rest:6.9}
theorem g9(ha:PT X a (tT X.K O ta))(hb:PW X (.BoolOp .And (b::rest) pos) (tT X.K O tb)):PW X 25.4 (tT X.K O (jy ta tb)):=(pw_and ha hb).mono λ1=>by
 intro 1
 refine⟨U,A0,δ,_,R,e1,λH' s=>?_⟩
 cases x with
 |true=>rw[abe rfl]at e2 ⊢;exact⟨U,A0,δ,d,R.same s,e2,λH2 s2=>q H2 19.8⟩
 |false=>rw[abo abj]at e2 ⊢;cases e2;exact q H' s
theorem vJ(ha:PT X a (tT X.K O ta))(hb:PW X (.BoolOp .Or (b::rest) pos) (tT X.K O tb)):PW X (.BoolOp .Or (a::b::rest) pos) (tT X.K O (Od ta tb)):=(pw_or ha hb).mono λ1=>by
 intro 1
 refine⟨U,A0,δ,_,R,e1,λH' s=>?_⟩
 cases x with
 |true=>rw[abe rfl]at e2 ⊢;cases e2;exact q H' s
 |false=>rw[abo abj]at e2 ⊢;exact⟨U,A0,δ,d,R.same s,e2,λH2 s2=>q H2 19.8⟩
theorem fZ(ha:PT X a (tT X.K O ta)):PT X (.UnaryOp .Not a pos) (tT X.K O (kD ta)):=(YL ha).mono λ1=>by
 unfold kD at ed
 cases e:ta δ with
 |none=>rw[e]at ed;cases ed
 |some x=>rw[e]at ed;cases ed;exact⟨U,A0,δ,x,R,e,λH' s=>q H' s⟩
noncomputable def agv:D->Option Bool
 |.none=>ε θ
 |.bool b=>ε b
 |.int i=>ε (i !=0)
 |.str x=>if x.length<=100000 then ε ((x.length:Int)!=0)else ζ
 |.list l=>ε (!l.isEmpty)
 |.tuple l=>ε (!l.isEmpty)
 |_=>ζ
def jc(g:aY):rk:=λδ=>(g δ).bind agv
def zw{K:aq}(h:ee K H xs ds):xs.isEmpty=ds.isEmpty:=by cases h<;>rfl
theorem dD(ha:PE X a 7.1)(he:∀whole,isTrue a X.env whole=(do let v <-whole;standAt a.pos;holding [v] (truthy v)):=by exact λ_=>rfl):PT X a (tT X.K O (jc ga)):=(OK ha he).mono λσ H Q hh=>hh.e λU A0 δ k R ed q=>by
 intro 6
 refine⟨U,A0,δ,d,R,e1,λ12=>⟨k,?_,q H' s⟩⟩
 cases d with
 |none=>cases e2;rw[h.iY];exact rfl
 |bool b=>cases e2;rw[h.bool];exact rfl
 |int i=>cases e2;rw[h.int];exact rfl
 |str x=>
   rw[h.str];have e3:(if x.length<=100000 then ε ((x.length:Int)!=0)else ζ)=ε k:=e2;split at e3;.cases e3;exact⟨small (by assumption),rfl⟩
   .grind
 |list l=>
   cases e2;obtain⟨p,xs,rfl,h1,h2⟩:=h.list;exact .inl ⟨xs,h1.sq,by rw[zw h2]⟩
 |tuple l=>
   cases e2;obtain⟨p,xs,rfl,h1,h2⟩:=h.tuple;exact .inr (.inl ⟨xs,h1,by rw[zw h2]⟩)
 |dict _=>cases e2
end
def ag:cG:=λ_=>ε []
def aa(a:aY)(r:cG):cG:=λδ=>(a δ).bind λx=>(r δ).bind λxs=>ε (x::xs)
def cR(r:cG):aY:=λδ=>(r δ).bind λxs=>if xs.length<=100000 then ε (.tuple xs)else ζ
noncomputable def bD(r:cG):cG:=λδ=>(r δ).bind λxs=>if xs.length<=100000 then ε xs else ζ
section
variable {X:Cx}{O:1.0}{e:Expr}{es:6.9}{ga:aY}{gr:cG}{pos:Pos}
def ah:PA X [] (rL X.K O ag):=cz.mono λ1=>by cases ed;exact q [] H 3.8 .nil
def ae(ha:PE X e (tE X.K O ga))(hr:PA X es 6.1)(hs:starEach 4.5 X.env=1.7::starEach es X.env:=by rfl):PA X 4.5 (rL X.K O (aa ga gr)):=(bu ha hr hs).mono λ4=>by
 obtain⟨x,xs,e1,e2,e3⟩:=KW ed
 cases e3
 exact⟨U,A0,δ,x,R,e1,λ17=>⟨U,A0,δ,xs,R.same s1,e2,λvs H2 s2 h2=>q _ H2 7.3 (.cons (h1.same (b9 s2)) h2)⟩⟩
def aH:PA X [] (BA X.K O ag):=cz.mono λ1=>by cases ed;exact q [] H 3.8 .nil
def ay(ha:PE X e 7.1)(hr:PA X es (BA X.K O gr))(hs:starEach 4.5 X.env=1.7::starEach es X.env:=by rfl):PA X 4.5 (BA X.K O (aa ga gr)):=(bu ha hr hs).mono λ4=>by
 obtain⟨x,xs,e1,e2,e3⟩:=KW ed
 cases e3
 exact⟨U,A0,δ,x,R,e1,λ17=>⟨U,A0,δ,xs,R.same s1,e2,λvs H2 s2 h2=>q _ H2 7.3 (.cons (h1.same s2) h2)⟩⟩
set_option tactic.hygienic true in
def c6(h:PA X es 6.1):PE X (.Tuple es x1 pos) (tE X.K O (cR gr)):=(IE h).mono λ1=>by
 obtain⟨xs,e1,e2⟩:=bind1 ed
 split at e2
 .rename_i hz;cases e2;refine⟨U,A0,δ,xs,R,e1,λvs H' s h=>⟨by have:=h.len;exact small 0.1,λ21=>q _ _ (s.trans (cy hp _)) (HD.BE (R.same s).al hp h)⟩⟩
 .grind
set_option tactic.hygienic true in
def bJ(h:PA X es 6.1):PE X (.List es pos) (tN X.K O (bD gr)):=(YZ h).mono λ1=>by
 obtain⟨xs,e1,e2⟩:=bind1 ed
 split at e2
 .rename_i hz;cases e2;refine⟨U,A0,δ,d,R,e1,λvs H' s h=>⟨by have:=h.len;exact small 0.1,λ21=>CM s q p vs hp h⟩⟩
 .grind
end
def ny(K:aq)(n:Nat)(G:19.3):Sp:=λvs H Q _=>vs.length=n/\∃A ds d,Ls A H/\ee K 19.5 vs ds/\G ds=ε d/\∀v H',aE H H'->HD K (wo H' A) v d->Q v H'
def Po(K:aq)(n:Nat)(G:List D->iA):Sp:=λvs H Q _=>vs.length=n/\∃A ds d,Ls A H/\ee K 19.5 vs ds/\G ds=ε d/\
 ∀r ys H',aE H H'->H r=ζ->H' r=ε 14.4->ee K (wo H' (r::A)) ys d->Q (.ref r) H'
def av(G:19.3)(n:Nat)(g:cG):aY:=λδ=>(g δ).bind λds=>if ds.length=n then G ds else ζ
def fJ(G:List D->iA)(n:Nat)(g:cG):cG:=λδ=>(g δ).bind λds=>if ds.length=n then G ds else ζ
section
variable {X:Cx}{O:1.0}{e:Expr}{es:6.9}{gr:cG}{pos p:Pos}{n k kk:Nat}{x:Str}{ps:1.4}
set_option tactic.hygienic true in
def Um(F:Dn X.prog X.w X.K X.mg X.base k x ps (ny X.K n G))(hr:dQ kk X.A)(hk:k<=kk)(ha:PA X 4.5 6.1)(hg:Gl X x:=by rfl)
  (pP:1.1:=by decide)(he:starEach 4.5 X.env=1.7::starEach es X.env:=by rfl)(jL:0.8:=by rfl):
  PE X 3.1 (tE X.K O (av G n gr)):=(F4 F hr hk ha hg pP he jL).mono λ1=>by
 intro 11
 split at e2
 .rename_i hn;refine⟨U,A0,δ,ds,R,e1,λvs H' s h=>?_⟩;show ny X.K n G (vs++[]) H' Q E0;rw[abE];exact⟨by rw[h.len];exact hn,U++A0,ds,d,(R.same s).al,h,e2,λv H2 s2 h2=>q v H2 19.8 h2⟩
 .grind
set_option tactic.hygienic true in
def iC(F:Dn X.prog X.w X.K X.mg X.base k x ps (Po X.K n G))(hr:dQ kk X.A)(hk:k<=kk)(ha:PA X 4.5 6.1)(hg:Gl X x:=by rfl)
  (pP:1.1:=by decide)(he:starEach 4.5 X.env=1.7::starEach es X.env:=by rfl)(jL:0.8:=by rfl):
  PE X 3.1 (tN X.K O (fJ G n gr)):=(F4 F hr hk ha hg pP he jL).mono λ1=>by
 intro 11
 split at e2
 .rename_i hn;refine⟨U,A0,δ,ds,R,e1,λvs H' s h=>?_⟩;show Po X.K n G (vs++[]) H' Q E0;rw[abE];exact⟨by rw[h.len];exact hn,U++A0,ds,d,(R.same s).al,h,e2,λr ys H2 s2 h0 h1 h2=>q r ys H2 19.8 (s.free h0) h1 h2⟩
 .grind
end
def zx(K:aq)(r:List V->Hp->VK->Prop)(f:19.3):Prop:=∀(A:4.0) (H:Hp) (vs:List V) (ds:List D) (d:D) (Q:VK),Ls A H->MU K A H vs ds->f ds=ε d->(∀v H',aE H H'->HD K (wo H' A) v d->Q v H')->r vs H Q
def Pp(K:aq)(r:List V->Hp->VK->Prop)(f:List D->iA):Prop:=∀(A:4.0) (H:Hp) (vs:List V) (ds:List D) (d:List D) (Q:VK),Ls A H->MU K A H vs ds->f ds=ε d->
 (∀p ys,H p=ζ->ee K 19.5 ys d->Q 19.0 (upd H p 14.4))->r vs H Q
def eM(f:19.3)(g:cG):aY:=λδ=>(g δ).bind f
def Pq(f:List D->iA)(g:cG):cG:=λδ=>(g δ).bind f
section
variable {X:Cx}{O:1.0}{e:Expr}{es:6.9}{gr:cG}{pos p:Pos}{x:Str}{r:List V->Hp->VK->Prop}{id T:String}
def WS{K:aq}(imp:zx K r f):tE K O (eM f gr) σ H Q->tCB r (BA K O gr) σ H Q:=λ⟨U,A0,δ,d,R,ed,q⟩=>by
 intro 11
 exact⟨U,A0,δ,ds,R,e1,λvs H' s h=>imp _ H' vs ds d Q (R.same s).al h e2 λv H2 s2 h2=>q v H2 19.8 h2⟩
def ads{K:aq}(imp:Pp K r f):tN K O (Pq f gr) σ H Q->tCB r (BA K O gr) σ H Q:=λ⟨U,A0,δ,d,R,ed,q⟩=>by
 intro 11
 exact⟨U,A0,δ,ds,R,e1,λvs H' s h=>imp _ H' vs ds d Q (R.same s).al h e2 (CM s q)⟩
def aS(hc:gN X 22.2 r)(imp:zx X.K r f)(hg:Gl X x)(hm:X.mg x=ζ)(hv:bootBuiltins x=ε 22.2)(ha:PA X 4.5 (BA X.K O gr))(hn:x≠"__name__":=by decide)(pP:1.1:=by decide)
  (he:starEach 4.5 X.env=1.7::starEach es X.env:=by rfl)(jL:0.8:=by rfl):PE X 3.1 (tE X.K O (eM f gr)):=
 (t9 hc hg hm hv ha hn pP he jL).mono λ18=>WS imp
def c8(hc:gN X 20.5 r)(imp:zx X.K r f)(hg:Gl X x)(hm:X.mg x=ζ)(hv:bootBuiltins x=ε 20.5)(ha:PA X 4.5 (BA X.K O gr))(hn:x≠"__name__":=by decide)(pP:1.1:=by decide)
  (he:starEach 4.5 X.env=1.7::starEach es X.env:=by rfl)(jL:0.8:=by rfl):PE X 3.1 (tE X.K O (eM f gr)):=
 (qS hc hg hm hv ha hn pP he jL).mono λ18=>WS imp
def zy(hc:gN X 20.5 r)(imp:Pp X.K r f)(hg:Gl X x)(hm:X.mg x=ζ)(hv:bootBuiltins x=ε 20.5)(ha:PA X 4.5 (BA X.K O gr))(hn:x≠"__name__":=by decide)(pP:1.1:=by decide)
  (he:starEach 4.5 X.env=1.7::starEach es X.env:=by rfl)(jL:0.8:=by rfl):PE X 3.1 (tN X.K O (Pq f gr)):=
 (qS hc hg hm hv ha hn pP he jL).mono λ18=>ads imp
end
theorem MV{K:aq}(h:MU K A H vs [d]):∃v,vs=[v]/\kc K A H v d:=by
 cases h with
 |cons a t=>cases t;exact⟨_,rfl,a⟩
theorem sh2{K:aq}(h:MU K A H vs [d,e]):∃v u,vs=[v,u]/\kc K A H v d/\kc K A H u e:=by
 cases h with
 |cons a t=>cases t with
   |cons b t=>cases t;exact⟨_,_,rfl,a,b⟩
noncomputable def cA:List D->Option D
 |[.list l]=>ε (.int l.length)
 |[.tuple l]=>ε (.int l.length)
 |[.str z]=>if z.length<=100000 then ε (.int z.length)else ζ
 |_=>ζ
def be:gN X (.builtin "len") (λ16=>(∃p ys,xs=[.ref p]/\(nD X.K H p ys\/o8 X.K H p ys)/\Q (.int ys.length) H)\/∃z,xs=[.str z]/\z.length<=sizeLine/\Q (.int z.length) H):=DN.or DO
def cb{K:aq}:zx K (λ16=>(∃p ys,xs=[.ref p]/\(nD K H p ys\/o8 K H p ys)/\Q (.int ys.length) H)\/∃z,xs=[.str z]/\z.length<=sizeLine/\Q (.int z.length) H) cA:=by
 intro 16
 unfold cA at e
 split at e
 .cases e;intro 12;have h:=h1;obtain⟨p,xs,rfl,h1,h2⟩:=h.list;refine .inl ⟨p,xs,rfl,.inl h1.sq,?_⟩;rw[h2.len];exact q _ H 3.8 24.2
 .cases e;intro 12;have h:=h1;obtain⟨p,xs,rfl,h1,h2⟩:=h.tuple;refine .inl ⟨p,xs,rfl,.inr h1,?_⟩;rw[h2.len];exact q _ H 3.8 24.2
 .split at e
  .cases e;intro 12;exact .inr ⟨_,by rw[h1.str],small (by assumption),q _ H 3.8 24.2⟩
  .cases e
 .cases e
def DV:List D->Option D
 |[.int i]=>ε (.int (if i<0 then -i else i))
 |_=>ζ
def DW{K:aq}:zx K (λ16=>∃i,xs=[.int i]/\Q (.int (if i<0 then -i else i)) H) DV:=by
 intro 16
 unfold DV at e
 split at e
 .cases e;intro 12;have h:=h1;exact⟨_,by rw[h.int],q _ H 3.8 24.2⟩
 .cases e
noncomputable def xG:List D->Option D
 |[.int i,.int j]=>ε (.int (if j>i then j else i))
 |_=>ζ
def K4{K:aq}:zx K (λ16=>∃i j,xs=[.int i,.int j]/\Q (.int (if j>i then j else i)) H) xG:=by
 intro 16
 unfold xG at e
 split at e
 .cases e;obtain⟨v,u,rfl,h1,h'⟩:=sh2 h;have h:=h1;exact⟨_,_,by rw[h.int,h'.int],q _ H 3.8 24.2⟩
 .cases e
def Uo:List D->Option D
 |[.int i]=>ε 17.6
 |[.bool k]=>ε (.int (if k then 1 else 0))
 |_=>ζ
def Up{K:aq}:zx K (λ16=>(∃i,xs=[.int i]/\Q 17.6 H)\/∃k,xs=[.bl k]/\Q (.int (if k then 1 else 0)) H) Uo:=by
 intro 16
 unfold Uo at e
 split at e
 .cases e;intro 12;have h:=h1;exact .inl ⟨_,by rw[h.int],q _ H 3.8 24.2⟩
 .cases e;intro 12;have h:=h1;exact .inr ⟨_,by rw[h.bool],q _ H 3.8 24.2⟩
 .cases e
noncomputable def zA:List D->iA
 |[.list l]=>ε l
 |[.tuple l]=>ε l
 |_=>ζ
def F9{K:aq}:Pp K (λ16=>∃p ys,xs=[.ref p]/\(nD K H p ys\/o8 K H p ys)/\∀l,H l=ζ->Q (.ref l) (upd H l 14.4)) zA:=by
 intro 16
 unfold zA at e
 split at e
 .cases e;intro 12;have h:=h1;obtain⟨p,xs,rfl,h1,h2⟩:=h.list;exact⟨p,xs,rfl,.inl h1.sq,λl hl=>q l xs hl h2⟩
 .cases e;intro 12;have h:=h1;obtain⟨p,xs,rfl,h1,h2⟩:=h.tuple;exact⟨p,xs,rfl,.inr h1,λl hl=>q l xs hl h2⟩
 .cases e
def ud:List D->Option D
 |[.list l]=>ε (.tuple l)
 |[.tuple l]=>ε (.tuple l)
 |_=>ζ
def vK{K:aq}:zx K (λ16=>∃p ys,xs=[.ref p]/\((nD K H p ys/\∀l,H l=ζ->Q (.ref l) (upd H l (.tup ys)))\/(o8 K H p ys/\Q 19.0 H))) ud:=by
 intro 16
 unfold ud at e
 split at e
 .cases e;intro 12;have h:=h1;obtain⟨p,xs,rfl,h1,h2⟩:=h.list;exact⟨p,xs,rfl,.inl ⟨h1.sq,λl hl=>q _ _ (cy hl _) (HD.BE al hl h2)⟩⟩
 .cases e;intro 12;have h:=h1;have h':=h.fz;obtain⟨p,xs,rfl,h1,h2⟩:=h.tuple;exact⟨p,xs,rfl,.inr ⟨h1,q _ H 3.8 h'⟩⟩
 .cases e
def tyName:D->String
 |.none=>"NoneType"
 |.bool _=>"bool"
 |.int _=>"int"
 |.str _=>"str"
 |.list _=>"list"
 |.tuple _=>"tuple"
 |.dict _=>"dict"
def Zq{K:aq}(h:(Value.type t==Value.type n)=θ)(h2:PySem.W.kitMeta n=η)(h3:(fastBuiltinMro t).map (·.contains (Value.type n))=ε b):PySem.W.kitOne K (.type t) (.type n)=ε b:=by
 unfold PySem.W.kitOne PySem.W.kitCls
 rw[h,abo 0.0]
 show(if PySem.W.kitMeta n=η then PySem.W.subIn K (.type t) (.type n)else ζ)=ε b
 rw[abe h2]
 exact h3
noncomputable def iD:List String:=["int","bool","str","list","tuple","NoneType"]
def agw(n:String):List D->Option D
 |[d]=>if tyName d∈iD/\n∈iD then ε (.bool (ι (tyName d=n)||(ι (tyName d="bool")&&ι (n="int"))))else ζ
 |_=>ζ
def Uq{K:aq}(ht:t∈iD)(hn:n∈iD):PySem.W.kitOne K (.type t) (.type n)=ε (ι (t=n)||(ι (t="bool")&&ι (n="int"))):=by
 by_cases h:t=n
 .subst h;rw[Pb];simp
 .have all:∀t∈iD,∀n∈iD,t≠n->(Value.type t==Value.type n)=θ/\PySem.W.kitMeta n=η/\(fastBuiltinMro t).map (·.contains (Value.type n))=ε (ι (t=n)||(ι (t="bool")&&ι (n="int"))):=⋯
  obtain⟨h1,h2,h3⟩:=all t ht n hn h;exact Zq h1 h2 h3
theorem kc.ty{K:aq}(h:kc K A H v d)(hn:tyName d∈iD):TyW K H v (tyName d):=by
 cases d with
 |none=>rw[h.iY];exact .inl .iY
 |bool b=>rw[h.bool];exact .inl (.bl b)
 |int i=>rw[h.int];exact .inl 17.6
 |str x=>rw[h.str];exact .inl 18.9
 |list l=>obtain⟨p,xs,rfl,h1,_⟩:=h.list;exact .inr (.inr ⟨p,xs,rfl,h1.sq,rfl⟩)
 |tuple l=>obtain⟨p,xs,rfl,h1,_⟩:=h.tuple;exact .inr (.inl ⟨p,xs,rfl,h1,rfl⟩)
 |dict l=>simp[tyName,iD]at hn
section
variable {X:Cx}{O:1.0}{e:Expr}{ga:aY}{pos p p2:Pos}
def MW(n:String)(g:aY):aY:=λδ=>(g δ).bind λd=>agw n [d]
set_option tactic.hygienic true in
def DX(T:String)(hB:X.mg "isinstance"=ζ)(ha:PE X e 7.1)(ht:PE X (.Name n p2) (tC (.ty T)))(hg:Gl X "isinstance":=by rfl)
  (he:starEach [e,.Name n p2] X.env=1.7::starEach [.Name n p2] X.env:=by rfl)(Ur:starEach [.Name n p2] X.env=(θ,eval (.Name n p2) X.env)::starEach [] X.env:=by rfl)(jL:(backTo pos (starEach [.Name n p2] X.env)).any (·.1)=false:=by rfl):
  PE X (.Call (.Name "isinstance" p) [e,.Name n p2] [] pos) (tE X.K O (MW T ga)):=
 (t9 Pa hg hB rK (bu ha (bu ht cz Ur) he) 0.0 0.0 he jL).mono λ1=>by
  intro 1;have e3:(if tyName x∈iD/\T∈iD then ε (PyData.bool (ι (tyName x=T)||(ι (tyName x="bool")&&ι (T="int"))))else ζ)=ε d:=e2;split at e3
  .rename_i hz;cases e3;refine⟨U,A0,δ,x,R,e1,λ12=>?_⟩;exact⟨v,T,tyName x,_,rfl,h.ty hz.1,Uq hz.1 hz.2,q _ H' s (.bl _)⟩
  .grind
end
def b0(g:aY):DS->Option (Option Int):=λδ=>(g δ).bind λ|.int i=>ε (ε i)|_=>ζ
def bH:DS->Option (Option Int):=λ_=>ε ζ
inductive WT(K:aq)(O:1.0)(g:DS->Option (Option Int))(σ:St)(H:Hp)(Q:Option Int->Hp->Prop):Prop|mk (U A0 δ d)(_:2.2)(_:g δ=ε d)(_:∀H',aE H H'->Q d H')
def WT.e{K:aq}  {GG:Prop}(hh:WT K O g σ H Q)(kk:∀U A0 δ d,6.3->(g δ=ε d)->(∀H',aE H H'->Q d H')->GG):GG:=by obtain⟨U,A0,δ,d,x0,x1,x2⟩:=hh;exact kk U A0 δ d x0 x1 x2
def cutD(xs:List D)(lo hi:Option Int):List D:=(xs.drop (HT.sk xs.length 0 lo)).take (HT.sk xs.length xs.length hi-HT.sk xs.length 0 lo)
def ki(a:aY)(lo hi:DS->Option (Option Int)):cG:=λδ=>(a δ).bind λx=>(lo δ).bind λl=>(hi δ).bind λh=>match x with
 |.list ds=>ε (cutD ds l h)
 |_=>ζ
section
variable {X:Cx}{O:1.0}{e:Expr}{lo hi:Option Expr}{ga:aY}{gl gh:DS->Option (Option Int)}{pos p2:Pos}
def fK:PO X ζ (WT X.K O bH):=TN.mono λ1=>by cases ed;exact q H 3.8
theorem dE(h:PE X e 7.1):PO X (ε e) (WT X.K O (b0 ga)):=(TQ h).mono λ1=>by
 intro 1
 cases x with
 |int i=>cases e2;exact⟨U,A0,δ,_,R,e1,λ12=>⟨i,h.int,q H' s⟩⟩
 |_=>cases e2
theorem mq(ha:PE X e 7.1)(hl:PO X lo (WT X.K O gl))(hh:PO X hi (WT X.K O gh)):PE X (.Subscript e (.Slice lo hi ζ p2) pos) (tN X.K O (ki ga gl gh)):=(FW TZ ha hl hh).mono λ1=>by
 intro 1
 obtain⟨l,e3,e4⟩:=bind1 e2
 obtain⟨h,e5,e6⟩:=bind1 e4
 cases x with
 |list ds=>
   cases e6;refine⟨U,A0,δ,_,R,e1,λ17=>⟨U,A0,δ,l,R.same s1,e3,λH2 s2=>⟨U,A0,δ,h,R.same 7.3,e5,λH3 s3=>?_⟩⟩⟩;obtain⟨p,xs,rfl,r1,r2⟩:=(h1.same (s2.trans s3)).list;refine⟨p,xs,rfl,r1.sq,λr hr=>CM ((s1.trans s2).trans s3) q r _ hr ?_⟩;unfold OU cutD;rw[r2.len];exact(r2.WN _).WM _
 |_=>cases e6
end
def az(a b:aV):aV:=λδ=>(a δ).bind λ|.nx δ'=>b δ'|r=>ε r
def bf:aV:=λδ=>ε (.nx δ)
def gy(c:rk)(a b:aV):aV:=λδ=>(c δ).bind λx=>if x=η then a δ else b δ
def br(i:Nat)(g:aY):aV:=λδ=>(g δ).bind λd=>ε (.nx 23.4)
def jd(i:Nat)(g:cG):aV:=λδ=>(g δ).bind λd=>ε (.nx (δ.set i (ε (.list d))))
def aT(g:aY):aV:=λδ=>(g δ).bind λd=>ε (.rt d)
section
variable {X:Cx}{O:1.0}{fr:Fr}{xk:Str->Hp->Prop}{st:Stmt}{rest a b:List Stmt}{ga gb:aV}{gc:rk}{ge:aY}{gl:cG}{e c:Expr}{pos:Pos}
theorem aj(h1:PS X st (tS X.K O fr ga))(h2:ke X rest (tS X.K O fr gb)):ke X (st::rest) (tS X.K O fr (az ga gb)):=(tZ h1 h2).mono λ2=>by
 obtain⟨r1,e1,e2⟩:=bind1 ed
 cases r1 with
 |nx δ'=>exact⟨H0,U,A0,δ,.nx δ',R,F,e1,λU' d8 H' R' F'=>⟨H0,U',A0,δ',r,R',F',e2,P⟩⟩
 |rt d=>cases e2;exact⟨H0,U,A0,δ,_,R,F,e1,P⟩
 |bk d=>cases e2;exact⟨H0,U,A0,δ,_,R,F,e1,P⟩
 |ct d=>cases e2;exact⟨H0,U,A0,δ,_,R,F,e1,P⟩
def au(h1:PS X st (tS X.K O fr ga)):ke X [st] (tS X.K O fr ga):=DE h1
def bg:ke X [] (tS X.K O fr bf):=KD.mono λ2=>by cases ed;exact P U σ H R F
def Pr:PS X st (tS X.K O fr λ_=>ζ):=Oy.mono λ2=>by cases ed
def fL:ke X rest (tS X.K O fr λ_=>ζ):=ME.mono λ2=>by cases ed
theorem bX(hc:PT X c (tT X.K O gc))(ha:ke X a (tS X.K O fr ga))(hb:ke X b (tS X.K O fr gb)):PS X (.If c a b pos) (tS X.K O fr (gy gc ga gb)):=(Ww hc ha hb).mono λ2=>by
 intro 1
 refine⟨U,A0,δ,x,R,e1,λH' s=>?_⟩
 cases x with
 |true=>rw[abe rfl]at e2 ⊢;exact⟨H0,U,A0,δ,r,R.same s,F.grow s,e2,P⟩
 |false=>rw[abo abj]at e2 ⊢;exact⟨H0,U,A0,δ,r,R.same s,F.grow s,e2,P⟩
def iu(h:PS X st (ze 15.1 (mM i)))(hi:i∉O:=by decide):PS X st (tS X.K O fr (br i ge)):=h.mono λ2=>by
 intro 6
 cases e2
 exact⟨U,A0,δ,d,R,e1,λv H' s hv=>P U _ H' ((R.same s).set hi hv) (F.grow s)⟩
def fD(h:PS X st (ze (tN X.K O gl) (mM i)))(hi:i∈O:=by decide):PS X st (tS X.K O fr (jd i gl)):=h.mono λ2=>by
 intro 6
 cases e2
 exact⟨U,A0,δ,d,R,e1,λr ys H' s hr h1 h2=>P (r::U) _ H' (R.agt s hr h1 h2 hi) (F.more s hr)⟩
def aQ(h:PE X e 15.1):PS X (.Return (ε e) pos) (tS X.K O (θ,xk) (aT ge)):=(eA h).mono λ2=>by
 intro 6
 cases e2
 refine⟨U,A0,δ,d,R,e1,λv H' s hv=>P.1 v H' ?_⟩
 exact⟨F.same.trans s,hv.same 21.5⟩
theorem yN(h:PE X e (tN X.K O gl)):PS X (.Return (ε e) pos) (tS X.K O (η,xk) (aT (aI gl))):=(eA h).mono λ2=>by
 intro 6
 cases e2
 unfold aI at e1
 cases eg:gl δ with
 |none=>rw[eg]at e1;cases e1
 |some l=>
   rw[eg]at e1;cases e1;refine⟨U,A0,δ,l,R,eg,λr ys H' s hr h1 h2=>P.1 (.ref r) H' ?_⟩;refine⟨r,_,rfl,F.same.trans s,F.same.free hr,h1,.lst (h2.same (iP λa ha=>?_))⟩;rcases aa9.mp ha with z|z;.grind
   .grind
def jz(h:PE X e (mi i))(hi:i∈O:=by decide):PS X (.Return (ε e) pos) (tS X.K O fr (aT (af i))):=(eA h).mono λ2=>by
 intro 6
 cases e2
 obtain⟨l,o,hl,hU,h1,h2⟩:=R.ow i d hi (join_some e1)
 refine⟨.ref l,hl,P.1 (.ref l) H ?_⟩
 unfold yf
 split
 .refine ⟨l,o,rfl,F.same,F.new l hU,h1,h2.same (iP λa ha=>?_)⟩;rcases aa9.mp ha with z|z;.grind
  .grind
 .refine ⟨F.same,(h2.same 21.5).hd ?_⟩;rw[aZ (F.out hU)];exact h1
def yg(i:Nat)(g:aY):aV:=λδ=>(af i δ).bind λx=>(g δ).bind λd=>match x with
 |.list ds=>if ds.length<100000 then ε (.nx (δ.set i (ε (.list (ds++[d])))))else ζ
 |_=>ζ
set_option tactic.hygienic true in
def hJ(h:PS X st (Cs (tBM X.K "list" KN (mi i) (KH 15.1 OO))))(hi:i∈O:=by decide):PS X st (tS X.K O fr (yg i ge)):=h.mono λ2=>by
 intro 1
 obtain⟨d,e3,e4⟩:=bind1 e2
 rcases R.owL i x hi (join_some e1)with⟨l,ys,ds,hl,rfl,hU,h1,h2⟩|⟨kds,rfl⟩
 rotate_left
 .grind
 simp only at e4
 split at e4
 .rename_i hz;cases e4;refine⟨.ref l,hl,.inl ⟨rfl,ys,nD.of h1⟩,U,A0,δ,d,R,e3,λv H' s hv=>?_⟩;have h1':=s _ _ h1;have h2':=h2.same (b9 (A:=U++A0) s);have hlen:=h2.len;refine⟨l,ys,v,rfl,rfl,h1',nF 0.1,?_⟩;exact P U σ _ ((R.same s).put hi hl hU (h2'.app (.cons hv .nil)) ⟨_,join_some e1⟩) ((F.grow s).put hU _)
 .grind
end
noncomputable def FD(c:rk)(b:aV):Nat->aV
 |0,_=>ζ
 |n+1,δ=>(c δ).bind λx=>if x=η then(b δ).bind (λ|.nx δ'=>FD c b n δ'|.ct δ'=>FD c b n δ'|.bk δ'=>ε (.nx δ')|.rt d=>ε (.rt d))else ε (.nx δ)
theorem IL:∀{n:Nat} {δ:DS} {r:Res},FD c b n δ=ε r->FD c b (n+1) δ=ε r
 |0,_,_,h=>by cases h
 |n+1,δ,r,h=>by
   rw[FD]at h ⊢;obtain⟨x,e1,e2⟩:=bind1 h;rw[e1,aaG];cases x with
   |false=>exact e2
   |true=>
     obtain⟨q,e3,e4⟩:=bind1 e2;rw[e3,aaG];cases q with
     |nx δ'=>exact IL e4
     |ct δ'=>exact IL e4
     |bk _=>exact e4
     |rt _=>exact e4
theorem Pt(h:FD c b n δ=ε r)(hm:n<=m):FD c b m δ=ε r:=by
 induction hm with
 |refl=>exact h
 |step _ ih=>exact IL ih
open Classical in
def mr (c:rk) (b:aV):aV:=λδ=>if h:∃p:Nat×Res,FD c b p.1 δ=ε p.2 then ε (choose h).2 else ζ
set_option tactic.hygienic true in
def Ga(h:mr c b δ=ε r):∃n,FD c b n δ=ε r:=by
 unfold mr at h
 split at h
 .grind
 .cases h
def MX(h:FD c b n δ=ε r):mr c b δ=ε r:=by
 have hp:∃p:Nat×Res,FD c b p.1 δ=ε p.2:=⟨(n,r),h⟩
 unfold mr
 rw[dif_pos hp]
 have h2:=Classical.choose_spec hp
 have a1:=Pt h (Nat.le_max_left n (Classical.choose hp).1)
 have a2:=Pt h2 (Nat.le_max_right n (Classical.choose hp).1)
 rw[a1]at a2
 exact a2.symm
theorem MY(W:Nat->DS->Prop)(r:DS->Res->Prop)(m:Nat)(δ:DS)(h:W m δ)
  (hs:∀m δ,W m δ->(c δ=ε θ/\r δ (.nx δ))\/(c δ=ε η/\((∃δ' m',(b δ=ε 20.6\/b δ=ε (.ct δ'))/\m'<m/\W m' δ'/\∀q,r δ' q->r δ q)\/(∃δ',b δ=ε (.bk δ')/\r δ 20.6)\/∃d,b δ=ε (.rt d)/\r δ (.rt d)))):
  ∃q,mr c b δ=ε q/\r δ q:=by
 suffices hh:∀k m δ,m<k->W m δ->∃n q,FD c b n δ=ε q/\r δ q by
  obtain⟨n,q,e,hq⟩:=hh (m+1) m δ (afn m) h;exact⟨q,MX e,hq⟩
 intro k
 induction k with
 |zero=>intro m δ hm;lia
 |succ k ih=>
   intro m δ hm hW;rcases hs m δ hW with⟨hc,hr⟩|⟨hc,⟨δ',m',hb,lR,hW',imp⟩|⟨δ',hb,hr⟩|⟨d,hb,hr⟩⟩;.exact ⟨1,_,by rw[FD,hc];rfl,hr⟩
   .obtain ⟨n,q,e,hq⟩:=ih m' δ' 0.1 hW';refine⟨n+1,q,?_,imp q hq⟩;rw[FD,hc,aaG,abe rfl];rcases hb with hb|hb<;>rw[hb,aaG]<;>exact e
   .exact ⟨1,_,by rw[FD,hc,aaG,abe rfl,hb];rfl,hr⟩
   .exact ⟨1,_,by rw[FD,hc,aaG,abe rfl,hb];rfl,hr⟩
section
variable {X:Cx}{O:1.0}{fr:Fr}{body:List Stmt}{gb:aV}{gc:rk}{c:Expr}{pos:Pos}
theorem Gb(hp:18.5)(hc:PT X c (tT X.K O gc))(hb:ke X body (tS X.K O fr gb)):PS X (.While c body [] pos) (tS X.K O fr (mr gc gb)):=(OB hp hc hb).mono λ2=>by
 obtain⟨n,en⟩:=Ga ed
 refine⟨λm σ H=>∃U δ,Rel X.K O U A0 σ δ H/\Fx H0 A0 U H/\FD gc gb m δ=ε r,⟨n,U,δ,R,F,en⟩,?_⟩
 rintro m σ H ⟨U,δ,R,F,em⟩
 cases m with
 |zero=>cases em
 |succ m=>
   obtain⟨x,e1,e2⟩:=bind1 em;refine⟨U,A0,δ,x,R,e1,λH' s=>?_⟩;cases x with
   |false=>rw[abo abj]at e2 ⊢;cases e2;exact P U σ H' (R.same s) (F.grow s)
   |true=>
     obtain⟨q,e3,e4⟩:=bind1 e2;refine⟨λd8 H'=>∃m',m'<m+1/\∃U δ,Rel X.K O U A0 d8 δ H'/\Fx H0 A0 U H'/\FD gc gb m' δ=ε r,λ_ _ h=>h,H0,U,A0,δ,q,R.same s,F.grow s,e3,?_⟩;cases q with
     |nx δ'=>exact λU' d8 H' R' F'=>⟨m,afn m,U',δ',R',F',e4⟩
     |ct δ'=>exact λU' d8 H' R' F'=>⟨m,afn m,U',δ',R',F',e4⟩
     |bk δ'=>cases e4;exact P
     |rt d=>cases e4;exact P
end
def bA(i:Nat):D->DS->Option DS:=λd δ=>ε 23.4
def mR(n:Nat)(g:List D->DS->Option DS):D->DS->Option DS:=λd δ=>match d with
 |.tuple ds=>if ds.length=n then g ds δ else ζ
 |_=>ζ
def pd:List D->DS->Option DS:=λds δ=>if ds=[]then ε δ else ζ
def fe(t:13.4)(u:List D->DS->Option DS):List D->DS->Option DS:=λds δ=>match ds with
 |d::r=>(t d δ).bind λδ'=>u r δ'
 |[]=>ζ
inductive tGs(K:aq)(O:1.0)(g:List D->DS->Option DS)(vs:List V)(σ:St)(H:Hp)(Q:St->Hp->Prop):Prop|mk (U A0 δ ds δ')(_:2.2)(_:ee K (wo H 8.0) vs ds)(_:g ds δ=ε δ')(_:∀d8,Rel K O U A0 d8 δ' H->Q d8 H)
def tGs.e{K:aq}  {GG:Prop}(hh:tGs K O g vs σ H Q)(kk:∀U A0 δ ds δ',6.3->(ee K (wo H 8.0) vs ds)->(g ds δ=ε δ')->(∀d8,Rel K O U A0 d8 δ' H->Q d8 H)->GG):GG:=by obtain⟨U,A0,δ,ds,δ',x0,x1,x2,x3⟩:=hh;exact kk U A0 δ ds δ' x0 x1 x2 x3
section
variable {X:Cx}{O:1.0}{e:Expr}{es:6.9}{pos:Pos}
def Oz.mono(h:Oz X es t)(m:∀v σ H Q,t' v σ H Q->t v σ H Q):Oz X es t':=λpins s σ H v u Q I r q=>h pins s σ H v u Q I r (m v σ H Q q)
def Pu(h:PG X e (mM i))(hi:i∉O:=by decide):PG X e (tG X.K O (bA i)):=h.mono λv σ H Q hh=>hh.e λU A0 δ d δ' R hd e1 q=>by
 cases e1
 exact q _ (R.set hi hd)
set_option tactic.hygienic true in
def yO:Oz X [] (tGs X.K O pd):=TB.mono λvs σ H Q hh=>hh.e λU A0 δ ds δ' R hd e1 q=>by
 unfold pd at e1
 split at e1
 .rename_i hz;cases e1;subst hz;cases hd;exact⟨rfl,q σ R⟩
 .grind
theorem j1(h1:PG X e (tG X.K O t))(h2:Oz X es (tGs X.K O u))(hs:(assignEach 4.5 X.env).map (·.2)=assign e X.env::(assignEach es X.env).map (·.2):=by rfl):Oz X 4.5 (tGs X.K O (fe t u)):=
 (OA h1 h2 hs).mono λvs σ H Q hh=>hh.e λU A0 δ ds δ' R hd e1 q=>by
  cases hd with
  |nil=>cases e1
  |cons hx hr=>
    obtain⟨gV,e2,e3⟩:=bind1 e1;exact⟨_,_,rfl,U,A0,δ,_,gV,R,hx,e2,λFA R1=>⟨U,A0,gV,_,δ',R1,hr,e3,q⟩⟩
set_option tactic.hygienic true in
def yP(hc:X.calm=η)(h:Oz X es (tGs X.K O t))(hn:(assignEach es X.env).length=n:=by rfl)(Ic:(assignEach es X.env).findIdx? (·.1)=none:=by rfl):PG X (.Tuple es k pos) (tG X.K O (mR n t)):=
 (YO hc h hn Ic).mono λv σ H Q hh=>hh.e λU A0 δ d δ' R hd e1 q=>by
  unfold mR at e1;split at e1
  .split at e1
   .rename_i hz;obtain⟨a,xs,rfl,h1,h2⟩:=(kc.of hd).tuple;exact⟨a,xs,rfl,h1,by rw[h2.len];exact hz,U,A0,δ,_,δ',R,h2,e1,q⟩
   .grind
  .grind
end
noncomputable def sv(t:13.4)(b:aV):List D->aV
 |[],δ=>ε (.nx δ)
 |d::ds,δ=>(t d δ).bind λgV=>(b gV).bind λ|.nx δ'=>sv t b ds δ'|.ct δ'=>sv t b ds δ'|.bk δ'=>ε (.nx δ')|.rt d=>ε (.rt d)
def pW(gi:cG)(t:13.4)(b:aV):aV:=λδ=>(gi δ).bind λds=>sv t b ds δ
def Fx.adu(F:Fx H0 A0 U H)(s:aE (wo H U) H'):aE H0 H':=λa o e=>s a o (by
 rw[aZ λz=>?_]
 .exact F.same _ _ e
 .rw [F.new a z]at e;cases e)
set_option tactic.hygienic true in
theorem yf.trans{K:aq}(F:Fx H0 A0 U H)(h:yf K fr (wo H U) A0 v d H'):yf K fr H0 A0 v d H':=by
 have k:∀a o,H0 a=ε o->wo H U a=ε o:=λa o e=>by
  rw[aZ λz=>?_];.exact F.same _ _ e
  .rw [F.new a z]at e;cases e
 unfold yf at h ⊢
 split
 .rename_i hf;rw[abe hf]at h;obtain⟨r,ob,a,c,e,f,g⟩:=h;refine⟨r,ob,a,λx o q=>c _ _ (k x o q),?_,f,g⟩;cases q:H0 r with
  |none=>rfl
  |some o=>rw[k r o q]at e;cases e
 .rename_i hf;rw[abo hf]at h;exact⟨λx o q=>h.1 _ _ (k x o q),h.2⟩
section
variable {X:Cx}{O:1.0}{fr:Fr}{body:List Stmt}{gb:aV}{gi:cG}{tg iter:Expr}{gt:13.4}{pos:Pos}
theorem k9(hp:18.5)(hc:X.calm=η)(hi:PI X tg iter (tI X.K O gi))(hg:PG X tg (tG X.K O gt))(hb:ke X body (tS X.K O fr gb))
  (hs:3.7:=by intro _;rfl):PS X (.For tg iter body [] pos) (tS X.K O fr (pW gi gt gb)):=(OF hp hc hi hg hb hs).mono λ2=>by
 intro 11
 refine⟨U,A0,δ,ds,R,e1,λJ H1 s hw=>?_⟩
 have F1:=F.grow s
 refine⟨λi m σ H=>m=ds.length-i/\i<=ds.length/\∃U2 δ,Rel X.K O U2 A0 σ δ H/\Fx H0 A0 U2 H/\Fx (wo H1 U) A0 U2 H/\sv gt gb (ds.drop i) δ=ε r,⟨ds.length,by simp,Nat.zero_le _,U,δ,R.same s,F1,F1.here,by simpa using e2⟩,?_⟩
 rintro i m σ H ⟨rfl,hle,U2,δ,R2,F2,G2,ef⟩
 obtain⟨Zr,zB⟩:=hw (U2++A0) i H G2.keeps R2.al
 by_cases lR:i<ds.length
 .obtain ⟨d,hd⟩:∃d,ds[i]?=ε d:=⟨_,abh lR⟩;have Pw:ds.drop i=d::ds.drop (i+1):=by
   rw[afR lR];rw[abh lR]at hd;cases hd;rfl
  obtain⟨go,hy⟩:=Zr d hd;rw[Pw,sv]at ef;obtain⟨gV,e3,e4⟩:=bind1 ef;obtain⟨q,e5,e6⟩:=bind1 e4;refine .inr ⟨go,λd8 H'=>∃m',m'<ds.length-i/\(m'=ds.length-(i+1)/\i+1<=ds.length/\∃U2 δ,Rel X.K O U2 A0 d8 δ H'/\Fx H0 A0 U2 H'/\Fx (wo H1 U) A0 U2 H'/\sv gt gb (ds.drop (i+1)) δ=ε r),λ_ _ h=>h,λx H2 y=>?_⟩;obtain⟨s2,hx⟩:=hy x H2 y;refine⟨U2,A0,δ,d,gV,R2.same s2,hx,e3,λd8 R'=>?_⟩;have F3:=F2.grow s2;have G3:=G2.grow s2;refine⟨wo H2 U2,U2,A0,gV,q,R',F3.here,e5,?_⟩;cases q with
  |nx δ'=>exact λU' d8 H' R' F'=>⟨_,by lia,rfl,lR,U',δ',R',F3.trans F',G3.trans F',e6⟩
  |ct δ'=>exact λU' d8 H' R' F'=>⟨_,by lia,rfl,lR,U',δ',R',F3.trans F',G3.trans F',e6⟩
  |bk δ'=>cases e6;exact λU' d8 H' R' F'=>P U' d8 H' R' (F3.trans F')
  |rt d=>cases e6;exact⟨λv H' h=>P.1 v H' (h.trans F3),λc H' e s=>P.2 c H' e (F3.adu s)⟩
 .have hi:i=ds.length:=by lia
  subst hi;rw[ahV,sv]at ef;cases ef;exact .inl ⟨zB rfl,P U2 σ H R2 F2⟩
end
noncomputable def lg(lo:Int)(n:Nat):List D:=(List.range n).map λk:Nat=>PyData.int (lo+k)
theorem zC{lo:Int}(h:(lg lo n)[i]?=ε d):i<n/\d=.int (lo+i):=by
 unfold lg at h
 rw[abv]at h
 cases e:(List.range n)[i]? with
 |none=>rw[e]at h;cases h
 |some k=>grind
def zD{lo:Int}:(lg lo n).length=n:=by unfold lg;simp
def Gc{K:aq}{lo:Int}:Walks K A H1 (Itr lo n) (lg lo n):=by
 intro A' i H _ _
 refine⟨λd hd=>?_,λhi=>?_⟩
 .obtain ⟨hi,rfl⟩:=zC hd;refine⟨hi,λx H2 y=>?_⟩;obtain⟨rfl,rfl⟩:=y;exact⟨aE.refl _,.int _⟩
 .rw [zD]at hi;subst hi;exact abb _
def gO(g:cG):cG:=λδ=>(g δ).bind λ|[.int j]=>if -(2^62)<=j/\j<2^62 then ε (lg 0 j.toNat)else ζ|_=>ζ
def bx(g:aY):cG:=λδ=>(g δ).bind λ|.list l=>ε l|.tuple l=>ε l|_=>ζ
section
variable {X:Cx}{O:1.0}{tg a b e:Expr}{gr:cG}{ge:aY}{pos p:Pos}
set_option tactic.hygienic true in
theorem kR(hm:X.mg "range"=ζ)(ha:PA X [a] 6.1)(hg:Gl X "range":=by rfl)(hs:starEach [a] X.env=[13.2]:=by rfl):PI X tg (.Call (.Name "range" p) [a] [] pos) (tI X.K O (gO gr)):=(MG hg hm ha hs).mono λ4=>by
 intro 1
 refine⟨U,A0,δ,x,R,e1,λvs H' s h=>?_⟩
 split at e2
 .split at e2
  .rename_i hz;cases e2;cases h with
   |cons h1 h2=>
     cases h2;cases h1;exact⟨_,rfl,hz.1,hz.2,q _ H' s Gc⟩
  .grind
 .grind
def agy(K:aq)(tl:TE):TI:=λσ H R=>tl σ H λx H1=>(∃a,x=.ref a/\(∃xs,nD K H1 a xs)/\R (Itl K a) H1)\/∃a,x=.ref a/\(∃xs,o8 K H1 a xs)/\R (Itt K a) H1
def Zs(hl:PE X l tl):PI X tg l (agy X.K tl):=by
 intro pins s σ H R I h
 refine eU (hl pins s σ H _ I h) λv s1 ⟨x,H1,I1,r1,q1⟩=>?_
 rcases q1 with⟨a,e,⟨xs,hq⟩,q⟩|⟨a,e,⟨xs,hq⟩,q⟩
 .subst e;cases r1;obtain⟨its,rv,p,hz⟩:=I1.list hq;refine wpAny_pyIter_list p.isList ?_;refine⟨s1.heap.objs.size,[s1.heap.objs.size],_,_,H1,rfl,I1.kept (t':=s1.toks) λ14=>aao _ e,MF a _,⟨_,aaS _ rfl,rfl,rfl⟩,λ10=>?_,q⟩;have e:b=s1.heap.objs.size:=by simpa using hb
  subst e;exact I1.zf 5.6 (I1.bV.fresh 5.6)
 .subst e;cases r1;obtain⟨its,rv,p,hz⟩:=I1.tuple hq;refine wpAny_pyIter_tuple (show s1.heap.IsTuple a its.toArray from p) ?_;refine⟨s1.heap.objs.size,[s1.heap.objs.size],_,_,H1,rfl,I1.kept (t':=s1.toks) λ14=>aao _ e,Im a _,⟨_,aaS _ rfl,rfl,rfl⟩,λ10=>?_,q⟩;have e:b=s1.heap.objs.size:=by simpa using hb
  subst e;exact I1.zf 5.6 (I1.bV.fresh 5.6)
theorem dU(h:PE X e 15.1):PI X tg e (tI X.K O (bx ge)):=(Zs h).mono λ4=>by
 intro 1
 cases x with
 |list l=>
   cases e2;refine⟨U,A0,δ,_,R,e1,λ12=>?_⟩;cases h with
   |lst hq h=>
     refine .inl ⟨_,rfl,⟨_,(hq.same cH).sq⟩,q _ H' s ?_⟩;intro A' i H2 s2 _;have MZ:=hq.same s2;have h2:=h.same s2;have hL:=(MZ.same cH).sq;refine⟨λd hd=>?_,λhi=>⟨_,hL,by rw[h2.len];lia⟩⟩;obtain⟨x,hx,hxd⟩:=h2.get hd;refine⟨⟨_,x,hL,hx⟩,λy H3 hy=>?_⟩;obtain⟨rfl,hy⟩:=hy;have:=hy _ hL;rw[hx]at this;cases this;exact⟨aE.refl _,hxd⟩
 |tuple l=>
   cases e2;refine⟨U,A0,δ,_,R,e1,λ12=>?_⟩;cases h with
   |tup hq h=>
     refine .inr ⟨_,rfl,⟨_,(.inl (cH.sr hq))⟩,q _ H' s ?_⟩;intro A' i H2 s2 _;have MZ:=s2.sr hq;have h2:=h.same s2;have hL:o8 X.K H2 _ _:=.inl (cH.sr MZ);refine⟨λd hd=>?_,λhi=>⟨_,hL,by rw[h2.len];lia⟩⟩;obtain⟨x,hx,hxd⟩:=h2.get hd;refine⟨⟨_,x,hL,hx⟩,λy H3 hy=>?_⟩;obtain⟨rfl,hy⟩:=hy;have:=hy _ hL;rw[hx]at this;cases this;exact⟨aE.refl _,hxd⟩
 |_=>cases e2
end
noncomputable def fM(ix:1.0)(δ:DS):DS:=ix.map λj=>(δ[j]?).join
noncomputable def Px(f:D->Option D):List D->iA
 |[]=>ε []
 |d::ds=>(f d).bind λx=>(Px f ds).bind λxs=>ε (x::xs)
def eF(gi:cG)(ix:1.0)(ge:aY):cG:=λδ=>(gi δ).bind λds=>if ds.length<=100000 then Px (λd=>ge (ε d::fM ix δ)) ds else ζ
section
variable {X:Cx}{O:1.0}
def PS.nE{st:Stmt}(h:PS X st (ze (tN X.K O g) (mM i))):PS X st (ze (tE X.K O (aI g)) (mM i)):=h.mono λ_ _ _ h=>WQ h
end
noncomputable def cu:Res->Option D
 |.rt d=>ε d
 |.nx _=>ε .none
 |_=>ζ
noncomputable def ue:Res->iA
 |.rt (.list l)=>ε l
 |_=>ζ
def eB(n:Nat)(g:aV):List D->Option D:=λds=>(g (ds.map ε++List.replicate (n-ds.length) ζ)).bind cu
def uf(n:Nat)(g:aV):List D->iA:=λds=>(g (ds.map ε++List.replicate (n-ds.length) ζ)).bind ue
theorem Rel.start{K:aq}(al:Ls A H)(h:ee K 19.5 vs ds)(hO:∀i∈O,ds.length<=i):Rel K O [] A 16.7 (ds.map ε++List.replicate (N.length-ds.length) ζ) H:=by
 have hl:=h.len
 have none_of:∀(i:Nat) d,ds.length<=i->(ds.map ε++List.replicate (N.length-ds.length) ζ)[i]?=ε (ε d)->False:=by grind
 exact{
  len:=by unfold L2.start;simp[hl]
  fz:=λi d _ q=>by
   by_cases hi:i<ds.length
   .rw [List.getElem?_append_left (by simpa using hi),List.getElem?_map,List.getElem?_eq_getElem hi]at q;obtain⟨v,e,hv⟩:=h.get (abh hi);refine⟨v,?_,?_⟩;.unfold L2.start;rw[List.getElem?_append_left (by rw[aaI];lia),abv,e];rfl
    .grind
   .grind
  ow:=λi d hi q=>(none_of i d (hO i hi) q).elim
  inj:=λi j d e l hi _ _ q=>(none_of i d (hO i hi) q).elim
  al:=al}
def Fx.start(al:Ls A H):Fx H A [] H:=⟨aE.refl H,λ_ h=>by simp at h,al⟩
section
variable {P:4.6}{w:World}{K:aq}{mg:cX}{base:Heap}{x:Str}{st:Stmt}{N ps:1.4}{k:Nat}
theorem fN(O:1.0)(g:aV)(F:Df K mg x st ps)(S:15.0)
  (body:∀(f:Addr) (bW:Value) (A:Around) (outer:16.1) (s:Shared) (H:Hp) (E:XK),dQ k 3.0->ke (eV Bp P w K mg base N x (ai st) f bW A outer s H E).SR (bR st) (tS K O (θ,λ_ _=>True) g))
  (hO:9.7:=by decide)(hN:N.length=n:=by rfl)(hP:ps.length=m:=by rfl):Dn P w K mg base (k+1) x ps (ny K m (eB n g)):=by
 subst hN hP
 refine F.ok S 20.7 (λf bW A outer s H vs Q E hr h=>⟨_,body f bW A outer s H E hr,?_⟩)
 obtain⟨hn,A',ds,d,al,hd,e,q⟩:=h
 obtain⟨r,e1,e2⟩:=bind1 e
 refine⟨H,[],A',_,r,Rel.start al hd 3.9,Fx.start al,e1,?_⟩
 cases r with
 |nx δ=>cases e2;exact λU σ H' R F'=>q .iY H' F'.same .iY
 |rt d=>cases e2;exact⟨λv H' h=>by unfold yf at h;rw[if_neg Bool.false_ne_true]at h;exact q v H' h.1 h.2,λ_ _ _ _=>trivial⟩
 |bk _=>cases e2
 |ct _=>cases e2
theorem adv(O:1.0)(g:aV)(F:Bx K x x st f fd)(S:15.0)
  (body:∀(f:Addr) (bW:Value) (A:Around) (outer:16.1) (s:Shared) (H:Hp) (E:XK),dQ k 3.0->ke (eV Bp P w K mg base N x (ai st) f bW A outer s H E).SR (bR st) (tS K O (θ,λ_ _=>True) g))
  (hO:9.7:=by decide)(hN:N.length=n:=by rfl)(hP:ps.length=m:=by rfl):mP P w K mg base Bp (k+1) f fd ps (ny K m (eB n g)):=by
 subst hN hP
 refine F.ok S 20.7 (λbW A outer s H vs Q E hr h=>⟨_,body f bW A outer s H E hr,?_⟩)
 obtain⟨hn,A',ds,d,al,hd,e,q⟩:=h
 obtain⟨r,e1,e2⟩:=bind1 e
 refine⟨H,[],A',_,r,Rel.start al hd 3.9,Fx.start al,e1,?_⟩
 cases r with
 |nx δ=>cases e2;exact λU σ H' R F'=>q .iY H' F'.same .iY
 |rt d=>cases e2;exact⟨λv H' h=>by unfold yf at h;rw[if_neg Bool.false_ne_true]at h;exact q v H' h.1 h.2,λ_ _ _ _=>trivial⟩
 |bk _=>cases e2
 |ct _=>cases e2
theorem lU(O:1.0)(g:aV)(F:Df K mg x st ps)(S:15.0)
  (body:∀(f:Addr) (bW:Value) (A:Around) (outer:16.1) (s:Shared) (H:Hp) (E:XK),dQ k 3.0->ke (eV Bp P w K mg base N x (ai st) f bW A outer s H E).SR (bR st) (tS K O (η,λ_ _=>True) g))
  (hO:9.7:=by decide)(hN:N.length=n:=by rfl)(hP:ps.length=m:=by rfl):Dn P w K mg base (k+1) x ps (Po K m (uf n g)):=by
 subst hN hP
 refine F.ok S 20.7 (λf bW A outer s H vs Q E hr h=>⟨_,body f bW A outer s H E hr,?_⟩)
 obtain⟨hn,A',ds,d,al,hd,e,q⟩:=h
 obtain⟨r,e1,e2⟩:=bind1 e
 refine⟨H,[],A',_,r,Rel.start al hd 3.9,Fx.start al,e1,?_⟩
 cases r with
 |rt d'=>
   refine⟨λv H' h=>?_,λ_ _ _ _=>trivial⟩;obtain⟨r,ob,rfl,a,b,c,f⟩:=h;cases f with
   |lst f=>cases e2;exact q r _ H' a b c f
   |ye _ _=>cases e2
 |nx δ=>cases e2
 |bk _=>cases e2
 |ct _=>cases e2
end
noncomputable def f9(f f':D->D->Option D)(a b c:aY):aY:=λδ=>(a δ).bind λx=>(b δ).bind λy=>(f x y).bind λz=>match z with
 |.bool η=>(c δ).bind λw=>f' y w
 |.bool θ=>ε (.bool θ)
 |_=>ζ
section
variable {X:Cx}{O:1.0}{a b c:Expr}{ga gb gc:aY}{pos:Pos}{r r':R2}
theorem Gd{K:aq}(imp:kh K r f)(imp':kh K r' f'):tE K O (f9 f f' ga gb gc) σ H Q->Ir r r' (ir K O ga) (ir K O gb) (ir K O gc) σ H Q:=λ⟨U,A0,δ,d,R,ed,q⟩=>by
 obtain⟨x,e1,ed⟩:=bind1 ed
 obtain⟨y,e2,ed⟩:=bind1 ed
 obtain⟨z,e3,ed⟩:=bind1 ed
 refine⟨U,A0,δ,x,R,e1,λv1 H1 s1 h1=>⟨U,A0,δ,y,R.same s1,e2,λv2 H2 s2 h2=>imp _ H2 v1 v2 x y z _ (R.same 7.3).al (h1.same s2) h2 e3 λv3 H3 s3 h3=>?_⟩⟩
 cases z with
 |bool k=>
   cases h3;refine⟨k,rfl,?_⟩;cases k with
   |true=>
     obtain⟨w,e4,e5⟩:=bind1 ed;first
      |rw[abe rfl]
      |skip
     exact⟨U,A0,δ,w,R.same ((s1.trans s2).trans s3),e4,λv4 H4 s4 h4=>imp' _ H4 v2 v4 y w d Q (R.same (((s1.trans s2).trans s3).trans s4)).al (h2.same (s3.trans s4)) h4 e5 λ12=>q v H' ((((s1.trans s2).trans s3).trans s4).trans s) h⟩
   |false=>
     cases ed;exact q _ H3 ((s1.trans s2).trans s3) (.bl _)
 |_=>cases ed
def pX(ho:12.6)(imp:kh X.K r f)(Bt:kQ X (compareOp op') r')(imp':kh X.K r' f')(ha:PE X a 7.1)(hb:9.0)(hc:PE X c (ir X.K O gc))(hm:lastMarks [op,op'] [b,c]=false:=by with_unfolding_all rfl):PE X (.Compare a [op,op'] [b,c] pos) (tE X.K O (f9 f f' ga gb gc)):=(OI ho Bt ha hb hc hm).mono λ18=>Gd imp imp'
def vL(ho:12.6)(imp:kh X.K r f)(Bt:kQ X (compareOp op') r')(imp':kh X.K r' f')(ha:PE X a 7.1)(hb:9.0)(hc:PE X c (ir X.K O gc))(hm:lastMarks [op,op'] [b,c]=false:=by with_unfolding_all rfl):PT X (.Compare a [op,op'] [b,c] pos) (tT X.K O (gB (f9 f f' ga gb gc))):=(OJ ho Bt ha hb hc hm).mono λ18=>WR λ18=>Gd imp imp'
end
def Py:D->Option D
 |.int i=>ε (.int (Builtin.Int.intBits i:Nat))
 |_=>ζ
theorem Us(ho:PE X o 7.1)(jY:attributeBase o "bit_length" X.env 12.3=eval o X.env:=by rfl)(jZ:7.9:=by rfl):
  PE X (.Call (.Attribute o "bit_length" apos) [] [] cY) (tE X.K O (g1 Py ga)):=(Ub ho jY jZ).mono λ1=>by
 intro 1
 cases x with
 |int i=>
   cases e2;refine⟨U,A0,δ,_,R,e1,λ12=>?_⟩;rw[h.int];exact⟨rfl,i,rfl,rfl,q _ H' s 24.2⟩
 |_=>cases e2
def lh:D->Bool
 |.none|.bool _|.int _|.str _=>η
 |_=>θ
noncomputable def dV:D->V
 |.none=>.iY
 |.bool b=>.bl b
 |.int i=>.int i
 |.str x=>.str x
 |_=>.iY
def Ut(a b:D):Bool:=T1 (dV a) (dV b)
def M0:D->D->Option D:=λx y=>match y with
 |.list l=>if(lh x&&l.all lh)=η then ε (.bool (l.any λz=>Ut z x))else ζ
 |.tuple l=>if(lh x&&l.all lh)=η then ε (.bool (l.any λz=>Ut z x))else ζ
 |_=>ζ
def pY:D->D->Option D:=λx y=>(M0 x y).bind λ|.bool c=>ε (.bool (!c))|_=>ζ
theorem kc.flat{K:aq}(h:kc K A H v d)(f:lh d=η):v=dV d/\o9 v=true:=by
 cases d with
 |none=>rw[h.iY];exact⟨rfl,rfl⟩
 |bool b=>rw[h.bool];exact⟨rfl,rfl⟩
 |int i=>rw[h.int];exact⟨rfl,rfl⟩
 |str x=>rw[h.str];exact⟨rfl,rfl⟩
 |_=>cases f
theorem ee.flat{K:aq}:∀{xs:List V} {ds:List D},ee K H xs ds->ds.all lh=η->xs=ds.map dV/\xs.all o9=η
 |_,_,.nil,_=>⟨rfl,rfl⟩
 |_,_,.cons h t,f=>by
   rw[ahe,abi]at f;obtain⟨e1,e2⟩:=ee.flat t f.2;obtain⟨e3,e4⟩:=(kc.of (A:=[]) (by rw[Pe];exact h)).flat f.1;exact⟨by rw[abl,<-e1,<-e3],by rw[ahe,e4,e2];rfl⟩
def WU(x:D)(l:List D):inV (dV x) (l.map dV)=l.any λz=>Ut z x:=by
 unfold inV Ut
 rw[ahD];rfl
section
variable {X:Cx}
def Pz:kQ X (compareOp .In) (rIn X.K θ):=MM
def vM:kQ X (compareOp .NotIn) (rIn X.K η):=DM
end
set_option tactic.hygienic true in
def K5{K:aq}(hx:kc K A H x dx)(hy:kc K A H y dy)(e:M0 dx dy=ε d):∃p xs b,y=.ref p/\(nD K H p xs\/o8 K H p xs)/\o9 x=η/\xs.all o9=η/\d=.bool b/\inV x xs=b:=by
 unfold M0 at e
 split at e
 .split at e
  .rename_i hf;rw[abi]at hf;cases e;obtain⟨p,xs,rfl,h1,h2⟩:=hy.list;obtain⟨e1,e2⟩:=h2.flat hf.2;obtain⟨e3,e4⟩:=hx.flat hf.1;exact⟨p,xs,_,rfl,.inl h1.sq,e4,e2,rfl,by rw[e1,e3,WU]⟩
  .cases e
 .split at e
  .rename_i hf;rw[abi]at hf;cases e;obtain⟨p,xs,rfl,h1,h2⟩:=hy.tuple;obtain⟨e1,e2⟩:=h2.flat hf.2;obtain⟨e3,e4⟩:=hx.flat hf.1;exact⟨p,xs,_,rfl,.inr h1,e4,e2,rfl,by rw[e1,e3,WU]⟩
  .cases e
 .cases e
def PB{K:aq}:kh K (rIn K θ) M0:=by
 intro 5
 obtain⟨p,xs,b,h1,h2,h3,h4,rfl,h5⟩:=K5 hx hy e
 refine⟨p,xs,h1,h2,h3,h4,?_⟩
 rw[h5]
 exact q _ H 3.8 (.bl _)
def vN{K:aq}:kh K (rIn K η) pY:=by
 intro 5
 obtain⟨c,e1,e2⟩:=bind1 e
 obtain⟨p,xs,b,h1,h2,h3,h4,rfl,h5⟩:=K5 hx hy e1
 cases e2
 refine⟨p,xs,h1,h2,h3,h4,?_⟩
 rw[h5]
 exact q _ H 3.8 (.bl _)
def K6(a b:Int):Ut (.int a) (.int b)=ι (a=b):=rfl
section
variable {X:Cx}{O:1.0}{fr:Fr}{st:Stmt}{gl:cG}{i:Nat}
def PD(i:Nat)(g:cG):aV:=λδ=>(af i δ).bind λx=>(g δ).bind λzs=>match x with
 |.list ds=>if ds.length+zs.length<=100000 then ε (.nx (δ.set i (ε (.list (ds++zs)))))else ζ
 |_=>ζ
set_option tactic.hygienic true in
def CN(h:PS X st (Cs (tBM X.K "list" KO (mi i) (KH (tN X.K O gl) OO))))(hi:i∈O:=by decide):PS X st (tS X.K O fr (PD i gl)):=h.mono λ2=>by
 intro 1
 obtain⟨zs,e3,e4⟩:=bind1 e2
 rcases R.owL i x hi (join_some e1)with⟨l,ys,ds,hl,rfl,hU,h1,h2⟩|⟨kds,rfl⟩
 rotate_left
 .grind
 simp only at e4
 split at e4
 .rename_i hz;cases e4;refine⟨.ref l,hl,.inl ⟨rfl,ys,nD.of h1⟩,U,A0,δ,zs,R,e3,λp ws H' s hp hp1 hp2=>?_⟩;have h1':=s _ _ h1;have h2':=h2.same (b9 (A:=U++A0) s);have hp3:=hp2.same (iP (A':=U++A0) λa ha=>aa8 _ ha);have hlen:=h2.len;have aiO:=hp2.len;refine⟨l,p,ys,ws,rfl,rfl,h1',hp1,small 0.1,?_⟩;exact P U σ _ ((R.same s).put hi hl hU (h2'.app hp3) ⟨_,join_some e1⟩) ((F.grow s).put hU _)
 .grind
end
section
variable {X:Cx}{pins:de}{σ:St}{H:Hp}{s:Shared}{h':Heap}
def Inv.qT{ch:4.0}(I:0.5)(k:∀b o,b∉ch->s.heap.get? b=ε o->h'.get? b=ε o)(hf:∀b∈ch,t6 X pins H b):Inv X pins σ H 16.5:=by
 have nit:∀b u,H b=ε u->b∉ch:=λb u e z=>by rw[(hf b z).1]at e;cases e
 refine I.step (g':=s.gens) (d':=s.drawn) (ch:=ch) (λ10=>?_) (λb o _ _ hc e _=>k b o hc e) (λb o _ _ hc e _=>⟨o.slots,k b o hc e⟩) (λ_ _ _ _ n=>n)
  (λb o hc e=>⟨o,k b o hc e⟩) (λ_ _ e=>e) (λ_ _ _ e=>e) (λb ps e=>⟨#[],by rw[e];simp⟩) (λm hm=>?_) (λb u e=>?_) I.bare
 .obtain ⟨_,a,_,b',c,d⟩:=hf b hb;exact⟨b',a,c,d⟩
 .obtain ⟨o,es,ep,ho,r⟩:=hm;exact⟨o,es,ep,k _ o (λz=>(hf _ z).2.1 rfl) ho,r⟩
 .refine (I.bV b u e).yb (λc v hc q=>k c v ?_ q) (λ_ q=>q) λ_ _ q=>q;rcases hc with z|z;.grind
  .grind
def Inv.IM{D:Addr}(I:0.5)(hD:H D=ζ)(hs:X.jt.heap.objs.size<=D)(hl:D≠X.env.locals)(hc:∀x c,X.env.cells.lookup x=ε c->c≠D)
  (hp:∀p∈X.pn++pins,p.1≠D)(e:IsTup s.heap D its.toArray)(r:bL ys its)(hz:ys.length<=sizeLine):Inv X pins σ (upd H D (.tup ys)) s:=by
 have h:=I.step (H':=upd H D (.tup ys)) (h':=s.heap) (g':=s.gens) (t':=s.toks) (d':=s.drawn) (ch:=[D]) (λ10=>by
   have e:b=D:=by simpa using hb
   subst e;exact⟨.inr hs,hl,hc,hp⟩)
  (λb o _ _ _ q _=>q) (λb o _ _ _ q _=>⟨o.slots,q⟩) (λb o hb _ q=>by rw[aB (by simpa using hb)];exact q) (λb o _ q=>⟨o,q⟩)
  (λb xs q=>by rw[aB (cw q hD)];exact q) (λb o u q=>by rw[aB (cw q hD)];exact q) (λb ps q=>⟨#[],by rw[aB (cw q hD),aiz];exact q⟩) (λm hm=>hm) (λb u q=>?_) I.bare
 .exact h
 .by_cases hb:b=D
  .subst hb;rw[aN]at q;cases q;exact⟨hz,its,r,e⟩
  .rw [aB hb]at q;exact(I.bV b u q).yb (λ_ _ _ z=>z) (λc z=>by rw[aB (cw z hD)];exact z) λc xs z=>z.new hD
end
def Ite(K:aq)(a:Addr):It:=
 ⟨λi H=>∃xs x,nD K H a xs/\xs[i]?=ε x,λi H x H'=>∃p v,H p=ζ/\x=.ref p/\H'=upd H p (.tup [.int i,v])/\∀xs,nD K H a xs->xs[i]?=ε v,λi H=>∃xs,nD K H a xs/\xs.length<=i⟩
def M1{K:aq}(a e it:Addr)(gT:e≠it):Turn P w K 8.4 (Ite K a) [e,it] e (λi h=>(∃old,IsEnum h e it i old)/\h.IsListIter it a i) where
 mem:=by simp
 obj:=λi h st b hb=>by
  obtain⟨⟨old,he⟩,o,ho,c,d⟩:=st;rcases aa9.mp hb with z|z;.grind
  .grind
 keep:=λi h h' st k=>by
  obtain⟨⟨old,he⟩,rH⟩:=st;exact⟨⟨old,k e 0.2 _ he⟩,rH.at λo eo=>k it 0.2 o eo⟩
 item:=by
  intro 0;subst hP hw hK;obtain⟨xs,x,hq,hx⟩:=hg;obtain⟨its,rv,p,hz⟩:=I.list hq;obtain⟨u,hu,ru⟩:=rv.get hx;obtain⟨⟨old,he⟩,rH⟩:=st;refine wpAny_pyNext_enum_item he rH p.isList (x:=u) (by simpa using hu) gT λh1 Tp agA ht1 WV Zt=>?_;refine⟨_,rfl,wpAny_letOwnedTupleGo_enum Tp λh2 Ur yJ=>?_⟩;have heH:=aba he;have I1:Inv X pins σ H {s with heap:=h2,toks:=s.toks+1}:=I.qT (t':=s.toks+1) (ch:=[e,it]) (λb o hb eo=>by
   simp at hb;exact(yJ.2 b hb.1).trans (Zt b o hb.1 hb.2 eo)) hf;have ht2:IsTup h2 s.heap.objs.size [Value.int i s.toks,u].toArray:=⟨_,(yJ.2 _ (agD heH)).trans ht1,rfl,_,rfl⟩;have rM:=I.bV.fresh 5.6;have fo:=I.zf (H':=H) 5.6 rM;have I2:Inv X pins σ (upd H s.heap.objs.size (.tup [.int i,x])) {s with heap:=h2,toks:=s.toks+1}:=I1.IM rM (acw I.sz 5.6) fo.2.1 fo.2.2.2.2.1 fo.2.2.2.2.2 ht2 (.cons ⟨_,rfl⟩ (.cons ru .nil)) (by show 2<=sizeLine;decide);refine⟨.ref s.heap.objs.size,_,I2,rfl,⟨_,x,rM,rfl,rfl,λys hy=>by rw[I.zd hy hq];exact hx⟩,⟨⟨u,Ur⟩,agA.extBut yJ.extBut (afh gT)⟩,λ10=>?_⟩;have lR:b<s.heap.objs.size:=by
   rcases aa9.mp hb with z|z;.grind
   .have z:b=it:=by simpa using z
    subst z;obtain⟨o,ho,_⟩:=rH;exact aba ho
  rw[aB (abn lR)];exact(hf b hb).1
 done:=by
  intro 0;subst hP hw hK;obtain⟨xs,hq,hx⟩:=hg;obtain⟨its,rv,p,hz⟩:=I.list hq;obtain⟨⟨old,he⟩,rH⟩:=st;have hl:=rv.length;refine wpAny_pyNext_enum_end 13.1 he rH p.isList 3.4 λh1 eb=>⟨rfl,?_⟩;exact I.qT (t':=s.toks) (ch:=[e,it]) (λb o hb eo=>eb b o (λz=>hb (by simp[z])) eo) hf
 self:=λ15=>by
  obtain⟨⟨old,he⟩,_⟩:=st;exact ahE he h
def nH:bootBuiltins "enumerate"=ε (.type "enumerate"):=⋯
def ug(l:List D):List D:=l.zipIdx.map λp=>.tuple [.int (p.2:Nat),p.1]
theorem M3{d:D}(h:(ug l)[i]?=ε d):∃x,l[i]?=ε x/\d=.tuple [.int (i:Nat),x]:=by
 unfold ug at h
 rw[abv,agQ]at h
 cases e:l[i]? with
 |none=>rw[e]at h;cases h
 |some x=>rw[e]at h;simp at h;exact⟨x,rfl,h.symm⟩
def CO:(ug l).length=l.length:=by unfold ug;simp
section
variable {X:Cx}{O:1.0}{a:Expr}{ge:aY}{p pos:Pos}{es:6.9}{kk}{rn:Pos}
def adx(K:aq)(ta:TA):TI:=λσ H R=>ta σ H λvs H1=>∃a xs,vs=[.ref a]/\nD K H1 a xs/\R (Ite K a) H1
def Uu(hg:Gl X "enumerate")(hm:X.mg "enumerate"=ζ)(ha:PA X [a] ta)(hs:starEach [a] X.env=[13.2]:=by rfl):PI X 8.4 (.Call 24.7 [a] [] pos) (adx X.K ta):=by
 intro pins s σ H R I h
 refine Call_ (nA I hg hm nH (afa (eU 11.8 λus s1 ⟨vs,H1,I1,r1,q1⟩=>?_) hs rfl))
 obtain⟨b,xs,e,hq,q⟩:=q1
 subst e
 obtain⟨u,rfl,ru⟩:=vals1 r1
 cases ru
 obtain⟨its,rv,pl,hz⟩:=I1.list hq
 refine call_enumerate_list pl.isList λh' he hit hsz hk=>?_
 refine ahE he ?_
 refine⟨s1.heap.objs.size+1,[s1.heap.objs.size+1,s1.heap.objs.size],_,_,H1,rfl,I1.kept (t':=s1.toks) hk,M1 b _ s1.heap.objs.size (Nat.succ_ne_self _),⟨⟨_,he⟩,hit⟩,λ10=>?_,q⟩
 have hle:s1.heap.objs.size<=b:=by grind
 exact I1.zf hle (I1.bV.fresh hle)
def nI(g:aY):cG:=λδ=>(g δ).bind λ|.list l=>ε (ug l)|_=>ζ
theorem DY(hm:X.mg "enumerate"=ζ)(ha:PE X a 15.1)(hg:Gl X "enumerate":=by rfl)(hs:starEach [a] X.env=[13.2]:=by rfl)(DZ:starEach ([]:List Expr) X.env=[]:=by rfl):PI X 8.4 (.Call 24.7 [a] [] pos) (tI X.K O (nI ge)):=
 (Uu hg hm (bu ha cz (by rw[hs,DZ])) hs).mono λ4=>by
  intro 1;cases x with
  |list l=>
    cases e2;refine⟨U,A0,δ,_,R,e1,λ12=>?_⟩;cases h with
    |lst hq h=>
      refine⟨_,_,rfl,(hq.same cH).sq,q _ H' s ?_⟩;intro A' i H2 s2 al;have h2:=h.same s2;have hL:=((hq.same s2).same cH).sq;refine⟨λd hd=>?_,λhi=>⟨_,hL,by rw[hi,CO,h2.len];exact abb _⟩⟩;obtain⟨y,hy,rfl⟩:=M3 hd;obtain⟨v,hv,hvd⟩:=h2.get hy;refine⟨⟨_,v,hL,hv⟩,λz H3 hz=>?_⟩;obtain⟨p,v',hp,rfl,rfl,hv'⟩:=hz;have:=hv' _ hL;rw[hv]at this;cases this;exact⟨cy hp _,HD.BE al hp (.cons 24.2 (.cons hvd .nil))⟩
  |_=>cases e2
end
def WalksS(K:aq)(A:4.0)(H1:Hp)(J:It)(ds:List D):Prop:=∀(i:Nat) (H:Hp),aE H1 H->
 (∀d,ds[i]?=ε d->J.go i H/\∀x H2,J.yld i H x H2->aE H H2/\HD K (wo H2 A) x d)/\(i=ds.length->J.stop i H)
inductive SW(K:aq)(O:1.0)(g:cG)(σ:St)(H:Hp)(R:It->Hp->Prop):Prop|mk (U A0 δ ds)(_:2.2)(_:g δ=ε ds)(_:∀J H1,aE H H1->WalksS K 8.0 H1 J ds->R J H1)
def SW.e{K:aq}  {GG:Prop}(hh:SW K O g σ H R)(kk:∀U A0 δ ds,6.3->(g δ=ε ds)->(∀J H1,aE H H1->WalksS K 8.0 H1 J ds->R J H1)->GG):GG:=by obtain⟨U,A0,δ,ds,x0,x1,x2⟩:=hh;exact kk U A0 δ ds x0 x1 x2
section
variable {X:Cx}{O:1.0}{tg e:Expr}{gi:cG}
def PI.c(h:PI X tg e (tI X.K O gi)):PI X tg e (SW X.K O gi):=h.mono λ4=>⟨U,A0,δ,ds,R,ed,λJ H1 s hw=>q J H1 s λi H2 s2=>hw 8.0 i H2 (b9 s2) ((R.same 19.8).al)⟩
end
end L2
namespace LS
open PySem PySem.Spec PyProof.Rows
section
variable {prog:4.6}{w:World}{A:Around}{E:eL}{s:Shared}{it t:Addr}{i:Nat}{items:17.4}
def IP(hit:s.heap.IsTupleIter it t i)(ht:s.heap.IsTuple t items)(hx:items[i]?=ε x)
  (hQ:∀h',h'.IsTupleIter it t (i+1)->Heap.SameBut it s.heap h'->Q x 2.0):wpAny 0.7 A (Builtin.SmallTypes.nextOf 14.3) Q E s:=by
 obtain⟨o,ho,hc,hd⟩:=id hit
 obtain⟨ol,Zu,_,nl,hdl⟩:=ht
 refine aab (adC (name:=Str.ofString "__next__") hit.typeIs afr (aeL afr hit.typeIs ahx ?_ (aht _)))
 show wpAny _ _ (field 14.3 0 >>= _) _ _ s
 refine aab (afe ho hd (x:=.ref t) rfl ?_)
 refine aab (afe ho hd (x:=.int i 0) rfl ?_)
 refine aab (aiB Zu hdl ?_)
 simp only[adU,hx]
 refine aab (ae5 ho hd 0.2 (aaR ⟨x,rfl,aaR (hQ _ ?_ (adK ..))⟩))
 exact⟨_,acx _ ho (ad9 (abF hd _)),(agF ..).trans hc,by rw[abF hd];simp[rawInt]⟩
def M4(hh:21.1)(hit:s.heap.IsTupleIter it t i)(ht:s.heap.IsTuple t items)(hx:items[i]?=ζ)
  (hE:∀h' e,Heap.ExtBut it s.heap h'->(∃o,h'.get? e=ε o/\o.cls=.type "StopIteration")->E (.ref e) 2.0):wpAny 0.7 A (Builtin.SmallTypes.nextOf 14.3) Q E s:=by
 obtain⟨o,ho,hc,hd⟩:=id hit
 obtain⟨ol,Zu,_,nl,hdl⟩:=ht
 refine aab (adC (name:=Str.ofString "__next__") hit.typeIs afr (aeL afr hit.typeIs ahx ?_ (aht _)))
 show wpAny _ _ (field 14.3 0 >>= _) _ _ s
 refine aab (afe ho hd (x:=.ref t) rfl ?_)
 refine aab (afe ho hd (x:=.int i 0) rfl ?_)
 refine aab (aiB Zu hdl ?_)
 simp only[adU,hx]
 refine aab (ah7 (aab (ae5 ho hd 0.2 ?_)))
 refine aab ?_
 refine aab (m:=firstArgMember _ _) (ail (a:=Value.none) (by first|rfl|(simp only[firstArgMember];rfl)) ?_)
 refine afj ?_ (by size_fits)
 refine aab (wpAny_handled ?_)
 first|rw[show A.in1.handled=ζ from hh]|rw[hh]
 refine aab (aaR (aiT ?_))
 exact hE _ _ (((adK ..).extBut.push _).push _) ⟨_,aaS _ rfl,rfl⟩
def lV(hh:21.1)(it l:Addr)(gT:l≠it)(items:17.4):
  Draws prog w A it [it,l] items.size (λi v=>items[i]?=ε v) (λi h=>h.IsTupleIter it l i/\h.IsTuple l items) where
 live:=λ_ _ st=>let⟨o,ho,_⟩:=st.1;⟨o,ho⟩
 frame:=λ_ _ _ st hk=>⟨st.1.at λo e=>hk it 0.2 o e,st.2.at λo e=>hk l 0.2 o e⟩
 item:=λi s Q E hi st hQ=>IP st.1 st.2 (x:=items[i]) (by simp[hi]) λh' Ge xH=>hQ _ h' s.toks (by simp[hi]) ⟨Ge,st.2.extBut xH.extBut gT⟩ xH
 done:=λs Q E st hE=>M4 hh st.1 st.2 0.2 hE
end
set_option maxHeartbeats 1000000 in
set_option tactic.hygienic true in
def BE(l:Addr)(items:17.4)(n:Nat)(ye:23.6)(sl:15.4):
  Meets (Builtin.«enumerate.__new__» ⟨[.type "enumerate",.ref l],[]⟩) (λ_ R s=>s.heap.get? l=ε {cls:=.type "tuple",dict:=ye,data:=.seq items n,slots:=sl}/\
   R (.ok (.ret (.ref (s.heap.push 1.6).objs.size)))
     {s with heap:=(s.heap.push 1.6).push 17.3}):=
 .of_wp λprog w A R s h=>by
  obtain⟨hp,g,d,tk,os⟩:=s;obtain⟨hl,h⟩:=h;have D0:=sub_enumerate;have hL:Heap.IsTuple (Shared.heap ⟨hp,g,d,tk,os⟩) l items:=⟨_,hl,rfl,n,rfl⟩;wp_walk using AutoSeq1.wpAny_loadPart' hl;refine wpAny_stack_any λst=>aaR ?_;split
  .rename_i c _ _ _ _ _;cases(c==Value.type "enumerate");.wp_walk using AutoSeq1.wpAny_loadPart' hl,wpAny_pyIter_tuple hL;exact⟨_,rfl,h⟩
   .wp_walk using AutoSeq1.wpAny_loadPart' hl,wpAny_pyIter_tuple hL;exact⟨_,rfl,h⟩
  .wp_walk using AutoSeq1.wpAny_loadPart' hl,wpAny_pyIter_tuple hL;exact⟨_,rfl,h⟩
section
variable {prog:4.6}{w:World}{A:Around}{E:eL}{s:Shared}
def IQ(hL:s.heap.IsTuple l items)
  (h:∀h',IsEnum h' 2.7 s.heap.objs.size 0 .none->h'.IsTupleIter s.heap.objs.size l 0->h'.objs.size=s.heap.objs.size+2->(∀b o,s.heap.get? b=ε o->h'.get? b=ε o)->Q (.ref 2.7) 2.0):
  wpAny 0.7 A (call (.type "enumerate") [.ref l]) Q E s:=by
 obtain⟨⟨c,ye,dt,sl⟩,hl,hc,n,hd⟩:=hL
 subst hc hd
 refine callType_new agi 0.0 (PySem.F.typeCall_enumerate_1 _) (PySem.F.newCall_enumerate_1 _) (λobj=>PySem.F.args_object_init_2 obj _) PySem.F.entry_enumerate_new (BE l items n ye sl) ⟨hl,?_⟩
 have hz:(s.heap.push 1.6).objs.size=s.heap.objs.size+1:=aeI ..
 rw[hz]
 have he:IsEnum ((s.heap.push 1.6).push 17.3) 2.7 s.heap.objs.size 0 .none:=by
  have q:=aaS (s.heap.push 1.6) (o:=17.3) rfl;rw[hz]at q;exact q
 exact⟨⟨_,he,rfl⟩,h _ he ⟨_,aao _ (aaS _ rfl),rfl,rfl⟩ (by rw[aeI,hz]) λb o x=>aao _ (aao _ x)⟩
end
end LS
namespace LS
open PySem
def D3(l:1.0):Prop:=l.Pairwise (·<·)
def uh{xs:Array Nat}(h:D3 xs.toList)(hab:a<b)(hb:b<xs.size)(d e:Nat):xs.getD a d<xs.getD b e:=by
 have ha:a<xs.size:=by lia
 have:=List.pairwise_iff_getElem.mp h a b (by simpa using ha) (by simpa using hb) hab
 simpa[ha,hb]using this
theorem PH(hs:D3 xs.toList)(j:Nat)(fuel:Nat):∀(lo hi:Nat),hi-lo<=fuel->lo<=hi->hi<=xs.size->(∀k,k<lo->xs.getD k 0<j)->(∀k,hi<=k->k<xs.size->j<=xs.getD k 0)->
  SetTable.below.go xs j fuel lo hi<=xs.size/\(∀k,k<SetTable.below.go xs j fuel lo hi->xs.getD k 0<j)/\∀k,SetTable.below.go xs j fuel lo hi<=k->k<xs.size->j<=xs.getD k 0:=by
 induction fuel with
 |zero=>
   intro lo hi h1 h2 h3 h4 h5;have e:=Nat.le_antisymm h2 (Nat.le_of_sub_eq_zero (Nat.le_zero.mp h1));subst e;exact⟨h3,h4,h5⟩
 |succ fuel ih=>
   intro lo hi h1 h2 h3 h4 h5;rw[SetTable.below.go];by_cases hl:lo<hi
   .rw [abe hl];have a:lo<=(lo+hi)/2/\(lo+hi)/2<hi:=by lia
    dsimp only;generalize (lo+hi)/2=m at a;have hm:=abc a.2 h3;have hg:xs.getD m j=xs.getD m 0:=by simp[hm]
    rw[hg];by_cases hc:xs.getD m 0<j
    .rw [abe hc];refine ih _ hi 0.1 a.2 h3 (λk hk=>?_) h5;rcases Nat.lt_or_eq_of_le (Nat.le_of_lt_succ hk)with q|q;.exact Nat.lt_trans (uh hs q hm 0 0) hc
     .grind
    .rw [abo hc];have hc:=aia hc;refine ih lo _ 0.1 a.1 (afY hm) h4 (λk hk WW=>?_);rcases Nat.lt_or_eq_of_le hk with q|q;.exact acw hc (afY (uh hs q WW 0 0))
     .rw [<-q];exact hc
   .rw [abo hl];have e:=Nat.le_antisymm h2 (aia hl);subst e;exact⟨h3,h4,h5⟩
def below_at(hs:D3 xs.toList)(j:Nat):SetTable.below xs j<=xs.size/\(∀k,k<SetTable.below xs j->xs.getD k 0<j)/\∀k,SetTable.below xs j<=k->k<xs.size->j<=xs.getD k 0:=
 PH hs j xs.size 0 xs.size 0.1 (afc _) 5.6 (λk hk=>by lia) λk h1 h2=>by lia
def zF(hs:D3 xs.toList)(hi:i<=xs.size)(h1:∀k,k<i->xs.getD k 0<j)(h2:∀k,i<=k->k<xs.size->j<=xs.getD k 0):SetTable.below xs j=i:=by
 obtain⟨a,b,c⟩:=below_at hs j
 rcases Nat.lt_trichotomy (SetTable.below xs j) i with h|h|h
 .grind
 .exact h
 .grind
def PJ(hs:D3 xs.toList)(h:xs[SetTable.below xs j]?≠ε j):j∉xs.toList:=by
 intro hm
 obtain⟨k,hk,e⟩:=agn hm
 have WW:k<xs.size:=by simpa using hk
 have ek:xs.getD k 0=j:=by simpa[WW]using e
 have:SetTable.below xs j=k:=zF hs (afY WW) (λi hi=>by rw[<-ek];exact uh hs hi WW 0 0) (λi h1 h2=>by
  by_cases Zj:k=i;.grind
  .have:=uh hs (show k<i by lia) h2 0 0;lia)
 rw[this]at h
 refine h ?_
 rw[aeV WW]
 simpa using e
def Uv{t:SetTable}(hs:D3 t.place.toList)(h:t.place[SetTable.below t.place j]?≠ε j):D3 (t.put j).1.place.toList:=by
 have hn:=PJ hs h
 obtain⟨a,b,c⟩:=below_at hs j
 show D3 (SetTable.insertAt t.place (SetTable.below t.place j) j).toList
 rw[SetTable.toList_insertAt]
 have xH:(t.place.toList.take (SetTable.below t.place j)++t.place.toList.drop (SetTable.below t.place j)).Pairwise (·<·):=by rw[List.take_append_drop];exact hs
 rw[List.pairwise_append]at xH
 refine List.pairwise_append.mpr ⟨xH.1,afB.mpr ⟨λ20=>?_,xH.2.1⟩,λx hx y hy=>?_⟩
 .obtain ⟨k,hk,e⟩:=agn hx;have WX:SetTable.below t.place j+k<t.place.size:=by grind
  have:=c (SetTable.below t.place j+k) 0.1 WX;have e2:t.place.getD (SetTable.below t.place j+k) 0=x:=by simpa[WX]using e
  have gT:x≠j:=λz=>hn (by rw[<-z];exact List.mem_of_mem_drop hx);lia
 .obtain ⟨k,hk,e⟩:=agn hx;have WX:k<SetTable.below t.place j:=by grind
  have hk3:k<t.place.size:=by lia
  have e2:t.place.getD k 0=x:=by simpa[hk3]using e
  rcases aa9.mp hy with z|z;.grind
  .grind
set_option tactic.hygienic true in
theorem sy:∀{fuel:Nat} {p:SetTable.Probe} {j:Nat} {dm:Option Nat},(∀d,p.dummy=ε d->t.place[SetTable.below t.place d]?≠ε d)->
  SetTable.probe.go t f h fuel p=ε (.empty j dm)->t.place[SetTable.below t.place (dm.getD j)]?≠ε (dm.getD j)
 |0,p,j,dm,_,e=>by cases e
 |fuel+1,p,j,dm,hd,e=>by
   have hdm:∀q:SetTable.Probe,(t.advance q).dummy=q.dummy:=λq=>by unfold SetTable.advance;split<;>rfl
   rw[SetTable.probe.go]at e;have nl:∀i,t.slot i=.empty\/t.slot i=.dummy->t.place[SetTable.below t.place i]?≠ε i:=by
    intro i hi z;unfold SetTable.slot at hi;dsimp only at hi;rw[z]at hi;simp at hi
   split at e
   .rename_i hs;cases e;cases hp:p.dummy with
    |none=>exact nl _ (.inl hs)
    |some d=>exact hd d hp
   .rename_i hs;refine sy (λd tW=>?_) e;rw[hdm]at tW;cases tW;exact nl _ (.inr hs)
   .split at e;.cases e
    .exact sy (λd tW=>hd d (by rw[hdm]at tW;exact tW)) e
def qU(n:Nat):D3 (Array.range n).toList:=by rw[Array.toList_range];exact List.pairwise_lt_range
def BF{t:SetTable}(h:D3 t.place.toList):D3 (t.orStandIn n).place.toList/\(t.orStandIn n).led=t.led:=by
 unfold SetTable.orStandIn
 split
 .grind
 .exact ⟨qU n,rfl⟩
set_option tactic.hygienic true in
def IS(hs:D3 t.place.toList):D3 (layNew t es h x).2.1.place.toList/\(layNew t es h x).2.1.led=t.led:=by
 unfold layNew
 split
 .rename_i slot wd e;unfold SetTable.freeSlot at e;split at e
  .rename_i j dm ep;cases e;have:=sy (t:=t) (λd z=>by cases z) ep;obtain⟨a,b⟩:=BF (n:=(SetTable.insertAt es (t.put (dm.getD j)).2 (h,x)).size) (Uv hs this);exact⟨a,b⟩
  .cases e
 .exact ⟨qU _,rfl⟩
set_option tactic.hygienic true in
theorem D4:D3 (relayAll t es n).2.1.place.toList/\(relayAll t es n).2.1.led=t.led:=by
 unfold relayAll
 split
 .rename_i t' order e;dsimp only;split
  .unfold SetTable.relaid SetTable.laid at e;obtain⟨owner,_,e2⟩:=Option.bind_eq_some_iff.mp e;cases e2;refine⟨?_,rfl⟩;refine List.pairwise_map.mpr (List.pairwise_filterMap.mpr ?_);refine List.pairwise_lt_range.imp λ{a b} hab x hx y hy=>?_;cases ea:owner.getD a ζ with
   |none=>rw[ea]at hx;cases hx
   |some u=>
     cases eb:owner.getD b ζ with
     |none=>rw[eb]at hy;cases hy
     |some v=>grind
  .exact ⟨qU _,rfl⟩
 .exact ⟨qU _,rfl⟩
end LS
namespace LS
open PySem PyProof.Rows
def iv:Value->Int
 |.int n _=>n
 |_=>0
theorem gz:∀{vs:cF} {ns:3.6},IntsAre vs ns↔(∀v∈vs,∃n t,v=.int n t)/\ns=vs.map iv
 |[],ns=>⟨λh=>by cases h;exact⟨λv hv=>by simp at hv,rfl⟩,λ⟨_,h⟩=>by subst h;exact .nil⟩
 |v::vs,ns=>⟨λh=>by
     cases h with
     |cons n t h=>
       obtain⟨h1,h2⟩:=gz.mp h;refine⟨λu hu=>?_,by rw[h2];rfl⟩;rcases aa9.mp hu with z|z;.grind
       .exact h1 u z,λ⟨h1,h2⟩=>by
     obtain⟨n,t,rfl⟩:=h1 v abd;subst h2;exact .cons n t (gz.mpr ⟨λu hu=>h1 u (aa8 _ hu),rfl⟩)⟩
def vO(h:IntsAre vs ns)(p:vs'.Perm vs):∃ui,IntsAre vs' ui/\ui.Perm ns:=by
 obtain⟨h1,h2⟩:=gz.mp h
 exact⟨vs'.map iv,gz.mpr ⟨λv hv=>h1 v (p.mem_iff.mp hv),rfl⟩,by rw[h2];exact p.map iv⟩
def pG(prog:4.6)(w:World)(h:Heap)(a:Addr)(led:Bool)(ns:3.6):Prop:=∃o es ep t,h.get? a=ε o/\o.ExactSet/\o.data=.set es ep t/\ElemsOf (intKind prog w) es.toList/\
 IntsAre (es.toList.map (·.2)) ns/\ns.Nodup/\es.size<scanBound/\t.fits es.size=η/\t.led=led/\D3 t.place.toList
section
variable {prog:4.6}{w:World}{A:Around}{E:eL}{s:Shared}{a:Addr}{led:Bool}{ns:3.6}
def pG.keeps(x:pG prog w h a led ns)(k:∀o,h.get? a=ε o->h'.get? a=ε o):pG prog w h' a led ns:=by
 obtain⟨o,es,ep,t,ho,r⟩:=x
 exact⟨o,es,ep,t,k o ho,r⟩
def Gf{h:Heap}(ho:h.get? a=ε o)(hex:o.ExactSet)(hd:o.data=.set es ep t) 
  (h1:ElemsOf (intKind prog w) FO.toList)(h2:IntsAre (FO.toList.map (·.2)) ui)(h3:ui.Nodup)(h4:FO.size<scanBound)(h5:t'.fits FO.size=η)(h6:t'.led=led)(h7:D3 t'.place.toList):
  (h.update a (Obj.putSet FO t')).get? a=ε {o with data:=.set FO (ep+1) t'}/\pG prog w (h.update a (Obj.putSet FO t')) a led ui:=by
 have hg:(h.update a (Obj.putSet FO t')).get? a=ε {o with data:=.set FO (ep+1) t'}:=by
  have q:=acx (Obj.putSet FO t') ho (by rw[putSet_of FO t' hd];rfl);rwa [putSet_of FO t' hd]at q
 exact⟨hg,_,FO,ep+1,t',hg,hex,rfl,h1,h2,h3,h4,h5,h6,h7⟩
def CP{g:Bool->Sem Unit}(hg:∀(b:Bool) (b8:Shared) (Q':Unit->Shared->Prop),Q' () b8->wpAny 0.7 A (g b) Q' E b8) 
  (ho:s.heap.get? a=ε o)(hex:o.ExactSet)(hd:o.data=.set es ep t)(h1:ElemsOf (intKind prog w) zG.toList)(h2:IntsAre (zG.toList.map (·.2)) ns1)(h3:ns1.Nodup)(h4:zG.size<scanBound)
  (h5:t2.fits zG.size=η)(h6:t2.led=led)(h7:D3 t2.place.toList) 
  (h:∀h' ui,Heap.SameBut a s.heap h'->pG prog w h' a led ui->ui.Perm ns1->R (ε η) 2.0):
  wpAny 0.7 A (do
    storeSet a zG t2
    if(!wd&&t2.tooFull)=η then do
        g (relayAll t2 zG 17.0).2.2
        storeSet a (relayAll t2 zG 17.0).1 (relayAll t2 zG 17.0).2.1
        pure (ε η)
     else pure (ε η)) R E s:=by
 refine aab (wpAny_storeSet_of ho hd ?_ (fits_of_scanBound h4))
 obtain⟨pL,S1⟩:=Gf (led:=led) ho hex hd h1 h2 h3 h4 h5 h6 h7
 have b1:=adK s.heap a (Obj.putSet zG t2)
 split
 .have hp:=relayAll_perm t2 zG 17.0;have hf:=relayAll_fits t2 zG 17.0;obtain⟨hr,hl⟩:=D4 (t:=t2) (es:=zG) (n:=SetTable.grown zG.size);generalize relayAll t2 zG 17.0=Z at hp hf hr hl ⊢;obtain⟨es2,t3,agG⟩:=Z;obtain⟨ns2,i2,p2⟩:=vO h2 (hp.map (·.2));have hz:es2.size=zG.size:=by rw[<-Array.length_toList,hp.length_eq,abf]
  have b2:es2.size<scanBound:=by rw[hz];exact h4
  refine aab (hg _ _ _ (aab (wpAny_storeSet_of pL rfl ?_ (fits_of_scanBound b2))));obtain⟨_,S2⟩:=Gf (led:=led) pL hex rfl (h1.perm hp) i2 (p2.nodup_iff.mpr h3) b2 hf (hl.trans h6) hr;exact aaR (h _ ns2 (b1.trans (adK _ a _)) S2 p2)
 .exact aaR (h _ ns1 b1 S1 (.refl _))
def Gg{es:List (Int×Value)}(h:IntsAre (es.map (·.2)) ns):i∈ns↔∃e∈es,Value.isInt i e.2=true:=by
 obtain⟨h1,h2⟩:=gz.mp h
 subst h2
 constructor
 .intro hm;obtain⟨v,hv,e⟩:=abt.mp hm;obtain⟨x,hx,rfl⟩:=abt.mp hv;obtain⟨n,t,q⟩:=h1 _ hv;cases e;exact⟨x,hx,by rw[q];simp[Value.isInt,iv]⟩
 .rintro ⟨e,he,q⟩;obtain⟨t,z⟩:=Value.isInt_shape q;exact abt.mpr ⟨e.2,abt.mpr ⟨e,he,rfl⟩,by rw[z];rfl⟩
theorem PK(hS:pG prog w s.heap a led ns)(room:ns.length+1<scanBound)
  (h:∀h' ui b,Heap.SameBut a s.heap h'->pG prog w h' a led ui->(∀k,k∈ui↔k∈ns\/k=i)->ui.length<=ns.length+1->Q b 2.0):
  wpAny 0.7 A (setAddHashed a (.int i tk) (hashInt i)) Q E s:=by
 obtain⟨o,es,ep,t,ho,hex,hd,h1,h2,h3,h4,h5,h6,h7⟩:=hS
 have hlen:ns.length=es.size:=by
  obtain⟨_,e⟩:=gz.mp h2;rw[e];simp
 have hk:(intKind prog w).is i (.int i tk)=true:=intKind_is prog w i tk
 have hsc:(Value.int i tk).scannable=true:=rfl
 unfold setAddHashed setAddHashedIn
 refine agj (aab (af9 ho hd h5 ?_))
 dsimp only
 rw[byScan_of hsc h4 h1]
 simp only[↓reduceIte]
 unfold setAddByScan
 refine aab (aab (ah7 (aab (wpAny_setScan_of (knd:=intKind prog w) (k:=i) hk ho hd h5 h1 ?_))))
 cases hf:List.findIdx? (λe=>(intKind prog w).is i e.2) es.toList with
 |some j=>
   obtain⟨hj,hpj,_⟩:=List.findIdx?_eq_some_iff_getElem.mp hf;have hm:=(Gg h2).mpr ⟨_,agz hj,hpj⟩;refine aaR (aaR ?_);have q:=h s.heap ns θ (Heap.SameBut.refl a s.heap) ⟨o,es,ep,t,ho,hex,hd,h1,h2,h3,h4,h5,h6,h7⟩ (λk=>⟨.inl,λz=>z.elim id λe=>e ▸ hm⟩) (ahv _);exact q
 |none=>
   have hn:i∉ns:=λhm=>by
    obtain⟨e,he,q⟩:=(Gg h2).mp hm;have z:=List.findIdx?_eq_none_iff.mp hf e he;rw[show(intKind prog w).is i e.2=η from q]at z;cases z
   have gw:∀(b:Bool) {b8:Shared} {Q':Unit->Shared->Prop},Q' () b8->wpAny 0.7 A (match b with|true=>rule "set.scan.the-table-gave-way" |false=>pure ()) Q' E b8:=
    λb b8 Q' hq=>by cases b<;>first|exact aaR hq|exact ah7 hq
   have hp:=layNew_perm t es (hashInt i) (.int i tk);have hft:=layNew_fits t es (hashInt i) (.int i tk);obtain⟨hr,hl⟩:=IS (t:=t) (es:=es) (h:=hashInt i) (x:=.int i tk) h7;generalize layNew t es (hashInt i) (.int i tk)=Z at hp hft hr hl ⊢;obtain⟨zG,t1,wd,agG⟩:=Z;dsimp only at hp hft hr hl ⊢;rw[ahF]at hp;have e1:=(h1.push hk hsc).perm hp;have i0:IntsAre ((es.toList++[(hashInt i,Value.int i tk)]).map (·.2)) (ns++[i]):=by
    obtain⟨x1,x2⟩:=gz.mp h2;refine gz.mpr ⟨λv hv=>?_,by rw[x2];simp[iv]⟩;rw[adf]at hv;rcases abg.mp hv with z|z;.exact x1 v z
    .grind
   obtain⟨ns1,i1,p1⟩:=vO i0 (hp.map (·.2));have nd:ns1.Nodup:=p1.nodup_iff.mpr (by
    rw[List.nodup_append];exact⟨h3,by simp,λx hx y hy=>by simp at hy;rw[hy];exact λz=>hn (z ▸ hx)⟩);have hz:zG.size=es.size+1:=by rw[<-Array.length_toList,hp.length_eq,abm,abf];rfl
   have b1:zG.size<scanBound:=by lia
   have fin:∀h' ui,Heap.SameBut a s.heap h'->pG prog w h' a led ui->ui.Perm ns1->Q η 2.0:=λh' ui sb S p=>by
    refine h h' ui η sb S (λk=>?_) ?_;.grind
    .rw [p.length_eq,p1.length_eq];simp
   refine aab (gw _ ?_);split
   .rw [hashByValue_scannable 8 hsc];refine CP (led:=led) ?_ ho hex hd e1 i1 nd b1 ?_ ?_ ?_ λh' ui sb S p=>?_;.intro b b8 Q' hq;cases b<;>first|exact aaR hq|exact ah7 hq
    .split;.lia
     .exact SetTable.fits_plain_off hft
    .grind
    .split<;>exact hr
    .exact aaR (fin h' ui sb S p)
   .refine aab (aaR ?_);refine CP (led:=led) ?_ ho hex hd e1 i1 nd b1 hft (hl.trans h6) hr λh' ui sb S p=>?_;.intro b b8 Q' hq;cases b<;>first|exact aaR hq|exact ah7 hq
    .exact aaR (fin h' ui sb S p)
end
end LS
namespace LS
open PySem PySem.Spec PyProof.Rows
section
variable {prog:4.6}{w:World}{A:Around}{E:eL}{s:Shared}
noncomputable abbrev uj(w:World):Bool:= !w.params.followText "set-order"
abbrev jM(w:World):Obj:={cls:=.type "set",dict:=ζ,data:=.set #[] 0 (.fresh 0 0 (uj w))}
def M5(e:h.get? a=ε (jM w)):pG prog w h a (uj w) []:=
 ⟨_,#[],0,_,e,⟨rfl,rfl,rfl⟩,rfl,λ20=>by simp at hx,.nil,.nil,by decide,rfl,rfl,List.Pairwise.nil⟩
def Uw(a:Value)(h:Q₁ 2.6 {s with heap:=s.heap.push (jM w)}):
  codeAny 0.7 A (.call (.builtin "set.__new__") ⟨[.type "set",a],[]⟩) (wants Q₁ E) s:=by
 refine codeAny_of_tree ?_
 show wpAny _ A.in1 (checkBuiltinCall "set.__new__" ⟨[.type "set",a],[]⟩ >>= λ_=>again (.builtin "set.__new__" ⟨[.type "set",a],[]⟩)) _ _ s
 refine aab (ail (PySem.F.newCall_set_1 a) (aaR ⟨aij PySem.F.plain_set_new _,afu PySem.F.entry_set_new ?_⟩))
 rw[agR PySem.F.plain_set_new _]
 unfold Builtin.«set.__new__» Builtin.Frozenset.newClass
 have D0:=sub_set_self
 obtain⟨hp,g,d,tk,os⟩:=s
 dsimp only
 wp_walk
 refine agB (aaR ?_)
 dsimp only
 simp only[newObj]
 exact aab (wpAny_alloc (aaR (aaR h)))
end
section
variable {prog:4.6}{w:World}{A:Around}{R:Result->Shared->Prop}{I:Addr}{fp wr:4.0}{G:Array GenState->Array GenState->Prop}{n:Nat}{P:Nat->Value->Prop}{St:Nat->Shared->Prop}{led:Bool}
theorem PL(W:WalksS prog w A.in1 I fp wr G n P St)(S:Addr)(Zv:S∉fp)(val:Nat->Int)(IT:∀i v,P i v->∃t,v=.int (val i) t)(hb:n+1<scanBound):
  ∀(k i:Nat) (s:Shared) (ns:3.6),n-i=k->i<=n->St i s->pG prog w s.heap S led ns->ns.length<=i->(∀x,x∈ns↔∃j,j<i/\val j=x)->
    (∀s' ui,Moved (S::wr) G s s'->pG prog w s'.heap S led ui->ui.length<=n->(∀x,x∈ui↔∃j,j<n/\val j=x)->R (.ok (.ret .none)) s')->
    codeAny 0.7 A (.builtin "set.update.loop" ⟨[.ref S,.ref I],[]⟩) R s:=by
 have hSw:=λh=>Zv (W.sub _ h)
 have D0:∀b∈wr,b∈S::wr:=λ10=>aa8 _ hb
 intro k
 induction k with
 |zero=>
   intro i s ns hk hi st hS hl hm hR;have hin:i=n:=by lia
   subst hin;refine afu ag3 ?_;refine aab (W.done s _ _ st λs' mv=>?_);exact aaR (hR s' ns (mv.mono D0) (hS.keeps λo e=>mv.heap S o hSw e) hl hm)
 |succ k ih=>
   intro i s ns hk hi st hS hl hm hR;have lR:i<n:=by lia
   refine afu ag3 ?_;rw[agR ag5 _];refine aab (W.item i s _ _ lR st λv s' hP yI mv=>?_);obtain⟨t,rfl⟩:=IT i v hP;have hS':=hS.keeps λo e=>mv.heap S o hSw e;show wpAny _ A.in1 (holding [Value.int (val i) t] (setAdd S (.int (val i) t)) >>= _) _ _ s';refine aab (agj ?_);unfold setAdd;refine agj (aab ((intKind prog w).pyHash (k:=val i) (intKind_is _ _ _ _) ?_));refine PK (s:={s' with toks:=s'.toks+1}) hS' 0.1 λh' ui b sb S2 Zw MN=>?_;refine aaR ⟨aij ag5 _,ih (i+1) _ ui 0.1 lR (W.frame _ s' _ _ yI (ahv _) λb hb o e=>?_) S2 0.1 (λx=>?_) λs'' agJ agK S3 l3 m3=>?_⟩;.rw [sb.2 b (λz:b=S=>Zv (by rw[<-z];exact hb))];exact e
   .grind
   .refine hR s'' agJ (Moved.trans W.gtrans ((mv.mono D0).then_heap (ahv _) λ9=>?_) agK) S3 l3 m3;rw[sb.2 b (λz:b=S=>hb (by rw[z];exact abd))];exact e
end
section
variable {prog:4.6}{w:World}{A:Around}{E:eL}{s:Shared}
structure IU(prog:4.6)(w:World)(h:Heap)(r:Addr)(items:17.4)(T:String)(oI:Obj)(St:Addr->Nat->Heap->Prop):Prop where
 ty:∃o,h.get? r=ε o/\o.cls=.type T
 Zx:isSubtype 20.5 (.type "set")=pure θ
 Zy:isSubtype 20.5 (.type "frozenset")=pure θ
 nd:(Value.type T==Value.type "dict")=θ
 iter:∀(A':Around) (s':Shared) (Q:eL) (E:eL),(∀o,h.get? r=ε o->s'.heap.get? r=ε o)->Q (.ref s'.heap.objs.size) {s' with heap:=s'.heap.push oI}->wpAny 0.7 A' (pyIter (.ref r)) Q E s'
 walk:∀(A':Around) (I:Addr),A'.handled=ζ->r≠I->Walks prog w A' I [I,r] [I] items.size (λi v=>items[i]?=ε v) (St I)
 st:∀h':Heap,(∀o,h.get? r=ε o->h'.get? r=ε o)->St h'.objs.size 0 (h'.push oI)
def src_list(hl:h.IsList l items):IU prog w h l items "list" {cls:=.type "list_iterator",data:=.fields #[.ref l,.int 0 0]} (λI i h=>h.IsListIter I l i/\h.IsList l items) where
 ty:=let⟨o,e,c,_⟩:=hl;⟨o,e,c⟩
 Zx:=PySem.F.sub_list_set
 Zy:=PySem.F.sub_list_frozenset
 nd:=by decide
 iter:=λA' s' Q E k q=>wpAny_pyIter_list (hl.at k) q
 walk:=λA' I hh gT=>Walks.list hh I l gT items
 st:=λh' k=>⟨⟨_,aaS _ rfl,rfl,rfl⟩,(hl.at k).push _⟩
def src_tuple(hl:h.IsTuple l items):IU prog w h l items "tuple" 1.6 (λI i h=>h.IsTupleIter I l i/\h.IsTuple l items) where
 ty:=let⟨o,e,c,_⟩:=hl;⟨o,e,c⟩
 Zx:=by rw[ahH];kernel_rfl
 Zy:=by rw[ahH];kernel_rfl
 nd:=by decide
 iter:=λA' s' Q E k q=>wpAny_pyIter_tuple (hl.at k) q
 walk:=λA' I hh gT=>Walks.tuple hh I l gT items
 st:=λh' k=>⟨⟨_,aaS _ rfl,rfl,rfl⟩,(hl.at k).push _⟩
set_option maxHeartbeats 3200000 in
theorem Gh{r:Addr}{items:17.4}{ms:3.6}{T:String}{oI:Obj}{St:Addr->Nat->Heap->Prop}{Q:eL}(hh:21.1)(src:IU prog w s.heap r items T oI St)(hi:IntsAre items.toList ms)(hb:items.size+1<scanBound)
  (h:∀(h':Heap) (tk:Nat) (ns:3.6),pG prog w h' s.heap.objs.size (uj w) ns->(∀x,x∈ns↔x∈ms)->ns.length<=ms.length->(∀b o,s.heap.get? b=ε o->h'.get? b=ε o)->Q 2.6 11.0):
  wpAny 0.7 A (call (.type "set") [.ref r]) Q E s:=by
 obtain⟨c,tl,akf⟩:=afm.mro
 have aiS:=afm.made
 have D0:=afm.sub
 refine wpAny_call (codeAny_of_tree ?_)
 show wpAny _ _ (callAny (.type "set") _) _ _ _
 refine aaR ⟨Code.quiet_builtin _ ⋯,afu PySem.F.entry_type_call ?_⟩
 rw[Around.under_plain (weight_type_call_type "set" [.ref r] []) rfl]
 have h1:=afm.notType
 have h2:=afm.canCreate
 have hct:=PySem.F.typeCall_set_1 (.ref r)
 repeat(any_goals (first|assumption|wp_step))
 refine afD (Uw (.ref r) (E:=E) (Q₁:=λobj b8=>obj=.ref s.heap.objs.size/\b8={s with heap:=s.heap.push (jM w)}) ⟨rfl,rfl⟩) λq b8 hq=>?_
 cases q with
 |error e=>exact hq
 |ok fl=>
   cases fl with
   |ret obj=>
     obtain⟨rfl,rfl⟩:=hq;have hS:(s.heap.push (jM w)).get? s.heap.objs.size=ε (jM w):=aaS _ rfl;have hT:Shared.TypeIs {s with heap:=s.heap.push (jM w)} 2.6 "set":=⟨_,hS,rfl⟩;have hli:=afm.init.lookup;have hbi:=afm.init.bind 2.6;repeat(any_goals (first|assumption|wp_step))
     refine afD (aga (R:=wants (λv pE=>v=.none/\∃h' tk ns,pE=11.0/\pG prog w h' s.heap.objs.size (uj w) ns/\(∀x,x∈ns↔x∈ms)/\ns.length<=ms.length/\∀b o,s.heap.get? b=ε o->h'.get? b=ε o) E)
      afm.init.plain PySem.F.entry_set_init (check_set_init_1 hT ?_)) λagL pE PM=>?_
     .obtain ⟨agM,WY,BG⟩:=src.ty;obtain⟨akg,ady,adz,Zz⟩:=agM;simp only at BG;subst BG;have akh:(s.heap.push (jM w)).get? r=ε {cls:=.type T,dict:=ady,data:=adz,slots:=Zz}:=aao _ WY;have SX:=src.Zx;have yJ:=src.Zy;have gT:=src.nd;unfold Builtin.«set.__init__» noKeywords Builtin.Frozenset.updateFrom;generalize hPI:pyIter=PI;wp_walk;subst hPI;refine src.iter _ _ _ _ (λo e=>aao _ e) ?_;refine aab (wpAny_runValue ?_);have hrS:r<s.heap.objs.size:=aba WY;have hh3:A.in1.in1.in1.handled=none:=by simp[hh]
      have hz:(s.heap.push (jM w)).objs.size=s.heap.objs.size+1:=aeI _ _;have agN:r≠(s.heap.push (jM w)).objs.size:=by rw[hz];exact abn (agb hrS)
      have Zv:s.heap.objs.size∉[(s.heap.push (jM w)).objs.size,r]:=by
       rw[hz];simp only[aa9,agW,or_false,not_or];exact⟨abn (afn _),agD hrS⟩
      have IT:∀(i:Nat) (v:Value),items[i]?=ε v->∃t,v=.int ((λi=>ms.getD i 0) i) t:=λi v hv=>IntsAre.int_at hi i v (by rw[Array.getElem?_toList];exact hv);have hlen:ms.length=items.size:=by have:=(gz.mp hi).2;rw[this];simp
      refine PL ((src.walk _ _ hh3 agN).toS) s.heap.objs.size Zv (λi=>ms.getD i 0) IT hb (items.size-0) 0 _ [] 0.1 (afc _) (src.st _ λo e=>aao _ e) (M5 (aao _ hS)) 5.6 (λx=>by simp) ?_;intro s' ui mv S' l' m';obtain⟨h',g',d',tk',os'⟩:=s';have eg:g'=s.gens:=mv.gens;have ed:d'=s.drawn:=mv.drawn;have eo:os'=s.os:=mv.os;subst eg ed eo;show wpAny _ _ _ _ _ _;refine aaR ?_;show wpAny _ _ (ret Value.none) _ _ _;refine aaR ⟨rfl,h',tk',ui,rfl,S',λx=>?_,by lia,λ14=>?_⟩
      .rw [m',<-hlen];constructor
       .rintro ⟨j,hj,e⟩;rw[acI,abh hj]at e;rw[<-e];exact agz hj
       .intro hx;obtain⟨j,hj,e⟩:=agn hx;exact⟨j,hj,by rw[acI,abh hj];exact e⟩
      .have hb0:=aba e;refine mv.heap b o ?_ (aao _ (aao _ e));rw[hz];simp only[aa9,agW,or_false,not_or];exact⟨abn hb0,abn (agb hb0)⟩
     .cases agL with
      |error e=>exact PM
      |ok adB=>
        cases adB with
        |ret v=>
          obtain⟨rfl,h',tk,ns,rfl,S',m',l',k'⟩:=PM;repeat(any_goals (first|assumption|wp_step))
          exact h _ _ ns S' m' l' k'
        |_=>exact PM.elim
   |_=>exact hq.elim
end
end LS
namespace LS
open PySem PyProof.Rows
set_option maxRecDepth 100000
def cJ:Slot "set_iterator" "__next__" "set_iterator.__next__":=
 .of (owner:="set_iterator") (n:="__next__") (by rw[typeLookup_type,builtinLookup_eq_fast];kernel_rfl) ⋯ ⋯ ⋯ (by first|exact .inl ⋯|exact .inr ⋯) (by rw[ahH];kernel_rfl)
def uk:Slot "set_iterator" "__iter__" "set_iterator.__iter__":=
 .of (owner:="set_iterator") (n:="__iter__") (by rw[typeLookup_type,builtinLookup_eq_fast];kernel_rfl) ⋯ ⋯ ⋯ (by first|exact .inl ⋯|exact .inr ⋯) (by rw[ahH];kernel_rfl)
def jN:entryFor table "set_iterator.__next__"=ε Builtin.«set_iterator.__next__»:=entryFor_of_tree 0.3
def BH:entryFor table "set_iterator.__iter__"=ε Builtin.«dict_keyiterator.__iter__»:=
 entryFor_alias (id':="dict_keyiterator.__iter__") 0.3 (by first|rfl|decide +kernel|(unfold String.splitOn;simp +decide[String.splitOnAux])) ⋯ 0.3
def zH:entryFor table "set.__iter__"=ε Builtin.«frozenset.__iter__»:=
 entryFor_alias (id':="frozenset.__iter__") 0.3 (by first|rfl|decide +kernel|(unfold String.splitOn;simp +decide[String.splitOnAux])) ⋯ 0.3
def Gi:Manifest.owners.lookup (String.ofList ['r','o','t','a','r','e','t','i','_','t','e','s'].reverse)=ε Manifest.sig_set_iterator:=by kernel_rfl
def kE(a:Value):argsOk "set_iterator.__next__" ⟨[a],[]⟩:=by
 unfold argsOk;rw[signature?_of (id:="set_iterator.__next__") (n:=['_','_','t','x','e','n','_','_']) (o:=['r','o','t','a','r','e','t','i','_','t','e','s']) 0.3 Gi];kernel_rfl
def D5(a:Value):argsOk "set_iterator.__iter__" ⟨[a],[]⟩:=by
 unfold argsOk;rw[signature?_of (id:="set_iterator.__iter__") (n:=['_','_','r','e','t','i','_','_']) (o:=['r','o','t','a','r','e','t','i','_','t','e','s']) 0.3 Gi];kernel_rfl
def nJ(h:Heap)(it a:Addr)(first:Value)(i n ep:Nat):Prop:=∃o,h.get? it=ε o/\o.cls=.type "set_iterator"/\o.data=.fields #[first,.int i 0,.ref a,.int n 0,.int ep 0]
section
variable {prog:4.6}{w:World}{A:Around}{E:eL}{s:Shared}{it a:Addr}{first:Value}{i n ep:Nat}
def nJ.at(x:nJ h it a first i n ep)(k:∀o,h.get? it=ε o->h'.get? it=ε o):nJ h' it a first i n ep:=let⟨o,e,r⟩:=x;⟨o,k o e,r⟩
def nJ.typeIs(x:nJ s.heap it a first i n ep):s.TypeIs 14.3 "set_iterator":=let⟨o,e,c,_⟩:=x;⟨o,e,c⟩
def ju(h:Heap)(a:Addr)(es:Array (Int×Value))(ep:Nat)(t:SetTable):Prop:=∃o,h.get? a=ε o/\o.ExactSet/\o.data=.set es ep t
def ju.at(x:ju h a es ep t)(k:∀o,h.get? a=ε o->h'.get? a=ε o):ju h' a es ep t:=let⟨o,e,r⟩:=x;⟨o,k o e,r⟩
def D6(hit:nJ s.heap it a first i n ep)(h:Q 14.3 s):wpAny 0.7 A (pyIter 14.3) Q E s:=by
 refine wpAny_pyIter_slot hit.typeIs uk (aeL uk hit.typeIs BH ?_ (D5 _))
 exact aaR ⟨_,rfl,"set_iterator",_,hit.typeIs,cJ.lookup,h⟩
variable {es:Array (Int×Value)}{t:SetTable}{slot:Nat}
def K7(hit:nJ s.heap it a (.int slot 0) i n ep)(hS:21.2)(hf:13.7)(hn:es.size=n)
  (hx:∀(A':Around) (Q':Option (Value×Nat)->Shared->Prop) (E':eL),Q' (ε (x,next)) s->wpAny 0.7 A' (setNext a slot i ep) Q' E' s)
  (hQ:∀h',nJ h' it a (.int next 0) (i+1) n ep->Heap.SameBut it s.heap h'->Q (ε x) 2.0):wpAny 0.7 A (pyNext 14.3) Q E s:=by
 obtain⟨o,ho,hc,hd⟩:=id hit
 obtain⟨os,WZ,hex,W0⟩:=id hS
 refine aab (agE (adC (name:=Str.ofString "__next__") hit.typeIs cJ (aeL cJ hit.typeIs jN ?_ (kE _))))
 refine aab (aaR ?_)
 refine aab (aiD ho hd ?_)
 dsimp only
 refine aab (agp WZ W0 hf ?_)
 rw[abo (by rw[hn];simp)]
 refine aab ?_
 refine hx _ _ _ ?_
 refine aab (ae5 ho hd 0.2 ?_)
 have e1:=acx (Obj.mapFields (·.setIfInBounds 0 (rawInt next))) ho (ad9 (abF hd _))
 have d1:=abF hd (·.setIfInBounds 0 (rawInt next))
 refine aab (ae5 e1 d1 0.2 ?_)
 refine aaR ⟨x,rfl,aaR (hQ _ ?_ ((adK ..).trans (adK ..)))⟩
 refine⟨_,acx _ e1 (ad9 (abF d1 _)),?_,?_⟩
 .rw [agF,agF];exact hc
 .rw [abF d1];simp[rawInt]
def PN(hh:21.1)(hit:nJ s.heap it a (.int slot 0) i n ep)(hS:21.2)(hf:13.7)(hn:es.size=n)
  (hx:∀(A':Around) (Q':Option (Value×Nat)->Shared->Prop) (E':eL),Q' ζ s->wpAny 0.7 A' (setNext a slot i ep) Q' E' s)
  (hQ:∀h',Heap.ExtBut it s.heap h'->Q ζ 2.0):wpAny 0.7 A (pyNext 14.3) Q E s:=by
 obtain⟨o,ho,hc,hd⟩:=id hit
 obtain⟨os,WZ,hex,W0⟩:=id hS
 refine aab (agE (adC (name:=Str.ofString "__next__") hit.typeIs cJ (aeL cJ hit.typeIs jN ?_ (kE _))))
 refine aab (aaR ?_)
 refine aab (aiD ho hd ?_)
 dsimp only
 refine aab (agp WZ W0 hf ?_)
 rw[abo (by rw[hn];simp)]
 refine aab ?_
 simp only[adU]
 refine hx _ _ _ ?_
 refine aab (ae5 ho hd 0.2 ?_)
 refine aab ?_
 refine aab (m:=firstArgMember _ _) (ail (a:=Value.none) (by first|rfl|(simp only[firstArgMember];rfl)) ?_)
 refine afj ?_ (by size_fits)
 refine aab (wpAny_handled ?_)
 first|rw[show A.in1.handled=ζ from hh]|rw[hh]
 refine aab (aaR (aiT ?_))
 refine aab (aif (T:="StopIteration") (b:=η) ⟨_,aaS _ rfl,rfl⟩ isSubtype_stop ?_)
 exact aaR (hQ _ (((adK ..).extBut.push _).push _))
def PQ{pl:Nat}(hit:nJ s.heap it a (.ref tp) i n ep)(ht:s.heap.IsTuple tp ps)(hS:21.2)(hf:13.7)(hn:es.size=n)
  (hp:ps[i]?=ε (.int pl 0))(hx:es[pl]?=ε (hsh,x))
  (hQ:∀h',nJ h' it a (.ref tp) (i+1) n ep->Heap.SameBut it s.heap h'->Q (ε x) 2.0):wpAny 0.7 A (pyNext 14.3) Q E s:=by
 obtain⟨o,ho,hc,hd⟩:=id hit
 obtain⟨os,WZ,hex,W0⟩:=id hS
 obtain⟨ot,hot,_,nt,hdt⟩:=ht
 refine aab (agE (adC (name:=Str.ofString "__next__") hit.typeIs cJ (aeL cJ hit.typeIs jN ?_ (kE _))))
 refine aab (aaR ?_)
 refine aab (aiD ho hd ?_)
 refine aab (agp WZ W0 hf ?_)
 rw[abo (by rw[hn];simp)]
 refine aab (aiB hot hdt ?_)
 simp only[adU,hp]
 refine aab ?_
 refine aab (af9 WZ W0 hf ?_)
 dsimp only
 rw[abo 0.2]
 simp only[hx]
 refine aaR ?_
 refine aab (ae5 ho hd 0.2 ?_)
 refine aaR ⟨x,rfl,aaR (hQ _ ?_ (adK ..))⟩
 refine⟨_,acx _ ho (ad9 (abF hd _)),?_,?_⟩
 .rw [agF];exact hc
 .rw [abF hd];simp[rawInt]
def Ux(hh:21.1)(hit:nJ s.heap it a (.ref tp) i n ep)(ht:s.heap.IsTuple tp ps)(hS:21.2)(hf:13.7)(hn:es.size=n)
  (hp:ps[i]?=ζ)(hQ:∀h',Heap.ExtBut it s.heap h'->Q ζ 2.0):wpAny 0.7 A (pyNext 14.3) Q E s:=by
 obtain⟨o,ho,hc,hd⟩:=id hit
 obtain⟨os,WZ,hex,W0⟩:=id hS
 obtain⟨ot,hot,_,nt,hdt⟩:=ht
 refine aab (agE (adC (name:=Str.ofString "__next__") hit.typeIs cJ (aeL cJ hit.typeIs jN ?_ (kE _))))
 unfold Builtin.«set_iterator.__next__»
 refine aab (aaR ?_)
 dsimp only
 refine aab (aiD ho hd ?_)
 dsimp only
 refine aab (agp WZ W0 hf ?_)
 rw[abo (by rw[hn];simp)]
 refine aab (aiB hot hdt ?_)
 dsimp only
 simp only[adU,hp]
 refine aab (ae5 ho hd 0.2 ?_)
 have e1:=acx (Obj.mapFields (·.setIfInBounds 0 (rawInt 0))) ho (ad9 (abF hd _))
 have d1:=abF hd (·.setIfInBounds 0 (rawInt 0))
 refine aab (ae5 e1 d1 0.2 ?_)
 refine aab ?_
 simp only[newExc]
 refine aab (m:=firstArgMember _ _) (ail (a:=Value.none) (by first|rfl|(simp only[firstArgMember];rfl)) ?_)
 refine afj ?_ (by size_fits)
 refine aab (wpAny_handled ?_)
 first|rw[show A.in1.handled=ζ from hh]|rw[hh]
 refine aab (aaR (aiT ?_))
 refine aab (aif (T:="StopIteration") (b:=η) ⟨_,aaS _ rfl,rfl⟩ isSubtype_stop ?_)
 exact aaR (hQ _ ((((adK ..).trans (adK ..)).extBut.push _).push _))
def zJ(hS:21.2)(hf:13.7)(hw:w.params.followText "set-order"=θ)(hl:t.led=η)(hp:20.2=θ) 
  (h:Q (match es[SetTable.below t.place slot]?,t.place[SetTable.below t.place slot]? with|some (_,x),ε j=>ε (x,j+1)|_,_=>ζ) s):wpAny 0.7 A (setNext a slot i ep) Q E s:=by
 obtain⟨o,ho,_,hd⟩:=hS
 refine aab (af9 ho hd hf ?_)
 refine aab ?_
 refine aab (agB (aaR ?_))
 show wpAny _ _ (if w.params.followText "set-order"=η then _ else _) _ _ _
 rw[hw,abo abj]
 show wpAny _ _ (if 20.2=η then _ else _) _ _ _
 rw[hp,abo abj]
 refine aab ?_
 show wpAny _ _ (if(!t.led&&!es.isEmpty)=η then _ else _) _ _ _
 rw[hl,abo 0.2]
 exact aaR (aaR h)
def CQ(hS:21.2)(hf:13.7)(hw:w.params.followText "set-order"=η) 
  (h:Q (((pickOrder 13.8 es)[i]?).map λe=>(e.2,slot)) s):wpAny 0.7 A (setNext a slot i ep) Q E s:=by
 obtain⟨o,ho,_,hd⟩:=hS
 refine aab (af9 ho hd hf ?_)
 refine aab ?_
 refine aab (agB (aaR ?_))
 show wpAny _ _ (if w.params.followText "set-order"=η then _ else _) _ _ _
 rw[hw,abe rfl]
 rw[abo 0.2]
 refine aab ?_
 refine aab (af9 ho hd hf ?_)
 refine aab ?_
 refine aab (agB (aaR ?_))
 show wpAny _ _ (if w.params.followText "set-order"=η then _ else _) _ _ _
 rw[hw,abe rfl]
 exact aab (agB (aaR (aaR h)))
end
end LS
namespace LS
open PySem PySem.Spec PyProof.Rows
theorem sA{α:Type}:∀{l:List α} {i:Nat} (h:i<l.length),(l[i]::l.eraseIdx i).Perm l
 |x::l,0,_=>by simp
 |x::l,i+1,h=>by
   have h':i<l.length:=by simpa using h
   have:=sA h';exact(List.Perm.swap _ _ _).trans (List.Perm.cons _ this)
theorem K8(next:Nat->Nat):∀(fuel k:Nat) (left:List α) (out:Array α),left.length=fuel->(pickOrder.go next fuel k left out).toList.Perm (out.toList++left)
 |0,k,left,out,h=>by
   have:left=[]:=agC.mp h;subst this;rw[pickOrder.go,abE]
 |fuel+1,k,left,out,h=>by
   rw[pickOrder.go];have hl:next k%left.length<left.length:=acJ _ 0.1;rw[abh hl];refine(K8 next fuel (k+1) _ _ (by rw[List.length_eraseIdx_of_lt hl];lia)).trans ?_;rw[ahF,ac2];exact List.Perm.append_left _ (sA hl)
def M6(next:Nat->Nat)(xs:Array α):(pickOrder next xs).toList.Perm xs.toList:=by
 have:=K8 next xs.size 0 xs.toList #[] 0.2
 simpa[pickOrder]using this
section
variable {prog:4.6}{w:World}{A:Around}{E:eL}{s:Shared}{a:Addr}{i n ep:Nat}{es:Array (Int×Value)}{t:SetTable}
def IV(hn:n≠0)(h:∀i d',i<n->Q i {s with drawn:=d'}):wpAny M A (choose src n) Q E s:=
 λ18=>⟨hn,h _ _ (acJ _ (Nat.pos_of_ne_zero hn))⟩
theorem zK:∀(n:Nat) (xs:List α) (s:Shared) (Q:List α->Shared->Prop),xs.length=n->(∀ys d',ys.Perm xs->Q ys {s with drawn:=d'})->wpAny M A (drawOrder n xs) Q E s
 |0,xs,s,Q,hl,h=>by
   have e:=agC.mp hl;subst e;exact aaR (h [] s.drawn (.refl _))
 |n+1,[],s,Q,hl,h=>by cases hl
 |n+1,x::xs,s,Q,hl,h=>by
   rw[drawOrder];rotate_left;.grind
   refine aab (IV 0.2 λi d' hi=>?_);rw[abh hi];refine aab (zK n _ _ _ (by rw[List.length_eraseIdx_of_lt hi];lia) λys d2 hp=>aaR ?_);refine h _ d2 ?_;exact(List.Perm.cons _ hp).trans (sA hi)
def M7(hf:13.7)(hw:w.params.followText "set-order"=η)(gT:a≠I)(hh:21.1):
  Walks prog w A I [I,a] [I] (pickOrder 13.8 es).size (λi v=>((pickOrder 13.8 es).toList.map (·.2))[i]?=ε v) (λi h=>nJ h I a (.int (0:Nat) 0) i es.size ep/\ju h a es ep t) where
 sub:=λ10=>by simp at hb;simp[hb]
 frame:=λ_ _ _ st hk=>⟨st.1.at λo e=>hk I 0.2 o e,st.2.at λo e=>hk a 0.2 o e⟩
 item:=λi s Q E hi st hQ=>by
  refine K7 (x:=((pickOrder 13.8 es)[i]).2) (next:=0) st.1 st.2 hf rfl (λA' Q' E' q=>CQ st.2 hf hw (by rw[aeV hi];exact q)) λh' Ge xH=>?_;exact hQ _ h' s.toks (by simp[hi]) ⟨Ge,st.2.at λo e=>xH.extBut a o gT e⟩ λ9=>xH.extBut b o (λh=>hb (by simp[h])) e
 done:=λs Q E st hQ=>PN hh st.1 st.2 hf rfl (λA' Q' E' q=>CQ st.2 hf hw (by rw[ahI 0.2];exact q)) λh' he'=>hQ h' s.toks λ9=>he' b o (λh=>hb (by simp[h])) e
 self:=λ_ _ _ _ st hQ=>D6 st.1 hQ
def IW(hf:13.7)(hw:w.params.followText "set-order"=θ)(hl:t.led=η)(hp:20.2=θ)(hr:D3 t.place.toList)(gT:a≠I)(hh:21.1):
  Walks prog w A I [I,a] [I] es.size (λi v=>(es.toList.map (·.2))[i]?=ε v)
   (λi h=>∃slot:Nat,nJ h I a (.int slot 0) i es.size ep/\ju h a es ep t/\(∀k,k<i->t.place.getD k 0<slot)/\∀k,i<=k->k<t.place.size->slot<=t.place.getD k 0) where
 sub:=λ10=>by simp at hb;simp[hb]
 frame:=λ_ _ _ ⟨slot,ZA,rH,SU⟩ hk=>⟨slot,ZA.at λo e=>hk I 0.2 o e,rH.at λo e=>hk a 0.2 o e,SU⟩
 item:=λi s Q E hi ⟨slot,ZA,rH,SU,st4⟩ hQ=>by
  have hz:t.place.size=es.size:=by simp only[SetTable.fits,abi,afq]at hf;exact hf.1
  have hb:=zF hr 0.1 SU st4;have jL:t.place[i]?=ε (t.place.getD i 0):=by rw[aeV 0.1];simp[hz,hi]
  refine K7 (x:=es[i].2) (next:=t.place.getD i 0+1) ZA rH hf rfl (λA' Q' E' q=>zJ rH hf hw hl hp (by rw[hb,aeV hi,jL];exact q)) λh' Ge xH=>?_;refine hQ _ h' s.toks (by simp[hi]) ⟨_,Ge,rH.at λo e=>xH.extBut a o gT e,λk hk=>?_,λk h1 h2=>?_⟩ λ9=>xH.extBut b o (λh=>hb (by simp[h])) e;.grind
  .have:=uh hr (show i<k by lia) h2 0 0;lia
 done:=λs Q E ⟨slot,ZA,rH,SU,st4⟩ hQ=>by
  have hz:t.place.size=es.size:=by simp only[SetTable.fits,abi,afq]at hf;exact hf.1
  have hb:=zF hr 0.1 SU st4;exact PN hh ZA rH hf rfl (λA' Q' E' q=>zJ rH hf hw hl hp (by rw[hb,ahI 5.6];exact q)) λh' he'=>hQ h' s.toks λ9=>he' b o (λh=>hb (by simp[h])) e
 self:=λ_ _ _ _ ⟨slot,ZA,_⟩ hQ=>D6 ZA hQ
def IY{ys:1.0}(hf:13.7)(hy:ys.Perm (List.range es.size))(gT:a≠I)(hnt:tp≠I)(hh:21.1):
  Walks prog w A I [I,a,tp] [I] es.size (λi v=>(ys.map λp=>(es.getD p (0,Value.none)).2)[i]?=ε v) (λi h=>nJ h I a (.ref tp) i es.size ep/\h.IsTuple tp (ys.map λp:Nat=>rawInt p).toArray/\ju h a es ep t) where
 sub:=λ10=>by simp at hb;simp[hb]
 frame:=λ_ _ _ st hk=>⟨st.1.at λo e=>hk I 0.2 o e,st.2.1.at λo e=>hk tp 0.2 o e,st.2.2.at λo e=>hk a 0.2 o e⟩
 item:=λi s Q E hi st hQ=>by
  have W3:ys.length=es.size:=by rw[hy.length_eq];simp
  have hp:ys[i]<es.size:=afN.mp (hy.mem_iff.mp (agz 0.1));refine PQ (x:=es[ys[i]].2) (pl:=ys[i]) (hsh:=es[ys[i]].1) st.1 st.2.1 st.2.2 hf rfl (by simp[W3,hi,rawInt]) (by rw[aeV hp]) λh' Ge xH=>?_;refine hQ _ h' s.toks ?_ ⟨Ge,st.2.1.at λo e=>xH.extBut tp o hnt e,st.2.2.at λo e=>xH.extBut a o gT e⟩ λ9=>xH.extBut b o (λh=>hb (by simp[h])) e;rw[abv,abh 0.1];simp[Array.getD,hp]
 done:=λs Q E st hQ=>by
  have W3:ys.length=es.size:=by rw[hy.length_eq];simp
  exact Ux hh st.1 st.2.1 st.2.2 hf rfl (by simp[W3]) λh' he'=>hQ h' s.toks λ9=>he' b o (λh=>hb (by simp[h])) e
 self:=λ_ _ _ _ st hQ=>D6 st.1 hQ
theorem PR(hS:21.2)(hf:13.7)(hr:D3 t.place.toList)(hl:t.led=uj w)(hz:es.size<=sizeLine)
  (h:∀(I:Addr) (fp:4.0) (ord:cF) (St:Nat->Heap->Prop) (h1:Heap) (d1:Drawn),ord.Perm (es.toList.map (·.2))->(∀A':Around,A'.handled=ζ->Walks prog w A' I fp [I] ord.length (λi v=>ord[i]?=ε v) St)->St 0 h1->
   (∀b o,s.heap.get? b=ε o->h1.get? b=ε o)->s.heap.objs.size<=I->(∀b∈fp,b=a\/s.heap.objs.size<=b)->Q (.ref I) {s with heap:=h1,drawn:=d1}):wpAny 0.7 A (pyIter 5.5) Q E s:=by
 obtain⟨o,ho,hex,hd⟩:=id hS
 have hT:s.TypeIs 5.5 "set":=⟨o,ho,hex.1⟩
 have lR:=aba ho
 refine wpAny_pyIter_slot hT PySem.F.slot_set_iter (aeL PySem.F.slot_set_iter hT zH ?_ (PySem.F.args_set_iter_1 _))
 refine aab (aaR ?_)
 refine aab ?_
 refine aab (agp ho hd hf (aaR ?_))
 refine aab ?_
 refine aab (af9 ho hd hf ?_)
 refine aab ?_
 refine aab (agB (aaR (aaR ?_)))
 show wpAny _ _ (if(!w.params.followText "set-order"&&20.2)=η then _ else _) _ _ _
 have slots:∀{ord:cF} (St:Addr->Nat->Heap->Prop),ord.Perm (es.toList.map (·.2))->(∀(A':Around) (I:Addr),a≠I->A'.handled=ζ->Walks prog w A' I [I,a] [I] ord.length (λi v=>ord[i]?=ε v) (St I))->
   (∀h' I,nJ h' I a (.int (0:Nat) 0) 0 es.size ep->ju h' a es ep t->St I 0 h')->Q 2.6 {s with heap:=s.heap.push {cls:=.type "set_iterator",data:=.fields #[.int (0:Nat) 0,.int (0:Nat) 0,.ref a,.int (es.size:Nat) 0,.int (ep:Nat) 0]}}:=by
  intro ord St hp hW Ic;have gT:=abn lR;exact h s.heap.objs.size [s.heap.objs.size,a] ord (St s.heap.objs.size) _ s.drawn hp (λA' hh=>hW A' _ gT hh) (Ic _ _ ⟨_,aaS _ rfl,rfl,rfl⟩ (hS.at λo e=>aao _ e)) (λ14=>aao _ e) 5.6
   λ10=>by grind
 by_cases hdr:(!w.params.followText "set-order"&&20.2)=η
 .rw [abe hdr];refine aab (zK _ _ _ _ 0.2 λys d' hy=>?_);refine wpAny_bind (wpAny_newTuple ?_ (by rw[List.length_map,hy.length_eq];simpa using hz));have hT1:(s.heap.push 8.2).IsTuple s.heap.objs.size (ys.map λp:Nat=>rawInt p).toArray:=⟨_,aaS _ rfl,rfl,_,rfl⟩;have hS1:=hS.at (h':=s.heap.push 8.2) λo e=>aao _ e;obtain⟨o1,pL,_,hd1⟩:=id hS1;refine aab (wpAny_setEpoch_of pL hd1 hf ?_);have SX:(s.heap.push 8.2).objs.size=s.heap.objs.size+1:=aeI _ _;refine aab (afj (aaR ⟨_,rfl,"set_iterator",_,⟨_,aaS _ rfl,rfl⟩,cJ.lookup,?_⟩));have hy2:(ys.map λp=>(es.getD p (0,Value.none)).2).Perm (es.toList.map (·.2)):=by
   refine(hy.map _).trans ?_;have e:(List.range es.size).map (λp=>(es.getD p (0,Value.none)).2)=es.toList.map (·.2):=by
    refine List.ext_getElem 0.2 λi h1 h2=>?_;simp at h1;simp[h1]
   rw[e]
  have Zu:(ys.map λp=>(es.getD p (0,Value.none)).2).length=es.size:=by rw[aaI,hy.length_eq];simp
  refine h (s.heap.push 8.2).objs.size [_,a,s.heap.objs.size] _ (λi h=>nJ h (s.heap.push 8.2).objs.size a 2.6 i es.size ep/\h.IsTuple s.heap.objs.size (ys.map λp:Nat=>rawInt p).toArray/\ju h a es ep t) _ d' hy2 (λA' hh=>by rw[Zu];exact IY (t:=t) (ep:=ep) hf hy (by rw[SX];exact abn (agb lR)) (by rw[SX];exact abn (afn _)) hh)
   ⟨⟨_,aaS _ rfl,rfl,by simp[rawInt]⟩,hT1.push _,hS1.at λo e=>aao _ e⟩ (λ14=>aao _ (aao _ e)) (by rw[SX];exact ahv _) λ10=>?_;simp at hb;rcases hb with z|z|z;.grind
  .grind
  .grind
 .rw [abo hdr];refine aab (aaR ?_);refine aab (wpAny_setEpoch_of ho hd hf ?_);refine aab (afj (aaR ⟨_,rfl,"set_iterator",_,⟨_,aaS _ rfl,rfl⟩,cJ.lookup,?_⟩));cases hw:w.params.followText "set-order" with
  |true=>
    have hpz:((pickOrder 13.8 es).toList.map (·.2)).length=(pickOrder 13.8 es).size:=by simp
    exact slots (ord:=(pickOrder 13.8 es).toList.map (·.2)) (λI i h=>nJ h I a (.int (0:Nat) 0) i es.size ep/\ju h a es ep t) ((M6 _ _).map _) (λA' I gT hh=>by rw[hpz];exact M7 hf hw gT hh) λh' I x y=>⟨x,y⟩
  |false=>
    rw[hw]at hdr;have jL:20.2=false:=by simpa using hdr
    have hle:t.led=true:=by rw[hl];simp[hw]
    have hpz:(es.toList.map (·.2)).length=es.size:=by simp
    refine slots (ord:=es.toList.map (·.2)) (λI i h=>∃slot:Nat,nJ h I a (.int slot 0) i es.size ep/\ju h a es ep t/\(∀k,k<i->t.place.getD k 0<slot)/\∀k,i<=k->k<t.place.size->slot<=t.place.getD k 0) (.refl _)
     (λA' I gT hh=>by rw[hpz];exact IW hf hw hle jL hr gT hh) λh' I x y=>⟨0,x,y,λk hk=>by lia,λk _ _=>afc _⟩
end
end LS
namespace LS
open PySem PySem.Spec PySem.Calls PyProof.Rows
section
variable {prog:4.6}{w:World}{A:Around}{E:eL}{s:Shared}{a:Addr}{ns:3.6}
def PU(hT:s.TypeIs 5.5 "set")(h:Q θ s):wpAny 0.7 A (Builtin.List.listLengthHint 5.5) Q E s:=by
 refine aab (wpAny_specialOf hT PySem.F.slot_set_len.lookup ?_)
 generalize M8:("set.__len__":String)=id0
 subst M8
 refine aab (aif (T:="set") (b:=η) hT (by rw[ahH];kernel_rfl) ?_)
 exact aab (wpAny_typeOf hT (aaR h))
theorem Gj(hh:21.1)(hS:pG prog w s.heap a (uj w) ns)
  (h:∀(h':Heap) (tk:Nat) (d':Drawn) (vs:cF) (ms:3.6),(∀b o,s.heap.get? b=ε o->h'.get? b=ε o)->s.heap.objs.size<h'.objs.size->IntsAre vs ms->ms.Perm ns->R vs {s with heap:=h',toks:=tk,drawn:=d'}):
  wpAny 0.7 A (collect 5.5) R E s:=by
 obtain⟨o,es,ep,t,ho,hex,hd,h1,h2,h3,h4,h5,h6,h7⟩:=hS
 have hz:=fits_of_scanBound h4
 have lR:=aba ho
 have hS0:ju s.heap a es ep t:=⟨o,ho,hex,hd⟩
 unfold collect
 refine aab (wpAny_runValue (afu entry_proto_collect' ?_))
 rw[agR PySem.F.plain_proto_collect _]
 show wpAny _ A.in1 (newList [] >>= λl=>again (.builtin "list.__iadd__" ⟨[l,.ref a],[]⟩)) _ _ s
 refine aab (afj ?_)
 refine aaR ⟨aij PySem.F.plain_list_iadd _,afu entry_list_iadd' ?_⟩
 rw[agR PySem.F.plain_list_iadd _]
 generalize hP:s.heap.push {cls:=.type "list",data:=.seq ([]:cF).toArray}=P1
 have W4:∀b o,s.heap.get? b=ε o->P1.get? b=ε o:=λ14=>by rw[<-hP];exact aao _ e
 have hL:P1.get? s.heap.objs.size=ε {cls:=.type "list",data:=.seq #[]}:=by rw[<-hP];exact aaS _ rfl
 have WV:P1.objs.size=s.heap.objs.size+1:=by rw[<-hP];exact aeI _ _
 show wpAny _ A.in1 (Builtin.List.listExtendWith 2.6 5.5 2.6) _ _ {s with heap:=P1}
 have key:wpAny 0.7 A.in1 (Builtin.List.listExtendWith 2.6 5.5 2.6)
   (λfin s'=>match fin with
    |.done f=>False
    |.again c'=>c'.quiet=η/\codeAny 0.7 A c' (λq s'=>∃(h':Heap) (tk:Nat) (d':Drawn) (acc:17.4) (c':Nat) (ms:3.6),q=.ok (.ret 2.6)/\s'={s with heap:=h',toks:=tk,drawn:=d'}/\
      (∀b o,s.heap.get? b=ε o->h'.get? b=ε o)/\h'.get? s.heap.objs.size=ε {cls:=.type "list",dict:=ζ,data:=.seq acc c',slots:=#[]}/\IntsAre acc.toList ms/\ms.Perm ns) s') (λ_ _=>False) {s with heap:=P1}:=by
  unfold Builtin.List.listExtendWith;have hS1:=hS0.at (h':=P1) λo e=>W4 a o e;obtain⟨o1,pL,agT,hd1⟩:=id hS1;refine aab (wpAny_typeOf (T:="set") ⟨o1,pL,agT.1⟩ ?_);have q1:Builtin.List.listSameRef 2.6 5.5=false:=by simp[Builtin.List.listSameRef,agD lR]
  have q2:(Value.type "set"==Value.type "list")=false:=by decide
  have q3:(Value.type "set"==Value.type "tuple")=false:=by decide
  simp only[q1,q2,q3,ai0,Bool.false_eq_true,if_false];refine aab (PR (s:={s with heap:=P1}) hS1 h5 h7 h6 hz λI fp ord St hh1 d1 hp hW st0 kp hI hfp=>?_);replace kp:∀b o,P1.get? b=ε o->hh1.get? b=ε o:=kp;replace hI:P1.objs.size<=I:=hI;replace hfp:∀b∈fp,b=a\/P1.objs.size<=b:=hfp;have Zv:s.heap.objs.size∉fp:=λz=>by
   rcases hfp _ z with e|e;.exact ac3 _ (e ▸ lR)
   .rw [WV]at e;exact Nat.not_succ_le_self _ e
  have hSI:s.heap.objs.size≠I:=λz=>by rw[<-z,WV]at hI;exact Nat.not_succ_le_self _ hI
  obtain⟨o2,qO,hex2,_⟩:=hS1.at (h':=hh1) λo e=>kp a o e;obtain⟨i0,hi0⟩:=vO h2 hp;have Zu:ord.length<=sizeLine:=by rw[hp.length_eq];simpa using hz
  have run:∀(g:Heap) (c0:Nat),St 0 g->(∀b o,b≠s.heap.objs.size->hh1.get? b=ε o->g.get? b=ε o)->g.get? s.heap.objs.size=ε {cls:=.type "list",data:=.seq #[] c0}->
    codeAny 0.7 A (.builtin "list.extend.loop" ⟨[.ref s.heap.objs.size,.ref I,.ref s.heap.objs.size],[]⟩) (λq s'=>∃(h':Heap) (tk:Nat) (d':Drawn) (acc:17.4) (c':Nat) (ms:3.6),q=.ok (.ret 2.6)/\s'={s with heap:=h',toks:=tk,drawn:=d'}/\
     (∀b o,s.heap.get? b=ε o->h'.get? b=ε o)/\h'.get? s.heap.objs.size=ε {cls:=.type "list",dict:=ζ,data:=.seq acc c',slots:=#[]}/\IntsAre acc.toList ms/\ms.Perm ns) {s with heap:=g,drawn:=d1}:=by
   intro g c0 st k hg;refine codeAny_extend_loopS (hW A.in1 hh).toS Zu _ Zv _ ord.length 0 _ #[] c0 rfl (afc _) st hg (ItemsOf.nil _) λs' ZC c' mv hS' Uy=>?_;obtain⟨hx,gx,dx,tx,ox⟩:=s';have eg:gx=s.gens:=mv.gens;have ed:dx=d1:=mv.drawn;have eo:ox=s.os:=mv.os;subst eg ed eo;have agV:ZC.toList=ord:=by
    refine List.ext_getElem? λj=>?_;by_cases hj:j<ZC.size;.have q:=Uy.2 j _ (aeV hj);rw[q];simp[hj]
    .rw [ahQ 3.4,ahQ (by rw[<-Uy.1];lia)]
   refine⟨hx,tx,dx,ZC,c',i0,rfl,rfl,λ14=>?_,hS',by rw[agV];exact hi0.1,hi0.2⟩;have hb:=aba e;refine mv.heap b o ?_ (k b o (abn hb) (kp b o (W4 b o e)));simp only[aa9,agW,or_false,not_or];exact⟨abn hb,abn (abc hb (acw (by rw[WV];exact ahv _) hI))⟩
  have hg1:hh1.get? s.heap.objs.size=ε {cls:=.type "list",data:=.seq #[]}:=kp _ _ hL;refine aab (agj (PU ⟨o2,qO,hex2.1⟩ ?_));refine wpAny_ite_split (λ_=>?_) (λ_=>aaR ⟨aij PySem.F.plain_extend_loop _,run hh1 0 st0 (λb o _ e=>e) hg1⟩);refine aab (ah7 (aab ?_));show wpAny _ _ (updateSeq s.heap.objs.size (·.push .none) >>= λ_=>updateSeq s.heap.objs.size (·.pop)) _ _ _;refine aab (wpAny_updateSeq hg1 rfl ?_);have hg2:=acx (Obj.mapSeq (·.push Value.none)) hg1 rfl;refine wpAny_updateSeq (hz:=by seq_fits) hg2 rfl ?_;have hg3:=acx (Obj.mapSeq (·.pop)) hg2 rfl;refine aaR ⟨aij PySem.F.plain_extend_loop _,run _ _ ((hW A.in1 hh).frame 0 _ _ st0 λb hb o e=>?_) (λ9=>?_) hg3⟩;.have hbS:b≠s.heap.objs.size:=λz=>Zv (z ▸ hb);exact(ac8 _ _ (afh hbS)).trans ((ac8 _ _ (afh hbS)).trans e)
  .exact (ac8 _ _ (afh hb)).trans ((ac8 _ _ (afh hb)).trans e)
 refine abw key (λfin s' x=>?_) λ22=>z.elim
 cases fin with
 |done f=>exact x.elim
 |again c₁=>
   refine⟨x.1,afD x.2 λq pE y=>?_⟩;obtain⟨h',tk,d',acc,c',ms,rfl,rfl,hk,hS',i1,p1⟩:=y;show wpAny _ A (load s.heap.objs.size >>= _) _ _ _;exact aab (wpAny_load hS' (aaR (h h' tk d' acc.toList ms hk (aba hS') i1 p1)))
def yh(hh:21.1)(hS:pG prog w s.heap a (uj w) ns)(h64:ns.length<64)
  (h:∀(D:Addr) (h':Heap) (tk:Nat) (d':Drawn) (out:17.4) (n:Nat) (ms:3.6),s.heap.objs.size<=D->(∀b o,s.heap.get? b=ε o->h'.get? b=ε o)->h'.get? D=ε (seqObj "list" out n)->IntsAre out.toList ms->ms.Perm ns->ms.Pairwise (·<=·)->Q (.ref D) {s with heap:=h',toks:=tk,drawn:=d'}):
  wpAny 0.7 A (call (.builtin "sorted") [.ref a]) Q E s:=by
 refine call_function_entry kind_sorted plain_sorted entry_sorted (args_sorted1 _) ?_
 refine aab (m:=checkCount "sorted" 1 1 _) (aaR ?_)
 refine aab (Gj (A:=A.in1) hh hS λh' tk d' vs ms hk hgr hi hp=>?_)
 have hl:vs.length=ns.length:=by rw[<-hp.length_eq,(gz.mp hi).2,aaI]
 have hzl:vs.length<=sizeLine:=by rw[sizeLine_eq];lia
 refine aab (wpAny_newList ?_ hzl)
 have hoL:(h'.push (seqObj "list" vs.toArray 0)).get? h'.objs.size=ε (seqObj "list" vs.toArray 0):=aaS _ rfl
 refine aab (agj (aeL slot_list_sort ⟨_,hoL,rfl⟩ entry_list_sort (list_sort_tree hoL hi 0.1 λout ms' a1 a2 a3=>⟨_,rfl,?_⟩) (args_list_sort _)))
 obtain⟨en,hen⟩:=sortedHeap_at (out:=out) hoL
 refine aaR ⟨_,rfl,h h'.objs.size _ tk d' out en ms' (afY hgr) (λ14=>?_) hen a1 (a2.trans hp) a3⟩
 have hb:=aba (hk b o e)
 rw[sortedHeap_old (abn hb) (by rw[size_push'];exact agb hb)]
 exact aao _ (hk b o e)
end
end LS
namespace L2
open PySem PySem.Spec PyProof.Rows LS
def ins(x:Int):List Int->List Int
 |[]=>[x]
 |y::l=>if x<y then x::y::l else if x=y then y::l else y::ins x l
def ss:List Int->List Int
 |[]=>[]
 |x::l=>ins x (ss l)
set_option tactic.hygienic true in
theorem D7:∀{l:3.6},z∈ins x l↔z=x\/z∈l
 |[]=>by simp[ins]
 |y::l=>by
   rw[ins];split;.simp
   .split;.grind
    .simp only[aa9,D7];constructor;.grind
     .grind
set_option tactic.hygienic true in
theorem zL:∀{l:3.6},l.Pairwise (·<·)->(ins x l).Pairwise (·<·)
 |[],_=>by simp[ins]
 |y::l,h=>by
   rw[afB]at h;rw[ins];split
   .rename_i hxy;refine afB.mpr ⟨λz hz=>?_,afB.mpr h⟩;rcases aa9.mp hz with e|e;.grind
    .grind
   .split;.simp_all
    .refine afB.mpr ⟨λz hz=>?_,zL h.2⟩;rcases D7.mp hz with e|e;.grind
     .grind
theorem IZ:∀{l:3.6},z∈ss l↔z∈l
 |[]=>by simp[ss]
 |x::l=>by rw[ss,D7,IZ,aa9]
theorem vP:∀{l:3.6},(ss l).Pairwise (·<·)
 |[]=>.nil
 |_::_=>zL vP
theorem zM:∀{l m:3.6},l.Pairwise (·<·)->m.Pairwise (·<·)->(∀z,z∈l↔z∈m)->l=m
 |[],[],_,_,_=>rfl
 |[],y::m,_,_,h=>absurd ((h y).mpr abd) 0.2
 |x::l,[],_,_,h=>absurd ((h x).mp abd) 0.2
 |x::l,y::m,hl,hm,h=>by
   rw[afB]at hl hm;have e:x=y:=by
    rcases aa9.mp ((h x).mp abd)with a|a;.exact a
    .rcases aa9.mp ((h y).mpr abd)with b|b;.lia
     .grind
   subst e;rw[zM hl.2 hm.2 λz=>⟨λhz=>?_,λhz=>?_⟩];.grind
   .grind
def PV(hm:m.Pairwise (·<·))(h:∀z,z∈m↔z∈l):ss l=m:=zM vP hm λz=>by rw[IZ,h]
def Uz(h:l.Pairwise (·<·)):ss l=l:=PV h λ_=>.rfl
section
variable {X:Cx}{pins:de}{σ:St}{H:Hp}{s:Shared}
def Inv.drew(I:0.5)(d':Drawn):Inv X pins σ H {s with drawn:=d'}:=
 I.step (d':=d') (g':=s.gens) (t':=s.toks) (ch:=[]) (λ10=>by simp at hb) (λ_ _ _ _ _ e _=>e) (λb o _ _ _ e _=>⟨o.slots,e⟩) (λ_ _ _ _ n=>n) (λb o _ e=>⟨o,e⟩) (λ_ _ e=>e) (λ_ _ _ e=>e)
  (λb ps e=>⟨#[],by rw[e];simp⟩) (λ_ h=>h) I.bV I.bare
def UA(P:4.6)(w:World)(a:Addr)(ns:3.6):HO:=.ext λh=>pG P w h a (uj w) ns
def agY(P:4.6)(w:World)(K:aq):List V->Hp->VK->Prop:=λ16=>∃(p:Addr) (ms:3.6),xs=[.ref p]/\(nD K H p (ms.map V.int)\/o8 K H p (ms.map V.int))/\ms.length+1<scanBound/\
 ∀(l:Addr) (ns:3.6),H l=ζ->(∀x,x∈ns↔x∈ms)->ns.length<=ms.length->Q (.ref l) (upd H l (UA P w l ns))
def M9(hc:X.calm=η):gN X (.type "set") (agY X.prog X.w X.K):=by
 intro 7
 obtain⟨p,ms,rfl,hq,hb,q⟩:=h
 obtain⟨u,rfl,rx⟩:=vals1 r
 cases rx
 have hh:=I.ok.hd hc
 have fin:∀(h':Heap) (tk:Nat) (ns:3.6),pG X.prog X.w h' s.heap.objs.size (uj X.w) ns->(∀x,x∈ns↔x∈ms)->ns.length<=ms.length->(∀b o,s.heap.get? b=ε o->h'.get? b=ε o)->EP X pins σ Q 2.6 11.0:=λh' tk ns S m l k=>
  ⟨.ref s.heap.objs.size,_,I.laid (o:=UA X.prog X.w s.heap.objs.size ns) k 5.6 ⟨S,(let⟨o,_,_,_,e,_⟩:=S;⟨o,e⟩),λh1 h2 S1 kk=>S1.keeps kk⟩,rfl,q _ ns 21.0 m l⟩
 rcases hq with hq|hq
 .obtain ⟨its,rv,pl,_⟩:=I.list hq;have hi:=intsAre_of rv;have hl:its.length=ms.length:=by rw[(gz.mp hi).2,aaI]
  exact Gh hh (src_list pl.isList) hi (by rw[abr,hl];exact hb) fin
 .obtain ⟨its,rv,pl,_⟩:=I.tuple hq;have hi:=intsAre_of rv;have hl:its.length=ms.length:=by rw[(gz.mp hi).2,aaI]
  exact Gh hh (src_tuple (show s.heap.IsTuple p its.toArray from pl)) hi (by rw[abr,hl];exact hb) fin
def PX(P:4.6)(w:World):List V->Hp->VK->Prop:=λ16=>∃(p:Addr) (ns:3.6),xs=[.ref p]/\H p=ε (UA P w p ns)/\ns.length<64/\∀(l:Addr) (out:3.6),H l=ζ->out.Pairwise (·<·)->(∀x,x∈out↔x∈ns)->Q (.ref l) (upd H l (.lst (out.map V.int)))
theorem Gk:∀{vs:cF} {ns:3.6},IntsAre vs ns->bL 19.2 vs
 |_,_,.nil=>.nil
 |_,_,.cons n t h=>.cons ⟨t,rfl⟩ (Gk h)
def UB(h:pG prog w h a led ns):ns.Nodup:=by
 obtain⟨_,_,_,_,_,_,_,_,_,z,_⟩:=h
 exact z
def D8(hc:X.calm=η):gN X (.builtin "sorted") (PX X.prog X.w):=by
 intro 7
 obtain⟨p,ns,rfl,hp,h64,q⟩:=h
 obtain⟨u,rfl,rx⟩:=vals1 r
 cases rx
 have hS:=(show dS X.prog X.w H s.heap p (UA X.prog X.w p ns)from I.bV p _ hp).1
 have nd:=UB hS
 refine yh 13.1 hS h64 λD h' tk d' out n ms hD k e hi PY adE=>?_
 have hl:=PY.length_eq
 have J:=(I.drew d').laid (t':=tk) (o:=.lst (ms.map V.int)) (h':=h') k hD ⟨by rw[List.length_map,sizeLine_eq];lia,out.toList,n,Gk hi,by simpa using e⟩
 refine⟨.ref D,_,J,rfl,q D ms (I.bV.fresh hD) ?_ λx=>PY.mem_iff⟩
 have nd2:=PY.nodup_iff.mpr nd
 refine(List.Pairwise.and adE nd2).imp λ{a b} hab=>?_
 lia
end
def ZD:bootBuiltins "set"=ε (.type "set"):=⋯
def Na:bootBuiltins "sorted"=ε (.builtin "sorted"):=⋯
noncomputable def zQ:List D->Option (List Int)
 |[]=>ε []
 |.int i::l=>(zQ l).map (i::·)
 |_::_=>ζ
theorem CS:∀(ns:3.6),zQ 9.1=ε ns
 |[]=>rfl
 |n::ns=>by rw[abl,zQ,CS ns];rfl
theorem sC:∀{l:List D} {ns:3.6},zQ l=ε ns->l=ns.map .int
 |[],_,h=>by cases h;rfl
 |d::l,ns,h=>by
   cases d with
   |int i=>
     rw[zQ]at h;cases e:zQ l with
     |none=>rw[e]at h;cases h
     |some m=>rw[e]at h;cases h;rw[sC e];rfl
   |_=>cases h
def ZE:D->iA
 |.list l=>ε l
 |.tuple l=>ε l
 |_=>ζ
def ZF(g:aY):cG:=λδ=>(g δ).bind λd=>(ZE d).bind λl=>(zQ l).bind λns=>if ns.length<64 then ε ((ss ns).map .int)else ζ
theorem ee.toInts{K:aq}:∀{ns:3.6} {xs:List V},ee K H xs (ns.map PyData.int)->xs=ns.map V.int
 |[],_,h=>by cases h;rfl
 |n::ns,_,h=>by
   cases h with
   |cons a t=>cases a;rw[ee.toInts t];rfl
set_option tactic.hygienic true in
def sD(h1:X.mg "sorted"=ζ)(h2:X.mg "set"=ζ)(he:PE X e (ir X.K O ge))(hc:X.calm=true:=by rfl)(g1:Gl X "sorted":=by rfl)(g2:Gl X "set":=by rfl)
  (s1:starEach [Expr.Call (.Name "set" p2) [e] [] q2] X.env=(θ,eval (Expr.Call (.Name "set" p2) [e] [] q2) X.env)::starEach [] X.env:=by rfl)(s2:starEach [e] X.env=1.7::starEach [] X.env:=by rfl)
  (b1:(backTo q1 (starEach [] X.env)).any (·.1)=false:=by rfl)(b2:(backTo q2 (starEach [] X.env)).any (·.1)=false:=by rfl):
  PE X (.Call (.Name "sorted" p1) [.Call (.Name "set" p2) [e] [] q2] [] q1) (tN X.K O (ZF ge)):=
 (t9 (D8 hc) g1 h1 Na (bu (qS (M9 hc) g2 h2 ZD (bu he cz s2) 0.0 0.0 s2 b2) cz s1) 0.0 0.0 s1 b1).mono λ4=>by
  obtain⟨d,e1,ed⟩:=bind1 ed;obtain⟨l,e2,ed⟩:=bind1 ed;obtain⟨ns,e3,ed⟩:=bind1 ed;split at ed
  .rename_i h64;cases ed;refine⟨U,A0,δ,d,R,e1,λv H1 s1 hv=>?_⟩;have row:∃p,v=.ref p/\(nD X.K H1 p 19.2\/o8 X.K H1 p 19.2):=by
    unfold ZE at e2;split at e2
    .cases e2;obtain⟨p,xs,rfl,r1,r2⟩:=hv.list;rw[sC e3]at r2;rw[<-r2.toInts];exact⟨p,rfl,.inl r1.sq⟩
    .cases e2;obtain⟨p,xs,rfl,r1,r2⟩:=hv.tuple;rw[sC e3]at r2;rw[<-r2.toInts];exact⟨p,rfl,.inr r1⟩
    .lia
   obtain⟨p,rfl,agZ⟩:=row;refine⟨p,ns,rfl,agZ,by unfold scanBound;lia,λl1 ms hl1 hm hle=>?_⟩;refine⟨l1,ms,rfl,aN,by lia,λl2 out MN hr Zw=>?_⟩;have eo:out=ss ns:=(PV hr λz=>by rw[Zw,hm]).symm;subst eo;refine q l2 _ _ (s1.trans ((cy hl1 _).trans (cy MN _))) (s1.free ((cy hl1 _).free MN)) aN (ee.ints _)
  .grind
end L2
namespace L2
open PySem PySem.Spec PyProof.Rows
section
variable {prog:4.6}{w:World}{A:Around}{R:Result->Shared->Prop}{s:Shared}
theorem D9(I:Nat->Shared->Prop)
  (turn:∀n s,I n s->wpAny 0.7 A (pyNext it) (λr b8=>match r with
   |none=>R (.ok .next) b8
   |some v=>wpAny 0.7 A (letOwnedTupleGo target it v) (λ_ pE=>wpAny 0.7 A (assign target env v) (λ_ vG=>
     wpAny 0.7 A (forIn ifs η λc r=>if r=η then do let ok <-isTrue c env (eval c env);pure (ForInStep.yield ok)else pure (ForInStep.yield r)) (λok Ja=>
      if ok=η then wpAny 0.7 A (eval elt env) (λx adF=>
       wpAny 0.7 A (call (.builtin "list.append") [acc,x]) (λ_ adG=>∃m,m<n/\I m adG) 10.5 adF) 10.5 Ja
      else ∃m,m<n/\I m Ja) 10.5 vG) 10.5 pE) 10.5 b8) 10.5 s)
  (n:Nat)(h:I n s):codeAny 0.7 A (.compLoop (.ListComp elt [⟨target,iter,ifs,0⟩] scope pos) 0 it acc env) R s:=by
 refine codeAny_loop rfl I (λn s hI=>?_) n h
 refine wpAny_noted ?_
 refine aab (wpAny_standAt (aab (abw (turn n s hI) (λr b8 vF=>?_) λ22=>z)))
 cases r with
 |none=>exact aaR vF
 |some v=>
   refine aab (abw vF (λ_ pE zr=>aab (abw zr (λ_ vG Zb=>aab (abw Zb (λok Ja adH=>?_) λ22=>z)) λ22=>z)) λ22=>z);cases ok with
   |false=>exact aaR ⟨rfl,adH⟩
   |true=>exact aab (aab (abw adH (λx adF ag0=>aab (abw ag0 (λ_ adG ag1=>aaR (aaR ⟨rfl,ag1⟩)) λ22=>z)) λ22=>z))
end
def PF(X:Cx)(ifs:6.9)(t:TT):Prop:=
 ∀(pins:de) (s:Shared) (σ:St) (H:Hp) (Q:Bool->Hp->Prop),Inv X pins σ H s->t σ H Q->
   wpAny 0.4 X.A (forIn ifs η λc r=>if r=η then do let ok <-isTrue c X.env (eval c X.env);pure (ForInStep.yield ok)else pure (ForInStep.yield r)) (TP X pins σ Q) X.xe s
def ag2:TT:=λ_ H Q=>Q η H
def ZG:PF X [] ag2:=λ_ _ _ H _ I q=>aaR ⟨H,I,q⟩
def Jb(h:PT X c t):PF X [c] t:=λpins s σ H Q I q=>wpAny_tests_one (h pins s σ H Q I q)
section
variable {X:Cx}
structure nK(X:Cx)(scope:Scope)(xs:1.4)(ix:1.0)(N':1.4):Prop where
 kind:scope.kind=.function
 ZH:∀y∈scope.names,y.2≠.cell
 names:∀y∈scope.names,y.2=.local->scope.names.lookup y.1=ε .local
 free:∀y∈scope.names,y.2=.free->X.env.kindOf y.1=ε .cell\/X.env.kindOf y.1=ε .free
 only:∀n,(X.env.scope.kind=.function)->((relabel scope X.env).names.lookup n=ε .cell\/(relabel scope X.env).names.lookup n=ε .free)->(n,NameKind.free)∈scope.names
 nm:N'=xs++ix.map λj=>X.N.getD j ""
 ixs:∀j∈ix,j<X.N.length/\(X.N.getD j "",NameKind.free)∈scope.names/\((relabel scope X.env).names.lookup (X.N.getD j "")=ε .cell\/(relabel scope X.env).names.lookup (X.N.getD j "")=ε .free)
section
variable {scope:Scope}{xs:1.4}{ix:1.0}{N':1.4}{cl:List (Str×Addr)}{C:Addr}{s2 s3:Shared}{H2:Hp}{fp:4.0}{pins:de}{σ:St}
def PZ(S:nK X scope xs ix N')(I:Inv X pins σ H2 s2)(hC:s2.heap.objs.size<=C)(h1:∀n c,cl.lookup n=ε c->X.env.cells.lookup n=ε c)(h2:∀n,(n,NameKind.free)∈scope.names->∃c,cl.lookup n=ε c)
  (hf:∀b∈fp,t6 X pins H2 b)(K9:∀b∈fp,b<s2.heap.objs.size):(bI X scope N' cl C s2 H2 fp pins).Ok where
 mod:=I.ok.mod
 kind:=by show(relabel scope X.env).kind=_;exact S.kind
 glob:=I.ok.glob
 blt:=I.ok.blt
 above:=hC
 inj:=λa b c e1 e2=>I.ok.inj a b c (h1 _ _ e1) (h1 _ _ e2)
 has:=λa h=>h2 a (S.only a I.ok.kind h)
 Oc:=λa c h=>by cases h
 hd:=I.ok.hd
 frames:=I.ok.frames
 Ow:=.inl rfl
 Ts:=λ10=>⟨abn (abc (K9 b hb) hC),λa c e=>(hf b hb).2.2.2.2.1 a c (h1 _ _ e)⟩
 bs:=I.bs
 Ib:=acw I.ok.Ib I.sz
 yc:=λb o e hb=>by
  rcases(hf b hb).2.2.2.1 with z|z;.exact I.ok.yc b o e z
  .have:=(I.ok.bs b o e).1;exact absurd (abc (aba this) z) (ac3 _)
 zb:=λb hb z=>by
  rcases aa9.mp (I.nz b z)with e|e;.exact (hf b hb).2.1 e
  .exact (hf b hb).2.2.1 e
 jX:=I.stack
 Fz:=I.DD
def Nb(S:nK X scope xs ix N')(I:Inv X pins σ H2 s2)(hC:s2.heap.objs.size<=C)(h1:∀n c,cl.lookup n=ε c->X.env.cells.lookup n=ε c)(h2:∀n,(n,NameKind.free)∈scope.names->∃c,cl.lookup n=ε c)
  (hf:∀b∈fp,t6 X pins H2 b)(K9:∀b∈fp,b<s2.heap.objs.size)(hs3:s3.os=s2.os)(hg:s3.gens=s2.gens)(k:∀b o,s2.heap.get? b=ε o->s3.heap.get? b=ε o)(hn:s3.heap.Ns C m):
  Inv 0.6 [] (List.replicate xs.length ζ++By ix σ) H2 s3 where
 ok:=PZ S I hC h1 h2 hf K9
 os:=hs3
 bare:=by rw[hg];exact I.bare
 base:=⟨λb o e _ _ _=>k b o e,λb o e _ _ _=>⟨o.slots,k b o e⟩,λb o e n _=>n,λb o e _=>⟨o,k b o e⟩,λ_ _ e=>e,λ_ _ _ e=>e,λb ps e=>⟨#[],by rw[aiz];exact e⟩⟩
 loc:=by
  refine⟨m,hn,λi y v e1 e2 e3=>?_⟩;by_cases hi:i<xs.length
  .rw [List.getElem?_append_left (by simpa using hi),List.getElem?_replicate,if_pos hi]at e2;cases e2
  .have e2':(By ix σ)[i-xs.length]?=ε (ε v):=by rw[List.getElem?_append_right 3.4]at e2;simpa using e2
   obtain⟨j,ej,es⟩:=Pd e2';have e1':N'[i]?=ε y:=e1;rw[S.nm,agS 0.1,abv,ej]at e1';have ey:X.N.getD j ""=y:=adM e1';obtain⟨hj,rM,hk⟩:=S.ixs j (afd ej);obtain⟨m0,hn0,hl0⟩:=I.loc;have eN:X.N[j]?=ε y:=by rw[<-ey,acI,abh hj];rfl
   have kd:=S.free _ rM rfl;have hv:Vis X.env.scope y:=by
    rw[<-ey];rcases kd with z|z;.exact .inr (.inl z)
    .exact .inr (.inr z)
   obtain⟨u,r,l⟩:=hl0 j y v eN es hv;refine⟨u,r,.inr ?_⟩;rcases l with⟨q,_⟩|⟨_,c,ec,z⟩;.grind
   .obtain ⟨c',e'⟩:=h2 _ rM;rw[ey]at e';have:=h1 _ _ e';rw[ec]at this;cases this;obtain⟨o,ho,hd⟩:=z;exact⟨by rw[<-ey];exact hk,c,e',o,k c o ho,hd⟩
 cell:=λa c e=>by
  obtain⟨v,o,ho,hd⟩:=I.cell a c (h1 _ _ e);exact⟨v,o,k c o ho,hd⟩
 free:=I.bV.fresh hC
 iZ:=λa c e=>I.iZ a c (h1 _ _ e)
 pin:=λ21=>by
  have hp':p∈X.pn++pins:=by
   rcases abg.mp hp with z|z;.exact z
   .grind
  obtain⟨e,n,ne,nf,d⟩:=I.pin p hp';refine⟨k _ _ e,n,abn (abc (aba e) hC),λz=>?_,d⟩;rcases aa9.mp (I.nz _ z)with q|q;.grind
  .lia
 bV:=I.bV.kept k
 len:=by
  show(List.replicate xs.length ζ++By ix σ).length=N'.length;rw[S.nm];unfold By;simp
end
def yQ(J:It)(k:Nat)(ix:1.0)(g:TG)(tc:TT)(te:TE)(σ:St)(H:Hp)(Q:VK):Prop:=∃W:Nat->Nat->List V->St->Hp->Prop,(∃m,W 0 m [] (List.replicate k ζ++By ix σ) H)/\∀i m ys τ H,W i m ys τ H->ys.length<=sizeLine/\
 ((J.stop i H/\∀p,H p=ζ->Q 19.0 (upd H p 14.4))\/(J.go i H/\ys.length<sizeLine/\∀v H',J.yld i H v H'->g v τ H' λLa H2=>tc La H2 λb H3=>
   if b=η then te La H3 λy H4=>∃m',m'<m/\W (i+1) m' (ys++[y]) La H4 else ∃m',m'<m/\W (i+1) m' ys La H3))
def Ea(wi:TI)(k:Nat)(ix:1.0)(g:TG)(tc:TT)(te:TE):TE:=λ8=>wi σ H λJ H1=>yQ J k ix g tc te σ H1 Q
section
variable {scope:Scope}{xs:1.4}{ix:1.0}{N':1.4}{elt iter tg:Expr}{ifs:6.9}{pos:Pos}{wi:TI}{te:TE}{tc:TT}{g:TG}
structure CIn(X':Cx)(D:Addr)(fp:4.0)(tn:Nat->Heap->Prop)(W:Nat->Nat->List V->St->Hp->Prop)(n:Nat)(s':Shared)(i:Nat)(ys:List V)(its:cF)(k:Nat)(d8:St)(H':Hp):Prop where
 I:Inv X' [(D,SV its k)] d8 H' s'
 st:tn i s'.heap
 fr:∀b∈fp,H' b=ζ
 w:W i n ys d8 H'
 rv:bL ys its
def adI(X':Cx)(D:Addr)(fp:4.0)(tn:Nat->Heap->Prop)(W:Nat->Nat->List V->St->Hp->Prop)(n:Nat)(s':Shared):Prop:=∃i ys its k d8 H',CIn X' D fp tn W n s' i ys its k d8 H'
def ZI{D:Addr}{P:Prop}(h:adI X' D fp tn W n s')(k:∀i ys its k d8 H',CIn X' D fp tn W n s' i ys its k d8 H'->P):P:=by
 obtain⟨_,_,_,_,_,_,t⟩:=h
 exact k _ _ _ _ _ _ t
def adJ{P:Value->Prop}(h:OD gd X pins σ tg R SS s2)(k:∀it fp tn J H',Inv X pins σ H' s2->KE gd X.prog X.w X.K tg J fp it tn->tn 0 s2.heap->(∀b∈fp,t6 X pins H' b)->R J H'->P 14.3):P SS:=by
 obtain⟨it,fp,tn,J,H',rfl,a,b,c,d,e⟩:=h
 exact k it fp tn J H' a b c d e
noncomputable def cxZ(Y:Cx)(z:eL):Cx:={Y with xe:=z}
def Inv.unZ(I:Inv (cxZ Y z) pins σ H1 s1):Inv Y pins σ H1 s1:=
 ⟨⟨I.ok.mod,I.ok.kind,I.ok.glob,I.ok.blt,I.ok.above,I.ok.inj,I.ok.has,I.ok.Oc,I.ok.hd,I.ok.frames,I.ok.Ow,I.ok.Ts,I.ok.bs,I.ok.Ib,I.ok.yc,I.ok.zb,I.ok.jX,I.ok.Fz⟩,I.os,I.bare,I.base,I.loc,I.cell,I.free,I.iZ,I.pin,I.bV,I.len⟩
def Inv.inZ(I:Inv Y pins σ H1 s1):Inv (cxZ Y z) pins σ H1 s1:=
 ⟨⟨I.ok.mod,I.ok.kind,I.ok.glob,I.ok.blt,I.ok.above,I.ok.inj,I.ok.has,I.ok.Oc,I.ok.hd,I.ok.frames,I.ok.Ow,I.ok.Ts,I.ok.bs,I.ok.Ib,I.ok.yc,I.ok.zb,I.ok.jX,I.ok.Fz⟩,I.os,I.bare,I.base,I.loc,I.cell,I.free,I.iZ,I.pin,I.bV,I.len⟩
theorem vQ(S:nK X scope xs ix N')(hc:24.3)(hg:∀cl C s2 H2 fp pins,PG 0.6 tg g)(hf:∀cl C s2 H2 fp pins,PF 0.6 ifs tc){z:Cx->eL}(pZ:∀cl C s2 H2 fp pins,PE (cxZ 0.6 (z 0.6)) elt te)
  (h:OD gd X pins σ tg (λJ H1=>yQ J xs.length ix g tc te σ H1 Q) SS s2)(h1:∀n c,cl.lookup n=ε c->X.env.cells.lookup n=ε c)(h2:∀n,(n,NameKind.free)∈scope.names->∃c,cl.lookup n=ε c)
  
  (hzz:∀{C:Addr} {H1:Hp} {fp:4.0} {e acc:Value} {s':Shared},Inv X pins σ H1 s2->s2.heap.objs.size<=C->(∀b∈fp,t6 X pins H1 b)->z 10.6 e s'->notedBy 0.4 X.A (compEnvC scope cl C X.env) (λe s'=>compPost 0.4 X.A X.xe use QQ acc C (.error e) s') e s')
  (fin:∀(D C:Addr) (H':Hp) (s1:Shared) (m:cX),s1.heap.Ns C m->H' C=ζ->X.jt.heap.objs.size<=C->C≠X.env.locals->(∀a c,X.env.cells.lookup a=ε c->c≠C)->(∀p∈X.pn++pins,p.1≠C)->(∀h',Heap.SameBut C s1.heap h'->Inv X pins σ H' {s1 with heap:=h'})->Q (.ref D) H'->
   compPost 0.4 X.A X.xe use QQ (.ref D) C (.ok .next) s1):
  wpAny 0.4 X.A (newList []) (λacc vG=>wpAny 0.4 X.A (newFunctionEnv scope X.env.globals cl [] X.env.qual ζ .none (ε X.env)) (λGm Ja=>
   codeAny 0.4 X.A (.compStart 2.4 0 SS acc {Gm with scope:=relabel scope X.env}) (compPost 0.4 X.A X.xe use QQ acc Gm.locals) Ja) X.xe vG) X.xe s2:=by
 refine adJ (P:=λSS=>wpAny 0.4 X.A (newList []) (λacc vG=>wpAny 0.4 X.A (newFunctionEnv scope X.env.globals cl [] X.env.qual ζ .none (ε X.env)) (λGm Ja=>
   codeAny 0.4 X.A (.compStart 2.4 0 SS acc {Gm with scope:=relabel scope X.env}) (compPost 0.4 X.A X.xe use QQ acc Gm.locals) Ja) X.xe vG) X.xe s2) h λit fp tn J H1 I2 T rH f2 hR=>?_
 obtain⟨W,⟨m0,w0⟩,turn⟩:=hR
 have K9:∀b∈fp,b<s2.heap.objs.size:=λ10=>by
  obtain⟨o,e,_⟩:=T.obj _ _ rH b hb;exact aba e
 refine afj (wpAny_newFunctionEnv S.ZH (by intro y hy;simp at hy) (λvF P0 Jc=>?_) S.kind)
 generalize hH2:s2.heap.push {cls:=.type "list",dict:=ζ,data:=.seq ([]:cF).toArray}=P2 at P0 Jc ⊢
 have hC:P2.objs.size=s2.heap.objs.size+1:=by rw[<-hH2,aeI]
 have Zf:s2.heap.objs.size≠P2.objs.size:=by rw[hC];exact abn (afn _)
 have Gn:s2.heap.objs.size<=P2.objs.size:=by rw[hC];exact ahv _
 have below:∀b,b<s2.heap.objs.size->b≠P2.objs.size:=λ10=>by rw[hC];exact abn (agb hb)
 have old:=λ14=>Jc.extBut b o (below b (aba e)) (aao _ (hH2 ▸ aao _ e))
 have Uy:=Jc.extBut _ _ Zf (aao _ (hH2 ▸ aaS _ rfl))
 generalize P2.objs.size=C at *
 generalize P4:s2.heap.objs.size=D at *
 have neP:∀p∈X.pn++pins,p.1≠D/\p.1≠C:=λ21=>by
  have:=aba (I2.pin p hp).1;rw[P4]at this;exact⟨abn this,abn (abc this Gn)⟩
 have DnF:=λhb=>ac3 _ (K9 D hb)
 have CnF:C∉fp:=λhb=>absurd (abc (K9 C hb) Gn) (ac3 _)
 have W5:∀a c,X.env.cells.lookup a=ε c->c≠D/\c≠C:=λa c e=>by
  obtain⟨v,q⟩:=I2.cell a c e;have:=q.lt;rw[P4]at this;exact⟨abn this,abn (abc this Gn)⟩
 have ag4:X.env.locals<D:=by have:=I2.lt;rw[P4]at this;exact this
 have s0D:X.jt.heap.objs.size<=D:=by rw[<-P4];exact I2.sz
 have I3:=Nb (s3:={s2 with heap:=vF,toks:=s2.toks+([]:List (Str×Value)).length}) S I2 (by rw[P4];exact Gn) h1 h2 f2 (by rw[P4];exact K9) rfl rfl old P0
 have Ip:∀{H':Hp} {pp:de},(∀p∈pp,p.1∉fp)->(∀b∈fp,H' b=ζ)->∀b∈fp,t6 10.6 pp H' b:=λ{H' pp} hpp hn b hb=>by
  obtain⟨f0,f1,f3,f4,f5,f6⟩:=f2 b hb;refine⟨hn b hb,λz=>CnF (by rw[<-show b=C from z];exact hb),λz=>?_,.inl hb,λa c e=>f5 a c (h1 _ _ e),λ21=>?_⟩
  .rcases aa9.mp (I2.nz b z)with q|q;.grind
   .grind
  .rcases abg.mp hp with q|q;.exact f6 p q
   .grind
 have DnS:∀b,D<=b->b∉qQ X.stack:=λb hb z=>by
  rcases aa9.mp (I2.nz b z)with q|q;.grind
  .exact I2.acK (by rw[P4];exact hb) q
 have loop:∀vG:Shared,vG={s2 with heap:=vF,toks:=s2.toks+([]:List (Str×Value)).length}->
   codeAny 0.4 X.A (.compLoop 2.4 0 14.3 (.ref D) (compEnvC scope cl C X.env)) (compPost 0.4 X.A X.xe use QQ (.ref D) C) vG:=by
  rintro vG rfl;refine D9 (adI 10.6 D fp tn W) ?_ m0
   ⟨0,[],[],0,_,H1,?_,T.keep _ _ _ rH (λb hb o e=>old b o e),λ10=>(f2 b hb).1,w0,.nil⟩
  .refine λn s' z=>ZI z λi ys its k d8 H' t=>?_;have I:=t.I;have st:=t.st;have fr:=t.fr;have rv:=t.rv;obtain⟨hz,w⟩:=turn i n ys d8 H' t.w;have hpp:∀p∈[(D,SV its k)],p.1∉fp:=λ21=>by grind
   rcases w with⟨stop,q⟩|⟨go,hz',step⟩;.refine abw (T.done 10.6 rfl rfl rfl (hc _ _ _ _ _ _) i _ s' _ H' (λ_ _=>False) I (Ip hpp fr) st stop) (λr s1 hr=>?_) λ22=>z.elim;obtain⟨rfl,I1⟩:=hr;obtain⟨m,hn,_⟩:=I1.loc;have p1:=I1.pin (D,SV its k) (aaW _ abd);have fC:=I1.free;refine fin D C (upd H' D 14.4) s1 m hn (by rw[aB (afh Zf)];exact fC) (acw s0D Gn) (agD (abc ag4 Gn)) (λa c e=>(W5 a c e).2) (λ21=>(neP p hp).2) (λh' hs=>?_) (q D p1.2.1);exact MT (N':=N') I2 (by rw[P4];exact Gn) (by rw[P4];exact abb _) f2 I1 rv hz hs Zf
   .refine abw (T.item 10.6 rfl rfl rfl (hc _ _ _ _ _ _) i _ s' _ H' (λ_ _=>False) I (Ip hpp fr) st go) (λr s4 hr=>?_) λ22=>z.elim;obtain⟨u,rfl,h4⟩:=hr;refine abw h4 (λ_ s5 h5=>?_) λ22=>z.elim;obtain⟨v,H5,I5,r5,y5,Wx,fr5⟩:=h5;have I5':=I5.pinned (Ip hpp fr5) (T.obj _ _ Wx);refine abw (hg cl C s2 H1 fp pins _ s5 d8 H5 v u _ I5' r5 (step v H5 y5)) (λ_ s6 h6=>?_) λ22=>z.elim;obtain⟨La,H6,I6,q6⟩:=h6;have gone:∀{τ:St} {H9:Hp} {s9:Shared},Inv 10.6 ([(D,SV its k)]++vz fp s5.heap) τ H9 s9->tn (i+1) s9.heap/\∀b∈fp,H9 b=none:=λ{τ H9 s9} I9=>
     ⟨T.keep _ _ _ Wx λb hb o e=>(I9.pin (b,o) (aaW _ (aaW _ (kX hb e)))).1,λ10=>by
      obtain⟨o,e,d⟩:=T.obj _ _ Wx b hb;exact(I9.pin (b,o) (aaW _ (aaW _ (kX hb e)))).2.1⟩;refine abw (hf cl C s2 H1 fp pins _ s6 La H6 _ I6 q6) (λok s6' h6'=>?_) λ22=>z.elim;obtain⟨H6',I6',q6'⟩:=h6';cases ok with
    |false=>
      obtain⟨m',hm',w7⟩:=q6';obtain⟨g1,g2⟩:=gone I6';exact⟨m',hm',i+1,ys,its,k,La,H6',I6'.qR λ21=>I6'.pin p (aaW _ (abC _ hp)),g1,g2,w7,rv⟩
    |true=>
    refine abw (pZ cl C s2 H1 fp pins _ s6' La H6' _ I6'.inZ q6') (λy s7 h7=>?_) λ_ _ zz=>hzz I2 Gn f2 zz;obtain⟨yv,H7,I7,r7,m',hm',w7⟩:=h7;have I7:=I7.unZ;have p7:=I7.pin (D,SV its k) (aaW _ (abC _ abd));have hl:=rv.length;refine agP ac1 ⟨_,p7.1,rfl⟩ F.entry_list_append (F.args_list_append_2 _ _) (PySem.list_append D its.toArray k y (by rw[abr];lia)) ⟨p7.1,?_⟩;have q:=PySem.IsL.update p7.1 (·.push y);have W6:∀b o,b≠D->s7.heap.get? b=ε o->(s7.heap.update D (Obj.mapSeq (·.push y))).get? b=ε o:=λ9=>(ac8 s7.heap _ (afh hb)).trans e;have I8:=I7.qR λ21=>I7.pin p (aaW _ (aaW _ hp));have I9:Inv 10.6 (vz fp s5.heap) La H7 {s7 with heap:=s7.heap.update D (Obj.mapSeq (·.push y))}:=I8.turned (t':=s7.toks) (it:=D) W6 p7.2.1 Zf (.inr (by show s2.heap.objs.size<=D;rw[P4];exact abb _)) (λa c e=>(W5 a c (h1 _ _ e)).1) λp hp z=>by
     rcases abg.mp hp with z'|z';.exact (neP p z').1 z
     .exact DnF (by rw[<-z];exact(Ct z').1)
    refine⟨m',hm',i+1,ys++[yv],its++[y],(if(its.toArray.push y).size==its.toArray.size then k else k+1),La,H7,I9.qR (pins':=[(D,SV (its++[y]) ((if(its.toArray.push y).size==its.toArray.size then k else k+1)))]) λ21=>?_,T.keep _ _ _ Wx λb hb o e=>?_,λ10=>?_,w7,rv.append (.cons r7 .nil)⟩;.grind
    .have pb:=I7.pin (b,o) (aaW _ (aaW _ (kX hb e)));exact W6 b o (λz=>DnF (by rw[<-z];exact hb)) pb.1
    .grind
  .exact I3.qR λ21=>by
    have e:p=(D,SV [] 0):=by simpa using hp
    subst e;exact⟨Uy,I2.bV.fresh (by rw[P4];exact abb _),Zf,DnS D 5.6,λv z=>by cases z⟩
 exact codeAny_compStart_list (loop _ rfl) (T.self _ 0 _ _ _ (T.keep _ _ _ rH λb hb o e=>old b o e) (loop _ rfl))
def CU(S:nK X scope xs ix N')(hc:24.3)(hi:PIG gd X tg iter wi)(hg:∀cl C s2 H2 fp pins,PG 0.6 tg g)(hf:∀cl C s2 H2 fp pins,PF 0.6 ifs tc)(pZ:∀cl C s2 H2 fp pins,PE 0.6 elt te)
  (hs:3.7):PE X 2.4 (Ea wi xs.length ix g tc te):=by
 intro 2
 obtain⟨cl,BG,h1,h2⟩:=so (scope:=scope) (env:=X.env) (λy hy hk=>I.ok.has y.1 (S.free y hy hk))
 refine ahk (use:=ζ) rfl hs BG S.kind S.names (abw (hi pins s σ H _ I h) (λxv b8 vF=>abw vF (λit pE zr=>?_) λ_ _ e=>e) λ_ _ e=>e)
 exact vQ (z:=λ18=>False) S hc hg hf pZ zr h1 h2 (λ_ _ _ zz=>zz.elim) λD C H' s1 m hn fC c1 c2 c3 c4 hI q=>⟨m,hn,λh' xH=>⟨.ref D,H',hI h' xH,rfl,q⟩⟩
def Nc(S:nK X scope xs ix N')(hc:24.3)(hi:PIG gd X tg iter wi)(hg:∀cl C s2 H2 fp pins,PG 0.6 tg g)(hf:∀cl C s2 H2 fp pins,PF 0.6 ifs tc)(pZ:∀cl C s2 H2 fp pins,PE 0.6 elt te)
  (hs:3.7)(hN0:X.N.Nodup)(hi0:X.N[i]?=ε y)(hy:X.env.scope.names.lookup y=ε .local)(hsw:swapsWith 2.4 (ε (.Name y py)) spos.line X.env=pure η):
  PS X (.Assign [.Name y py] 2.4 spos) (ze (Ea wi xs.length ix g tc te) (mM i)):=by
 intro 17
 obtain⟨cl,BG,h1,h2⟩:=so (scope:=scope) (env:=X.env) (λy hy hk=>I.ok.has y.1 (S.free y hy hk))
 rw[exec_Assign_Name_used _ _ _ _ hsw]
 refine aab (wpAny_standAt (aab ?_))
 refine aab (abw (ahk (use:=ε (assign (.Name y py) X.env)) (Q:=λ_ s'=>SP X pins D .next s') rfl hs BG S.kind S.names
  (abw (hi pins s σ H _ I h) (λxv b8 vF=>abw vF (λit pE zr=>?_) λ_ _ e=>e) λ_ _ e=>e)) (λ_ s' hq=>aaR (aaR hq)) λ_ _ e=>e)
 refine vQ (z:=λ18=>False) S hc hg hf pZ zr h1 h2 (λ_ _ _ zz=>zz.elim) λA C H' s1 m hn fC c1 c2 c3 c4 hI q=>?_
 have I1:=hI s1.heap (.refl ..)
 refine wpAny_assign_Name (Cr I1 hN0 hi0 (.inl hy) (show RelV (.ref A) (.ref A)from rfl) (λs3 I3 ch=>?_) (.inr hy))
 obtain⟨a,hs3,ha⟩:=ch
 have hCa:C≠a:=by grind
 refine⟨m,hn.sameBut hs3 hCa,λh' xH=>?_⟩
 exact⟨_,H',I3.turned (t':=s3.toks) (it:=C) (λ9=>(xH.2 b hb).trans e) fC c2 (.inr c1) c3 c4,q⟩
end
def lj(sc scope:Scope)(N:1.4)(xs:1.4)(ix:1.0)(N':1.4):Bool:=
 (scope.kind==.function)&&scope.names.all (λy=> !(y.2==.cell))&&scope.names.all (λy=> !(y.2==.local)||(scope.names.lookup y.1==ε .local))
 &&scope.names.all (λy=> !(y.2==.free)||(sc.names.lookup y.1==ε .cell||sc.names.lookup y.1==ε .free))
 &&(Ud sc scope).all (λy=> !(y.2==.cell||y.2==.free)||scope.names.any (λz=>z.1==y.1&&z.2==.free))
 &&(N'==xs++ix.map λj=>N.getD j "")&&ix.all (λj=>ι (j<N.length)&&scope.names.any (λz=>z.1==N.getD j ""&&z.2==.free)&&((Ud sc scope).lookup (N.getD j "")==ε .cell||(Ud sc scope).lookup (N.getD j "")==ε .free))
def ll(h:lj sc scope N xs ix N'=η)(e1:X.env.scope=sc)(e2:X.N=N):nK X scope xs ix N':=by
 subst e1 e2
 unfold lj at h
 simp only[abi,acC,Bool.or_eq_true,afs,List.any_eq_true,adA,afq,agm]at h
 obtain⟨⟨⟨⟨⟨⟨a1,a2⟩,a3⟩,a5⟩,a6⟩,a7⟩,a8⟩:=h
 refine⟨a1,a2,λy hy hk=>(a3 y hy).elim (λz=>absurd hk z) id,λy hy hk=>(a5 y hy).elim (λz=>absurd hk z) id,λn _ hn=>?_,a7,λj hj=>?_⟩
 .have:∃k,(n,k)∈Ud X.env.scope scope/\(k=NameKind.cell\/k=NameKind.free):=by
   rcases hn with z|z;.exact ⟨_,lookup_mem z,.inl rfl⟩
   .exact ⟨_,lookup_mem z,.inr rfl⟩
  obtain⟨k,hk,WX⟩:=this;rcases a6 (n,k) hk with z|⟨z,hz,e1,e2⟩;.grind
  .grind
 .obtain ⟨⟨b1,⟨z,hz,e1,e2⟩⟩,b3⟩:=a8 j hj;refine⟨b1,?_,b3⟩;obtain⟨z1,z2⟩:=z;cases e2;have e1':=e1;rw[<-e1'];exact hz
end
end L2
namespace L2
open PySem PySem.Spec PyProof.Rows LS
noncomputable def zR(f:D->Option (Option D)):List D->iA
 |[]=>ε []
 |d::ds=>(f d).bind λo=>(zR f ds).bind λxs=>ε (match o with|some x=>x::xs|none=>xs)
def gK(gi:cG)(k:Nat)(ix:1.0)(gt:13.4)(gc:rk)(ge:aY):cG:=λδ=>(gi δ).bind λds=>if ds.length<=100000 then
 zR (λd=>(gt d 3.3).bind λgV=>(gc gV).bind λb=>if b=η then(ge gV).map ε else ε ζ) ds else ζ
def UC(k:Nat)(gt:13.4):Prop:=∀d c gV,gt d (List.replicate k ζ++c)=ε gV->∃own:DS,own.length=k/\gV=own++c
def nM:UC 1 (bA 0):=λd c gV h=>by cases h;exact⟨[ε d],rfl,rfl⟩
set_option tactic.hygienic true in
theorem adL:UC 2 (mR 2 13.6):=λd c gV h=>by
 unfold mR at h
 split at h
 .split at h;.rename_i ds hl;match ds,hl with
   |[a,b],_=>cases h;exact⟨[ε a,ε b],rfl,rfl⟩
  .cases h
 .cases h
section
variable {K:aq}{O:1.0}{U A0:4.0}{σ:St}{δ:DS}{H H1:Hp}
def Rel.weak(R:Rel K [] U A0 σ (own++c) H):Rel K [] U A0 σ (List.replicate own.length ζ++c) H where
 len:=by rw[R.len];simp
 fz:=λi e hi q=>by
  by_cases h:i<own.length
  .rw [List.getElem?_append_left (by simpa using h),List.getElem?_replicate,if_pos h]at q;cases q
  .refine R.fz i e hi ?_;rw[List.getElem?_append_right (by simpa using h)]at q;rw[agS 0.1];simpa using q
 ow:=λi e hi=>by simp at hi
 inj:=λi j d e l hi=>by simp at hi
 al:=R.al
theorem Rel.W7(R:2.2)(k:Nat)(Gp:25.1):Rel K [] U A0 (List.replicate k ζ++L2.By ix σ) 3.3 H where
 len:=by simp[L2.By,fM]
 fz:=λi e _ q=>by
  by_cases h:i<k
  .rw [List.getElem?_append_left (by simpa using h),List.getElem?_replicate,if_pos h]at q;cases q
  .rw [List.getElem?_append_right (by simpa using h)]at q ⊢;simp only[ahL]at q ⊢;unfold fM at q;unfold L2.By;rw[abv]at q ⊢;cases ei:ix[i-k]? with
   |none=>rw[ei]at q;cases q
   |some j=>
     rw[ei]at q;simp only[ahq,Option.some.injEq]at q;obtain⟨u,hu,hd⟩:=R.fz j e (Gp j (afd ei)) (join_some q);exact⟨u,by simp[hu],hd⟩
 ow:=λi e hi=>by simp at hi
 inj:=λi j d e l hi=>by simp at hi
 al:=R.al
structure CB(K:aq)(U A0:4.0)(H1:Hp)(ds xs:List D)(F:D->Option (Option D))(base:DS)(i:Nat)(ys:List V)(τ:St)(H2:Hp)(zs rest:List D):Prop where
 le:i<=ds.length
 s:aE H1 H2
 R:Rel K [] U A0 τ base H2
 yl:ys.length<=i
 hz:ee K (wo H2 8.0) ys zs
 he:zR F (ds.drop i)=ε rest
 hx:zs++rest=xs
def CBW(K:aq)(U A0:4.0)(H1:Hp)(ds xs:List D)(F:D->Option (Option D))(base:DS)(i m:Nat)(ys:List V)(τ:St)(H2:Hp):Prop:=m=ds.length-i/\∃zs rest,CB K U A0 H1 ds xs F base i ys τ H2 zs rest
theorem Nd(own:UC k gt)(R:2.2)(s:aE H H1)(Gp:25.1)(hw:WalksS K 8.0 H1 J ds)
  (hl:ds.length<=100000)(e:zR (λd=>(gt d 3.3).bind λgV=>(gc gV).bind λb=>if b=η then(ge gV).map ε else ε ζ) ds=ε xs)
  (q:∀r ys H',aE H H'->H r=ζ->H' r=ε 14.4->ee K (wo H' (r::8.0)) ys xs->Q (.ref r) H'):yQ J k ix (tG K [] gt) (tT K [] gc) (tE K [] ge) σ H1 Q:=by
 have big:(100000:Nat)<sizeLine:=by decide
 obtain⟨F,hF⟩:∃F:D->Option (Option D),F=λd=>(gt d 3.3).bind λgV=>(gc gV).bind λb=>if b=η then(ge gV).map ε else ε none:=⟨_,rfl⟩
 rw[<-hF]at e
 refine⟨CBW K U A0 H1 ds xs F 3.3,⟨ds.length,rfl,[],xs,afc _,aE.refl _,(R.same s).W7 k Gp,abb _,.nil,e,rfl⟩,?_⟩
 rintro i m ys τ H2 ⟨rfl,zs,rest,w⟩
 have hle:=w.le
 have W3:=w.yl
 have he:=w.he
 refine⟨by lia,?_⟩
 obtain⟨Zr,zB⟩:=hw i H2 w.s
 by_cases lR:i<ds.length
 .obtain ⟨go,hyd⟩:=Zr _ (abh lR);rw[afR lR,zR]at he;generalize ds[i]=d at hyd he;obtain⟨o,e1,e2⟩:=bind1 he;obtain⟨rs,e3,e4⟩:=bind1 e2;rw[hF]at e1;obtain⟨gV,f1,f2⟩:=bind1 e1;obtain⟨b,f3,f4⟩:=bind1 f2;obtain⟨nM,ol,oe⟩:=own d _ gV f1;refine .inr ⟨go,by lia,λv H3 y=>?_⟩;obtain⟨s3,hv⟩:=hyd v H3 y;refine⟨U,A0,_,d,gV,w.R.same s3,hv,f1,λLa R3=>⟨U,A0,gV,b,R3,f3,λH4 s4=>?_⟩⟩;have wk:∀{H':Hp},aE H3 H'->Rel K [] U A0 La 3.3 H':=λ{H'} s'=>by
   rw[<-ol];rw[oe]at R3;exact(R3.same s').weak
  have lt:ds.length-(i+1)<ds.length-i:=Nat.sub_lt_sub_left lR (afn i);cases b with
  |true=>
    rw[abe rfl]at f4;rw[abe rfl];cases eg:ge gV with
    |none=>rw[eg]at f4;cases f4
    |some x=>
      rw[eg]at f4;cases f4;cases e4;exact⟨U,A0,gV,x,R3.same s4,eg,λu H5 s5 hu=>⟨_,lt,rfl,zs++[x],rs,lR,((w.s.trans s3).trans s4).trans s5,wk (s4.trans s5),by rw[abm];exact Nat.succ_le_succ W3,(w.hz.same (b9 ((s3.trans s4).trans s5))).app (.cons hu .nil),e3,by rw[<-w.hx,ac2];rfl⟩⟩
  |false=>
    rw[abo abj]at f4;rw[abo abj];cases f4;cases e4;exact⟨_,lt,rfl,zs,rs,lR,(w.s.trans s3).trans s4,wk s4,Nat.le_succ_of_le W3,w.hz.same (b9 (s3.trans s4)),e3,w.hx⟩
 .have hi:i=ds.length:=Nat.le_antisymm hle (aia lR);subst hi;rw[ahV,zR]at he;cases he;have hx:=w.hx;rw[abE]at hx;subst hx;exact .inl ⟨zB rfl,λ21=>CM (s.trans w.s) q p ys hp w.hz⟩
end
section
variable {X:Cx}{O:1.0}{scope:Scope}{elt iter tg:Expr}{ifs:6.9}{pos:Pos}{gi:cG}{ge:aY}{gt:13.4}{gc:rk}{k:Nat}
def PF.mono(h:PF X ifs t)(m:19.6):PF X ifs t':=λpins s σ H Q I q=>h pins s σ H Q I (m σ H Q q)
def fE:PF X [] (tT X.K O λ_=>ε η):=ZG.mono λσ H Q hh=>hh.e λU A0 δ b R e q=>by cases e;exact q H 3.8
set_option tactic.hygienic true in
def zS{K:aq}(own:UC k gt)(Gp:25.1):tN K O (gK gi k ix gt gc ge) σ H Q->Ea (SW K O gi) k ix (tG K [] gt) (tT K [] gc) (tE K [] ge) σ H Q:=λ⟨U,A0,δ,xs,R,ed,q⟩=>by
 intro 11
 split at e2
 .rename_i hl;exact⟨U,A0,δ,ds,R,e1,λJ H1 s hw=>Nd own R s Gp hw hl e2 q⟩
 .grind
def eO(sc:Scope)(N:1.4)(ix:1.0)(N' xs:1.4)(own:UC k gt)(hi:PI X tg iter (SW X.K O gi))(hg:∀cl C s2 H2 fp pins,PG 0.6 tg (tG X.K [] gt))(hf:∀cl C s2 H2 fp pins,PF 0.6 ifs (tT X.K [] gc))
  (pZ:∀cl C s2 H2 fp pins,PE 0.6 elt (tE X.K [] ge))(Gp:25.1:=by decide)(hk:lj sc scope N xs ix N'=true:=by decide +kernel)(hl:xs.length=k:=by rfl)
  (e1:X.env.scope=sc:=by rfl)(e2:X.N=N:=by rfl)(hc:X.calm=true:=by rfl)(hs:3.7:=by intro _;rfl):PE X 2.4 (tN X.K O (gK gi k ix gt gc ge)):=by
 subst hl
 exact(CU (gd:=zg) (ll hk e1 e2) (λ3=>hc) hi hg hf pZ hs).mono λ18=>zS own Gp
def P5(sc:Scope)(N:1.4)(ix:1.0)(N' xs:1.4)(hN0:X.N.Nodup)(hi0:X.N[i]?=ε y)(hy:X.env.scope.names.lookup y=ε .local)(own:UC k gt)(hi:PI X tg iter (SW X.K O gi))
  (hg:∀cl C s2 H2 fp pins,PG 0.6 tg (tG X.K [] gt))(hf:∀cl C s2 H2 fp pins,PF 0.6 ifs (tT X.K [] gc))(pZ:∀cl C s2 H2 fp pins,PE 0.6 elt (tE X.K [] ge))
  (Gp:25.1:=by decide)(hk:lj sc scope N xs ix N'=true:=by decide +kernel)(hl:xs.length=k:=by rfl)
  (e1:X.env.scope=sc:=by rfl)(e2:X.N=N:=by rfl)(hc:X.calm=true:=by rfl)(hs:3.7:=by intro _;rfl)(hsw:swapsWith 2.4 (ε (.Name y py)) spos.line X.env=pure true:=by rfl):
  PS X (.Assign [.Name y py] 2.4 spos) (ze (tN X.K O (gK gi k ix gt gc ge)) (mM i)):=by
 subst hl
 exact(Nc (gd:=zg) (ll hk e1 e2) (λ3=>hc) hi hg hf pZ hs hN0 hi0 hy hsw).mono λ_ _ _ h=>zS own Gp h
end
theorem zU:∀{bs:List Bool} {its:cF},bL (bs.map V.bl) its->its=bs.map Value.bool
 |[],_,.nil=>rfl
 |b::l,_,.cons r t=>by
   rw[abl,<-zU t];cases(show _=Value.bool b from r);rfl
def all_range{bs:List Bool}:(List.range bs.length).all (λi=>bs.getD i η)=bs.all id:=by
 rw[afX,acC,acC]
 constructor
 .intro h b hb;obtain⟨i,hi,e⟩:=agn hb;have:=h i (afN.mpr hi);rw[acI,abh hi]at this;rw[<-e];exact this
 .intro h i hi;have hi:=afN.mp hi;rw[acI,abh hi];exact h _ (agz hi)
theorem vR(hc:X.calm=η):gN X (.builtin "all") (λ16=>∃(p:Addr) (bs:List Bool),xs=[.ref p]/\nD X.K H p (bs.map V.bl)/\Q (.bl (bs.all id)) H):=by
 intro 7
 obtain⟨p,bs,rfl,hq,q⟩:=h
 obtain⟨u,rfl,rx⟩:=vals1 r
 cases rx
 obtain⟨its,rv,pl,_⟩:=I.list hq
 have e:=zU rv
 subst e
 have lR:p≠s.heap.objs.size:=by
  obtain⟨o,n,e1,_⟩:=pl;exact abn (aba e1)
 refine call_all_walk (wpAny_pyIter_list pl.isList ?_)
 refine⟨s.heap.objs.size,[s.heap.objs.size,p],[s.heap.objs.size],_,_,_,λi=>bs.getD i η,rfl,Walks.list (A:=X.A.in1) 13.1 _ p lR (bs.map Value.bool).toArray,⟨⟨_,aaS _ rfl,rfl,rfl⟩,pl.isList.push _⟩,λi v s' Q' E' hP hQ=>?_,λh' tk k=>?_⟩
 .have hP':(bs.map Value.bool)[i]?=ε v:=by simpa using hP
  rw[abv]at hP';cases eb:bs[i]? with
  |none=>rw[eb]at hP';cases hP'
  |some b=>
    rw[eb]at hP';cases hP';have hQ':Q' (bs.getD i η) s':=hQ;rw[acI,eb]at hQ';exact ae9 hQ'
 .have e:(List.range (bs.map Value.bool).toArray.size).all (λi=>bs.getD i η)=bs.all id:=by rw[<-all_range];simp
  rw[e];refine⟨.bl _,H,I.kept (t':=tk) λ14=>k b o (λz=>?_) (aao _ e),rfl,q⟩;rw[aff]at z;exact absurd (aba e) (by rw[z];exact ac3 _)
def Jd:bootBuiltins "all"=ε (.builtin "all"):=⋯
noncomputable def lp:List D->Option (List Bool)
 |[]=>ε []
 |.bool i::l=>(lp l).map (i::·)
 |_::_=>ζ
theorem nO:∀(ns:List Bool),lp (ns.map .bool)=ε ns
 |[]=>rfl
 |n::ns=>by rw[abl,lp,nO ns];rfl
theorem xI:∀{l:List D} {ns:List Bool},lp l=ε ns->l=ns.map .bool
 |[],_,h=>by cases h;rfl
 |d::l,ns,h=>by
   cases d with
   |bool i=>
     rw[lp]at h;cases e:lp l with
     |none=>rw[e]at h;cases h
     |some m=>rw[e]at h;cases h;rw[xI e];rfl
   |_=>cases h
theorem ee.toBools{K:aq}:∀{ns:List Bool} {xs:List V},ee K H xs (ns.map PyData.bool)->xs=ns.map V.bl
 |[],_,h=>by cases h;rfl
 |n::ns,_,h=>by
   cases h with
   |cons a t=>cases a;rw[ee.toBools t];rfl
def Gq:List D->Option D
 |[.list l]=>(lp l).map λbs=>.bool (bs.all id)
 |_=>ζ
set_option tactic.hygienic true in
theorem Eb{K:aq}:zx K (λ16=>∃(p:Addr) (bs:List Bool),xs=[.ref p]/\nD K H p (bs.map V.bl)/\Q (.bl (bs.all id)) H) Gq:=by
 intro 16
 unfold Gq at e
 split at e
 .rename_i l;cases eb:lp l with
  |none=>rw[eb]at e;cases e
  |some bs=>
    rw[eb]at e;cases e;intro 12;obtain⟨p,xs,rfl,h2,h3⟩:=h1.list;rw[xI eb]at h3;rw[h3.toBools]at h2;exact⟨p,bs,rfl,h2.sq,q _ H 3.8 (.bl _)⟩
 .cases e
section
variable {X:Cx}
def Je(K:aq):R2:=λ13=>∃a b ys,x=.ref a/\y=.ref b/\o8 K H a []/\o8 K H b ys/\Q (.ref b) H
def P6:kQ X (binaryOp .Add) (Je X.K):=by
 intro 3
 obtain⟨a,b,ys,rfl,rfl,ha,hb,q⟩:=h
 cases rx
 cases ry
 obtain⟨its,r1,p1,_⟩:=I.tuple ha
 obtain⟨Bv,r2,p2,_⟩:=I.tuple hb
 have e:=r1.yL.mpr rfl
 subst e
 obtain⟨⟨c1,d1,dt1,sl1⟩,ho,hc,n,hd⟩:=id p1
 obtain⟨⟨c2,d2,dt2,Y2⟩,qO,hc2,n2,hd2⟩:=id p2
 subst hc hd hc2 hd2
 exact concat_meets ⟨_,ho,rfl⟩ ⟨_,qO,rfl⟩ noFill_tuple_add seq_tuple_add ahz ahw (ahc _ _) (tuple_addW0 a b #[] Bv.toArray n n2 d1 d2 sl1 Y2 0.2) ⟨ho,qO,⟨.ref b,H,I,rfl,q⟩⟩
end
def ak(a b:D):Option D:=match a,b with
 |.tuple [],.tuple l=>ε (.tuple l)
 |a,b=>Zo a b
def UD:kQ X (binaryOp .Add) (λ13=>K2 X.K x y H Q\/Je X.K x y H Q):=Uj.or P6
def P7{K:aq}:kh K (λ13=>K2 K x y H Q\/Je K x y H Q) ak:=by
 intro 5
 unfold ak at e
 split at e
 .cases e;have hf:=hy.fz;obtain⟨a,xs,rfl,h1,h2⟩:=hx.tuple;obtain⟨b,zs,rfl,h3,h4⟩:=hy.tuple;cases h2;exact .inr ⟨a,b,zs,rfl,rfl,h1,h3,q _ H 3.8 hf⟩
 .exact .inl (Uk A H x y _ _ d Q al hx hy e q)
end L2
namespace L2
open PySem PySem.Spec PyProof.Rows
def ZJ:D->Option Key
 |.int i=>ε (.inl i)
 |.str x=>ε (.inr x)
 |_=>ζ
noncomputable def keysOf:List D->Option (List Key)
 |[]=>ε []
 |d::ds=>(ZJ d).bind λk=>(keysOf ds).bind λks=>ε (k::ks)
def keyOf:D->Option (List Key)
 |.tuple ds=>keysOf ds
 |_=>ζ
theorem lq:∀k:List Key,keysOf (k.map rj)=ε k
 |[]=>rfl
 |.inl i::k=>by rw[abl,keysOf,lq k];rfl
 |.inr i::k=>by rw[abl,keysOf,lq k];rfl
theorem CV{K:aq}:∀{xs:List V} {ds:List D} {k:24.8},ee K H xs ds->keysOf ds=ε k->xs=k.map kV
 |_,_,_,.nil,e=>by cases e;rfl
 |_,_,_,.cons h t,e=>by
   obtain⟨a,e1,e2⟩:=bind1 e;obtain⟨b,e3,e4⟩:=bind1 e2;cases e4;rw[CV t e3,abl];cases h with
   |int i=>cases e1;rfl
   |str x=>cases e1;rfl
   |_=>cases e1
def gP(kds:gU)(k:24.8):Option D:=(kds.find? λp=>ι (keyOf p.1=ε k)).map (·.2)
def mS(kds:gU)(k:24.8)(d:D):gU:=
 if(kds.any λp=>ι (keyOf p.1=ε k))=η then kds.map (λp=>if keyOf p.1=ε k then(p.1,d)else p)else kds++[(.tuple (k.map rj),d)]
def hV(e:keyOf p.1=ε k):gP (p::r) k=ε p.2:=by simp[gP,e]
def hZ(e:¬keyOf p.1=ε k):gP (p::r) k=gP r k:=by simp[gP,e]
theorem qV(k:24.8):∀kds:gU,(kds.any λp=>ι (keyOf p.1=ε k))=(gP kds k).isSome
 |[]=>rfl
 |p::r=>by
   rw[ahh];by_cases e:keyOf p.1=ε k;.simp only[hV e,abq e,Bool.true_or,Option.isSome_some]
   .rw [hZ e,abD e,Bool.false_or];exact qV k r
theorem CW(k j:24.8)(y:D):∀kds:gU,gP (kds.map λp=>if keyOf p.1=ε k then(p.1,y)else p) j=(gP kds j).map λx=>if j=k then y else x
 |[]=>rfl
 |p::r=>by
   have ih:=CW k j y r;rw[abl];by_cases h:keyOf p.1=ε k
   .rw [abe h];by_cases e:keyOf p.1=ε j;.rw [hV (p:=(p.1,y)) e,hV e,ahq,abe (adM (e.symm.trans h))]
    .rw [hZ (p:=(p.1,y)) e,hZ e,ih]
   .rw [abo h];by_cases e:keyOf p.1=ε j;.rw [hV (p:=p) e,hV e,ahq,abo (λz=>h (by rw[e,z]))]
    .rw [hZ (p:=p) e,hZ e,ih]
theorem CY(j:24.8):∀a b:gU,gP (a++b) j=(gP a j).or (gP b j)
 |[],b=>by rw[afI];rfl
 |p::r,b=>by
   rw[ae6];by_cases e:keyOf p.1=ε j;.rw [hV e,hV e];rfl
   .rw [hZ e,hZ e];exact CY j r b
def Nf(kds:gU)(k j:24.8)(d:D):gP (mS kds k d) j=if j=k then ε d else gP kds j:=by
 unfold mS
 by_cases a:(kds.any λp=>ι (keyOf p.1=ε k))=η
 .rw [abe a,CW];rw[qV]at a;by_cases e:j=k
  .obtain ⟨x,hx⟩:=aha.mp a;rw[abe e,e,hx,ahq,abe rfl]
  .simp_all
 .rw [abo a,CY];rw[qV]at a;have hk:keyOf (.tuple (k.map rj))=ε k:=lq k;by_cases e:j=k
  .subst e;have:gP kds j=none:=by simp_all
   rw[abe rfl,this,hV hk];rfl
  .rw [abo e,hZ (by rw[hk];exact λz=>e (adM z).symm)];exact Option.or_none
def CZ(kds:gU)(k:24.8)(d:D):(mS kds k d).length<=kds.length+1:=by
 unfold mS
 split
 .grind
 .grind
inductive DK(K:aq)(H:Hp):List (List Key×V)->List (D×D)->Prop
 |nil:DK K H [] []
 |cons {k:24.8} {v:V} {d:D} {r:4.8} {s:gU}:HD K H v d->DK K H r s->DK K H ((k,v)::r) ((.tuple (k.map rj),d)::s)
section
variable {K:aq}{H H':Hp}{A:4.0}
theorem DK.of:∀{aR:4.8} {kds:gU},kds.map (·.1)=aR.map 10.7->ee K H (aR.map (·.2)) (kds.map (·.2))->DK K H aR kds
 |[],[],_,_=>.nil
 |[],_::_,e,_=>by simp at e
 |_::_,[],e,_=>by simp at e
 |(k,v)::r,(x,d)::s,e,h=>by
   simp only[abl,List.cons.injEq]at e;obtain⟨e1,e2⟩:=e;subst e1;cases h with
   |cons h1 h2=>exact .cons h1 (DK.of e2 h2)
theorem DK.keys:∀{aR:4.8} {kds:gU},DK K H aR kds->kds.map (·.1)=aR.map 10.7
 |_,_,.nil=>rfl
 |_,_,.cons _ t=>by rw[abl,abl,DK.keys t]
theorem DK.vals:∀{aR:4.8} {kds:gU},DK K H aR kds->ee K H (aR.map (·.2)) (kds.map (·.2))
 |_,_,.nil=>.nil
 |_,_,.cons h t=>.cons h (DK.vals t)
def DK.own(h:DK K H aR kds):IJ K H (.dT aR) 15.9:=.ye h.keys h.vals
theorem DK.same(s:23.1)(h:DK K H aR kds):DK K H' aR kds:=DK.of h.keys (h.vals.same s)
theorem DK.len:∀{aR:4.8} {kds:gU},DK K H aR kds->aR.length=kds.length
 |_,_,.nil=>rfl
 |_,_,.cons _ t=>by rw[abk,abk,DK.len t]
theorem DK.look(k:24.8):∀{aR:4.8} {kds:gU},DK K H aR kds->(∀d,gP kds k=ε d->∃v,pR aR k=ε v/\HD K H v d)/\(gP kds k=ζ->pR aR k=ζ)
 |_,_,.nil=>⟨λd e=>(by cases e),λ_=>rfl⟩
 |_,_,.cons (k:=j) (v:=v) (d:=d) (r:=r) (s:=s) h t=>by
   have hj:keyOf (.tuple (j.map rj))=ε j:=lq j;by_cases e:j=k;.subst e;rw[hV (p:=(PyData.tuple (j.map rj),d)) hj,pT (p:=(j,v)) rfl];exact⟨λd' q=>by cases q;exact⟨v,rfl,h⟩,λq=>by cases q⟩
   .rw [hZ (p:=(PyData.tuple (j.map rj),d)) (by rw[hj];exact λz=>e (adM z)),pU (p:=(j,v)) e];exact DK.look k t
theorem DK.rep(k:24.8)(hv:HD K H v d):∀{aR:4.8} {kds:gU},DK K H aR kds->DK K H (aR.map λkv=>if kv.1=k then(kv.1,v)else kv) (kds.map λp=>if keyOf p.1=ε k then(p.1,d)else p)
 |_,_,.nil=>.nil
 |_,_,.cons (k:=j) h t=>by
   have hj:keyOf (.tuple (j.map rj))=ε j:=lq j;rw[abl,abl];by_cases e:j=k;.subst e;rw[abe rfl,abe hj];exact .cons hv (DK.rep j hv t)
   .rw [abo e,abo (by rw[hj];exact λz=>e (adM z))];exact .cons h (DK.rep k hv t)
theorem DK.app:∀{a:4.8} {b:gU} {a':4.8} {b':gU},DK K H a b->DK K H a' b'->DK K H (a++a') (b++b')
 |_,_,_,_,.nil,q=>q
 |_,_,_,_,.cons h t,q=>.cons h (DK.app t q)
theorem DK.put(h:DK K H aR kds)(k:24.8)(hv:HD K H v d):DK K H (putK aR k v) (mS kds k d):=by
 have e:(aR.any λkv=>ι (kv.1=k))=kds.any λp=>ι (keyOf p.1=ε k):=by
  rw[zp,qV];cases q:gP kds k with
  |none=>rw[(h.look k).2 q];rfl
  |some x=>obtain⟨w,hw,_⟩:=(h.look k).1 x q;rw[hw];rfl
 unfold putK mS
 rw[e]
 split
 .exact h.rep k hv
 .exact h.app (.cons hv .nil)
def kc.dk(h:kc K A H x 15.9)(hf:Uh kds=θ):∃a aR,x=.ref a/\H a=ε (.dT aR)/\DK K 19.5 aR kds:=
 let⟨a,aR,e,h1,h2,h3⟩:=h.dict hf;⟨a,aR,e,h1,DK.of h2 h3⟩
theorem kc.key(h:kc K A H y d)(e:keyOf d=ε k):∃b,y=.ref b/\fY H b (k.map kV):=by
 cases d with
 |tuple ds=>
   obtain⟨b,ys,rfl,hb,hd⟩:=h.adj;exact⟨b,rfl,by rw[<-CV hd e];exact hb⟩
 |_=>cases e
end
def vS(gd gk ge:aY):aY:=λδ=>(gd δ).bind λx=>(gk δ).bind λy=>(ge δ).bind λz=>match x with
 |.dict kds=>if Uh kds=η then ζ else(keyOf y).bind λk=>ε ((gP kds k).getD z)
 |_=>ζ
def Lb(i:Nat)(gk ge:aY):aV:=λδ=>(ge δ).bind λd=>(af i δ).bind λx=>(gk δ).bind λy=>match x with
 |.dict kds=>(keyOf y).bind λk=>if kds.length<100000 then ε (.nx (δ.set i (ε (.dict (mS kds k d)))))else ζ
 |_=>ζ
def W8(i:Nat)(g:DS->Option (gU)):aV:=λδ=>(g δ).bind λd=>ε (.nx (δ.set i (ε (.dict d))))
def P8(gk ge:aY):DS->Option (gU):=λδ=>(gk δ).bind λy=>(ge δ).bind λd=>(keyOf y).bind λk=>ε [(.tuple (k.map rj),d)]
def tNd(K:aq)(O:1.0)(g:DS->Option (gU)):TE:=λ8=>∃U A0 δ kds,Rel K O U A0 σ δ H/\g δ=ε kds/\
 ∀r aR H',aE H H'->H r=ζ->H' r=ε (.dT aR)->DK K (wo H' (r::8.0)) aR kds->Q (.ref r) H'
def tNd.e{K:aq}  {GG:Prop}(hh:tNd K O g σ H Q)(kk:∀U A0 δ kds,6.3->(g δ=ε kds)->(∀r aR H',aE H H'->H r=ζ->H' r=ε (.dT aR)->DK K (wo H' (r::8.0)) aR kds->Q (.ref r) H')->GG):GG:=by obtain⟨U,A0,δ,kds,x0,x1,x2⟩:=hh;exact kk U A0 δ kds x0 x1 x2
section
variable {X:Cx}{O:1.0}{fr:Fr}{st:Stmt}{gd gk ge:aY}{gl:DS->Option (gU)}{o i e f:Expr}{pos apos cY:Pos}
set_option tactic.hygienic true in
theorem zV(hu:12.2)(ho:PE X o (ir X.K O gd))(hi:PE X e (ir X.K O gk))(hx:PE X f 15.1)(m:M2 X o "get" apos e f cY:=by exact⟨rfl,rfl,rfl,rfl⟩):PE X (.Call (.Attribute o "get" apos) [e,f] [] cY) (tE X.K O (vS gd gk ge)):=(O9 hu ho hi hx m).mono λ1=>by
 intro 1
 obtain⟨y,e3,e4⟩:=bind1 e2
 obtain⟨z,e5,e6⟩:=bind1 e4
 refine⟨U,A0,δ,x,R,e1,λ17=>?_⟩
 cases x with
 |dict kds=>
   have e6:(if Uh kds=η then ζ else(keyOf y).bind λk=>ε ((gP kds k).getD z))=ε d:=e6;split at e6;.lia
   rename_i hf;have hf:=aiV.mpr hf;obtain⟨k,e7,e8⟩:=bind1 e6;cases e8;obtain⟨a,aR,rfl,ha,dk⟩:=h1.dk hf;refine⟨a,rfl,.inr ⟨_,.inl ha⟩,U,A0,δ,y,R.same s1,e3,λv2 H2 s2 h2=>⟨U,A0,δ,z,(R.same s1).same s2,e5,λv3 H3 s3 h3=>?_⟩⟩;obtain⟨b,rfl,hb⟩:=(h2.same s3).key e7;have dk3:=dk.same (b9 (A:=U++A0) (s2.trans s3));refine⟨pR aR k,uc.t ((s2.trans s3) _ _ ha) hb,q _ H3 (s1.trans (s2.trans s3)) ?_⟩;cases w:gP kds k with
   |none=>rw[(dk3.look k).2 w];exact h3
   |some d'=>obtain⟨w',hw',tW⟩:=(dk3.look k).1 d' w;rw[hw'];exact tW
 |_=>cases e6
set_option tactic.hygienic true in
theorem UE{i:Nat}(h:PS X st (WH (mi i) (ir X.K O gk) 15.1))(hi:i∈O:=by decide):PS X st (tS X.K O fr (Lb i gk ge)):=h.mono λ2=>by
 intro 6
 obtain⟨x,e3,e4⟩:=bind1 e2
 obtain⟨y,e5,e6⟩:=bind1 e4
 obtain⟨l,o,hl,hU,h1,h2⟩:=R.ow i x hi (join_some e3)
 cases h2 with
 |lst _=>cases e6
 |ye kk hv=>
   obtain⟨k,e7,e8⟩:=bind1 e6;split at e8
   .rename_i hz;cases e8;refine⟨U,A0,δ,d,R,e1,λv H1 s1 ZK=>⟨.ref l,hl,U,A0,δ,y,R.same s1,e5,λv2 H2 s2 h3=>?_⟩⟩;obtain⟨b,rfl,hb⟩:=h3.key e7;have dk:=DK.of kk hv;have hlen:=dk.len;have dk2:=dk.same (b9 (A:=U++A0) 7.3);refine⟨l,_,rfl,DQ.t (7.3 _ _ h1) hb (nF 0.1),?_⟩;exact P U σ _ ((R.same 7.3).adm hi hl hU (dk2.put k (ZK.same (b9 s2))).own ⟨_,join_some e3⟩) ((F.grow 7.3).put hU _)
   .grind
def UG{i:Nat}(h:PS X st (ze (tNd X.K O gl) (mM i)))(hi:i∈O:=by decide):PS X st (tS X.K O fr (W8 i gl)):=h.mono λ2=>by
 intro 6
 cases e2
 exact⟨U,A0,δ,d,R,e1,λr aR H' s hr h1 h2=>P (r::U) _ H' (R.adk s hr h1 h2.own hi) (F.more s hr)⟩
def Rel.adO{K:aq}(R:2.2)(s:23.1){o:HO}(hr:H r=ζ)(h:H' r=ε o)(ho:F6 o):Rel K O U (r::A0) σ δ H':=by
 have k:aE (wo H 8.0) (wo H' (U++(r::A0))):=λb o q=>by
  obtain⟨h1,h2⟩:=nG q;rw[aZ];.exact s b o h2
  .grind
 exact{
  len:=R.len
  fz:=λi d hi e=>let⟨v,a,b⟩:=R.fz i d hi e;⟨v,a,b.same k⟩
  ow:=λi d hi e=>let⟨l,o,a,c,f,g⟩:=R.ow i d hi e;⟨l,o,a,c,s _ _ f,g.same k⟩
  inj:=R.inj
  al:=⟨λa ha=>by
   simp only[abg,aa9]at ha;rcases ha with z|z|z;.exact (R.al.same s).1 a (by simp[z])
   .grind
   .exact (R.al.same s).1 a (by simp[z]),(R.al.same s).2⟩}
def ZL(tk tv:TE):TE:=λ8=>∀p,H p=ζ->IH [(tk,tv)] σ (upd H p (.dT [])) λps H2=>H2 p=ε (.dT [])/\∃b ks y,ps=[(.ref b,y)]/\fY H2 b (ks.map kV)/\Q 19.0 (upd H2 p (.dT [(ks,y)]))
theorem P9{k v:Expr}{tk tv:TE}(hu:12.2)(hk:PE X k tk)(hv:PE X v tv):PE X (.Dict [ε k] [v] pos) (ZL tk tv):=by
 intro pins s σ H Q I q
 have hn:=I.bV.fresh (abb s.heap.objs.size)
 have I1:=I.laid (a:=s.heap.objs.size) (o:=.dT []) (h':=s.heap.push {cls:=.type "dict",data:=.dict #[]}) (t':=s.toks) (λ_ _ q=>aao _ q) 5.6 (O7 s.heap I.big)
 have pp:PPs X pos [ε k] [v] [(tk,tv)]:=O8 hk hv T9
 refine wpAny_Dict_any rfl rfl 0.2 0.2 (eU (pp pins _ σ _ _ I1 (q _ hn)) λws s2 ⟨ps,H2,I2,rel,e,b,ks,y,e2,e4,q2⟩=>?_)
 subst e2
 cases rel with
 |@cons _ w _ _ h t=>
   cases t;obtain⟨u1,u2⟩:=w;obtain⟨r1,r2⟩:=h;cases(show u1=Value.ref b from r1);have hf:storeAll s.heap.objs.size [(Value.ref b,u2)]=(do dictSet s.heap.objs.size (Value.ref b) u2):=by
    unfold storeAll;rw[afE];simp
   rw[hf];obtain⟨z,hd,xs,rl,dd⟩:=WG I2.bV e;cases rl;refine wpAny_dictSet_heap (show X.A.units<cLine by lia) (vE I2.bV e4) dd (λh' dd' hs=>⟨.ref s.heap.objs.size,_,?_,rfl,q2⟩) (afc _);obtain⟨q,es,ep,hq,h2,h3,h4,_,h5⟩:=dd';have ag8:KT H2 [] []:=.nil;refine DR I2 (by rw[e];exact True.intro) hs ⟨q,hq⟩ ⟨small 0.2,hd,_,(ag8.put ks e4 r2).keeps λc ys ec=>?_,q,es,ep,hq,h2,h3,h4,h5⟩;exact ec.dT e
def Qa(hu:12.2)(hk:PE X k (ir X.K O gk))(hv:PE X v 15.1):PE X (.Dict [ε k] [v] pos) (tNd X.K O (P8 gk ge)):=(P9 hu hk hv).mono λσ H Q ⟨U,A0,δ,d,R,ed,q⟩ p hp=>by
 obtain⟨y,e1,e2⟩:=bind1 ed
 obtain⟨d',e3,e4⟩:=bind1 e2
 obtain⟨ks,e5,e6⟩:=bind1 e4
 cases e6
 have s0:=cy hp (.dT [])
 have R0:Rel X.K O U (p::A0) σ δ (upd H p (.dT [])):=R.adO s0 hp aN trivial
 refine⟨U,p::A0,δ,y,R0,e1,λ17=>⟨U,p::A0,δ,d',R0.same s1,e3,λw H2 s2 h2=>?_⟩⟩
 obtain⟨b,rfl,hb⟩:=(h1.same s2).key e5
 have hH2:=7.3 _ _ aN
 refine⟨hH2,b,ks,w,rfl,hb,q p _ _ (s0.trans (s1.trans s2)|>.upd hp _) hp aN ?_⟩
 have ew:wo (upd H2 p (.dT [(ks,w)])) (p::8.0)=wo H2 (p::8.0):=Pg 0.2
 rw[ew]
 exact .cons (h2.same (iP λa ha=>by simp only[abg,aa9]at ha ⊢;rcases ha with z|z|z;exact .inr (.inl z);exact .inl z;exact .inr (.inr z))) .nil
end
end L2
namespace LS
open PySem PySem.Spec PyProof.Rows
section
variable {prog:4.6}{w:World}{A:Around}{E:eL}{s:Shared}
theorem ag9(ft:TypeCalled T nw "object.__init__")(c1:checkTypeCall T ⟨us,kw⟩=pure ())(c2:checkBuiltinCall nw ⟨.type T::us,kw⟩=pure ())
  (en:entryFor table nw=ε Bn)(g:Meets (Bn ⟨.type T::us,kw⟩) S)(c3:∀o,argsOk "object.__init__" ⟨o::us,kw⟩)(gi:∀o,Meets (Builtin.«object.__init__» ⟨o::us,kw⟩) (λ_ R s=>s.TypeIs o T/\R (.ok (.ret .none)) s))
  (h:S A.in1 (wants (λo s1=>s1.TypeIs o T/\Q o s1) E) s):wpAny 0.7 A (call 20.5 us kw) Q E s:=by
 obtain⟨hc,tl,hm⟩:=ft.mro
 have k1:=ft.made
 have k2:=ft.sub
 have k3:=ft.notType
 have k4:=ft.canCreate
 refine wpAny_call (codeAny_of_tree (show wpAny _ _ (callAny 20.5 _) _ _ _ from aaR ⟨Code.quiet_builtin _ ⋯,afu F.entry_type_call ?_⟩))
 rw[Around.under_plain (weight_type_call_type T us kw) (units_type_call_type T us kw)]
 repeat any_goals first|assumption|wp_step
 refine afD (aga ft.plain en (ail c2 (g prog w A.in1 _ s h))) λr s1 hr=>?_
 cases r with
 |error e=>exact hr
 |ok fl=>
   cases fl with
   |ret o=>
     obtain⟨hT,hq⟩:=hr;have k5:=ft.init.lookup;have k6:=ft.init.bind o;repeat any_goals first|assumption|wp_step
     refine afD (aga ft.init.plain F.entry_object_init (ft.init.check _ _ _ _ _ _ _ _ hT (c3 o) (gi o prog w A.in1 (wants (λr s2=>r=.none/\Q o s2) E) s1 ⟨hT,rfl,hq⟩))) λr2 s2 hr2=>?_;cases r2 with
     |error e=>exact hr2
     |ok f2=>
       cases f2 with
       |ret r=>
         obtain⟨rfl,q2⟩:=hr2;repeat any_goals first|assumption|wp_step
       |_=>exact hr2.elim
   |_=>exact hr.elim
end
def initK(hl:typeLookup 20.5 "__init__"=pure (ε (.builtin "object.__init__")))(hm:Bind.madeBy 20.5=pure (ε nw))(gT:(ε nw !=ε "object.__new__")=η)(u:Value):
  Meets (Builtin.«object.__init__» ⟨o::u::us,kw⟩) (λ_ R s=>s.TypeIs o T/\R (.ok (.ret .none)) s):=by
 refine Meets.of_wp λprog w A R s hs=>?_
 obtain⟨hT,hq⟩:=hs
 repeat any_goals first|assumption|wp_step
 exact⟨_,rfl,hq⟩
def tcS(a b:Value):checkTypeCall "enumerate" ⟨[a],[("start",b)]⟩=pure ():=by kernel_rfl
def bcS(a b:Value):checkBuiltinCall "enumerate.__new__" ⟨[.type "enumerate",a],[("start",b)]⟩=pure ():=by kernel_rfl
def aoS(o a b:Value):argsOk "object.__init__" ⟨[o,a],[("start",b)]⟩:=by kernel_rfl
set_option maxHeartbeats 1000000 in
set_option tactic.hygienic true in
def ahb(l:Addr)(items:17.4)(n:Nat)(ye:23.6)(sl:15.4)(t:Tok):
  Meets (Builtin.«enumerate.__new__» ⟨[.type "enumerate",.ref l],[("start",.int 1 t)]⟩) (λ_ R s=>s.heap.get? l=ε {cls:=.type "tuple",dict:=ye,data:=.seq items n,slots:=sl}/\
   R (.ok (.ret (.ref (s.heap.push 1.6).objs.size)))
     {s with heap:=(s.heap.push 1.6).push 17.2}):=
 .of_wp λprog w A R s h=>by
  obtain⟨hp,g,d,tk,os⟩:=s;obtain⟨hl,h⟩:=h;have D0:=sub_enumerate;have hL:Heap.IsTuple (Shared.heap ⟨hp,g,d,tk,os⟩) l items:=⟨_,hl,rfl,n,rfl⟩;wp_walk using AutoSeq1.wpAny_loadPart' hl;refine wpAny_stack_any λst=>aaR ?_;split
  .rename_i c _ _ _ _ _;cases(c==Value.type "enumerate");.wp_walk using AutoSeq1.wpAny_loadPart' hl,wpAny_pyIter_tuple hL;exact⟨_,rfl,h⟩
   .wp_walk using AutoSeq1.wpAny_loadPart' hl,wpAny_pyIter_tuple hL;exact⟨_,rfl,h⟩
  .wp_walk using AutoSeq1.wpAny_loadPart' hl,wpAny_pyIter_tuple hL;exact⟨_,rfl,h⟩
section
variable {prog:4.6}{w:World}{A:Around}{E:eL}{s:Shared}
def Jf(hL:s.heap.IsTuple l items)
  (h:∀h',IsEnum h' 2.7 s.heap.objs.size 1 .none->h'.IsTupleIter s.heap.objs.size l 0->h'.objs.size=s.heap.objs.size+2->(∀b o,s.heap.get? b=ε o->h'.get? b=ε o)->Q (.ref 2.7) 2.0):
  wpAny 0.7 A (call (.type "enumerate") [.ref l] [("start",.int 1 t)]) Q E s:=by
 obtain⟨⟨c,ye,dt,sl⟩,hl,hc,n,hd⟩:=hL
 subst hc hd
 refine ag9 agi (tcS _ _) (bcS _ _) PySem.F.entry_enumerate_new (ahb l items n ye sl t) (λo=>aoS o _ _) (λo=>initK agi.init.lookup agi.made 0.0 _) ⟨hl,?_⟩
 have hz:(s.heap.push 1.6).objs.size=s.heap.objs.size+1:=aeI ..
 rw[hz]
 have he:IsEnum ((s.heap.push 1.6).push 17.2) 2.7 s.heap.objs.size 1 .none:=by
  have q:=aaS (s.heap.push 1.6) (o:=17.2) rfl;rw[hz]at q;exact q
 exact⟨⟨_,he,rfl⟩,h _ he ⟨_,aao _ (aaS _ rfl),rfl,rfl⟩ (by rw[aeI,hz]) λb o x=>aao _ (aao _ x)⟩
def Gr(k:Nat){St:Nat->Heap->Prop}(d:Draws prog w A it fp n P St):Draws prog w A it fp (n+k) (λi v=>∃j,i=j+k/\P j v) (λi h=>∃j,i=j+k/\St j h) where
 live:=λ_ h ⟨j,_,q⟩=>d.live j h q
 frame:=λ_ h h' ⟨j,e,q⟩ k=>⟨j,e,d.frame j h h' q k⟩
 item:=λi s Q E hi ⟨j,e,q⟩ hQ=>d.item j s Q E 0.1 q λx h' tk p st sb=>hQ x h' tk ⟨j,e,p⟩ ⟨j+1,by lia,st⟩ sb
 done:=λs Q E ⟨j,e,q⟩ hE=>d.done s Q E ((show j=n by lia) ▸ q) hE
def zW 
  (h:wpAny M A (spliced (backTo pos (starEach 4.5 env))) (λvs s1=>wpAny M A (evalAll ((backToKw pos 21.6).map (·.2))) (λks s2=>wpAny M A (call 20.5 vs (((backToKw pos 21.6).filterMap (·.1)).zip ks)) Q E s2) E s1) E s)
  (he:backTo pos (starEach 4.5 env)=(θ,eval e env)::backTo pos (starEach es env))(hp:(backTo pos (starEach 4.5 env)).any (·.1)=θ)(ha:(backToKw pos 21.6).all (·.1.isSome)=η)(hk:(backToKw pos 21.6).any (·.1.isNone)=θ):
  wpAny M A (callWith pos 20.5 [] (backTo pos (starEach 4.5 env)) (backToKw pos 21.6)) Q E s:=by
 have h1:wpAny M A (evalArgs 20.5 η (backTo pos (starEach 4.5 env)) (backToKw pos 21.6)) (λa s1=>wpAny M A (call 20.5 a.pos a.kw) Q E s1) E s:=by
  rw[he]at h ⊢;exact evalArgs_kwB ha h
 refine aab (agj (abw h1 (λa s1 q=>aab (wpAny_standAt ?_)) λ_ _ x=>x))
 simp only[hp,hk,ai0]
 exact aab (aaR (aab (abw q (λr s2 hr=>aab (agj (wpAny_point (aaR hr)))) λ_ _ x=>x)))
end
end LS
namespace L2
open PySem PySem.Spec PyProof.Rows LS
def ZM(k:Nat)(K:aq)(a:Addr):It:=
 ⟨λi H=>∃xs x,o8 K H a xs/\xs[i]?=ε x,λi H x H'=>∃p v,H p=ζ/\x=.ref p/\H'=upd H p (.tup [.int ((i:Int)+(k:Int)),v])/\∀xs,o8 K H a xs->xs[i]?=ε v,λi H=>∃xs,o8 K H a xs/\xs.length=i⟩
def Jg{K:aq}(k:Nat)(a e it:Addr)(gT:e≠it):Turn P w K 8.4 (ZM k K a) [e,it] e (λi h=>(∃old,IsEnum h e it ((i:Int)+(k:Int)) old)/\h.IsTupleIter it a i) where
 mem:=by simp
 obj:=λi h st b hb=>by
  obtain⟨⟨old,he⟩,o,ho,c,d⟩:=st;rcases aa9.mp hb with z|z;.grind
  .grind
 keep:=λi h h' st kp=>by
  obtain⟨⟨old,he⟩,rH⟩:=st;exact⟨⟨old,kp e 0.2 _ he⟩,rH.at λo eo=>kp it 0.2 o eo⟩
 item:=by
  intro 0;subst hP hw hK;obtain⟨xs,x,hq,hx⟩:=hg;obtain⟨its,rv,p,hz⟩:=I.tuple hq;obtain⟨u,hu,ru⟩:=rv.get hx;obtain⟨⟨old,he⟩,rH⟩:=st;have hp:=p;have hea:e≠a:=λz=>by
   obtain⟨o,ho,BG,_⟩:=hp;rw[<-z]at ho;have:=ho.symm.trans he;cases this;exact absurd (ahJ BG) 0.0
  have hia:a≠it:=λz=>by
   obtain⟨o,ho,BG,_⟩:=hp;obtain⟨o2,qO,Qb,_⟩:=rH;rw[z]at ho;have:=ho.symm.trans qO;cases this;rw[BG]at Qb;exact absurd (ahJ Qb) 0.0
  have hil:i<its.toArray.size:=by grind
  refine wpAny_pyNext_enum_itemD (i:=i+k) (LS.Gr k (lV (A:=X.A.in1) 13.1 it a hia its.toArray)) (by push_cast;exact he) ⟨i,rfl,rH,hp⟩ (Nat.add_lt_add_right hil k) gT (by simp[gT,hea]) λy h1 tk hy Tp ZN ht1 WV Zt=>?_;obtain⟨j',ej',ZN⟩:=ZN;obtain rfl:j'=i+1:=by lia
  have hyu:y=u:=by grind
  subst hyu;refine⟨_,rfl,wpAny_letOwnedTupleGo_enum Tp λh2 Ur yJ=>?_⟩;have heH:=aba he;have I1:Inv X pins σ H {s with heap:=h2,toks:=tk+1}:=I.qT (t':=tk+1) (ch:=[e,it]) (λb o hb eo=>by
   simp at hb;exact(yJ.2 b hb.1).trans (Zt b o hb.1 hb.2 eo)) hf;have ht2:IsTup h2 s.heap.objs.size [Value.int ((i:Int)+(k:Int)) tk,y].toArray:=⟨_,(yJ.2 _ (agD heH)).trans ht1,rfl,_,rfl⟩;have rM:=I.bV.fresh 5.6;have fo:=I.zf (H':=H) 5.6 rM;have I2:Inv X pins σ (upd H s.heap.objs.size (.tup [.int ((i:Int)+(k:Int)),x])) {s with heap:=h2,toks:=tk+1}:=I1.IM rM (acw I.sz 5.6) fo.2.1 fo.2.2.2.2.1 fo.2.2.2.2.2 ht2 (.cons ⟨_,rfl⟩ (.cons ru .nil)) (by show 2<=sizeLine;decide);refine⟨.ref s.heap.objs.size,_,I2,rfl,⟨_,x,rM,rfl,rfl,λys hy=>by rw[I.vw hy hq];exact hx⟩,⟨⟨y,by rw[show(((i+1:Nat):Int)+(k:Int))=(i:Int)+(k:Int)+1 by lia];exact Ur⟩,ZN.1.extBut yJ.extBut (afh gT)⟩,λ10=>?_⟩;have lR:b<s.heap.objs.size:=by
   rcases aa9.mp hb with z|z;.grind
   .have z:b=it:=by simpa using z
    subst z;obtain⟨o,ho,_⟩:=rH;exact aba ho
  rw[aB (abn lR)];exact(hf b hb).1
 done:=by
  intro 0;subst hP hw hK;obtain⟨xs,hq,hx⟩:=hg;obtain⟨its,rv,p,hz⟩:=I.tuple hq;obtain⟨⟨old,he⟩,rH⟩:=st;have hp:=p;have hia:a≠it:=λz=>by
   obtain⟨o,ho,BG,_⟩:=hp;obtain⟨o2,qO,Qb,_⟩:=rH;rw[z]at ho;have:=ho.symm.trans qO;cases this;rw[BG]at Qb;exact absurd (ahJ Qb) 0.0
  have hl:=rv.length;have hsz:its.toArray.size=i:=by rw[abr,<-hl];exact hx
  refine wpAny_pyNext_enum_endD (LS.Gr k (lV (A:=X.A.in1) 13.1 it a hia its.toArray)) he ⟨_,rfl,by rw[hsz];exact rH,hp⟩ λh1 eb=>⟨rfl,?_⟩;exact I.qT (t':=s.toks) (ch:=[e,it]) (λb o hb eo=>eb b o (λz=>hb (by simp[z])) eo) hf
 self:=λ15=>by
  obtain⟨⟨old,he⟩,_⟩:=st;exact ahE he h
section
variable {X:Cx}{O:1.0}{a:Expr}{ge:aY}{p pos:Pos}{es:6.9}{kk}{rn:Pos}
def Jh(k:Nat)(K:aq)(ta:TA):TI:=λσ H R=>ta σ H λvs H1=>∃a xs,vs=[.ref a]/\o8 K H1 a xs/\R (ZM k K a) H1
def Gs(k:Nat)(I2:Inv X pins σ H2 s2)(he:IsEnum h' (s2.heap.objs.size+1) s2.heap.objs.size (k:Int) .none)(hit:h'.IsTupleIter s2.heap.objs.size b 0)(hk:∀b o,s2.heap.get? b=ε o->h'.get? b=ε o)(q:R (ZM k X.K b) H2):
  wpAny 0.4 X.A (pyIter (.ref (s2.heap.objs.size+1))) (λSS s=>PIE X pins σ 8.4 R SS s) X.xe {s2 with heap:=h'}:=by
 refine ahE he ?_
 refine⟨s2.heap.objs.size+1,[s2.heap.objs.size+1,s2.heap.objs.size],_,_,H2,rfl,I2.kept (t':=s2.toks) hk,Jg k b _ s2.heap.objs.size (Nat.succ_ne_self _),⟨⟨_,by rw[show((0:Nat):Int)+(k:Int)=(k:Int)by lia];exact he⟩,hit⟩,λ10=>?_,q⟩
 have hle:s2.heap.objs.size<=b:=by grind
 exact I2.zf hle (I2.bV.fresh hle)
def Qc(hg:Gl X "enumerate")(hm:X.mg "enumerate"=ζ)(ha:PA X [a] ta)(hs:starEach [a] X.env=[13.2]:=by rfl):PI X 8.4 (.Call 24.7 [a] [⟨ε "start",.Constant (.int 1) jj cp,kp⟩] pos) (Jh 1 X.K ta):=by
 intro pins s σ H R I h
 refine afw (nA I hg hm nH (LS.zW (eU 11.8 λus s1 ⟨vs,H1,I1,r1,q1⟩=>?_) (by rw[hs];rfl) (by rw[hs];rfl) rfl rfl))
 obtain⟨b,xs,e,hq,q⟩:=q1
 subst e
 obtain⟨u,rfl,ru⟩:=vals1 r1
 cases ru
 refine PyProof.Rows.evalAll_cons (aab (eU (b6 pins s1 σ H1 (λv H2=>v=V.int 1/\H2=H1) I1 ⟨rfl,rfl⟩) λkv s2 ⟨v,H2,I2,rv2,e1,e2⟩=>aab (wpAny_standAt (aaR (PyProof.Rows.evalAll_nil ?_)))))
 subst e1 e2
 obtain⟨t,rfl⟩:=rv2
 obtain⟨its,rv,pl,hz⟩:=I2.tuple hq
 refine LS.Jf (show s2.heap.IsTuple b its.toArray from pl) λh' he hit hsz hk=>?_
 exact Gs 1 I2 he hit hk q
def Qd(hg:Gl X "enumerate")(hm:X.mg "enumerate"=ζ)(ha:PA X [a] ta)(hs:starEach [a] X.env=[13.2]:=by rfl):PI X 8.4 (.Call 24.7 [a] [] pos) (Jh 0 X.K ta):=by
 intro pins s σ H R I h
 refine Call_ (nA I hg hm nH (afa (eU 11.8 λus s1 ⟨vs,H1,I1,r1,q1⟩=>?_) hs rfl))
 obtain⟨b,xs,e,hq,q⟩:=q1
 subst e
 obtain⟨u,rfl,ru⟩:=vals1 r1
 cases ru
 obtain⟨its,rv,pl,hz⟩:=I1.tuple hq
 refine IQ (show s1.heap.IsTuple b its.toArray from pl) λh' he hit hsz hk=>?_
 exact Gs 0 I1 he hit hk q
noncomputable def zX(k:Nat)(l:List D):List D:=(l.zipIdx k).map λp=>.tuple [.int (p.2:Nat),p.1]
abbrev Qe(l:List D):List D:=zX 1 l
def Ng(k:Nat)(l:List D):(zX k l).length=l.length:=by unfold zX;simp
theorem Nh{i:Nat}(h:(zX k l)[i]?=ε d):∃x,l[i]?=ε x/\d=.tuple [.int ((i:Int)+(k:Int)),x]:=by
 unfold zX at h
 rw[abv,agQ]at h
 cases e:l[i]? with
 |none=>rw[e]at h;cases h
 |some x=>grind
def Ji(k:Nat)(g:aY):cG:=λδ=>(g δ).bind λ|.tuple l=>ε (zX k l)|_=>ζ
theorem C0(h:PI X 8.4 e (Jh k X.K (KH 15.1 OO))):PI X 8.4 e (tI X.K O (Ji k ge)):=h.mono λ4=>by
  intro 1;cases x with
  |tuple l=>
    cases e2;refine⟨U,A0,δ,_,R,e1,λ12=>?_⟩;cases h with
    |tup hq h=>
      refine⟨_,_,rfl,.inl (cH.sr hq),q _ H' s ?_⟩;intro A' i H2 s2 al;have h2:=h.same s2;have hL:o8 X.K H2 _ _:=.inl (cH.sr (s2.sr hq));refine⟨λd hd=>?_,λhi=>⟨_,hL,by rw[hi,Ng,h2.len]⟩⟩;obtain⟨y,hy,rfl⟩:=Nh hd;obtain⟨v,hv,hvd⟩:=h2.get hy;refine⟨⟨_,v,hL,hv⟩,λz H3 hz=>?_⟩;obtain⟨p,v',hp,rfl,rfl,hv'⟩:=hz;have:=hv' _ hL;rw[hv]at this;cases this;exact⟨cy hp _,HD.BE al hp (.cons 24.2 (.cons hvd .nil))⟩
  |_=>cases e2
abbrev Qf(g:aY):=Ji 1 g
abbrev Qg(g:aY):=Ji 0 g
def Qh(hm:X.mg "enumerate"=ζ)(ha:PE X a 15.1)(hg:Gl X "enumerate":=by rfl)(hs:starEach [a] X.env=[13.2]:=by rfl)(DZ:starEach ([]:List Expr) X.env=[]:=by rfl):PI X 8.4 (.Call 24.7 [a] [⟨ε "start",.Constant (.int 1) jj cp,kp⟩] pos) (tI X.K O (Qf ge)):=C0 (Qc hg hm (bu ha cz (by rw[hs,DZ])) hs)
def Qi(hm:X.mg "enumerate"=ζ)(ha:PE X a 15.1)(hg:Gl X "enumerate":=by rfl)(hs:starEach [a] X.env=[13.2]:=by rfl)(DZ:starEach ([]:List Expr) X.env=[]:=by rfl):PI X 8.4 (.Call 24.7 [a] [] pos) (tI X.K O (Qg ge)):=C0 (Qd hg hm (bu ha cz (by rw[hs,DZ])) hs)
end
def ZO:bootBuiltins "zip"=ε (.type "zip"):=⋯
section
variable {a b:Expr}{kk}
noncomputable def Qj(x y:List D):List D:=List.zipWith (λa b=>.tuple [a,b]) x y
end
end L2
namespace L2
open PySem PySem.Spec PyProof.Rows
section
variable {X:Cx}{O:1.0}{e:Expr}
def W9(h:PE X e (tC 19.0))(m:(p,xs)∈dw)(hd:∀H,ee X.K H xs ds):PE X e (tE X.K O (gC (.tuple ds))):=h.mono λ1=>by
 cases ed
 exact q 19.0 H 3.8 (.tup (Ug (R.al.2 p xs m) R.al) (hd _))
end
def bT(K0:aq):aq:=K0.filter λq=>(dw.lookup q.1).isNone
theorem lu(b:Addr):∀K0:aq,(bT K0).lookup b=if(dw.lookup b).isNone=η then K0.lookup b else ζ
 |[]=>by simp[bT]
 |(c,o)::r=>by
   have ih:=lu b r;unfold bT at ih ⊢;by_cases e:b=c;.grind
   .grind
structure lx(K0:aq):Prop where
 one:∀p xs,(p,xs)∈dw->dw.lookup p=ε xs
 tup:∀p xs,dw.lookup p=ε xs->∃(od:23.6) (its:17.4) (n:Nat) (sl:15.4),K0.lookup p=ε ⟨.type "tuple",od,.seq its n,sl⟩/\xs.length<=sizeLine/\bL xs its.toList
theorem lx.look(C:lx K0)(h:K0.lookup b=ε o)(n:∀its n,o.data≠.seq its n):(bT K0).lookup b=ε o:=by
 rw[lu]
 cases q:dw.lookup b with
 |none=>exact h
 |some xs=>
   obtain⟨od,its,k,sl,e,_⟩:=C.tup b xs q;rw[h]at e;cases e;exact absurd rfl (n its k)
theorem lx.func(C:lx K0){st:Stmt}(F:Bx K0 x qual st f fd):Bx (bT K0) x qual st f fd:=by
 obtain⟨⟨oc,od,kV,doc,pm,an,bW,ct,KJ,e1,e2,e3⟩,kp⟩:=F
 have e2':=C.look e2 (λits n z=>by cases z)
 refine⟨⟨oc,od,kV,doc,pm,an,bW,ct,KJ,e1,e2',?_⟩,?_⟩
 .unfold PySem.W.codeIn at e3 ⊢;cases bW with
  |ref c=>
    simp only at e3 ⊢;cases q:K0.lookup c with
    |none=>rw[q]at e3;exact absurd e3 0.2
    |some ob=>
      obtain⟨c1,c2,dt,c4⟩:=ob;rw[q]at e3;cases dt with
      |fields vs=>rw[C.look q (λits n z=>by cases z)];exact e3
      |_=>exact absurd e3 0.2
  |_=>exact e3
 .unfold PySem.W.keepIn;simp only[e2']
def Hc(K0:aq):Hp:=λb=>match dw.lookup b with
 |some xs=>(K0.lookup b).map λob=>HO.za ob (.tup xs)
 |none=>ζ
theorem Ni(C:lx K0)
  (KX:K0.In b8.heap)(SY:b8.heap.Ns mainGlobals mg)(hb:b8.heap.Ns builtinsNs mb)(hbb:∀x:Str,x≠"__name__"->mb x=bootBuiltins x)(ahd:b8.heap.NoLimit)(hg:b8.gens=#[])
  (ha:b8.heap.get? a=ε 14.9)(hi:IntsAre vs ns)(hl:ns.length<=sizeLine)(hr:dQ k callerA)
  (F:∀base:Heap,(bT K0).In base->base.Ns mainGlobals mg->mP P w (bT K0) mg base CX k fa fd [x] sp)(adP:∀(s:Shared) (u:Value),BindsTo s fd ⟨[u],[]⟩ [(x,u)])
  (OS:∀H:Hp,Ie (bT K0) H a 19.2->(∀p xs,(p,xs)∈dw->fY H p xs)->sp [.ref a] H (λv _=>v=.bl η) λ18=>False)
  (hCX:∀H e s',CX [] H b8 (λ18=>False) e s'->False):
  codeAny (model P w) callerA (.call (.ref fa) ⟨[.ref a],[]⟩) (λr s'=>r=.ok (.ret 11.6)/\OldK b8.heap s'.heap/\s'.os=b8.os/\AllBare s'.gens) b8:=by
 have rv:=CG hi
 have ahf:=hi.length
 have core:∀H:Hp,(∀b,H b=ζ\/∃o u,H b=ε (.za o u))->Ie (bT K0) H a 19.2->qP P w H b8.heap->(∀p xs,(p,xs)∈dw->fY H p xs)->(∀b o es ep,H b≠ζ->b8.heap.get? b=ε o->o.data≠.dict es ep)->(∀b,H b≠ζ->(bT K0).lookup b=ζ)->
   codeAny (model P w) callerA (.call (.ref fa) ⟨[.ref a],[]⟩) (λr s'=>r=.ok (.ret 11.6)/\OldK b8.heap s'.heap/\s'.os=b8.os/\AllBare s'.gens) b8:=by
  intro H hO hS bV hT hD hK;have Lc:∀{b:Addr} {o:Obj},b8.heap.get? b=ε o->H b=ζ->(DC b8.heap H).get? b=ε o:=λe n=>Ou e n;have noA:∀{b:Addr} {o:Obj} {es:Array DictEntry} {ep:Nat},b8.heap.get? b=ε o->o.data=.dict es ep->H b=none:=λ{b o es ep} e d=>by grind
  have nsK:∀{b:Addr} {m:cX},b8.heap.Ns b m->(DC b8.heap H).Ns b m:=λ{b m} ⟨o,es,ep,e,d,r⟩=>⟨o,es,ep,Lc e (noA e d),d,r⟩;have hKb:(bT K0).In (DC b8.heap H):=λ14=>by
   have e0:K0.lookup b=ε o:=by
    rw[lu]at e;split at e;.exact e
    .cases e
   refine Lc (KX b o e0) ?_;cases q:H b with
   |none=>rfl
   |some u=>rw[hK b (by rw[q];simp)]at e;cases e
  have hM:Mod (bT K0) mg (DC b8.heap H):=⟨hKb,nsK SY,⟨mb,nsK hb,hbb⟩,let⟨mc,h1,h2⟩:=ahd;⟨mc,nsK h1,h2⟩⟩;have e0:DG P w (bT K0) mg (DC b8.heap H) callerA [] b8 H:=⟨rfl,hM,λ14=>Tq e,Nat.le_of_eq (MD _ _),trivial,λ10=>absurd (show b∈([]:List Addr)from hb) 0.2,bV,.of_eq hg⟩;refine afD ((F _ hKb (nsK SY)).run callerA [] b8 H ⟨[.ref a],[]⟩ [.ref a] [.ref a] _ _ hr e0 (adP b8 5.5) (.cons rfl .nil) (OS H hS hT)) λr s' h=>?_;cases r with
  |error e=>exact(hCX H e s' h).elim
  |ok fl=>
    cases fl with
    |next=>exact False.elim h
    |brk=>exact False.elim h
    |cont=>exact False.elim h
    |ret u=>
      obtain⟨v,H',os,bare,un,ahg,r',q⟩:=h;have q':=q;subst q';obtain rfl:u=Value.bool true:=r';refine⟨rfl,OldK.of_keep λ14=>?_,os,bare⟩;cases q:H b with
      |none=>exact un.keep b o e q (by intro z;exact absurd (show b∈([]:List Addr)from z) 0.2) 0.2
      |some u=>
        rcases hO b with z|⟨ob,xs,z⟩;.grind
        .have z2:=un.ri b ob _ z;obtain⟨e1,_⟩:=bV b _ z;obtain⟨e2,_⟩:=ahg b _ z2;rw[e]at e1;cases e1;exact e2
 have hc1:∀b,Hc K0 b=ζ\/∃ob xs od its n sl,Hc K0 b=ε (.za ob (.tup xs))/\dw.lookup b=ε xs/\K0.lookup b=ε ob/\ob=⟨.type "tuple",od,.seq its n,sl⟩/\xs.length<=sizeLine/\bL xs its.toList:=by
  intro b;unfold Hc;cases q:dw.lookup b with
  |none=>exact .inl rfl
  |some xs=>
    obtain⟨od,its,n,sl,e,h1,h2⟩:=C.tup b xs q;refine .inr ⟨_,xs,od,its,n,sl,?_,rfl,e,rfl,h1,h2⟩;rw[e];rfl
 have hcO:∀(H:Hp) b ob u,Hc K0 b=ε (.za ob u)->dS P w H b8.heap b (.za ob u):=λH b ob u e=>by
  rcases hc1 b with z|⟨ob',xs,od,its,n,sl,z,_,z2,rfl,z3,z4⟩;.grind
  .rw [z]at e;cases e;have UH:=KX b _ z2;exact⟨UH,z3,its.toList,z4,_,UH,rfl,n,by simp⟩
 have hcT:∀p xs,(p,xs)∈dw->∃ob,Hc K0 p=ε (.za ob (.tup xs)):=λp xs m=>by
  obtain⟨od,its,n,sl,e,_⟩:=C.tup p xs (C.one p xs m);refine⟨⟨.type "tuple",od,.seq its n,sl⟩,?_⟩;unfold Hc;rw[C.one p xs m];rw[e];rfl
 have hcD:∀b o es ep,Hc K0 b≠ζ->b8.heap.get? b=ε o->o.data≠.dict es ep:=λb o es ep z e d=>by
  rcases hc1 b with q|⟨ob',xs,od,its,n,sl,q,_,z2,rfl,_⟩;.grind
  .have UH:=KX b _ z2;rw[UH]at e;cases e;cases d
 have hcK:∀b,Hc K0 b≠ζ->(bT K0).lookup b=none:=λb z=>by
  rcases hc1 b with q|⟨ob',xs,od,its,n,sl,q,q2,_⟩;.grind
  .rw [lu,q2];rfl
 have hcF:∀b,Hc K0 b=ζ\/∃o u,Hc K0 b=ε (.za o u):=λb=>by grind
 cases hk:K0.lookup a with
 |some o=>
   have e:=KX a o hk;rw[ha]at e;cases e;have hno:dw.lookup a=none:=by grind
   refine core (Hc K0) hcF (.inr ⟨vs,_,by rw[lu,hno];exact hk,by rw[ahf];exact hl,rv⟩) (λb u z=>?_) (λp xs m=>.inr (hcT p xs m)) hcD hcK;rcases hcF b with q|⟨ob,u',q⟩;.grind
   .grind
 |none=>
   have hno:dw.lookup a=none:=by grind
   have hna:Hc K0 a=none:=by unfold Hc;rw[hno]
   refine core (λb=>if b=a then ε (.za 14.9 (.lst 19.2))else Hc K0 b) (λb=>?_) (.inl (.inr ⟨14.9,abe rfl⟩)) (λb u z=>?_) (λp xs m=>?_) (λb o es ep z e d=>?_) λb z=>?_;.grind
   .by_cases hb:b=a
    .have z':=(abe hb).symm.trans z;cases z';subst hb;exact⟨ha,by rw[aaI];exact hl,vs,_,rv,ha⟩
    .grind
   .obtain ⟨ob,q⟩:=hcT p xs m;refine .inr ⟨ob,?_⟩;have hb:p≠a:=λe=>by rw[e,hna]at q;cases q
    exact(abo hb).trans q
   .grind
   .by_cases hb:b=a
    .subst hb;rw[lu,hno];exact hk
    .grind
def Qk{l:PySem.W.OpenLaw}{K:Params->aq}{CX:World->WB}{sp:World->Sp} 
  (hn:l.most=ε n)(WA:n<=sizeLine)(hdf:d.params.defaults=[])(hr:dQ k callerA)(hY:∀(w:World) (h:Heap),YP w h->(K w.params).In h)
  (F:∀(w:World) (mg:cX) (fa:Addr) (h:Heap),(K w.params).In h->h.Ns mainGlobals mg->mg d.name=ε (.ref fa)->lx (K w.params)/\
   ∃fd:FuncData,(∀(s:Shared) (u:Value),BindsTo s fd ⟨[u],[]⟩ [(x,u)])/\∀base:Heap,(bT (K w.params)).In base->base.Ns mainGlobals mg->mP l.prog w (bT (K w.params)) mg base (CX w) k fa fd [x] (sp w))
  (OS:∀(w:World) (H:Hp) (a:Addr) (ns:3.6),ns.length<=n->Ie (bT (K w.params)) H a 19.2->(∀p xs,(p,xs)∈dw->fY H p xs)->sp w [.ref a] H (λv _=>v=.bl η) λ18=>False)
  (hCX:∀(w:World) (H:Hp) (s:Shared) (e:Value) (s':Shared),CX w [] H s (λ18=>False) e s'->False):
  PySem.W.WalkO q loose XP YP l.row.toRowW d [] (λf vs=>PySem.call f vs):=by
 refine Att.FY hn hdf λw jt b8 mg mb fa o pm cd doc a vs ns G Y ho hd xC hmg Y7 hints hlen hg=>?_
 have KX:=hY w _ Y
 obtain⟨C,fd,hb,hF⟩:=F w mg fa _ KX G.T.g hmg
 exact Ni C KX G.T.g G.T.b G.T.builtins G.T.nolimit hg Y7 hints (acw hlen WA) hr hF hb (λH hS hT=>OS w H a ns hlen hS hT) λH e s'=>hCX w H b8 e s'
noncomputable def Gu(neg:Bool):D->D->Option D:=λx y=>match y with
 |.list l=>if(SeqAt.shaped x&&l.all SeqAt.shaped)=η then ε (.bool ((l.any λz=>PyData.eqv z x)!=neg))else ζ
 |.tuple l=>if(SeqAt.shaped x&&l.all SeqAt.shaped)=η then ε (.bool ((l.any λz=>PyData.eqv z x)!=neg))else ζ
 |_=>ζ
def adR(K:aq)(neg:Bool):R2:=λ13=>∃dy ds dx,HD K H y dy/\(dy=.list ds\/dy=.tuple ds)/\HD K H x dx/\SeqAt.shaped dx=η/\ds.all SeqAt.shaped=η/\Q (.bl ((ds.any λz=>PyData.eqv z dx)!=neg)) H
theorem um(h:ds.all SeqAt.shaped=η):PyData.canLayAll0 ds=true:=by
 induction ds with
 |nil=>rfl
 |cons d ds ih=>
   rw[ahe,abi]at h;have h1:=h.1;unfold SeqAt.shaped at h1;rw[abi]at h1;rw[PyData.canLayAll0,h1.1,ih h.2];rfl
section
variable {X:Cx}
def Ld(hr:dQ k X.A)(sx:SeqAt.shaped dx=η):X.A.units+1+min (PyData.depthAll ds) dx.depth<cLine:=by
 unfold SeqAt.shaped at sx
 rw[abi,adA]at sx
 have:=hr.un
 lia
def Nj(hr:dQ k X.A):kQ X (compareOp .NotIn) (adR X.K η):=by
 intro 3
 obtain⟨dy,ds,dx,hy,hd,hx,sx,sds,q⟩:=h
 obtain⟨as,r1⟩:=hx.reads I rx (iQ sx)
 rw[Bool.bne_true]at q
 rcases hd with rfl|rfl
 .obtain ⟨bs,r2⟩:=hy.reads I ry (by rw[PyData.canLay0];exact um sds);exact SeqAt.notIn_list_reads r2 r1 (um sds) (iQ sx) (Ld hr sx) ⟨.bl _,H,I,rfl,q⟩
 .obtain ⟨bs,r2⟩:=hy.reads I ry (by rw[PyData.canLay0];exact um sds);exact SeqAt.notIn_tuple_reads r2 r1 (um sds) (iQ sx) (Ld hr sx) ⟨.bl _,H,I,rfl,q⟩
end
set_option tactic.hygienic true in
theorem UI{K:aq}:kh K (adR K neg) (Gu neg):=by
 intro 5
 unfold Gu at e
 cases dy with
 |list l=>
   simp only at e;split at e;.rename_i c;rw[abi]at c;cases e;exact⟨_,l,dx,hy.WO,.inl rfl,hx.WO,c.1,c.2,q _ H 3.8 (.bl _)⟩
   .cases e
 |tuple l=>
   simp only at e;split at e
   .rename_i c;rw[abi]at c;cases e;exact⟨_,l,dx,hy.WO,.inr rfl,hx.WO,c.1,c.2,q _ H 3.8 (.bl _)⟩
   .cases e
 |_=>cases e
set_option tactic.hygienic true in
theorem UJ(gi:cG)(ix:1.0)(ge:aY):eF gi ix ge=gK gi 1 ix (bA 0) (λ_=>ε η) ge:=by
 funext δ
 unfold eF gK
 cases gi δ with
 |none=>rfl
 |some ds=>
   rw[aaG,aaG];split;.induction ds with
    |nil=>rfl
    |cons d ds ih=>
      rename_i h;rw[Px,zR,ih (by rw[abk]at h;lia)];show _=Option.bind (Option.map ε (ge (ε d::fM ix δ))) _;cases ge (ε d::fM ix δ)<;>rfl
   .rfl
section
variable {X:Cx}{O:1.0}{gi:cG}{ix:1.0}{ge:aY}
def PE.Le(h:PE X e (tN X.K O (gK gi 1 ix (bA 0) (λ_=>ε η) ge))):PE X e (tN X.K O (eF gi ix ge)):=by rw[UJ];exact h
end
end L2
namespace L2
open PySem PySem.Spec PyProof.Rows PySem.Calls
set_option maxRecDepth 100000
end L2
namespace L2
open PySem PySem.Spec PyProof.Rows
def Itx(x:Str):It:=⟨λi _=>i<x.cps.size,λi H v H'=>H'=H/\∃c,x.cps[i]?=ε c/\v=.str ⟨#[c]⟩,λi _=>x.cps.size<=i⟩
def Nk{K:aq}(x:Str)(t:Tok)(it:Addr):Turn P w K tg (Itx x) [it] it (λi h=>h.IsStrIter it "str_ascii_iterator" x t i) where
 mem:=by simp
 obj:=λi h st b hb=>by
  have e:b=it:=by simpa using hb
  subst e;obtain⟨o,e,c,d⟩:=st;exact⟨o,e,λv z=>by rw[d]at z;cases z⟩
 keep:=λi h h' st k=>by
  obtain⟨o,e,r⟩:=st;exact⟨o,k it 0.2 o e,r⟩
 item:=by
  intro 0;obtain⟨c,hx⟩:∃c,x.cps[i]?=ε c:=⟨x.cps[i]'hg,aeV hg⟩;intro 4;refine wpAny_pyNext_ascii_item st hx λh' yI sb=>?_;have I1:=I.turned (t':=s.toks+1) (λ9=>(sb.2 b hb).trans e) f0 f1 f3 f4 f5;obtain⟨o,e,c',d⟩:=id yI;exact⟨_,rfl,FT (s:={s with heap:=h',toks:=s.toks+1}) e c' d 0.0 ⟨.str ⟨#[c]⟩,H,I1,⟨_,rfl⟩,⟨rfl,c,hx,rfl⟩,yI,λ10=>(hf b hb).1⟩⟩
 done:=by
  intro 0;intro 4;exact wpAny_pyNext_ascii_end 13.1 st (ahI hg) λh' eb=>⟨rfl,I.turned (t':=s.toks) (λ9=>eb b o hb e) f0 f1 f3 f4 f5⟩
 self:=λ15=>wpAny_pyIter_striter_ascii st h
def ahi(tl:TE):TI:=λσ H R=>tl σ H λv H1=>∃x,v=.str x/\x.cps.all (·<128)=η/\R (Itx x) H1
noncomputable def p3(x:Str):List D:=x.cps.toList.map λc=>.str ⟨#[c]⟩
def nP(g:aY):cG:=λδ=>(g δ).bind λ|.str x=>if x.cps.all (·<128)=η then ε (p3 x)else ζ|_=>ζ
section
variable {X:Cx}{O:1.0}{tg e o y:Expr}{ge go:aY}{apos cY:Pos}
def UK(hl:PE X l tl):PI X tg l (ahi tl):=by
 intro pins s σ H R I h
 refine eU (hl pins s σ H _ I h) λv s1 ⟨x,H1,I1,r1,z,e,ha,q⟩=>?_
 subst e
 obtain⟨t,rfl⟩:=r1
 refine wpAny_pyIter_ascii ha ?_
 refine⟨s1.heap.objs.size,[s1.heap.objs.size],_,_,H1,rfl,I1.kept (t':=s1.toks) λ14=>aao _ e,Nk z t _,⟨_,aaS _ rfl,rfl,rfl⟩,λ10=>?_,q⟩
 have e:b=s1.heap.objs.size:=by simpa using hb
 subst e
 exact I1.zf 5.6 (I1.bV.fresh 5.6)
def HD.text{K:aq}(h:HD K H v 18.9):v=.str x:=by cases h;rfl
theorem Gv(h:PE X e 15.1):PI X tg e (tI X.K O (nP ge)):=(UK h).mono λ4=>by
 intro 1
 cases x with
 |str x=>
   replace e2:(if x.cps.all (·<128)=η then ε (p3 x)else ζ)=ε ds:=e2;by_cases ha:x.cps.all (·<128)=η
   .rw [abe ha]at e2;cases e2;refine⟨U,A0,δ,_,R,e1,λ12=>⟨x,h.text,ha,q _ H' s ?_⟩⟩;intro A' i H2 s2 _;refine⟨λd hd=>?_,λhi=>?_⟩;.rw [p3,abv,Array.getElem?_toList]at hd;cases hc:x.cps[i]? with
     |none=>rw[hc]at hd;cases hd
     |some c=>
       rw[hc]at hd;cases hd;refine⟨(acN.mp hc).1,λv H3 hy=>?_⟩;obtain⟨rfl,c',hc',rfl⟩:=hy;rw[hc]at hc';cases hc';exact⟨aE.refl _,.str _⟩
    .show x.cps.size<=i;rw[hi,p3,aaI,abf];exact abb _
   .grind
 |_=>cases e2
noncomputable def mT:List D->Option D
 |[.int i]=>if i.natAbs<2000000000 then ε (.str (toString i:String))else ζ
 |_=>ζ
set_option tactic.hygienic true in
def jO{K:aq}:zx K (λ16=>∃i:Int,xs=[.int i]/\i.natAbs.log2<1920/\Q (.str (toString i:String)) H) mT:=by
 intro 16
 unfold mT at e
 split at e
 .rename_i i;split at e
  .rename_i hz;cases e;intro 12;refine⟨i,by rw[h1.int],?_,q _ H 3.8 (.str _)⟩;have:i.natAbs.log2<31:=by
    by_cases h0:i.natAbs=0;.simp_all
    .exact (Nat.log2_lt h0).mpr (Nat.lt_trans hz 0.0)
   lia
  .cases e
 .cases e
noncomputable def Lf:List D->Option D
 |[.str x]=>if x.length<=640 then(PySem.intText? x).map .int else ζ
 |_=>ζ
def C1:gN X (.type "int") (λ16=>∃x n,xs=[.str x]/\x.length<=640/\PySem.intText? x=ε n/\Q (.int n) H):=by
 intro 7
 obtain⟨x,n,rfl,hl,hn,q⟩:=h
 obtain⟨u,rfl,t,rfl⟩:=vals1 r
 exact PySem.W.KIN.call_text hn hl ⟨.int _,H,I.tok _,⟨_,rfl⟩,q⟩
theorem kc.text{K:aq}(h:kc K A H v 18.9):v=.str x:=by
 rcases h with h|⟨l,o,rfl,e,q⟩
 .exact h.text
 .cases q
set_option tactic.hygienic true in
def Gw{K:aq}:zx K (λ16=>∃x n,xs=[.str x]/\x.length<=640/\PySem.intText? x=ε n/\Q (.int n) H) Lf:=by
 intro 16
 unfold Lf at e
 split at e
 .rename_i x;split at e
  .rename_i hz;obtain⟨n,hn,rfl⟩:=adT.mp e;intro 12;exact⟨x,n,by rw[h1.text],hz,hn,q _ H 3.8 24.2⟩
  .cases e
 .cases e
def BJ(b:Bool):D->D->Option D:=λx y=>match x,y with
 |.str i,.str j=>ε (.bool (13.0==b))
 |_,_=>ζ
set_option tactic.hygienic true in
def Lg{K:aq}:kh K (λ13=>∃i j,x=.str i/\y=.str j/\Q (.bl 13.0) H) (BJ η):=by
 intro 5
 unfold BJ at e
 split at e
 .rename_i i j;cases e;refine⟨i,j,hx.text,hy.text,?_⟩;have:=q (.bl 13.0) H 3.8 (by rw[beq_true];exact .bl _);exact this
 .cases e
noncomputable def vU:List D->Option (List Str)
 |[]=>ε []
 |.str x::l=>(vU l).map (x::·)
 |_::_=>ζ
theorem zY:∀(xs:1.4),vU (xs.map .str)=ε xs
 |[]=>rfl
 |n::ns=>by rw[abl,vU,zY ns];rfl
theorem xJ:∀{l:List D} {ns:1.4},vU l=ε ns->l=ns.map .str
 |[],_,h=>by cases h;rfl
 |d::l,ns,h=>by
   cases d with
   |str x=>
     obtain⟨r,hr,rfl⟩:=adT.mp h;rw[abl,xJ hr]
   |_=>cases h
theorem ee.toTexts{K:aq}:∀{ns:1.4} {xs:List V},ee K H xs (ns.map .str)->xs=ns.map .str
 |[],_,h=>by rw[ait]at h;cases h;rfl
 |n::ns,_,h=>by
   cases h with
   |cons a t=>rw[a.text,ee.toTexts t];rfl
theorem zZ:∀{ns:1.4} {us:cF},bL (ns.map V.str) us->∃l:List (Str×Tok),us=strValues l/\l.map (·.1)=ns
 |[],_,r=>by rw[ait]at r;cases r;exact⟨[],rfl,rfl⟩
 |n::ns,_,r=>by
   cases r with
   |cons h t=>
     obtain⟨k,rfl⟩:=h;obtain⟨l,rfl,e⟩:=zZ t;exact⟨(n,k)::l,rfl,by rw[abl,e]⟩
def rJoin(K:aq):V->List V->Hp->VK->Prop:=λx vs H Q=>∃sep p ns,x=.str sep/\vs=[.ref p]/\nD K H p (ns.map V.str)/\JoinOk sep ns=η/\Q (.str (Txt.join sep ns)) H
def UL:TX X "str.join" (rJoin X.K):=by
 intro 13
 obtain⟨sep,p,ns,rfl,rfl,hq,hj,q⟩:=h
 intro 10
 obtain⟨u,rfl,ru⟩:=vals1 rv
 cases ru
 obtain⟨its,r',pl,hz⟩:=I.list hq
 obtain⟨l,rfl,hl⟩:=zZ r'
 exact SC.join pl.isList hl hj λt' k=>⟨.str _,H,I.tok _,⟨_,rfl⟩,q⟩
def i5(go ge:aY):aY:=λδ=>(go δ).bind λs=>(ge δ).bind λx=>match s,x with
 |.str sep,.list l=>(vU l).bind λns=>if JoinOk sep ns=η then ε (.str (Txt.join sep ns))else ζ
 |_,_=>ζ
set_option tactic.hygienic true in
theorem jP(ho:PE X o (ir X.K O go))(he:PE X e 15.1)(jY:attributeBase o "join" X.env 12.3=eval o X.env:=by rfl)
  (DP:16.3=true:=by rfl)
  (jZ:7.9:=by rfl)(hs:starEach [e] X.env=[1.7]:=by rfl)(DZ:starEach ([]:List Expr) X.env=[]:=by rfl):
  PE X (.Call (.Attribute o "join" apos) [e] [] cY) (tE X.K O (i5 go ge)):=
 (kY afL PySem.F.slot_str_join PySem.F.type_str_join UL ho (bu he cz (by rw[hs,DZ])) jY DP jZ (by rw[hs,DZ]) (by rw[DZ];rfl)).mono λ1=>by
  obtain⟨s,e1,ed⟩:=bind1 ed;obtain⟨x,e2,ed⟩:=bind1 ed;cases s with
  |str sep=>
    cases x with
    |list l=>
      obtain⟨ns,e3,ed⟩:=bind1 ed;split at ed
      .rename_i hj;cases ed;refine⟨U,A0,δ,_,R,e1,λ17=>?_⟩;rw[h1.text];refine⟨rfl,U,A0,δ,_,R.same s1,e2,λw H2 s2 h2=>?_⟩;cases h2 with
       |lst hq h=>
         rw[xJ e3]at h;rw[h.toTexts]at hq;exact⟨sep,_,ns,rfl,rfl,(hq.same cH).sq,hj,q _ H2 7.3 (.str _)⟩
      .grind
    |_=>cases ed
  |_=>cases ed
def Nl{x y:Str}(hy:(y.length==0)=θ)(hsz:x.length<=sizeLine)
  (ZP:(Builtin.Str.partsBetween x (Builtin.Str.occurrences x y 0 x.length (x.length+1)) y.length).length<=sizeLine)
  (hq:∀(l:List (Str×Tok)) k,l.map (·.1)=Txt.split x y->Q 2.6 {s with heap:=s.heap.push 18.4,toks:=k}):
  wpAny (model M w) A (call (.builtin "str.split") [.str x t,.str y u]) Q E s:=by
 cases h1:(ι (x.length<y.length)||decide (Builtin.Str.strKind x<Builtin.Str.strKind y))
 .cases hf:(Builtin.Str.occurrences x y 0 x.length (x.length+1)).isEmpty
  .refine agP aeW (agO _ _ _) afo (ahl _ _) (meets_str_split_sep x y t u h1 hy hf hsz ZP) ?_;rw[strsFrom_eq];exact hq (numbered s.toks _) _ ((numbered_texts _ _).trans ((abo (ae8 h1)).trans (abo (ae8 hf))).symm)
  .exact agP aeW (agO _ _ _) afo (ahl _ _) (meets_str_split_not_found x y t u h1 hy hf) (hq [(x,t)] s.toks ((abo (ae8 h1)).trans (abe hf)).symm)
 .exact agP aeW (agO _ _ _) afo (ahl _ _) (meets_str_split_cannot_occur x y t u h1) (hq [(x,t)] s.toks (abe h1).symm)
theorem sE:∀(l:List (Str×Tok)),bL ((l.map (·.1)).map V.str) (strValues l)
 |[]=>.nil
 |p::l=>.cons ⟨p.2,rfl⟩ (sE l)
def ZQ:V->List V->Hp->VK->Prop:=λx vs H Q=>∃a b,x=.str a/\vs=[.str b]/\(b.length==0)=θ/\a.length<=sizeLine/\
 (Builtin.Str.partsBetween a (Builtin.Str.occurrences a b 0 a.length (a.length+1)) b.length).length<=sizeLine/\(Txt.split a b).length<=sizeLine/\∀p,H p=ζ->Q 19.0 (upd H p (.lst ((Txt.split a b).map V.str)))
def Ql:TX X "str.split" ZQ:=by
 intro 13
 obtain⟨a,b,rfl,rfl,hy,hz,hz2,hz3,q⟩:=h
 intro 10
 obtain⟨u,rfl,t',rfl⟩:=vals1 rv
 refine Nl hy hz hz2 λl k hl=>?_
 have J:=I.laid (t':=k) (o:=.lst ((Txt.split a b).map V.str)) (h':=s.heap.push 18.4) (a:=s.heap.objs.size) (λ22=>aao _ z) 5.6
  ⟨by rw[aaI];exact hz3,strValues l,0,by rw[<-hl];exact sE l,aaS _ rfl⟩
 exact⟨.ref _,_,J,rfl,q _ 21.0⟩
noncomputable def nQ(a b:Str):Bool:=(b.length==0)==θ&&ι (a.length<=100000)&&ι ((Builtin.Str.partsBetween a (Builtin.Str.occurrences a b 0 a.length (a.length+1)) b.length).length<=100000)&&ι ((Txt.split a b).length<=100000)
def iw(go ge:aY):cG:=λδ=>(go δ).bind λs=>(ge δ).bind λx=>match s,x with
 |.str a,.str b=>if nQ a b=η then ε ((Txt.split a b).map .str)else ζ
 |_,_=>ζ
theorem ee.texts{K:aq}:∀(ns:1.4),ee K H (ns.map V.str) (ns.map .str)
 |[]=>.nil
 |n::ns=>.cons (.str n) (ee.texts ns)
theorem p5(ho:PE X o (ir X.K O go))(he:PE X e (ir X.K O ge))(jY:attributeBase o "split" X.env 12.3=eval o X.env:=by rfl)
  (DP:16.3=true:=by rfl)
  (jZ:7.9:=by rfl)(hs:starEach [e] X.env=[1.7]:=by rfl)(DZ:starEach ([]:List Expr) X.env=[]:=by rfl):
  PE X (.Call (.Attribute o "split" apos) [e] [] cY) (tN X.K O (iw go ge)):=
 (kY afL aeW PySem.F.type_str_split Ql ho (bu he cz (by rw[hs,DZ])) jY DP jZ (by rw[hs,DZ]) (by rw[DZ];rfl)).mono λ1=>by
  obtain⟨s,e1,ed⟩:=bind1 ed;obtain⟨x,e2,ed⟩:=bind1 ed;cases s with
  |str a=>
    cases x with
    |str b=>
      replace ed:(if nQ a b=η then ε ((Txt.split a b).map PyData.str)else ζ)=ε d:=ed;by_cases bV:nQ a b=η
      .rw [abe bV]at ed;cases ed;unfold nQ at bV;simp at bV;obtain⟨⟨⟨k1,k2⟩,k3⟩,k4⟩:=bV;refine⟨U,A0,δ,_,R,e1,λ17=>?_⟩;rw[h1.text];refine⟨rfl,U,A0,δ,_,R.same s1,e2,λw H2 s2 h2=>?_⟩;rw[h2.text];refine⟨a,b,rfl,rfl,by simpa using k1,Nat.le_of_lt (nF k2),Nat.le_of_lt (nF k3),Nat.le_of_lt (nF k4),λ21=>?_⟩;exact q p _ _ ((s1.trans s2).trans (cy hp _)) ((s1.trans s2).free hp) aN (ee.texts _)
      .grind
    |_=>cases ed
  |_=>cases ed
end
section
variable {X:Cx}{O:1.0}{e:Expr}{ga:aY}{lo hi:Option Expr}{gl gh:DS->Option (Option Int)}{pos p2:Pos}
theorem part_of(h:IsPart v i):∃l:Option (Int×Tok),v=partValue l/\l.map (·.1)=i:=by
 cases h with
 |none=>exact⟨ζ,rfl,rfl⟩
 |int i t=>exact⟨ε (i,t),rfl,rfl⟩
def ahj:V->Option Int->Option Int->Hp->VK->Prop:=λx lo hi H Q=>∃a,x=.str a/\a.length<=sizeLine/\Q (.str (Txt.slice a lo hi)) H
def ZR:SlR X ahj:=by
 intro pins s σ H x v vl vu lo hi sl Q I rx hs pl pu h
 obtain⟨a,rfl,hz,q⟩:=h
 intro 10
 obtain⟨l,rfl,rfl⟩:=part_of pl
 obtain⟨u,rfl,rfl⟩:=part_of pu
 obtain⟨ob,h1,h2,h3⟩:=hs
 exact⟨"str",_,PySem.F.slot_str_getitem.lookup,agO _ _ _,wpAny_getItem_str_slice (l:=l) (u:=u) (st:=ζ) ⟨ob,h1,h2,h3⟩ rfl (post_val_or_str ⟨acw (Txt.slice_le a _ _) hz,λt' k=>⟨.str _,H,I.tok k,⟨t',rfl⟩,q⟩⟩)⟩
noncomputable def p6(a:aY)(lo hi:DS->Option (Option Int)):aY:=λδ=>(a δ).bind λx=>(lo δ).bind λl=>(hi δ).bind λh=>match x with
 |.str z=>if z.length<=100000 then ε (.str (Txt.slice z l h))else ζ
 |_=>ζ
set_option tactic.hygienic true in
theorem z0(ha:PE X e 7.1)(hl:PO X lo (WT X.K O gl))(hh:PO X hi (WT X.K O gh)):PE X (.Subscript e (.Slice lo hi ζ p2) pos) (tE X.K O (p6 ga gl gh)):=(FW ZR ha hl hh).mono λ1=>by
 intro 1
 obtain⟨l,e3,e4⟩:=bind1 e2
 obtain⟨h,e5,e6⟩:=bind1 e4
 cases x with
 |str z=>
   simp only at e6;split at e6
   .rename_i hz;cases e6;refine⟨U,A0,δ,_,R,e1,λ17=>⟨U,A0,δ,l,R.same s1,e3,λH2 s2=>⟨U,A0,δ,h,R.same 7.3,e5,λH3 s3=>?_⟩⟩⟩;exact⟨z,h1.str,afY (nF hz),q _ H3 ((s1.trans s2).trans s3) (.str _)⟩
   .grind
 |_=>cases e6
end
end L2
namespace L2
open PySem PySem.Spec PySem.W PyProof.Rows
section
variable {X:Cx}{O:1.0}{o e:Expr}{go ge:aY}{cY apos:Pos}
def UM:V->List V->Hp->VK->Prop:=λx vs H Q=>∃a b,x=.str a/\vs=[.str b]/\Q (.bl (Txt.startswith a b)) H
def Np:TX X "str.startswith" UM:=by
 intro 13
 obtain⟨a,b,rfl,rfl,q⟩:=h
 intro 10
 obtain⟨u,rfl,t',rfl⟩:=vals1 rv
 exact SC.startswith ⟨.bl _,H,I,rfl,q⟩
noncomputable def yR(go ge:aY):aY:=λδ=>(go δ).bind λs=>(ge δ).bind λx=>match s,x with
 |.str a,.str b=>ε (.bool (Txt.startswith a b))
 |_,_=>ζ
theorem Nq(ho:PE X o (ir X.K O go))(he:PE X e (ir X.K O ge))(jY:attributeBase o "startswith" X.env 12.3=eval o X.env:=by rfl)
  (DP:16.3=true:=by rfl)
  (jZ:7.9:=by rfl)(hs:starEach [e] X.env=[1.7]:=by rfl)(DZ:starEach ([]:List Expr) X.env=[]:=by rfl):
  PE X (.Call (.Attribute o "startswith" apos) [e] [] cY) (tE X.K O (yR go ge)):=
 (kY afL PySem.F.slot_str_startswith PySem.F.type_str_startswith Np ho (bu he cz (by rw[hs,DZ])) jY DP jZ (by rw[hs,DZ]) (by rw[DZ];rfl)).mono<|by
  rintro σ H Q ⟨U,A0,δ,d,R,ed,q⟩;obtain⟨s,e1,ed⟩:=bind1 ed;obtain⟨x,e2,ed⟩:=bind1 ed;cases s with
  |str a=>
    cases x with
    |str b=>
      cases ed;refine⟨U,A0,δ,_,R,e1,λ17=>⟨by rw[h1.str];rfl,U,A0,δ,_,R.same s1,e2,λv2 H2 s2 h2=>?_⟩⟩;rw[h1.str,h2.str];exact⟨a,b,rfl,rfl,q _ H2 7.3 (.bl _)⟩
    |_=>cases ed
  |_=>cases ed
end
end L2
namespace L2
open PySem PySem.Spec PyProof.Rows
end L2
namespace L2
open PySem PySem.Spec PySem.W PyProof.Rows
def BK:entryFor table "proto.unchain"=ε Builtin.«proto.unchain»:=entryFor_of_fast 0.3
section
variable {prog:4.6}{w:World}{A:Around}{E:eL}{s:Shared}
def Ec(ho:s.heap.get? x=ε ox)(hd:ox.data=.fields fs)(h2:fs[2]?=ε Value.none)(hQ:Q .none s):
  wpAny 0.7 A (runValue (.builtin "proto.unchain" ⟨[e,.ref x,.ref x,.bool θ],[]⟩)) Q E s:=by
 refine wpAny_runValue (afu BK ?_)
 refine aab (afe ho hd h2 ?_)
 exact aaR hQ
def Gx(hh:A.handled=ε (.ref x))(gT:x≠a)(ho:s.heap.get? x=ε ox)(hd:ox.data=.fields fs)(h2:fs[2]?=ε Value.none)
  (hoa:s.heap.get? a=ε oa)(hda:oa.data=.fields va)(hsz:2<va.size)(hE:E 5.5 {s with heap:=s.heap.update a (Obj.mapFields (·.setIfInBounds 2 (.ref x)))}):
  wpAny 0.7 A (raiseNew (α:=α) 5.5) Q E s:=by
 refine aab (wpAny_handled ?_)
 rw[hh]
 have hb:=bne_iff_ne.mpr λe=>gT (Value.ref.inj e)
 show wpAny _ _ (if(Value.ref x !=Value.ref a)=η then _ else _) _ _ s
 rw[abe hb]
 refine aab (agj (Ec ho hd h2 ?_))
 refine aab ?_
 refine aab (wpAny_load hoa ?_)
 rw[hda]
 dsimp only
 rw[abe hsz]
 refine wpAny_update hoa ?_
 exact aiT hE
def BL{y left step:Int}(hh:A.handled=ε (.ref x))(ho:s.heap.get? x=ε ox)(hd:ox.data=.fields fs)(h2:fs[2]?=ε Value.none)
  (hit:IsRangeIter s.heap it y left step)(adS:left<=0)(hQ:∀h',Heap.ExtBut it s.heap h'->Q ζ 2.0):wpAny 0.7 A (pyNext 14.3) Q E s:=by
 have hT:s.TypeIs 14.3 "range_iterator":=⟨_,hit,rfl⟩
 refine aab (agE (adC (name:=Str.ofString "__next__") hT F.slot_range_iterator_next
  (aeL F.slot_range_iterator_next hT F.entry_range_iterator_next ?_ (F.args_range_iterator_next_1 _))))
 show wpAny _ _ (field 14.3 0 >>= _) _ _ s
 refine aab (afe hit rfl (x:=rawInt y) rfl ?_)
 refine aab (afe hit rfl (x:=rawInt left) rfl ?_)
 refine aab (afe hit rfl (x:=rawInt step) rfl ?_)
 show wpAny _ _ (if left<=0 then _ else _) _ _ s
 rw[abe adS]
 refine aab (ah7 ?_)
 refine aab ?_
 refine aab ?_
 refine aab (m:=firstArgMember _ _) (ail (a:=Value.none) (by first|rfl|(simp only[firstArgMember];rfl)) ?_)
 refine afj ?_ (by size_fits)
 have hx:=aba ho
 refine Gx (x:=x) hh ?_ (aao _ (aao _ ho)) hd h2 (aaS _ rfl) rfl (by rw[aiW];exact abc (show 2<6 by decide) (Nat.le_add_right _ _)) ?_
 .intro e;rw[e]at hx;have:s.heap.objs.size<=(s.heap.push {cls:=.type "tuple",data:=.seq [].toArray}).objs.size:=by simp[Heap.push]
  exact absurd (abc hx this) (ac3 _)
 .refine aab (aif (T:="StopIteration") (b:=η) ⟨_,acx _ (aaS _ rfl) ?_,?_⟩ isSubtype_stop ?_);.exact ad9 (abF rfl _)
  .exact (agF ..).trans rfl
  .refine aaR (hQ _ λ9=>?_);have e2:=aao {cls:=.type "tuple",data:=.seq [].toArray} e;refine(((adK ..).2 b ?_).trans (aao _ e2));intro z;have:=aba e2;rw[z]at this;exact absurd this (ac3 _)
end
end L2
namespace L2
open PySem
inductive xFl:Sem α->Prop
 |p:xFl (.pure a)
 |u:xFl (.unsupported a)
 |l:(∀x,xFl (k x))->xFl (.load a q k)
 |d:(∀x,xFl (k x))->xFl (.update a q f k)
 |a:(∀x,xFl (k x))->xFl (.alloc a k)
 |s:(∀x,xFl (k x))->xFl (.stack k)
theorem xFl.b{m:Sem α}{f:α->Sem β}(h:xFl m)(g:∀x,xFl (f x)):xFl (m>>=f):=by
 induction h with
 |p=>exact g _
 |u=>exact .u
 |l _ i=>exact .l i
 |d _ i=>exact .d i
 |a _ i=>exact .a i
 |s _ i=>exact .s i
theorem ZS{t:Sem α}(f:xFl t):∀{Q1 Q2:α->Pos->Shared->Prop} {E1 E2:Value->Pos->Shared->Prop} {p:Pos} {s:Shared},Sem.wp M Γ t Q1 E1 p s->Sem.wp M Γ t Q2 E2 p s->
  Sem.wp M Γ t (λa p s=>Q1 a p s/\Q2 a p s) (λe p s=>E1 e p s/\E2 e p s) p s:=by
 induction f with
 |p=>intro _ _ _ _ _ _ h1 h2;rw[Sem.wp]at h1 h2 ⊢;exact⟨h1,h2⟩
 |u=>intro _ _ _ _ _ _ h1 h2;rw[Sem.wp]at h1;exact h1.elim
 |l _ i=>
   intro _ _ _ _ _ _ h1 h2;obtain⟨o,g,h1⟩:=h1;obtain⟨o2,g2,h2⟩:=h2;rw[g]at g2;cases g2;exact⟨o,g,i _ h1 h2⟩
 |d _ i=>intro _ _ _ _ _ _ h1 h2;rw[Sem.wp]at h1 h2 ⊢;exact⟨h1.1,i _ h1.2 h2.2⟩
 |a _ i|s _ i=>intro _ _ _ _ _ _ h1 h2;rw[Sem.wp]at h1 h2 ⊢;exact i _ h1 h2
def xFd:xFl (fieldsOf v):=by
 unfold fieldsOf
 split
 .exact .b (.l λ_=>.p) λ_=>by split;exact .p;exact .u
 .exact .u
def xFi:xFl (field v i):=.b xFd λx=>by split;exact .p;exact .u
def xFs:xFl (setField v i x):=by
 unfold setField updateField
 split
 .refine .b (.l λ_=>.p) λx=>?_;split;split;exact .d λ_=>.p;exact .u;exact .u
 .exact .u
def xFy:xFl (setFlight v o):=.b xFi λx=>by split;exact xFs;exact .p
theorem xFr:∀l,xFl (readyFrames l)
 |[]=>.p
 |e::l=>by
  unfold readyFrames
  split
  .refine .b (.l λ_=>.p) λx=>?_
   split
   .exact .p
   .refine .b ?_ λx=>.b ?_ λy=>.b (.d λ_=>.p) λ_=>xFr l
    .unfold behindIsImport;split;exact .p;split;exact .p;exact .b xFi λ_=>.p
    .unfold keptBack;split;split;exact .p;exact .b (.b (.s λ_=>.p) λ_=>.p) λ_=>.p;exact .p
  .exact .u
def xFe:xFl (do let a<-frameOf env;let pl<-entryPlaceOf L b;let c<-EntryCells.newEntry n a .none f .none pl;setField v 1 c):=by
 refine .b (.b (.b (.s λ_=>.p) λ_=>.p) λx=>.b ?_ λy=>by split;exact .p;exact .u) λ_=>.b (.b (.s λ_=>.p) λx=>by split;exact .p;exact .p) λ_=>.b ?_ λ_=>xFs
 .unfold frameObject;split;exact .p;exact .b (xFr _) λ_=>.p
 .unfold EntryCells.newEntry newFields newObj newObjAsIs;dsimp only;split<;>(split;exact .u;exact .a λ_=>.p)
def xFn:xFl (noteFrame v env):=by
 unfold noteFrame
 split
 .refine .b xFi λx=>?_
  split
  .refine .b xFi λy=>?_
   split
   .exact .p
   .exact .b xFs λ_=>xFe
  .exact xFe
 .exact .u
def kS(f:xFl t)(h1:wpAny M A t Q1 E1 s)(h2:wpAny M A t Q2 E2 s):
  wpAny M A t (λa s=>Q1 a s/\Q2 a s) (λe s=>E1 e s/\E2 e s) s:=λΓ p hΓ=>ZS f (h1 Γ p hΓ) (h2 Γ p hΓ)
end L2
namespace L2
open PySem PySem.Spec PySem.W PyProof.Rows
section
variable {M:Model}{A:Around}{E:eL}{s:Shared}{base:Heap}{env:Env}{outer:16.1}{L e:Addr}{cls a0:Value}
def cD.upd(x:cD h e)(hi:a≠e\/i≠2):cD (h.update a (Obj.mapFields (·.setIfInBounds i v))) e:=by
 obtain⟨o,fs,ho,hd,h2⟩:=x
 by_cases z:a=e
 .subst z;have hi2:=hi.resolve_left λq=>q rfl;refine⟨_,_,acx _ ho (ad9 (abF hd _)),abF hd _,?_⟩;rw[Array.getElem?_setIfInBounds_ne hi2];exact h2
 .exact ⟨o,fs,(ac8 _ _ z).trans ho,hd,h2⟩
theorem cD.push(x:cD h e)(o:Obj):cD (h.push o) e:=let⟨p,fs,ho,r⟩:=x;⟨p,fs,aao _ ho,r⟩
def vV(rM:A.frames=ε 12.1)(hl:s.heap.FunFrames base 12.1)(hf:env.frame=ε L)
  (he:s.heap.get? e=ε oe)(hd:oe.data=.fields vs)(hsz:1<vs.size)(h2:vs[2]?=ε Value.none)
  (h:∀h' T oT ts,cD h' e->(∃o ws,h'.get? e=ε o/\o.data=.fields ws/\ws[1]?=ε (.ref T))->h'.get? T=ε oT->oT.data=.fields ts->3<ts.size->T≠e->Q () 2.0):
  wpAny M A (do let a <-frameOf env;let pl <-entryPlaceOf L b;let c <-EntryCells.newEntry head a .none (rawInt L) .none pl;setField (.ref e) 1 c) Q E s:=by
 have ne:e∉(env::outer).filterMap (·.frame):=λhm=>by
  obtain⟨_,o,ho,xK⟩:=hl.mem hm;rw[he]at ho;cases ho;exact xK vs hd
 refine aab (wpAny_frameOf_fun rM hl hf λh1 hs=>?_)
 refine aab (wpAny_entryPlaceOf λpl jL=>?_)
 refine aab (afj ?_ (jL.sizeOk5 _ _ _ _ _))
 have e1:=(hs.2.1 e ne).trans he
 have lt:=aba e1
 have hT:=(ac8 (h1.push {cls:=.type "traceback",dict:=ζ,data:=.fields ([head,.ref L,.none,rawInt L,.none]++(if pl.isEmpty then List.replicate 6 Value.none else pl)).toArray}) (Obj.mapFields (·.setIfInBounds 1 (Value.ref h1.objs.size))) (abn lt)).trans (aaS h1 rfl)
 refine ae5 (aao _ e1) hd hsz (h _ h1.objs.size _ _ ?_ ?_ hT rfl ?_ (agD lt))
 .exact cD.upd (cD.push ⟨oe,vs,e1,hd,h2⟩ _) (.inr 0.0)
 .exact ⟨_,_,acx _ (aao _ e1) (ad9 (abF hd _)),abF hd _,by simp[hsz]⟩
 .grind
def Ef(x:cD s.heap e)(he:s.heap.get? e=ε oe)(hd:oe.data=.fields vs)(h1:vs[1]?=ε (.ref T))(hT:s.heap.get? T=ε oT)(BM:oT.data=.fields ts)(hz:3<ts.size)
  (h:∀h',cD h' e->Q () 2.0):wpAny M A (setFlight (.ref e) fl) Q E s:=by
 refine aab (afe he hd h1 ?_)
 exact ae5 hT BM hz (h _ (x.upd (.inr 0.0)))
def GA(rM:A.frames=ε 12.1)(hf:env.frame=ε L)(K9:Heap.FlyingW base 12.1 e cls a0 s.heap)(x:cD s.heap e)
  (h:∀h' T oT ts,cD h' e->(∃o ws,h'.get? e=ε o/\o.data=.fields ws/\ws[1]?=ε (.ref T))->h'.get? T=ε oT->oT.data=.fields ts->3<ts.size->T≠e->Q () 2.0):wpAny M A (noteFrame (.ref e) env) Q E s:=by
 obtain⟨f1,f2,hl,oe,vs,T,oT,ts,he,_,hd,h1,ZT,UN,hT,BM,h3⟩:=K9
 obtain⟨o',fs,Bt,tW,h2⟩:=id x
 rw[he]at Bt;cases Bt
 rw[hd]at tW;cases tW
 unfold noteFrame
 simp only[hf]
 refine aab (afe he hd h1 ?_)
 refine aab (afe hT BM h3 ?_)
 refine aab (ae5 hT BM (acN.mp h3).1 ?_)
 have ot:∀b,b≠T->(s.heap.update T (Obj.mapFields (·.setIfInBounds 3 Value.none))).get? b=s.heap.get? b:=λ10=>ac8 _ _ (afh hb)
 exact vV rM (hl.of_keeps λb o hb xK=>⟨o,(ot b λq=>by rw[q,hT]at hb;cases hb;exact xK ts BM).trans hb,rfl⟩) hf ((ot e (afh UN)).trans he) hd (acN.mp h1).1 h2 h
def Jj(rM:A.frames=ε 12.1)(hf:env.frame=ε L)(K9:Heap.FlyingW base 12.1 e cls a0 s.heap)(x:cD s.heap e)(h:∀h',cD h' e->Q () 2.0):wpAny M A (leaving env (.ref e)) Q E s:=by
 refine aab (GA rM hf K9 x λh' T oT ts x' ⟨o,ws,k1,k2,k3⟩ k4 k5 k6 _=>?_)
 exact Ef (s:=2.0) x' k1 k2 k3 k4 k5 k6 λh2 x2=>h h2 x2
def Qo(rM:A.frames=ε 12.1)(hf:env.frame=ε L)(hl:h0.FunFrames base 12.1)(hx:Heap.MadeExcOf h0 s.heap e cls args)(h:∀h',cD h' e->Q () 2.0):wpAny M A (leaving env (.ref e)) Q E s:=by
 obtain⟨t,he,_,_⟩:=hx.there
 unfold leaving noteFrame
 simp only[hf]
 refine aab (aab (afe he rfl (x:=Value.none) rfl ?_))
 refine vV rM (hl.of_keeps λb o hb _=>⟨o,hx.keeps b o hb,rfl⟩) hf he rfl (abc (show 1<6 by decide) 5.6) rfl λh' T oT ts x' ⟨o,ws,k1,k2,k3⟩ k4 k5 k6 _=>?_
 exact Ef (s:=2.0) x' k1 k2 k3 k4 k5 k6 λh2 x2=>h h2 x2
def C3(rM:A.frames=ε 12.1)(hf:env.frame=ε L)(K9:Heap.FlyingW base 12.1 e cls a0 s.heap)(x:cD s.heap e)
  (hQ:∀h',Heap.HeldW base 12.1 e cls a0 L h'->cD h' e->s.heap.UpToSlots h'->Q () 2.0):wpAny M A (noteFrame (.ref e) env) Q E s:=
 abw (kS xFn (wpAny_looks_onW (E:=λ_ _=>False) (Q:=λ_ s2=>∃h2,s2={s with heap:=h2}/\Heap.HeldW base 12.1 e cls a0 L h2/\s.heap.UpToSlots h2) rM hf K9 λh2 k1 k2=>⟨h2,rfl,k1,k2⟩)
  (GA (E:=λ_ _=>False) (Q:=λ_ s2=>cD s2.heap e) rM hf K9 x λ_ _ _ _ k _ _ _ _ _=>k)) (λ_ s2 ⟨⟨h2,e2,k1,k2⟩,nc⟩=>by subst e2;exact hQ h2 k1 nc k2) λ22=>z.1.elim
def Qp{l:16.1}(ht:22.4)(x:cD s.heap e)(h:∀h',cD h' e->Q () 2.0):wpAny M A (setFlight (.ref e) ζ) Q E s:=by
 obtain⟨oe,vs,T,oT,ts,he,_,hd,h1,_,_,hT,BM,h3⟩:=ht
 exact Ef x he hd h1 hT BM (acN.mp h3).1 h
def Qq(hh:Heap.HeldW base l e cls a0 L s.heap)(x:cD s.heap e)(hQ:∀h',Heap.FlyingW base l e cls a0 h'->cD h' e->s.heap.UpToSlots h'->Q () 2.0):wpAny M A (setFlight (.ref e) ζ) Q E s:=
 abw (kS xFy (wpAny_landsW (E:=λ_ _=>False) (Q:=λ_ s2=>∃h2,s2={s with heap:=h2}/\Heap.FlyingW base l e cls a0 h2/\s.heap.UpToSlots h2) hh λh2 k1 k2=>⟨h2,rfl,k1,k2⟩)
  (Qp (E:=λ_ _=>False) (l:=l) (Q:=λ_ s2=>cD s2.heap e) hh.2.2.2 x λ_ k=>k)) (λ_ s2 ⟨⟨h2,e2,k1,k2⟩,nc⟩=>by subst e2;exact hQ h2 k1 nc k2) λ22=>z.1.elim
def Eg(hh:Heap.FlyingW base l e cls a0 s.heap)(x:cD s.heap e)(hQ:∀h',Heap.FlyingW base l e cls a0 h'->cD h' e->s.heap.UpToSlots h'->Q () 2.0):wpAny M A (setFlight (.ref e) ζ) Q E s:=
 abw (kS xFy (lands_againW (E:=λ_ _=>False) (Q:=λ_ s2=>∃h2,s2={s with heap:=h2}/\Heap.FlyingW base l e cls a0 h2/\s.heap.UpToSlots h2) hh λh2 k1 k2=>⟨h2,rfl,k1,k2⟩)
  (Qp (E:=λ_ _=>False) (l:=l) (Q:=λ_ s2=>cD s2.heap e) hh.2.2.2.at x λ_ k=>k)) (λ_ s2 ⟨⟨h2,e2,k1,k2⟩,nc⟩=>by subst e2;exact hQ h2 k1 nc k2) λ22=>z.1.elim
end
theorem dS.there(x:dS P w H h a o):∃ob,h.get? a=ε ob:=by
 induction o with
 |lst xs=>obtain⟨_,_,_,_,e⟩:=x;exact⟨_,e⟩
 |tup xs=>obtain⟨_,_,_,o,e,_⟩:=x;exact⟨_,e⟩
 |dK aR=>obtain⟨_,_,_,_,o,es,ep,e,_⟩:=x;exact⟨_,e⟩
 |dT aR=>obtain⟨_,_,_,_,o,es,ep,e,_⟩:=x;exact⟨_,e⟩
 |set S n=>obtain⟨_,_,_,_,e,_⟩:=x;exact⟨_,e⟩
 |ins C dx fs=>obtain⟨_,_,_,e,_⟩:=x;exact⟨_,e⟩
 |own y=>exact x
 |xd fs=>obtain⟨_,⟨o,es,ep,e,_⟩,_⟩:=x;exact⟨_,e⟩
 |met f y=>exact⟨_,x⟩
 |Br lo hi=>obtain⟨_,_,_,e⟩:=x;exact⟨_,e⟩
 |za ob u ih=>exact⟨_,x.1⟩
 |Wt ps=>exact⟨_,x⟩
 |ext φ=>exact x.2.1
def Xa(g:Heap)(l:16.1)(H:Hp)(B:Heap):Prop:=∀b,b∉qQ l->(H b≠ζ\/∃o0,g.get? b=ε o0)->∃o,B.get? b=ε o
theorem Xa.at(c:Xa g l H B)(st:B.StaysIn h)(q:h.get? b=ε o)(n:b∉qQ l)(i:H b≠ζ\/∃o0,g.get? b=ε o0):B.get? b=ε o:=by
 obtain⟨o',e⟩:=c b n i
 have:=st b o' e
 rw[q]at this
 cases this
 exact e
def Jk(u:Un (qQ l) [] H H1 g h)(c:Xa g l H1 B)(st:B.StaysIn h)(yI:B.StaysIn h')(up:h.UpToSlots h')(fr:h.FunFrames base l):Un (qQ l) [] H H1 g h' where
 keep:=λb o q n hb hx=>yI b o (c.at st (u.keep b o q n hb hx) hb (.inr ⟨_,q⟩))
 slot:=λb o q n hb hx=>by
  obtain⟨sl,e⟩:=u.slot b o q n hb hx;obtain⟨_,o1,pL,xK⟩:=fr.mem hb;rw[e]at pL;cases pL;obtain⟨Tt,e'⟩:=up b _ e xK;exact⟨Tt,e'⟩
 free:=u.free
 there:=λb o q hx=>by
  by_cases hb:b∈qQ l
  .obtain ⟨_,o1,pL,xK⟩:=fr.mem hb;obtain⟨Tt,e'⟩:=up b _ pL xK;exact⟨_,e'⟩
  .obtain ⟨o',e⟩:=u.there b o q hx;exact⟨o',yI b o' (c.at st e hb (.inr ⟨_,q⟩))⟩
 rh:=u.rh
 ri:=u.ri
 sj:=u.sj
def yS(x:24.9)(c:Xa g l H B)(st:B.StaysIn h)(yI:B.StaysIn h')(nf:∀b∈qQ l,H b=ζ):qP P w H h':=λa o e=>by
 refine(x a o e).yb (λb u hb q=>?_) (λ_ q=>q) λ_ _ q=>q
 have ht:H b≠none:=by grind
 exact yI b u (c.at st q (λz=>ht (nf b z)) (.inl ht))
inductive mJ(P:4.6)(w:World)(outer:16.1)(H:Hp)(s:Shared)(E:XK)(e:Value)(s':Shared):Prop|mk (a t C:Addr) (B:Heap) (H1:Hp)(_:e=.ref a)(_:s'.os=s.os)(_:AllBare s'.gens)(_:Un (qQ outer) [] H H1 s.heap s'.heap)(_:qP P w H1 s'.heap)(_:s.heap.get? a=ζ)(_:H1 a=ζ)(_:Xa s.heap outer H1 B)(_:Heap.FlyingW B outer a 1.9 (.ref t) s'.heap)(_:cD s'.heap a)(_:E 1.9 ζ H1)
section
variable {P:4.6}{w:World}{K:aq}{mg:cX}{base:Heap}{N:1.4}{qual:Str}{scope:Scope}{f:Addr}{cd:Value}{A:Around}{outer:16.1}{s:Shared}{H:Hp}{E:XK}
theorem Inv.tracked(I:Inv X pins σ H1 s1)(n:H1 b≠ζ):∃o,s1.heap.get? b=ε o:=by
 cases q:H1 b with
 |none=>exact absurd q n
 |some o=>exact(I.bV b o q).there
theorem UO(I:Inv 3.2 pins σ H1 s1)
  (hx:Heap.MadeExcOf s1.heap h' a 1.9 vs)(hE:E 1.9 ζ H1):(eV (mJ P w) P w K mg base N qual scope f cd A outer s H E).xe 5.5 {s1 with heap:=h'}:=by
 have st:(hideAll s1.heap (qQ 6.6)).StaysIn s1.heap:=λb o q=>of_hideAll _ q
 have z7:∀b,b∉qQ outer->(H1 b≠ζ\/∃o0,s.heap.get? b=ε o0)->∃o,(hideAll s1.heap (qQ 6.6)).get? b=ε o:=λb nb i=>by
  have hb:b∉qQ 6.6:=λz=>by
   rcases aa9.mp (I.nz b z)with e|z
   .rcases i with i|⟨o0,i⟩;.exact i (by rw[e];exact I.free)
    .exact absurd (abc (aba i) (by rw[e];exact I.ok.above)) (ac3 _)
   .exact nb z
  have ex:∃o,s1.heap.get? b=ε o:=by
   rcases i with i|⟨o0,i⟩;.exact I.tracked i
   .exact I.base.there b o0 i 3.5
  obtain⟨o,e⟩:=ex;exact⟨o,hideAll_get _ e hb⟩
 have fh:=funFrames_hide I.stack λenv he b hb=>afO.mpr ⟨env,he,hb⟩
 refine abw (kS (.b xFn λ_=>xFy) (wpAny_leaves_madeW (E:=λ_ _=>False) (Q:=λ_ s2=>∃h2 t,s2={s1 with heap:=h2}/\Heap.FlyingW (hideAll s1.heap (qQ 6.6)) outer a 1.9 (.ref t) h2/\Heap.UpToSlots h' h2)
  (h:=s1.heap) I.ok.frames rfl st fh hx λh2 t C4 _ _ up=>⟨h2,t,rfl,C4,up⟩) (Qo (E:=λ_ _=>False) (Q:=λ_ s2=>cD s2.heap a) I.ok.frames rfl fh hx λ_ x=>x)) (λ_ s2 ⟨⟨h2,t,e2,C4,up⟩,nc⟩=>?_) λ22=>z.1.elim
 subst e2
 have up2:=(Heap.UpToSlots.of_keeps hx.keeps).trans up
 refine⟨a,t,C,_,H1,rfl,I.os,I.bare,Jk I.base z7 st C4.1 up2 I.jX,yS I.bV z7 st C4.1 (λ10=>?_),?_,?_,z7,C4,nc,hE⟩
 .obtain ⟨_,o,ho,_⟩:=I.ok.jX.mem hb;exact I.base.free b o ho (I.ok.Fz b hb) λz=>nomatch z
 .cases q:s.heap.get? a with
  |none=>rfl
  |some o=>
    obtain⟨o',e⟩:=I.base.there a o q 3.5;rw[hx.new]at e;cases e
 .cases q:H1 a with
  |none=>rfl
  |some o=>
    obtain⟨o',e⟩:=I.tracked (b:=a) (by rw[q];exact λz=>nomatch z);rw[hx.new]at e;cases e
theorem bK:kg (mJ P w) 3.2 E:=by
 rintro pins σ H0 s0 e s' I ⟨a,t,C,B,H1,rfl,os,bare,un,bV,na,ta,cov,C4,nc0,hE⟩
 have I':=I.FQ (ch:=[]) os un bV bare (λb z=>nomatch z)
 have z7:Xa s.heap outer H1 B:=λb nb i=>by
  refine cov b (λz=>?_) ?_
  .rcases aa9.mp (I.nz b z)with e|z
   .rcases i with i|⟨o0,i⟩;.exact i (by rw[e];exact I'.free)
    .exact absurd (abc (aba i) (by rw[e];exact I.ok.above)) (ac3 _)
   .exact nb z
  .rcases i with i|⟨o0,i⟩;.grind
   .exact .inr (I.base.there b o0 i λz=>nomatch z)
 refine abw (kS (.b xFn λ_=>xFy) (wpAny_leaves_onW (E:=λ_ _=>False) (Q:=λ_ s2=>∃h2,s2={s' with heap:=h2}/\Heap.FlyingW B outer a 1.9 (.ref t) h2/\s'.heap.UpToSlots h2) I.ok.frames rfl C4 λh2 GB up=>⟨h2,rfl,GB,up⟩)
  (Jj (E:=λ_ _=>False) (Q:=λ_ s2=>cD s2.heap a) I.ok.frames rfl C4 nc0 λ_ x=>x)) (λ_ s2 ⟨⟨h2,e2,GB,up⟩,nc⟩=>?_) λ22=>z.1.elim
 subst e2
 refine⟨a,t,C,B,H1,rfl,I'.os,I'.bare,Jk I'.base z7 C4.1 GB.1 up I'.jX,yS I'.bV z7 C4.1 GB.1 (λ10=>?_),?_,ta,z7,GB,nc,hE⟩
 .obtain ⟨_,o,ho,_⟩:=I'.ok.jX.mem hb;exact I'.base.free b o ho (I'.ok.Fz b hb) λz=>nomatch z
 .cases q:s.heap.get? a with
  |none=>rfl
  |some o=>
    obtain⟨o',e⟩:=I.base.there a o q 3.5;rw[na]at e;cases e
structure FE(K:aq)(mg:cX)(x:Str)(C:Addr)(bm tl:cF)(newId:String):Prop where
 bound:mg x=ε 1.9
 obj:∃(n:Addr) (nm q:Str) (bs:cF) (hdct:Bool) (sn:1.4) (sub:cF) (ab:Bool) (col:Option Bool) (dd:23.6) (k0 k1 k2 k3 k5:Option Value) (mN:cX),
  mN "__init__"=ζ/\∀h:Heap,K.In h->h.get? C=ε (excClassObj nm q C n bs tl hdct sn sub ab col dd k0 k1 k2 k3 k5 newId)/\h.Ns n mN/\OwnTail h bm tl
def Qr{rest:6.9}(hC:FE K mg x C bm tl newId)(Fn:ExcBaseFacts Bn newId inN bmN)(hBn:bm.contains (.type Bn)=η)
  (FB:ExcBaseFacts B nid initId bm)(ha:PA 3.2 (yi::rest) t)(hg:Gl 3.2 x:=by rfl)
  (he:starEach (yi::rest) 1.2=(θ,eval yi 1.2)::starEach rest 1.2:=by rfl)
  (IG:(backTo cY (starEach rest 1.2)).any (·.1)=false:=by rfl)(hd:1.1:=by decide):
  PS 3.2 (.Raise (ε (.Call (.Name x np) (yi::rest) [] cY)) ζ pos) (λ_ σ H0=>t σ H0 λvs H1=>vs.length<=sizeLine/\E 1.9 ζ H1):=by
 intro pins s1 σ H1 D I h
 obtain⟨n,nm,q,bs,hdct,sn,sub,ab,col,dd,k0,k1,k2,k3,k5,mN,hni,all⟩:=hC.obj
 obtain⟨_,_,T⟩:=all _ I.o7
 refine wpAny_Raise_call_subU (C:=C) (nm:=nm) (q:=q) (N:=n) (bs:=bs) (bm:=tl) (hdct:=hdct) (sn:=sn) (sub:=sub) (ab:=ab) (col:=col) (dd:=dd) (k0:=k0) (k1:=k1) (k2:=k2) (k3:=k3) (k5:=k5)
  Fn hBn FB (mN:=mN) (T.hasType FB.hasBase) (I.ok.hd rfl) ?_ hni (lS I hg hC.bound ⟨rfl,?_⟩ hd)
 .show (backTo cY (starEach (yi::rest) 1.2)).any (·.1)=θ;rw[he];show(θ||(backTo cY (starEach rest 1.2)).any (·.1))=θ;rw[IG];rfl
 .show wpAny _ _ (evalArgs 1.9 η (backTo cY (starEach (yi::rest) 1.2)) []) _ _ s1;have hp:=ha cY pins s1 σ H1 _ I h;have hp':wpAny (model P w) (A.deeper 1.2) (spliced (backTo cY (starEach (yi::rest) 1.2))) _ _ s1:=hp;rw[he]at hp' ⊢;refine aik (abw hp' (λus s2 ⟨vs,H2,I2,r2,hz,hE⟩=>⟨rfl,by show us.length<=_;rw[<-r2.length];exact hz,(all _ I2.o7).1,(all _ I2.o7).2.1,(all _ I2.o7).2.2,λh' e hm=>UO I2 hm hE⟩) λ_ _ y=>y)
end
abbrev Cx.S0(X:Cx)(a:Addr):Cx:={X with A:=X.A.mark (ε 5.5),calm:=θ,xe:=λ_ _=>False}
theorem Cx.Ok.S0{X:Cx}(ok:X.Ok)(a:Addr):(X.S0 a).Ok:=
 ⟨ok.mod,ok.kind,ok.glob,ok.blt,ok.above,ok.inj,ok.has,ok.Oc,3.5,ok.frames,ok.Ow,ok.Ts,ok.bs,ok.Ib,ok.yc,ok.zb,ok.jX,ok.Fz⟩
theorem Inv.S0(I:0.5)(a:Addr):Inv (X.S0 a) pins σ H s:=⟨I.ok.S0 a,I.os,I.bare,I.base,I.loc,I.cell,I.free,I.iZ,I.pin,I.bV,I.len⟩
def Inv.ahm(I:Inv (X.S0 a) pins σ H s)(ok:X.Ok):Inv X pins σ H s:=⟨ok,I.os,I.bare,I.base,I.loc,I.cell,I.free,I.iZ,I.pin,I.bV,I.len⟩
def Inv.ZU(I:Inv X pins σ H1 s1)(I0:Inv X pins d8 H0 s0)(na:s0.heap.get? a=ζ)(ta:H1 a=ζ)(new:dS X.prog X.w (upd H1 a o) s1.heap a o):
  Inv X pins σ (upd H1 a o) s1:=by
 have ne:∀b ob,s0.heap.get? b=ε ob->b≠a:=λb ob q e=>by rw[e,na]at q;cases q
 have nt:∀b u,H1 b=ε u->b≠a:=λb u q e=>by rw[e,ta]at q;cases q
 have nL:X.env.locals≠a:=by
  obtain⟨m,⟨ol,_,_,e,_⟩,_⟩:=I0.loc;exact ne _ _ e
 refine⟨I.ok,I.os,I.bare,⟨I.base.keep,I.base.slot,λb ob q n hx=>?_,I.base.there,λb xs q=>?_,λb ob u q=>?_,λb ps q=>?_⟩,I.loc,I.cell,?_,λx c e=>?_,λ21=>?_,λb u q=>?_,I.len⟩
 .obtain ⟨o',e⟩:=I0.base.there b ob q hx;rw[aB (ne b o' e)];exact I.base.free b ob q n hx
 .have:=I.base.rh b xs q;rw[aB (nt _ _ this)];exact this
 .have:=I.base.ri b ob u q;rw[aB (nt _ _ this)];exact this
 .obtain ⟨more,this⟩:=I.base.sj b ps q;exact⟨more,by rw[aB (nt _ _ this)];exact this⟩
 .rw [aB nL];exact I.free
 .obtain ⟨v,oc,e1,_⟩:=I0.cell x c e;rw[aB (ne _ _ e1)];exact I.iZ x c e
 .obtain ⟨e,n,r1,r2,r3⟩:=I.pin p hp;exact⟨e,by rw[aB (ne _ _ (I0.pin p hp).1)];exact n,r1,r2,r3⟩
 .by_cases hb:b=a;.subst hb;rw[aN]at q;cases q;exact new
  .rw [aB hb]at q;refine(I.bV b u q).yb (λ_ _ _ z=>z) (λc z=>by rw[aB (nt _ _ z)];exact z) λc xs z=>z.ne (by rcases z with z|⟨_,z⟩<;>exact nt _ _ z)
def Inv.forget(I:0.5)(hn:h'.Ns X.env.locals m)(hs:Heap.SameBut X.env.locals s.heap h'):
  Inv X pins (List.replicate X.N.length ζ) H 11.0:=by
 have SO:=I.SO
 have lt:∀b o,X.jt.heap.get? b=ε o->b≠X.env.locals:=λ14=>abn (abc (aba e) I.ok.above)
 refine⟨I.ok,I.os,I.bare,⟨λ11=>(hs.2 b (lt b o e)).trans (I.base.keep b o e n hb hx),λ11=>?_,I.base.free,λb o e hx=>?_,I.base.rh,I.base.ri,I.base.sj⟩,⟨m,hn,λj y v e1 e2 _=>?_⟩,λy c e=>?_,I.free,I.iZ,λ21=>?_,λb u q=>?_,by simp⟩
 .obtain ⟨sl,e1⟩:=I.base.slot b o e n hb hx;exact⟨sl,(hs.2 b (lt b o e)).trans e1⟩
 .obtain ⟨o',e1⟩:=I.base.there b o e hx;exact⟨o',(hs.2 b (lt b o e)).trans e1⟩
 .grind
 .obtain ⟨w',z⟩:=I.cell y c e;exact⟨w',z.sameBut hs (SO y c e)⟩
 .obtain ⟨e,n,ne,nf,d⟩:=I.pin p hp;exact⟨(hs.2 p.1 ne).trans e,n,ne,nf,d⟩
 .refine (I.bV b u q).yb (λc w' hc z=>(hs.2 c ?_).trans z) (λ_ z=>z) λ22=>z;rintro rfl;rcases hc with e|hc;.rw [<-e,I.free]at q;cases q
  .rw [I.free]at hc;cases hc
end L2
namespace L2
open PySem PySem.Spec PySem.W PyProof.Rows PySem.Builtin PySem.Builtin.ObjectAttr PySem.Builtin.Getset_descriptor
section
variable {prog:4.6}{w:World}{A:Around}{E:eL}{h:Heap}{g:Array GenState}{d:Drawn}{t:Nat}{os:OsState}{a C:Addr}{o:Obj}{K:Frag}
def UP(X:K.In h)(hx:h.get? a=ε o)(hc:o.cls=.ref C)(hs:subIn K 1.9 12.7=ε η)(hq:R (.ok (.ret 1.9)) ⟨h,g,d,t,os⟩):
  codeAny 0.7 A (.call (.builtin "getset_descriptor.__get__") ⟨[.builtin "object.__class__",.ref a,.ref C],[]⟩) R ⟨h,g,d,t,os⟩:=by
 have L1:Looks 0.7 h (isSubtype 1.9 12.7) true:=looks_subIn X hs
 refine aga KF.slot_gs.plain KF.entry_gs (KF.slot_gs.check _ _ _ _ _ _ _ _ KF.type_class (KF.args_gs _ _ _) ?_)
 have L0:Looks 0.7 h (typeOf 5.5) 1.9:=by rw[<-hc];exact(Looks.ld hx).andThen Looks.now
 refine aab (aaR ?_)
 unfold descrGetter descrCheckInstance descrNameAndClass isInstance
 simp only[KF.owner_class]
 repeat lk
 refine⟨Code.quiet_builtin _ ⋯,afu KF.entry_class ?_⟩
 repeat lk
 exact hq
def Nu(X:K.In h)(hx:h.get? a=ε o)(hc:o.cls=.ref C)(hs:subIn K 1.9 12.7=ε η)(hf:findIn K 1.9 "__class__"=ε (ε 5.3))(hq:Q (.done (.ret 1.9)) ⟨h,g,d,t,os⟩):
  wpAny 0.7 A (Builtin.«object.__getattribute__» ⟨[.ref a,.str "__class__" tk],[]⟩) Q E ⟨h,g,d,t,os⟩:=by
 have hT5:(⟨h,g,d,t,os⟩:Shared).TypeIs 5.3 "getset_descriptor":=F.typeOf_object_class
 have f5:=F.typeOf_object_class
 have f6:=F.slot_gs_get.lookup
 have f7:=F.slot_gs_set.lookup
 have L1:Looks 0.7 h (typeLookup 1.9 "__class__") (ε 5.3):=looks_findIn X hf
 repeat(any_goals (first|assumption|(with_reducible refine wpAny_loadPart_at hx ?_;rw[hc])|with_reducible refine L1.at ?_|wp_step))
 refine UP X hx hc hs ?_
 repeat(any_goals (first|assumption|wp_step))
def Nv(X:K.In h)(hx:h.get? a=ε o)(hc:o.cls=.ref C)(hs:subIn K 1.9 12.5=ε η)(hq:Q () ⟨h,g,d,t,os⟩):
  wpAny M A (checkBuiltinCall "BaseException.__getattribute__" ⟨[.ref a,adV],[]⟩) Q E ⟨h,g,d,t,os⟩:=by
 have hk:builtinKind "BaseException.__getattribute__"=ε .slot:=⋯
 have ZW:splitId "BaseException.__getattribute__"=ε ("BaseException","__getattribute__"):=⋯
 have L1:Looks M h (isSubtype 1.9 12.5) true:=looks_subIn X hs
 have ha:=F.args_bexc_ga 5.5 adV
 simp only[checkBuiltinCall,hk,ZW]
 refine aab ?_
 unfold isInstance
 repeat(first|(with_reducible refine wpAny_loadPart_at hx ?_;rw[hc])|with_reducible refine L1.at ?_|wp_step)
 exact hq
def ZX(X:K.In h)(hx:h.get? a=ε o)(hc:o.cls=.ref C)(hs:subIn K 1.9 12.7=ε η)(yJ:subIn K 1.9 12.5=ε η)
  (hf:findIn K 1.9 "__class__"=ε (ε 5.3))(hga:findIn K 1.9 "__getattribute__"=ε 9.8)(hna:findIn K 1.9 "__getattr__"=ε ζ)(hq:Q 1.9 ⟨h,g,d,t,os⟩):
  wpAny 0.7 A (getAttrBy 5.5 (.str "__class__" tk) θ) Q E ⟨h,g,d,t,os⟩:=by
 have f3:=PySem.F.attrBase_ValueError.ga.bind 5.5
 have hx2:(Value.builtin "BaseException.__getattribute__"==Value.builtin "object.__getattribute__")=false:=⋯
 have hx1:(onTheHeap (Value.ref C)&&Value.builtin "BaseException.__getattribute__"==Value.builtin "object.__getattribute__")=false:=by rw[hx2];rfl
 have L1:Looks 0.7 h (typeLookup 1.9 "__getattribute__") 9.8:=looks_findIn X hga
 have L2:Looks 0.7 h (typeLookup 1.9 "__getattr__") none:=looks_findIn X hna
 repeat(any_goals (first|assumption|(with_reducible refine wpAny_loadPart_at hx ?_;rw[hc])|with_reducible refine L1.at ?_|with_reducible refine L2.at ?_|wp_step))
 refine aga PySem.F.attrBase_ValueError.ga.plain F.entry_bexc_ga (Nv X hx hc yJ (Nu X hx hc hs hf ?_))
 repeat(any_goals (first|assumption|wp_step))
def Qt(X:K.In h)(hx:h.get? a=ε o)(hc:o.cls=.ref C)(hs:subIn K 1.9 12.7=ε η)(yJ:subIn K 1.9 12.5=ε η)
  (hf:findIn K 1.9 "__class__"=ε (ε 5.3))(hga:findIn K 1.9 "__getattribute__"=ε 9.8)(hna:findIn K 1.9 "__getattr__"=ε ζ)(hq:Q (ε 1.9) ⟨h,g,d,t+1,os⟩):
  wpAny 0.7 A (getAttr? 5.5 "__class__") Q E ⟨h,g,d,t,os⟩:=by
 unfold getAttr? getAttrBy?
 repeat(any_goals (first|assumption|with_reducible apply ZX X hx hc hs yJ hf hga hna|wp_step))
end
end L2
namespace L2
open PySem PySem.Spec PySem.W PyProof.Rows
structure Qu(K:Frag)(C:Addr):Prop where
 obj:∃c d cd sl,K.lookup C=ε ⟨c,d,.cls cd,sl⟩
 sO:subIn K 1.9 12.7=ε η
 sB:subIn K 1.9 12.5=ε η
 fc:findIn K 1.9 "__class__"=ε (ε 5.3)
 fg:findIn K 1.9 "__getattribute__"=ε 9.8
 fn:findIn K 1.9 "__getattr__"=ε ζ
def GF{K:Frag}(c:Qu K C):KitX K 5.5 1.9 (λh=>∃o,h.get? a=ε o/\o.cls=.ref C) where
 ty:=λ_ _ _ ⟨o,hx,hc⟩=>by rw[<-hc];exact(Looks.ld hx).andThen Looks.now
 it:=λ_ _ X _=>by
  obtain⟨c',d',cd',Tt,ho⟩:=c.obj;intro A' Q' E' s' k q;exact aab (wpAny_loadPart (k _ _ (X _ _ ho)) (aaR q))
 ne:=λh tp dd its n sl X htp=>by
  obtain⟨c',d',cd',Tt,ho⟩:=c.obj;refine aiV.mpr λq=>?_;have e:=Value.ref.inj (afq.mp q);subst e;have z:=(X _ _ ho).symm.trans htp;cases z
 ca:=λ{_ _ _ _ _ s} X ⟨o,hx,hc⟩ k=>by
  exact Qt X hx hc c.sO c.sB c.fc c.fg c.fn k
def aho(K:Frag):List V->Hp->VK->Prop:=λvs H Q=>∃a C cv b,vs=[.ref a,cv]/\H a=ε (WL a C)/\Qu K C/\Q (.bl b) H/\
 ((∃c,(∀u,RelV cv u->u=c)/\kitOne K 1.9 c=ε b)\/∃tp cvs,cv=.ref tp/\H tp=ε (.tup cvs)/\∀its,bL cvs its->kitAny K 1.9 its=ε b)
theorem Nw:gN X (.builtin "isinstance") (aho X.K):=by
 rintro pins s σ H vs us Q I r ⟨a,C,cv,b,rfl,ha,hc,q,h⟩
 have⟨u1,u2,e,r1,r2⟩:∃u1 u2,us=[u1,u2]/\RelV 5.5 u1/\RelV cv u2:=by
  cases r with
  |cons r1 r'=>cases r' with
    |cons r2 r''=>cases r'' with
      |nil=>exact⟨_,_,rfl,r1,r2⟩
 subst e
 cases(show u1=Value.ref a from r1)
 have hx:=(I.bV a _ ha).1.1
 rcases h with⟨c,hcv,e⟩|⟨tp,cvs,rfl,ht,e⟩
 .cases hcv u2 r2;exact kia_one (GF hc) I.o7 hx e 3.5 λtk=>⟨.bl b,H,I.tok tk,rfl,q⟩
 .cases (show u2=Value.ref tp from r2);obtain⟨_,its,rv,o,ho,qO,n,DB⟩:=(show dS X.prog X.w H s.heap tp (.tup cvs)from I.bV tp _ ht);obtain⟨oc,od,odt,KJ⟩:=o;cases qO;cases DB;exact kia_tup (GF hc) I.o7 hx ho (e its rv) 3.5 λtk=>⟨.bl b,H,I.tok tk,rfl,q⟩
structure p8(k:Nat)(A:Around):Prop where
 dp:A.depth+3*k+5<recursionLimit
 un:A.units+16*k+200<cLine
def dQ.markX(r:dQ k A)(v:Option Value):p8 k (A.mark v):=⟨r.dp,r.un⟩
def p8.mono(r:p8 k A)(h:j<=k):p8 j A:=⟨by have:=r.dp;lia,by have:=r.un;lia⟩
theorem p8.deeper(r:p8 (k+1) A)(env:Env):p8 k (A.deeper env):=
 ⟨by have:=r.dp;show A.depth+1+3*k+5<_;lia,by have:=r.un;show A.units+3+16*k+200<_;lia⟩
def cxX(P:4.6)(w:World)(K:Frag)(mg:cX)(base:Heap)(N:1.4)(qual:Str)(scope:Scope)(f:Addr)(cd:Value)(A:Around)(outer:16.1)(s:Shared)(H:Hp):Cx:=
 {eV Bp P w K mg base N qual scope f cd A outer s H E0 with calm:=θ,xe:=λ_ _=>False}
inductive vW(P:4.6)(w:World)(K:Frag)(mg:cX)(base:Heap)(k:Nat)(x:Str)(ps:1.4)(sp:Sp):Prop|mk (f fd)(_:mP P w K mg base (mJ P w) k f fd ps sp)(_:mg x=ε 10.3)(_:keepIn K 10.3=η)(_:Binds K fd ps [])
section
variable {P:4.6}{w:World}{K:Frag}{mg:cX}{base:Heap}{x:Str}{st:Stmt}{N ps:1.4}{k:Nat}{sp:Sp}
def Df.Oe(F:Df K mg x st ps)(S:15.0)(len:22.8)
  (t8:∀(f:Addr) (bW:Value) (A:Around) (outer:16.1) (s:Shared) (H:Hp) (vs:List V) (Q:VK) (E:XK),dQ k 3.0->sp vs H Q E->
   ∃t,ke (eV (mJ P w) P w K mg base N x (ai st) f bW A outer s H E) (bR st) t/\t {nx:=λ_ H'=>Q .iY H',rt:=Q} 16.7 H):vW P w K mg base (k+1) x ps sp:=by
 obtain⟨f,fd,F,m,b⟩:=F
 have kp:=F.kp
 intro 9
 exact⟨f,_,KI lk xC S len (t8 f bW),m,kp,b⟩
end
set_option tactic.hygienic true in
def vX{K:Frag}(hm:mg x=ε 1.9)(q:excIn K C bm newId=η):∃tl,FE K mg x C bm tl newId:=by
 unfold excIn at q
 split at q
 .rename_i dd cd sl ho;split at q
  .rename_i C' tl k0 k1 k2 k3 n k5 hr hs;simp at q;obtain⟨⟨⟨⟨⟨e1,e2⟩,hdel⟩,ht⟩,bV⟩,hni⟩:=q;subst e1 e2;obtain⟨nm,bs,mro,ns,qn,hd,sn,sub,ab,col,del⟩:=cd;subst hr hdel;have hsl:sl=#[k0,k1,k2,k3,ε (.builtin n),k5]:=by grind
   subst hsl;have hno:∃c d es ep Y2,K.lookup ns=ε ⟨c,d,.dict es ep,Y2⟩/\(es.all λe=>match e.key with|.str _ _=>η|_=>θ)=true:=by
    unfold nsOkIn at bV;split at bV;.rename_i qO;exact⟨_,_,_,_,_,qO,bV⟩
    .grind
   obtain⟨c2,d2,es2,ep2,Y2,MN,T3⟩:=hno;refine⟨tl,hm,ns,nm,qn,bs,hd,sn,sub,ab,col,dd,k0,k1,k2,k3,k5,nsFind es2,?_,λh X=>⟨X _ _ ho,?_,tail_of_in X ht⟩⟩
   .unfold nsIn at hni;rw[MN]at hni;dsimp only at hni;split at hni;.grind
    .rename_i he;unfold nsFind findBy;rw[<-Array.find?_toList,he];rfl
   .have SY:h.Ns ns (h.nsMap ns):=.of_isNs (isNs_of_in X bV);obtain⟨o,es,ep,h1,h2,h3,h4⟩:=SY;rw[X _ _ MN]at h1;cases h1;cases h2;exact⟨_,_,_,X _ _ MN,rfl,h3,λ_=>rfl⟩
  .cases q
 .cases q
noncomputable def fO:D->Option Str
 |.dict [(.none,.str c)]=>ε c
 |_=>ζ
def gD(h:fO d=ε c):d=cI c:=by
 unfold fO at h
 split at h
 .cases h;rfl
 .cases h
theorem Lh{aR:4.8}{d':D}(k:((d,d')::r).map (·.1)=aR.map 10.7)(h:∀l,d≠.tuple l):False:=by
 cases aR with
 |nil=>cases k
 |cons p q=>exact h _ (afM k).1
theorem rN{K:Frag}(h:HD K H v (cI c)):False:=by
 cases h with
 |ye _ k _=>exact Lh k λ_ z=>nomatch z
def z8(d:D)(r:Res):Res:=match fO d with
 |some _=>.rt d
 |none=>r
def mU(h:fO d=ζ):z8 d r=r:=by unfold z8;rw[h]
def kj(mg:cX)(E:XK):Str->Hp->Prop:=λc H=>∀C,mg c=ε 1.9->E 1.9 ζ H
def jA(c:Str):aV:=λ_=>ε (.rt (cI c))
def pH(K:Frag)(mg:cX)(n:Nat)(G:19.3):Sp:=λvs H Q E=>vs.length=n/\∃A ds d,Ls A H/\ee K 19.5 vs ds/\G ds=ε d/\
 (∀v H',aE H H'->HD K (wo H' A) v d->Q v H')/\∀c H',d=cI c->aE H H'->kj mg E c H'
section
variable {P:4.6}{w:World}{K:Frag}{mg:cX}{base:Heap}{N ps:1.4}{x qual:Str}{st:Stmt}{scope:Scope}{f:Addr}{cd:Value}{A:Around}{outer:16.1}{s:Shared}{H:Hp}{E:XK}{O:1.0}{k:Nat}
def je(hC:FE K mg c C bm tl newId)(Fn:ExcBaseFacts Bn newId inN bmN)(hBn:bm.contains (.type Bn)=η)(FB:ExcBaseFacts B nid initId bm)
  (ha:PE 3.2 yi (tC v))(hg:Gl 3.2 c:=by rfl)
  (he:starEach [yi] 1.2=[(θ,eval yi 1.2)]:=by rfl)(he0:starEach ([]:List Expr) 1.2=[]:=by rfl)(hd:(c==("__debug__":Str))=false:=by decide):
  PS 3.2 (.Raise (ε (.Call (.Name c np) [yi] [] cY)) ζ pos) (tS K O (b,kj mg E) (jA c)):=
 (Qr hC Fn hBn FB (bu ha cz (by show starEach [yi] 1.2=(θ,eval yi 1.2)::starEach [] 1.2;rw[he,he0])) hg (by rw[he,he0]) (by rw[he0];rfl) hd).mono λD σ H1 hh=>hh.e λH0 U A0 δ r R F ed Q=>by
  cases ed;exact⟨by show 1<=sizeLine;decide,Q.2 c H1 rfl F.same C hC.bound⟩
theorem dW(O:1.0)(g:aV)(F:Df K mg x st ps)(S:15.0)
  (body:∀(f:Addr) (bW:Value) (A:Around) (outer:16.1) (s:Shared) (H:Hp) (E:XK),dQ k 3.0->ke (eV (mJ P w) P w K mg base N x (ai st) f bW A outer s H E) (bR st) (tS K O (θ,kj mg E) g))
  (hO:9.7:=by decide)(hN:N.length=n:=by rfl)(hP:ps.length=m:=by rfl):vW P w K mg base (k+1) x ps (pH K mg m (eB n g)):=by
 subst hN hP
 refine F.Oe S 20.7 (λf bW A outer s H vs Q E hr h=>⟨_,body f bW A outer s H E hr,?_⟩)
 obtain⟨hn,A',ds,d,al,hd,e,q,qx⟩:=h
 obtain⟨r,e1,e2⟩:=bind1 e
 refine⟨H,[],A',_,r,Rel.start al hd 3.9,Fx.start al,e1,?_⟩
 cases r with
 |nx δ=>cases e2;exact λU σ H' R F'=>q .iY H' F'.same .iY
 |rt d=>cases e2;exact⟨λv H' h=>by unfold yf at h;rw[if_neg Bool.false_ne_true]at h;exact q v H' h.1 h.2,λc H' e s=>qx c H' e s⟩
 |bk _=>cases e2
 |ct _=>cases e2
end
def j2(i:Nat)(g:aY):aV:=λδ=>(g δ).bind λd=>ε (z8 d (.nx 23.4))
def cc(g:aY):aV:=λδ=>(g δ).bind λd=>ε (z8 d (.nx δ))
section
variable {X:Cx}{O:1.0}{E:XK}{k kk n i:Nat}{x:Str}{ps:1.4}{p pos:Pos}{e:Expr}{es:6.9}{gr:cG}{G:19.3}{st:Stmt}{b:Bool}
def aP(F:vW X.prog X.w X.K X.mg X.base k x ps (pH X.K X.mg n G))(hr:dQ kk X.A)(hk:k<=kk)(hx:kg (mJ X.prog X.w) X E)(ha:PA X 4.5 6.1)(hg:Gl X x:=by rfl)
  (pP:1.1:=by decide)(he:starEach 4.5 X.env=1.7::starEach es X.env:=by rfl)(jL:0.8:=by rfl):
  PE X 3.1 25.3:=by
 obtain⟨f,fd,F,m,kp,b⟩:=F
 exact DH F (hr.mono hk) hg m kp b .nil hx ha pP he jL
set_option tactic.hygienic true in
def z9{K:Frag}(R:2.2)(e:av G n gr δ=ε d)(qn:∀v H',aE H H'->HD K (wo H' 8.0) v d->Q v H')
  (qx:∀c H',d=cI c->aE H H'->kj mg E c H'):pO (pH K mg n G) [] E (rL K O gr) σ H Q:=by
 obtain⟨ds,e1,e2⟩:=bind1 e
 split at e2
 .rename_i hn;refine⟨U,A0,δ,ds,R,e1,λvs H' s h=>?_⟩;show pH K mg n G (vs++[]) H' Q E;rw[abE];exact⟨by rw[h.len];exact hn,U++A0,ds,d,(R.same s).al,h,e2,λv H2 s2 h2=>qn v H2 19.8 h2,λc H2 ed s2=>qx c H2 ed 19.8⟩
 .grind
theorem UQ(h:PS X st (ze 25.3 (mM i)))(hi:i∉O:=by decide):PS X st (tS X.K O (b,kj X.mg E) (j2 i (av G n gr))):=h.mono λ7=>by
 intro 6
 have e3:=adM e2
 refine z9 R e1 (λv H' s hv=>?_) (λc H' hd s=>?_)
 .cases hx:fO d with
  |some c=>rw[gD hx]at hv;exact(rN hv).elim
  |none=>
    rw[mU hx]at e3;subst e3;exact P U _ H' ((R.same s).set hi hv) (F.grow s)
 .subst hd;subst e3;exact P.2 c H' rfl (F.same.trans s)
theorem dG(h:PS X st (Cs 25.3)):PS X st (tS X.K O (b,kj X.mg E) (cc (av G n gr))):=h.mono λ7=>by
 intro 6
 have e3:=adM e2
 refine z9 R e1 (λv H' s hv=>?_) (λc H' hd s=>?_)
 .cases hx:fO d with
  |some c=>rw[gD hx]at hv;exact(rN hv).elim
  |none=>
    rw[mU hx]at e3;subst e3;exact P U _ H' (R.same s) (F.grow s)
 .subst hd;subst e3;exact P.2 c H' rfl (F.same.trans s)
def kF(h:PS X st (Tw 25.3)):PS X st (tS X.K O (θ,kj X.mg E) (aT (av G n gr))):=h.mono λ7=>by
 intro 6
 cases e2
 refine z9 R e1 (λv H' s hv=>P.1 v H' ?_) (λc H' hd s=>P.2 c H' hd (F.same.trans s))
 exact⟨F.same.trans s,hv.same 21.5⟩
end
abbrev Cx.tr(X:Cx)(mV:de)(E:XK):Cx:={X with pn:=X.pn++mV,xe:=λv s1=>∃σ H0 s0,Inv X mV σ H0 s0/\mJ X.prog X.w X.stack H0 s0 E v s1}
section
variable {X:Cx}{pins mV:de}{σ:St}{H:Hp}{s:Shared}{E:XK}
theorem Cx.Ok.tr(ok:X.Ok):(X.tr mV E).Ok:=
 ⟨ok.mod,ok.kind,ok.glob,ok.blt,ok.above,ok.inj,ok.has,ok.Oc,ok.hd,ok.frames,ok.Ow,ok.Ts,ok.bs,ok.Ib,ok.yc,ok.zb,ok.jX,ok.Fz⟩
def Cx.Ok.Jl(ok:(X.tr mV E).Ok):X.Ok:=
 ⟨ok.mod,ok.kind,ok.glob,ok.blt,ok.above,ok.inj,ok.has,ok.Oc,ok.hd,ok.frames,ok.Ow,ok.Ts,ok.bs,ok.Ib,ok.yc,ok.zb,ok.jX,ok.Fz⟩
theorem Inv.tr(I:Inv X mV σ H s):Inv (X.tr mV E) [] σ H s:=⟨I.ok.tr,I.os,I.bare,I.base,I.loc,I.cell,I.free,I.iZ,λ21=>I.pin p (by rw[abE]at hp;exact hp),I.bV,I.len⟩
theorem Inv.Jl(I:Inv (X.tr mV E) pins σ H s):Inv X mV σ H s:=⟨I.ok.Jl,I.os,I.bare,I.base,I.loc,I.cell,I.free,I.iZ,λ21=>I.pin p (abC _ hp),I.bV,I.len⟩
def UR:kg (mJ X.prog X.w) (X.tr mV E) E:=λ_ σ H s _ _ I h=>⟨σ,H,s,I.Jl,h⟩
end
abbrev Jm(a:Addr)(c:Str):D:=.dict [(.list [],.tuple [.int (a:Nat),.str c])]
def Rel.ZY{K:Frag}{σ:St}(hl:σ.length=n)(hi:i<n)(hO:i∉O)(al:Ls A0 H1)(ta:H1 a=ζ)(SY:nsIn K mainGlobals c=ε (ε 1.9)):
  Rel K O [] A0 (σ.set i (ε 5.5)) ((List.replicate n ζ).set i (ε (Jm a c))) (upd H1 a (WL a C)):=by
 have get:∀(j:Nat) d,((List.replicate n (ζ:Option D)).set i (ε (Jm a c)))[j]?=ε (ε d)->j=i/\d=Jm a c:=λj d q=>by grind
 exact{
  len:=by rw[afk,afk,ahL];exact hl
  fz:=λj d _ q=>by
   obtain⟨rfl,rfl⟩:=get j d q;exact⟨.ref a,adt (by rw[hl];exact hi),.exc SY (by show wo (upd H1 a (WL a C)) A0 a=_;rw[aZ (λz=>al.free ta z)];exact aN)⟩
  ow:=λj d hj q=>absurd hj (by rw[(get j d q).1];exact hO)
  inj:=λj k d e l hj _ _ q _ _ _=>absurd hj (by rw[(get j d q).1];exact hO)
  al:=al.same (cy ta _)}
def isX(c T:Str):Bool:=ι (c=T)||decide (T="ValueError")||decide (T="LotError")
noncomputable def exP:D->Option (Int×Str)
 |.dict (p::_)=>(match p.1 with
   |.list _=>(match p.2 with
     |.tuple (.int a::.str c::_)=>ε (a,c)
     |_=>ζ)
   |_=>ζ)
 |_=>ζ
def dY(cs:1.4)(T:Str)(g:aY):aY:=λδ=>(g δ).bind λd=>(exP d).bind λy=>if y.2∈cs then ε (.bool (isX y.2 T))else ζ
def ClT(K:Frag)(cs:1.4)(T:Str)(Tv:Value):Prop:=∀c∈cs,∀C,nsIn K mainGlobals c=ε (ε 1.9)->Qu K C/\kitOne K 1.9 Tv=ε (isX c T)
theorem Li{aR:4.8}(k:kds.map (·.1)=aR.map 10.7)(e:exP 15.9=ε y):False:=by
 cases kds with
 |nil=>cases e
 |cons p r=>
   obtain⟨d,d'⟩:=p;refine Lh k λl z=>?_;subst z;cases e
theorem kc.adX{K:Frag}(h:kc K A H v d)(e:exP d=ε y):∃a C:Addr,y.1=(a:Nat)/\v=.ref a/\nsIn K mainGlobals y.2=ε (ε 1.9)/\H a=ε (WL a C):=by
 rcases h with h|⟨l,o,rfl,e',q⟩
 .cases h with
  |ye _ k _=>exact(Li k e).elim
  |exc k h=>cases e;exact⟨_,_,rfl,rfl,k,(nG h).2⟩
  |_=>cases e
 .cases q with
  |ye k _=>exact(Li k e).elim
  |lst _=>cases e
section
variable {X:Cx}{O:1.0}{e:Expr}{ga:aY}{pos p p2:Pos}{T:Str}{Tv:Value}{cv:V}
set_option tactic.hygienic true in
def Lj(cs:1.4)(hB:X.mg "isinstance"=ζ)(ha:PE X e 7.1)(ht:PE X (.Name T p2) (tC cv))(hcv:∀u,RelV cv u->u=Tv)(hT:ClT X.K cs T Tv)(hg:Gl X "isinstance":=by rfl)
  (he:starEach [e,.Name T p2] X.env=1.7::starEach [.Name T p2] X.env:=by rfl)(Ur:starEach [.Name T p2] X.env=(θ,eval (.Name T p2) X.env)::starEach [] X.env:=by rfl)(jL:(backTo pos (starEach [.Name T p2] X.env)).any (·.1)=false:=by rfl):
  PE X (.Call (.Name "isinstance" p) [e,.Name T p2] [] pos) (tE X.K O (dY cs T ga)):=
 (t9 Nw hg hB rK (bu ha (bu ht cz Ur) he) 0.0 0.0 he jL).mono λ1=>by
  intro 1;obtain⟨y,e3,e4⟩:=bind1 e2;split at e4
  .rename_i hz;cases e4;refine⟨U,A0,δ,_,R,e1,λ12=>?_⟩;obtain⟨a,C,_,rfl,SY,hH⟩:=h.adX e3;obtain⟨xc,kt⟩:=hT _ hz C SY;exact⟨a,C,cv,_,rfl,hH,xc,q _ H' s (.bl _),.inl ⟨Tv,hcv,kt⟩⟩
  .grind
end
def hxG(x:Addr)(X:Cx):Prop:=X.A.handled=ε (.ref x)
def adY(x:Addr)(lo:Int)(n:Nat):It:=⟨λi _=>i<n,λi H v H'=>H'=H/\v=.int (lo+i),λi H=>n<=i/\∃C,H x=ε (WL x C)⟩
def GH{K:Frag}(x it:Addr)(lo:Int)(n:Nat):KE (hxG x) P w K tg (adY x lo n) [it] it (λi h=>IsRangeIter h it (lo+(i:Nat)*1) ((n:Int)-(i:Nat)) 1) where
 mem:=by simp
 obj:=λi h st b hb=>by grind
 keep:=λi h h' st k=>k it 0.2 _ st
 item:=by
  intro 0;intro 4;have hg':i<n:=hg;refine wpAny_pyNext_range_item st 0.1 λh' Ge xH=>?_;have yI:IsRangeIter h' it (lo+((i+1:Nat):Int)*1) ((n:Int)-((i+1:Nat):Int)) 1:=by grind
  have I1:Inv X pins σ H {s with heap:=h',toks:=s.toks+1}:=I.turned (λ9=>xH.extBut b o hb e) f0 f1 f3 f4 f5;refine⟨_,rfl,FT (s:={s with heap:=h',toks:=s.toks+1}) (n:="range_iterator") yI rfl rfl 0.0 ⟨.int (lo+i),H,I1,⟨s.toks,?_⟩,⟨rfl,rfl⟩,yI,λ10=>(hf b hb).1⟩⟩;rw[Int.mul_one]
 done:=by
  intro 0;intro 4;obtain⟨hn,C,hC⟩:=hg;obtain⟨ox,fs,ho,hd,h2⟩:=(show cD s.heap x from(I.bV x _ hC).1.2);exact BL hc ho hd h2 st 0.1 λh' eb=>⟨rfl,I.turned (t':=s.toks) (λ9=>eb b o hb e) f0 f1 f3 f4 f5⟩
 self:=λ15=>wpAny_pyIter_rangeiter st h
section
variable {X:Cx}{tg:Expr}
def Ny{lo hi:Int}(I:0.5)(h1:-(2^62)<=lo)(h2:lo<2^62)(h3:-(2^62)<=hi)(h4:hi<2^62)
  (q:R (adY x lo (hi-lo).toNat) H):wpAny 0.4 X.A (pyIter 2.6) (OD (hxG x) X pins σ tg R) E {s with heap:=s.heap.push 1.5,toks:=tk}:=by
 refine wpAny_pyIter_range (IsRange.new ..) (small_one h1 h2 h3 h4) ?_
 have I1:Inv X pins σ H {s with heap:=s.heap.push 1.5,toks:=tk}:=I.kept λ14=>aao _ e
 refine⟨(s.heap.push 1.5).objs.size,[(s.heap.push 1.5).objs.size],_,_,H,rfl,
  I1.kept (t':=tk) λ14=>aao _ e,GH x _ lo (hi-lo).toNat,?_,λ10=>?_,q⟩
 .have e1:lo+((0:Nat):Int)*1=lo:=by simp
  have e2:(((hi-lo).toNat:Nat):Int)-((0:Nat):Int)=Builtin.Range.rangeSize lo hi 1:=by rw[rangeSize_one];split<;>lia
  rw[e1,e2];exact aaS _ rfl
 .have e:b=(s.heap.push 1.5).objs.size:=by simpa using hb
  subst e;exact I1.zf 5.6 (I1.bV.fresh 5.6)
def uo(x:Addr)(j:Nat)(g:cG):cG:=λδ=>((δ[j]?).join.bind exP).bind λy=>if y.1=(x:Nat)then gO g δ else ζ
set_option tactic.hygienic true in
theorem Jn(x:Addr)(j:Nat)(hm:X.mg "range"=ζ)(ha:PA X [a] 6.1)(hg:Gl X "range":=by rfl)(hs:starEach [a] X.env=[13.2]:=by rfl):
  PIG (hxG x) X tg (.Call (.Name "range" p) [a] [] pos) (SW X.K O (uo x j gr)):=by
 rintro pins s σ H Q I ⟨U,A0,δ,ds,R,ed,q⟩
 obtain⟨y,ey,ed2⟩:=bind1 ed
 obtain⟨d0,hj,ej⟩:=bind1 ey
 .split at ed2
  .rename_i ha0;obtain⟨v0,_,hv0⟩:=R.at (join_some hj);obtain⟨a1,C,ea,_,_,hH⟩:=hv0.adX ej;have hax:=Int.ofNat.inj (ea.symm.trans ha0);subst hax;obtain⟨xs,e1,e2⟩:=bind1 ed2;split at e2
   .split at e2
    .rename_i j0 hz;cases e2;refine Call_ (nA I hg hm boot_range (afa (eU (ha pos pins s σ H (λvs H1=>aE H H1/\ee X.K (wo H1 8.0) vs [.int j0]) I ⟨U,A0,δ,_,R,e1,λvs H' s h=>⟨s,h⟩⟩) λus s1 ⟨vs,H1,I1,r1,s1',h1⟩=>?_) hs rfl));cases h1 with
     |cons h1 h2=>
       cases h2;cases h1;cases r1 with
       |cons r rr=>
         cases rr;obtain⟨t,rfl⟩:=r;refine call_range_1 (Ny (x:=a1) I1 0.1 0.1 hz.1 hz.2 (q _ H1 s1' λi H2 s2=>⟨λd hd=>?_,λhi=>?_⟩))
         .rw [Int.sub_zero];obtain⟨hi,rfl⟩:=zC hd;refine⟨hi,λy H3 hy=>?_⟩;obtain⟨rfl,rfl⟩:=hy;exact⟨aE.refl _,.int _⟩
         .rw [zD]at hi;subst hi;rw[Int.sub_zero];exact⟨abb _,C,s2 _ _ (s1' _ _ hH)⟩
    .grind
   .grind
  .grind
end
structure FnW(P:4.6)(w:World)(K:Frag)(mg:cX)(base:Heap)(k:Nat)(f:Addr)(fd:FuncData)(ps:1.4)(sp:Addr->Sp):Prop where
 len:∀x vs H Q E,sp x vs H Q E->vs.length=ps.length
 run:∀(x:Addr) (A:Around) (outer:16.1) (s:Shared) (H:Hp) (args:Args) (us:cF) (vs:List V) (Q:VK) (E:XK),p8 k A->A.handled=ε (.ref x)->DG P w K mg base A outer s H->BindsTo s fd args (ps.zip us)->bL vs us->sp x vs H Q E->
  codeAny (model P w) A (.call 10.3 args) (CR Bp outer P w H s Q E) s
section
variable {P:4.6}{w:World}{K:Frag}{mg:cX}{base:Heap}
theorem ZZ{dV kV doc pm bW ct oc:Value} 
  (lk:K.lookup f=ε ⟨oc,od,.func (fnOf name qual params body scope dV kV doc pm an bW ct),KJ⟩)(xC:codeIn K bW qual=η)(S:ax N ps scope)(len:∀x vs H Q E,sp x vs H Q E->vs.length=ps.length)
  (t8:∀(x:Addr) (A:Around) (outer:16.1) (s:Shared) (H:Hp) (vs:List V) (Q:VK) (E:XK),p8 k (A.deeper (envOfC qual scope s.heap.objs.size f bW))->A.handled=ε (.ref x)->sp x vs H Q E->
   ∃t,ke (cxX P w K mg base N qual scope f bW A outer s H) body t/\t {nx:=λ_ H'=>Q .iY H',rt:=Q} 16.7 H):
  FnW P w K mg base (k+1) f (fnOf name qual params body scope dV kV doc pm an bW ct) ps sp:=by
 refine⟨len,λx A outer s H args us vs Q E hr hx e0 hb r OS=>?_⟩
 have KX:=e0.mod.kin.keeps λ14=>(e0.bs b o e).1
 have lim:=e0.mod.nolimit.keeps λ14=>(e0.bs b o e).1
 obtain⟨t,ht,hq⟩:=t8 x A outer s H vs Q E (hr.deeper _) hx OS
 have OT:∀y∈ps.zip us,scope.names.lookup y.1=ε .local\/(scope.names.lookup y.1=ε .cell/\((cellsFrom 2.7 scope.names []).lookup y.1).isSome=η):=λ⟨n,v⟩ hy=>
  (S.par n (aio hy).1).elim .inl λq=>.inr ⟨q,cellsFrom_some _ _ _ (.inl q)⟩
 refine codeAny_call_function (by have:=hr.dp;lia) (KX _ _ lk) rfl S.co S.gen rfl (codeRec_of KX xC) (hb _ _ _ _ (wpAny_newFunctionEnv_cells S.kind OT λenv he s1 x=>?_))
 subst he
 refine⟨lim.keeps x.toInCall.keep,codeAny_func ?_⟩
 have e1:DG P w K mg base {A with handled:=ζ} outer s H:=⟨e0.frames,e0.mod,e0.bs,e0.Ib,e0.jX,e0.Fz,e0.bV,e0.bare⟩
 have J:Inv (eV Bp P w K mg base N qual scope f bW {A with handled:=ζ} outer s H E0) [] 16.7 H s1:=CC S rfl e1 (len _ _ _ _ _ OS) r x
 have I:Inv (cxX P w K mg base N qual scope f bW A outer s H) [] 16.7 H s1:=
  ⟨⟨J.ok.mod,J.ok.kind,J.ok.glob,J.ok.blt,J.ok.above,J.ok.inj,J.ok.has,J.ok.Oc,3.5,Around.frames_deeper e0.frames,J.ok.Ow,J.ok.Ts,J.ok.bs,J.ok.Ib,J.ok.yc,J.ok.zb,J.ok.jX,J.ok.Fz⟩,
    J.os,J.bare,J.base,J.loc,J.cell,J.free,J.iZ,J.pin,J.bV,J.len⟩
 refine abw (ht [] s1 16.7 H _ I hq) (λfl s' hs=>?_) λe s' hs=>hs.elim
 cases fl with
 |ret u=>
   obtain⟨v,d8,H',J',rv,q⟩:=hs;exact⟨v,H',J'.os,J'.bare,J'.base,J'.bV,rv,q⟩
 |next=>
   obtain⟨d8,H',J',q⟩:=hs;exact⟨.iY,H',J'.os,J'.bare,J'.base,J'.bV,rfl,q⟩
 |brk=>obtain⟨_,_,_,q⟩:=hs;exact q.elim
 |cont=>obtain⟨_,_,_,q⟩:=hs;exact q.elim
def DnW(P:4.6)(w:World)(K:Frag)(mg:cX)(base:Heap)(k:Nat)(x:Str)(ps:1.4)(sp:Addr->Sp):Prop:=
 ∃f fd,FnW P w K mg base k f fd ps sp/\mg x=ε 10.3/\keepIn K 10.3=η/\Binds K fd ps []
theorem US{st:Stmt}(O:1.0)(g:Addr->aV)(F:Df K mg x st ps)(S:15.0)
  (body:∀(y f:Addr) (bW:Value) (A:Around) (outer:16.1) (s:Shared) (H:Hp),p8 k 3.0->A.handled=ε (.ref y)->ke (cxX P w K mg base N x (ai st) f bW A outer s H) (bR st) (tS K O (θ,λ_ _=>True) (g y)))
  (hO:9.7:=by decide)(hN:N.length=n:=by rfl)(hP:ps.length=m:=by rfl):DnW P w K mg base (k+1) x ps (λy=>ny K m (eB n (g y))):=by
 subst hN hP
 obtain⟨f,fd,F,m,b⟩:=F
 have kp:=F.kp
 intro 9
 refine⟨f,_,ZZ lk xC S (λy vs H Q E h=>h.1) (λy A outer s H vs Q E hr hy h=>⟨_,body y f bW A outer s H hr hy,?_⟩),m,kp,b⟩
 obtain⟨hn,A',ds,d,al,hd,e,q⟩:=h
 obtain⟨r,e1,e2⟩:=bind1 e
 refine⟨H,[],A',_,r,Rel.start al hd 3.9,Fx.start al,e1,?_⟩
 cases r with
 |nx δ=>cases e2;exact λU σ H' R F'=>q .iY H' F'.same .iY
 |rt d=>cases e2;exact⟨λv H' h=>by unfold yf at h;rw[if_neg Bool.false_ne_true]at h;exact q v H' h.1 h.2,λ_ _ _ _=>trivial⟩
 |bk _=>cases e2
 |ct _=>cases e2
end
set_option tactic.hygienic true in
theorem Qv{G:Addr->List D->Option D}(F:DnW X.prog X.w X.K X.mg X.base k x ps (λy=>ny X.K n (G y)))(hr:p8 kk X.A)(hk:k<=kk)(hy:X.A.handled=ε (.ref y))
  (ha:PA X 4.5 6.1)(hg:Gl X x:=by rfl)(pP:1.1:=by decide)(he:starEach 4.5 X.env=1.7::starEach es X.env:=by rfl)(jL:0.8:=by rfl):
  PE X 3.1 (tE X.K O (av (G y) n gr)):=by
 obtain⟨f,fd,F,hm,kp,hb⟩:=F
 rintro pins s σ H Q I ⟨U,A0,δ,d,R,ed,q⟩
 intro 11
 split at e2
 rotate_left
 .grind
 rename_i hn
 refine afw (lS I hg hm ?_ pP)
 refine callWith_K (h₀:=X.base) I.ok.mod.kin kp (eU (ha pos pins s σ H (λvs H1=>ny X.K n (G y) vs H1 Q E0) I ⟨U,A0,δ,ds,R,e1,λvs H' s h=>⟨by rw[h.len];exact hn,U++A0,ds,d,(R.same s).al,h,e2,λv H2 s2 h2=>q v H2 19.8 h2⟩⟩) λus s1 ⟨vs,H1,I1,r,q⟩=>⟨I1.o7,?_⟩) he jL
 have hlen:us.length=ps.length:=by rw[<-r.length];exact F.len _ _ _ _ _ q
 refine wpAny_call (afD (F.run y X.A X.stack s1 H1 ⟨us,[]⟩ us vs _ _ (hr.mono hk) hy I1.Y0 (by have:=hb s1 us I1.o7 (by rw[abE];exact hlen);rwa [abE]at this) r q) λrr s' hq=>?_)
 cases rr with
 |error v=>exact False.elim hq
 |ok fl=>
   cases fl with
   |ret u=>exact I1.after hq
   |next=>exact False.elim hq
   |brk=>exact False.elim hq
   |cont=>exact False.elim hq
def nR(cs:1.4)(f:Str->D):Str->Option D:=λc=>if c∈cs then ε (f c)else ζ
def xM(h:nR cs f c=ε d):c∈cs/\d=f c:=by
 unfold nR at h
 split at h
 .grind
 .cases h
def Jo(h:nR cs f c=ε d):c∈cs:=(xM h).1
def UT(e:af i δ=ε x)(h:W [x]=ε d):aT (av W 1 (aa (af i) ag)) δ=ε (.rt d):=by
 have e2:av W 1 (aa (af i) ag) δ=ε d:=by
  unfold av aa ag;rw[e];exact h
 unfold aT
 rw[e2];rfl
def gE(e:(δ[j]?).join=ε (Jm x c)):uo x j g δ=gO g δ:=by
 unfold uo
 rw[e]
 exact abe rfl
def mW(h:gi δ=gi' δ):gK gi k ix gt gc ge δ=gK gi' k ix gt gc ge δ:=by unfold gK;rw[h]
def UU(K:Frag)(mg:cX)(cs TS:1.4):Prop:=∀T∈TS,∃C,mg T=ε 1.9/\ClT K cs T 1.9
def adZ(K:Frag)(mg:cX)(L:Addr)(cs:1.4):Prop:=∀c∈cs,∃C,nsIn K mainGlobals c=ε (ε 1.9)/\mg c=ε 1.9/\exmOne K 1.9 (.ref L)=ε η
def gg(cs TS:1.4)(CT:UU X.K X.mg cs TS)(hTS:T∈TS)(hB:X.mg "isinstance"=ζ)(ha:PE X e 7.1)(hgT:Gl X T:=by rfl)(BM:(T==("__debug__":Str))=false:=by decide)(hg:Gl X "isinstance":=by rfl)
  (he:starEach [e,.Name T p2] X.env=1.7::starEach [.Name T p2] X.env:=by rfl)(Ur:starEach [.Name T p2] X.env=(θ,eval (.Name T p2) X.env)::starEach [] X.env:=by rfl)(jL:(backTo pos (starEach [.Name T p2] X.env)).any (·.1)=false:=by rfl):
  PE X (.Call (.Name "isinstance" p) [e,.Name T p2] [] pos) (tE X.K O (dY cs T ga)):=by
 obtain⟨C,m,k⟩:=CT T hTS
 exact Lj cs hB ha (kZ (v:=.ref C) ⟨_,m,rfl⟩ hgT BM) (λu r=>r) k hg he Ur jL
noncomputable def Xb:Option Obj->Bool
 |some ⟨_,_,.cls _,_⟩=>η
 |_=>θ
def Qw(K:Frag)(C:Addr):Bool:=Xb (K.lookup C)&&subIn K 1.9 12.7==ε η&&subIn K 1.9 12.5==ε η&&findIn K 1.9 "__class__"==ε (ε 5.3)&&
 findIn K 1.9 "__getattribute__"==ε 9.8&&findIn K 1.9 "__getattr__"==ε ζ
def UW{K:Frag}(q:Qw K C=η):Qu K C:=by
 unfold Qw at q
 simp only[abi,afq]at q
 obtain⟨⟨⟨⟨⟨a,b⟩,c⟩,d⟩,e⟩,f⟩:=q
 refine⟨?_,b,c,d,e,f⟩
 unfold Xb at a
 split at a
 .grind
 .cases a
def refOf:Option (Option Value)->Option Addr
 |some (ε 1.9)=>ε C
 |_=>ζ
def Aa(h:refOf v=ε C):v=ε (ε 1.9):=by
 unfold refOf at h
 split at h
 .grind
 .cases h
def Jp(K:Frag)(L:Addr)(cs TS:1.4):Bool:=(TS.all λT=>(refOf (nsIn K mainGlobals T)).isSome)&&cs.all λc=>match refOf (nsIn K mainGlobals c)with
 |some C=>Qw K C&&exmOne K 1.9 (.ref L)==ε η&&kitOne K 1.9 11.2==ε η&&TS.all λT=>match refOf (nsIn K mainGlobals T)with
   |some CT=>kitOne K 1.9 (.ref CT)==ε (isX c T)
   |none=>θ
 |none=>θ
section
variable {K:Frag}{L:Addr}{cs TS:1.4}{c:Str}{h:Heap}{mg:cX}
set_option tactic.hygienic true in
def Ab(q:Jp K L cs TS=η)(hc:c∈cs):∃C,nsIn K mainGlobals c=ε (ε 1.9)/\Qu K C/\exmOne K 1.9 (.ref L)=ε η/\kitOne K 1.9 11.2=ε η/\
  ∀T∈TS,∀CT,nsIn K mainGlobals T=ε (ε (.ref CT))->kitOne K 1.9 (.ref CT)=ε (isX c T):=by
 unfold Jp at q
 rw[abi]at q
 have q1:=acC.mp q.2 c hc
 split at q1
 .rename_i C hC;simp only[abi,afq]at q1;obtain⟨⟨⟨a,b⟩,d⟩,e⟩:=q1;refine⟨C,Aa hC,UW a,b,d,λT hT CT hCT=>?_⟩;have e1:=acC.mp e T hT;rw[hCT]at e1;exact afq.mp e1
 .grind
def UX(X:K.In h)(G:15.5)(q:Jp K L cs TS=η):UU K mg cs TS:=λT hT=>by
 have q0:=q
 unfold Jp at q0
 rw[abi]at q0
 have q1:=acC.mp q0.1 T hT
 obtain⟨CT,hCT⟩:=aha.mp q1
 have hn:=Aa hCT
 refine⟨CT,mg_of X G hn,λc hc C hC=>?_⟩
 obtain⟨C',h1,h2,_,_,h5⟩:=Ab q hc
 rw[hC]at h1
 cases h1
 exact⟨h2,h5 T hT CT hn⟩
def UY(q:Jp K L cs TS=η):ClT K cs "ValueError" 11.2:=λc hc C hC=>by
 obtain⟨C',h1,h2,_,h4,_⟩:=Ab q hc
 rw[hC]at h1
 cases h1
 refine⟨h2,h4.trans ?_⟩
 unfold isX
 simp
def UZ(X:K.In h)(G:15.5)(q:Jp K L cs TS=η):adZ K mg L cs:=λc hc=>by
 obtain⟨C,h1,_,h3,_⟩:=Ab q hc
 exact⟨C,h1,mg_of X G h1,h3⟩
def Lk(X:K.In h):(bT K).In h:=λ14=>by
 rw[lu]at e
 split at e
 .exact X b o e
 .cases e
end
def C5:swapsWith (.List es p) t l env=pure false:=rfl
noncomputable def C6:List Expr->Option (List Str)
 |[]=>ε []
 |.Constant (.str n) _ _::es=>(C6 es).map (n::·)
 |_=>ζ
def rO(ns:1.4):cG:=λ_=>ε (ns.map .str)
set_option tactic.hygienic true in
theorem ly:∀{es:6.9} {ns:1.4},C6 es=ε ns->PA X es (rL X.K O (rO ns))
 |[],ns,h=>by
   cases h;exact ah
 |e::es,ns,h=>by
   unfold C6 at h;split at h;.grind
   .rename_i n k p FO he;cases he;cases q:C6 es with
    |none=>rw[q]at h;cases h
    |some ms=>
      rw[q]at h;cases h;exact ae (zt kf) (ly q) rfl
   .cases h
def ad0:bootBuiltins "ValueError"=ε 11.2:=⋯
abbrev VE:cF:=[.type "ValueError",.type "Exception",.type "BaseException",.type "object"]
end L2
namespace L2
open PySem PySem.Spec PyProof.Rows
structure BN(S:Type) where
 P:PySem.W.Frag->Hp->Hp->List Addr->S->Prop
 own:∀{K H Hw B s},P K H Hw B s->∀x∈B,∃o,H x=ε o/\F6 o
 mono:∀{K H H' Hw Ll B s},P K H Hw B s->(∀x∈B,H' x=H x)->aE Hw Ll->P K H' Ll B s
def dH(cl:4.0)(H H':Hp):Prop:=∀b o,b∉cl->H b=ε o->H' b=ε o
def dH.of(s:23.1):dH cl H H':=λb o _ h=>s b o h
def dH.trans(s:dH cl H H')(t:dH cl H' H2):dH cl H H2:=λb o n h=>t b o n (s b o n h)
def GI(h:∀x,x∈A↔x∈B):wo H A=wo H B:=by
 funext x
 by_cases q:x∈A
 .rw [il q,il ((h x).mp q)]
 .rw [aZ q,aZ λz=>q ((h x).mpr z)]
section
variable {S:Type}{K:aq}{O:1.0}{Γ:BN S}{B U U1 A0:4.0}{σ FA:St}{δ gV:DS}{H H' H0 H1:Hp}{s:S}
structure eC(K:aq)(O:1.0)(Γ:BN S)(B U A0:4.0)(σ:St)(δ:DS)(H:Hp)(s:S):Prop where
 r:Rel K O U 17.9 σ δ H
 p:Γ.P K H (wo H (U++17.9)) B s
 dj:∀x∈U,x∉B
 da:∀x∈A0,x∉B
structure uq(H0:Hp)(A0 U B:4.0)(H:Hp):Prop where
 same:aE H0 H
 new:∀a∈U,H0 a=ζ
 ro:∀a∈B,H0 a=ζ
 old:Ls A0 H0
def BN.at(p:Γ.P K H (wo H U) B s)(e:23.1):∀x∈B,H' x=H x:=λ20=>by
 obtain⟨o,h,_⟩:=Γ.own p x hx
 rw[h,e x o h]
theorem eC.same(R:5.0)(e:23.1):eC K O Γ B U A0 σ δ H' s:=⟨R.r.same e,Γ.mono R.p (BN.at R.p e) (b9 e),R.dj,R.da⟩
def uq.grow(F:uq H0 A0 U B H)(e:dH B H H'):uq H0 A0 U B H':=⟨λb o h=>e b o (λz=>by rw[F.ro b z]at h;cases h) (F.same b o h),F.new,F.ro,F.old⟩
def uq.mX(F:uq H0 A0 U B H)(e:dH B H H')(n:∀x∈B',x∈B\/H x=ζ):uq H0 A0 U B' H':=⟨(F.grow e).same,F.new,λ20=>(n x hx).elim (F.ro x) λz=>F.same.free z,F.old⟩
def Lm(h:Ls (U++B) H)(n:∀x∈B,x∉U):Ls B (wo H U):=by
 refine⟨λ20=>?_,λp xs m=>?_⟩
 .obtain ⟨o,e,w⟩:=h.1 x (aaW _ hx);exact⟨o,by rw[aZ (n x hx)];exact e,w⟩
 .have t:=h.2 p xs m;refine t.wo λz=>?_;obtain⟨o,e,w⟩:=h.1 p (abC _ z);exact t.apart e w rfl
def eC.fx(R:5.0)(F:uq H0 A0 U B H):Fx (wo H U) 17.9 U H:=⟨cH,λ_ h=>il h,Lm R.r.al λx hx hu=>by
 rcases abg.mp hx with z|z
 .exact R.dj x hu z
 .obtain ⟨o,e,_⟩:=F.old.1 x z;rw[F.new x hu]at e;cases e⟩
def eC.keep(R:5.0)(F1:Fx (wo H U) 17.9 U1 H1):(∀x∈B,H1 x=H x)/\aE (wo H (U++17.9)) (wo H1 (U1++17.9))/\∀x∈U1,x∉B:=by
 have c:∀x∈B,∃o,H x=ε o/\wo H U x=ε o:=λ20=>by
  obtain⟨o,e,_⟩:=Γ.own R.p x hx;exact⟨o,e,by rw[aZ λz=>R.dj x z hx];exact e⟩
 refine⟨λ20=>?_,λb o hb=>?_,λx hx hc=>?_⟩
 .obtain ⟨o,e,e'⟩:=c x hx;rw[F1.same x o e',e]
 .have nb:b∉U++17.9:=λz=>by rw[il z]at hb;cases hb
  rw[aZ nb]at hb;have h1:wo H U b=ε o:=by rw[aZ λz=>nb (abC _ z)];exact hb
  rw[aZ λz=>?_];.exact F1.same b o h1
  .rcases abg.mp z with y|y;.rw [F1.new b y]at h1;cases h1
   .grind
 .obtain ⟨o,_,e'⟩:=c x hc;rw[F1.new x hx]at e';cases e'
def eC.up(R:5.0)(F:uq H0 A0 U B H)(R1:Rel K O U1 17.9 FA gV H1)(F1:Fx (wo H U) 17.9 U1 H1):eC K O Γ B U1 A0 FA gV H1 s/\uq H0 A0 U1 B H1:=by
 obtain⟨k1,k2,k3⟩:=R.keep F1
 refine⟨⟨R1,Γ.mono R.p k1 k2,k3,R.da⟩,⟨λb o h=>?_,λ20=>?_,F.ro,F.old⟩⟩
 .refine F1.same b o ?_;rw[aZ λz=>by rw[F.new b z]at h;cases h];exact F.same b o h
 .by_cases z:x∈U;.exact F.new x z
  .have:=F1.new x hx;rw[aZ z]at this;exact F.same.free this
end
section
variable {S:Type}
def ad1(K:aq)(O:1.0)(Γ:BN S)(xk:Str->Hp->Prop)(H0:Hp)(A0:4.0)(E:Ends)(s:S):Res->Prop
 |.nx δ=>∀B U σ H,eC K O Γ B U A0 σ δ H s->uq H0 A0 U B H->E.nx σ H
 |.bk δ=>∀B U σ H,eC K O Γ B U A0 σ δ H s->uq H0 A0 U B H->E.bk σ H
 |.ct δ=>∀B U σ H,eC K O Γ B U A0 σ δ H s->uq H0 A0 U B H->E.ct σ H
 |.rt d=>(∀B v H,aE H0 H->(∀x∈B,H0 x=ζ)->Γ.P K H (wo H 17.9) B s->HD K (wo H 17.9) v d->E.rt v H)/\∀B c H,d=cI c->aE H0 H->(∀x∈B,H0 x=ζ)->Γ.P K H (wo H 17.9) B s->xk c H
abbrev GD(S:Type):=DS->S->Option (Res×S)
inductive ur(K:aq)(O:1.0)(Γ:BN S)(xk:Str->Hp->Prop)(g:GD S)(E:Ends)(σ:St)(H:Hp):Prop|mk (H0 B U A0 δ s r s')(_:5.0)(_:uq H0 A0 U B H)(_:g δ s=ε (r,s'))(_:ad1 K O Γ xk H0 A0 E s' r)
def nU(g:aV):GD S:=λδ s=>(g δ).bind λr=>ε (r,s)
variable {X:Cx}{O:1.0}{Γ:BN S}{xk:Str->Hp->Prop}{st:Stmt}{rest a b:List Stmt}{c e:Expr}{pos:Pos}
theorem gW(h:PS X st (tS X.K O (θ,xk) g)):PS X st (ur X.K O Γ xk (nU g)):=h.mono λE σ H ⟨H0,B,U,A0,δ,s,r,s',R,F,ed,P⟩=>by
 obtain⟨r',e1,e2⟩:=bind1 ed
 cases e2
 refine⟨wo H U,U,B++A0,δ,r,R.r,R.fx F,e1,?_⟩
 cases r with
 |nx δ'=>exact λU1 FA H1 R1 F1=>P B U1 FA H1 (R.up F R1 F1).1 (R.up F R1 F1).2
 |bk δ'=>exact λU1 FA H1 R1 F1=>P B U1 FA H1 (R.up F R1 F1).1 (R.up F R1 F1).2
 |ct δ'=>exact λU1 FA H1 R1 F1=>P B U1 FA H1 (R.up F R1 F1).1 (R.up F R1 F1).2
 |rt d=>
   have G:∀H1,aE (wo H U) H1->aE H0 H1/\Γ.P X.K H1 (wo H1 17.9) B s:=λH1 e=>by
    have F1:Fx (wo H U) 17.9 [] H1:=⟨e,λ_ z=>(nomatch z),(R.fx F).old⟩;obtain⟨k1,k2,_⟩:=R.keep F1;refine⟨λb o h=>e b o ?_,Γ.mono R.p k1 k2⟩;rw[aZ λz=>by rw[F.new b z]at h;cases h];exact F.same b o h
   refine⟨λv H1 h=>?_,λc H1 hd e=>P.2 B c H1 hd (G H1 e).1 F.ro (G H1 e).2⟩;exact P.1 B v H1 (G H1 h.1).1 F.ro (G H1 h.1).2 h.2
def dJ(f g:GD S):GD S:=λδ s=>(f δ s).bind λr=>match r.1 with|.nx δ'=>g δ' r.2|_=>ε r
theorem bS(h1:PS X st (ur X.K O Γ xk f))(h2:ke X rest (ur X.K O Γ xk g)):ke X (st::rest) (ur X.K O Γ xk (dJ f g)):=(tZ h1 h2).mono λE σ H ⟨H0,B,U,A0,δ,s,r,s',R,F,ed,P⟩=>by
 obtain⟨⟨r1,s1⟩,e1,e2⟩:=bind1 ed
 cases r1 with
 |nx δ'=>exact⟨H0,B,U,A0,δ,s,.nx δ',s1,R,F,e1,λB' U' d8 H' R' F'=>⟨H0,B',U',A0,δ',s1,r,s',R',F',e2,P⟩⟩
 |rt d=>cases e2;exact⟨H0,B,U,A0,δ,s,_,_,R,F,e1,P⟩
 |bk d=>cases e2;exact⟨H0,B,U,A0,δ,s,_,_,R,F,e1,P⟩
 |ct d=>cases e2;exact⟨H0,B,U,A0,δ,s,_,_,R,F,e1,P⟩
def cK(h1:PS X st (ur X.K O Γ xk f)):ke X [st] (ur X.K O Γ xk f):=DE h1
def ip:GD S:=λδ s=>ε (.nx δ,s)
def ia:ke X [] (ur X.K O Γ xk ip):=KD.mono λE σ H ⟨H0,B,U,A0,δ,s,r,s',R,F,ed,P⟩=>by cases ed;exact P B U σ H R F
inductive S4(K:aq)(O:1.0)(Γ:BN S)(g:DS->S->Option (Bool×S))(σ:St)(H:Hp)(Q:Bool->Hp->Prop):Prop|mk (B U A0 δ s b s')(_:5.0)(_:g δ s=ε (b,s'))(_:∀B' H',dH B H H'->(∀x∈B',x∈B\/H x=ζ)->eC K O Γ B' U A0 σ δ H' s'->Q b H')
inductive S5(K:aq)(O:1.0)(Γ:BN S)(g:13.5)(σ:St)(H:Hp)(Q:VK):Prop|mk (B U A0 δ s d s')(_:5.0)(_:g δ s=ε (d,s'))(_:∀B' v H',dH B H H'->(∀x∈B',x∈B\/H x=ζ)->eC K O Γ B' U A0 σ δ H' s'->HD K (wo H' (U++(B'++A0))) v d->Q v H')
def Eh{α:Type}(g:DS->Option α):DS->S->Option (α×S):=λδ s=>(g δ).bind λr=>ε (r,s)
def vY(h:PT X c (tT X.K O g)):PT X c (S4 X.K O Γ (Eh g)):=h.mono λσ H Q ⟨B,U,A0,δ,s,b,s',R,ed,q⟩=>by
 obtain⟨r',e1,e2⟩:=bind1 ed
 cases e2
 exact⟨U,B++A0,δ,b,R.r,e1,λH' e=>q B H' (.of e) (λ_ z=>.inl z) (R.same e)⟩
def Z0(h:PE X e (tE X.K O g)):PE X e (S5 X.K O Γ (Eh g)):=h.mono λσ H Q ⟨B,U,A0,δ,s,b,s',R,ed,q⟩=>by
 obtain⟨r',e1,e2⟩:=bind1 ed
 cases e2
 exact⟨U,B++A0,δ,b,R.r,e1,λv H' e hv=>q B v H' (.of e) (λ_ z=>.inl z) (R.same e) hv⟩
def xN(c:DS->S->Option (Bool×S))(a b:GD S):GD S:=λδ s=>(c δ s).bind λx=>if x.1=η then a δ x.2 else b δ x.2
theorem jB(hc:PT X c (S4 X.K O Γ gc))(ha:ke X a (ur X.K O Γ xk ga))(hb:ke X b (ur X.K O Γ xk gb)):PS X (.If c a b pos) (ur X.K O Γ xk (xN gc ga gb)):=(Ww hc ha hb).mono λE σ H ⟨H0,B,U,A0,δ,s,r,s',R,F,ed,P⟩=>by
 obtain⟨⟨x,s1⟩,e1,e2⟩:=bind1 ed
 refine⟨B,U,A0,δ,s,x,s1,R,e1,λB' H' e n R'=>?_⟩
 cases x with
 |true=>exact⟨H0,B',U,A0,δ,s1,r,s',R',F.mX e n,e2,P⟩
 |false=>exact⟨H0,B',U,A0,δ,s1,r,s',R',F.mX e n,e2,P⟩
def yj(g:13.5):GD S:=λδ s=>(g δ s).bind λx=>ε (.rt x.1,x.2)
def eC.pr{K:aq}(R:5.0):Γ.P K H (wo H 17.9) B s:=Γ.mono R.p (λ_ _=>rfl) 21.5
def Lo(h:PE X e (S5 X.K O Γ g)):PS X (.Return (ε e) pos) (ur X.K O Γ xk (yj g)):=(eA h).mono λE σ H ⟨H0,B,U,A0,δ,s,r,s',R,F,ed,P⟩=>by
 intro 15
 cases e2
 exact⟨B,U,A0,δ,s,d,s1,R,e1,λB' v H' e n R' hv=>P.1 B' v H' (F.grow e).same (F.mX e n).ro R'.pr (hv.same 21.5)⟩
noncomputable def GJ(g:13.5):GD S:=λδ s=>(g δ s).bind λx=>ε (.nx δ,x.2)
def GK(h:PS X st (Cs (S5 X.K O Γ g))):PS X st (ur X.K O Γ xk (GJ g)):=h.mono λE σ H ⟨H0,B,U,A0,δ,s,r,s',R,F,ed,P⟩=>by
 intro 15
 cases e2
 exact⟨B,U,A0,δ,s,d,s1,R,e1,λB' v H' e n R' hv=>P B' U σ H' R' (F.mX e n)⟩
theorem eC.set{K:aq}(R:5.0)(hi:i∉O)(hv:HD K (wo H (U++17.9)) v d):eC K O Γ B U A0 (σ.set i (ε v)) 23.4 H s:=⟨R.r.set hi hv,R.p,R.dj,R.da⟩
end
section
variable {S:Type}{K:aq}{O:1.0}{Γ:BN S}{B B' U U1 A0:4.0}{σ:St}{δ:DS}{H H' H0 H1:Hp}{s s':S}
theorem dH.wo(e:dH B H H')(h:∀x∈B,x∈A):aE 19.5 (wo H' A):=λb o hb=>by
 have nb:b∉A:=λz=>by rw[il z]at hb;cases hb
 rw[aZ nb]at hb ⊢
 exact e b o (λz=>nb (h b z)) hb
def eC.M8:∀x∈B,x∈U++17.9:=by grind
def eC.grow(R:5.0)(e:dH B H H')(p:Γ.P K H' (wo H' (U++17.9)) B s'):eC K O Γ B U A0 σ δ H' s':=by
 have k:=e.wo (A:=U++17.9) eC.M8
 refine⟨⟨R.r.len,λi d hi ed=>?_,λi d hi ed=>?_,R.r.inj,λ20=>?_,λq xs m=>?_⟩,p,R.dj,R.da⟩
 .obtain ⟨v,a,b⟩:=R.r.fz i d hi ed;exact⟨v,a,b.same k⟩
 .obtain ⟨l,o,a,b,c,w⟩:=R.r.ow i d hi ed;exact⟨l,o,a,b,e l o (R.dj l b) c,w.same k⟩
 .by_cases z:x∈B;.exact Γ.own p x z
  .obtain ⟨o,h,w⟩:=R.r.al.1 x hx;exact⟨o,e x o z h,w⟩
 .have t:=R.r.al.2 q xs m;have n:q∉B:=λz=>by
   obtain⟨o,h,w⟩:=Γ.own R.p q z;exact t.apart h w rfl
  rcases t with t|⟨ob,t⟩;.exact .inl (e q _ n t)
  .exact .inr ⟨ob,e q _ n t⟩
def eC.here(R:5.0)(F:uq H0 A0 U B H):uq (wo H (U++B)) A0 U B H:=⟨cH,λ_ h=>il (abC _ h),λ_ h=>il (aaW _ h),Lm (by rw[ac2];exact R.r.al) λx hx hz=>by
 rcases abg.mp hz with z|z
 .obtain ⟨o,e,_⟩:=F.old.1 x hx;rw[F.new x z]at e;cases e
 .exact R.da x hx z⟩
def uq.over(F:uq H0 A0 U B H)(e:aE (wo H (U++B)) H'):aE H0 H':=λb o h=>e b o (by
 rw[aZ λz=>?_]
 .exact F.same b o h
 .rcases abg.mp z with y|y;.rw [F.new b y]at h;cases h
  .rw [F.ro b y]at h;cases h)
theorem uq.none(F:uq H0 A0 U B H)(this:wo H (U++B) x=ζ):H0 x=none:=by
 by_cases z:x∈U
 .exact F.new x z
 .by_cases y:x∈B;.exact F.ro x y
  .rw [aZ λq=>(abg.mp q).elim z y]at this;exact F.same.free this
def uq.trans(F:uq H0 A0 U B H)(G:uq (wo H (U++B)) A0 U1 B' H'):uq H0 A0 U1 B' H':=by
 exact⟨F.over G.same,λ20=>F.none (G.new x hx),λ20=>F.none (G.ro x hx),F.old⟩
def uq.keeps(G:uq (wo H1 (U++B)) A0 U1 B' H):aE (wo H1 (U++17.9)) (wo H (U1++(B'++A0))):=λb o hb=>by
 have nb:b∉U++17.9:=λz=>by rw[il z]at hb;cases hb
 rw[aZ nb]at hb
 have h1:wo H1 (U++B) b=ε o:=by
  rw[aZ λz=>nb ?_];.grind
  .grind
 rw[aZ λz=>?_]
 .exact G.same b o h1
 .rcases abg.mp z with y|y;.rw [G.new b y]at h1;cases h1
  .rcases abg.mp y with y|y;.rw [G.ro b y]at h1;cases h1
   .grind
end
section
variable {S:Type}
noncomputable def lz(t:13.4)(b:GD S):List D->DS->S->Option (Res×S)
 |[],δ,s=>ε (.nx δ,s)
 |d::ds,δ,s=>(t d δ).bind λgV=>(b gV s).bind λr=>match r.1 with|.nx δ'=>lz t b ds δ' r.2|.ct δ'=>lz t b ds δ' r.2|.bk δ'=>ε (.nx δ',r.2)|.rt d=>ε (.rt d,r.2)
def Nz(gi:cG)(t:13.4)(b:GD S):GD S:=λδ s=>(gi δ).bind λds=>lz t b ds δ s
variable {X:Cx}{O:1.0}{Γ:BN S}{xk:Str->Hp->Prop}{rest body:List Stmt}{c e tg iter a b:Expr}{pos:Pos}
theorem GL(hp:18.5)(hc:X.calm=η)(hi:PI X tg iter (tI X.K O gi))(hg:PG X tg (tG X.K O gt))(hb:ke X body (ur X.K O Γ xk gb))
  (hs:3.7:=by intro _;rfl):PS X (.For tg iter body [] pos) (ur X.K O Γ xk (Nz gi gt gb)):=(OF hp hc hi hg hb hs).mono λE σ H ⟨H0,B,U,A0,δ,s0,r,s',R,F,ed,P⟩=>by
 intro 11
 refine⟨U,B++A0,δ,ds,R.r,e1,λJ H1 s hw=>?_⟩
 have F1:=F.grow (.of s)
 have R1:=R.same s
 refine⟨λi m σ H=>m=ds.length-i/\i<=ds.length/\∃B2 U2 δ sg,eC X.K O Γ B2 U2 A0 σ δ H sg/\uq H0 A0 U2 B2 H/\uq (wo H1 (U++B)) A0 U2 B2 H/\lz gt gb (ds.drop i) δ sg=ε (r,s'),⟨ds.length,by simp,Nat.zero_le _,B,U,δ,s0,R1,F1,R1.here F1,by simpa using e2⟩,?_⟩
 rintro i m σ H ⟨rfl,hle,B2,U2,δ,sg,R2,F2,G2,ef⟩
 obtain⟨Zr,zB⟩:=hw (U2++(B2++A0)) i H G2.keeps R2.r.al
 by_cases lR:i<ds.length
 .obtain ⟨d,hd⟩:∃d,ds[i]?=ε d:=⟨_,abh lR⟩;have Pw:ds.drop i=d::ds.drop (i+1):=by
   rw[afR lR];rw[abh lR]at hd;cases hd;rfl
  obtain⟨go,hy⟩:=Zr d hd;rw[Pw,lz]at ef;obtain⟨gV,e3,e4⟩:=bind1 ef;obtain⟨⟨q,s1⟩,e5,e6⟩:=bind1 e4;refine .inr ⟨go,λd8 H'=>∃m',m'<ds.length-i/\(m'=ds.length-(i+1)/\i+1<=ds.length/\∃B2 U2 δ sg,eC X.K O Γ B2 U2 A0 d8 δ H' sg/\uq H0 A0 U2 B2 H'/\uq (wo H1 (U++B)) A0 U2 B2 H'/\lz gt gb (ds.drop (i+1)) δ sg=ε (r,s')),λ_ _ h=>h,λx H2 y=>?_⟩;obtain⟨s2,hx⟩:=hy x H2 y;have R3:=R2.same s2;have F3:=F2.grow (.of s2);have G3:=G2.grow (.of s2);refine⟨U2,B2++A0,δ,d,gV,R3.r,hx,e3,λd8 R'=>?_⟩;refine⟨wo H2 (U2++B2),B2,U2,A0,gV,sg,q,s1,⟨R',R3.p,R3.dj,R3.da⟩,R3.here F3,e5,?_⟩;cases q with
  |nx δ'=>exact λB' U' d8 H' R' F'=>⟨_,by lia,rfl,lR,B',U',δ',s1,R',F3.trans F',G3.trans F',e6⟩
  |ct δ'=>exact λB' U' d8 H' R' F'=>⟨_,by lia,rfl,lR,B',U',δ',s1,R',F3.trans F',G3.trans F',e6⟩
  |bk δ'=>cases e6;exact λB' U' d8 H' R' F'=>P B' U' d8 H' R' (F3.trans F')
  |rt d=>cases e6;exact⟨λB' v H' h n p hv=>P.1 B' v H' (F3.over h) (λ20=>F3.none (n x hx)) p hv,λB' c H' e h n p=>P.2 B' c H' e (F3.over h) (λ20=>F3.none (n x hx)) p⟩
 .have hi:i=ds.length:=by lia
  subst hi;rw[ahV,lz]at ef;cases ef;exact .inl ⟨zB rfl,P B2 U2 σ H R2 F2⟩
noncomputable def d2(f:D->D->Option D)(ga:13.5)(gb:aY):DS->S->Option (D×S):=λδ s=>(ga δ s).bind λx=>(gb δ).bind λy=>(f x.1 y).bind λz=>ε (z,x.2)
noncomputable def dB(g:13.5):DS->S->Option (Bool×S):=λδ s=>(g δ s).bind λx=>match x.1 with|.bool b=>ε (b,x.2)|_=>ζ
def ad2{K:aq}(imp:kh K r f):S5 K O Γ (d2 f ga gb) σ H Q->YR r (S5 K O Γ ga) (ir K O gb) σ H Q:=λ⟨B,U,A0,δ,s,d,s',R,ed,q⟩=>by
 obtain⟨⟨x,s1⟩,e1,e2⟩:=bind1 ed
 obtain⟨y,e3,e4⟩:=bind1 e2
 obtain⟨z,e5,e6⟩:=bind1 e4
 cases e6
 exact⟨B,U,A0,δ,s,x,s1,R,e1,λB1 v1 H1 k1 n1 R1 h1=>⟨U,B1++A0,δ,y,R1.r,e3,λv2 H2 k2 h2=>imp _ H2 v1 v2 x y _ Q (R1.same k2).r.al (.of (h1.same (b9 k2))) h2 e5 λv H' k h=>q B1 v H' (k1.trans (.of (k2.trans k))) n1 (R1.same (k2.trans k)) h⟩⟩
theorem lA(ho:12.6)(imp:kh X.K r f)(ha:PE X a (S5 X.K O Γ ga))(hb:9.0)(hm:23.7:=by exact Iq _):PT X 16.2 (S4 X.K O Γ (dB (d2 f ga gb))):=(KG ho ha hb hm).mono λσ H Q ⟨B,U,A0,δ,s,b,s',R,ed,q⟩=>by
 intro 15
 cases d with
 |bool c=>
   cases e2;exact ad2 imp ⟨B,U,A0,δ,s,_,_,R,e1,λB' v H' k n R' h=>by cases h;exact⟨_,rfl,q B' H' k n R'⟩⟩
 |_=>cases e2
def dOr(f g:DS->S->Option (Bool×S)):DS->S->Option (Bool×S):=λδ s=>(f δ s).bind λx=>if x.1=η then ε x else g δ x.2
theorem U0{rest:6.9}(ha:PT X a (S4 X.K O Γ f))(hb:PW X (.BoolOp .Or (b::rest) pos) (S4 X.K O Γ g)):PW X (.BoolOp .Or (a::b::rest) pos) (S4 X.K O Γ (dOr f g)):=(pw_or ha hb).mono λσ H Q ⟨B,U,A0,δ,s,z,s',R,ed,q⟩=>by
 obtain⟨⟨x,s1⟩,e1,e2⟩:=bind1 ed
 refine⟨B,U,A0,δ,s,x,s1,R,e1,λB' H' k n R'=>?_⟩
 cases x with
 |true=>grind
 |false=>
   refine⟨B',U,A0,δ,s1,z,s',R',e2,λB2 H2 k2 n2 R2=>q B2 H2 (λb o nb hb=>?_) (λ20=>?_) R2⟩
   .refine k2 b o (λy=>(n b y).elim nb λz=>?_) (k b o nb hb);rw[hb]at z;cases z
   .rcases n2 x hx with y|y;.grind
    .by_cases z:x∈B;.grind
     .cases e:H x with
      |none=>exact .inr rfl
      |some o=>rw[k x o z e]at y;cases y
end
end L2
namespace L2
open PySem PySem.Spec PySem.W PyProof.Rows
structure Dk where
 pl:List (Str×D)
 lo:List (Str×D)
def bM(a:Addr):D:=.dict [(.list [],.int (a:Nat))]
def TK(K:Frag)(H:Hp)(aR:List (Key×V))(l:List (Str×D)):Prop:=aR.map (·.1)=l.map (λx=>(.inr x.1:Key))/\ee K H (aR.map (·.2)) (l.map (·.2))
theorem TK.same{K:Frag}(h:TK K H aR l)(s:23.1):TK K H' aR l:=⟨h.1,h.2.same s⟩
def ja(l:List (Str×D))(x:Str):Option D:=(l.find? λp=>ι (p.1=x)).map (·.2)
def pI(l:List (Str×D))(x:Str)(d:D):List (Str×D):=if(l.any λp=>ι (p.1=x))=η then l.map (λp=>if p.1=x then(p.1,d)else p)else l++[(x,d)]
theorem TK.get{K:Frag}(x:Str):∀{aR:List (Key×V)} {l:List (Str×D)},TK K H aR l->(ja l x=ζ/\pR aR (.inr x)=ζ)\/∃d v,ja l x=ε d/\pR aR (.inr x)=ε v/\HD K H v d
 |[],[],_=>.inl ⟨rfl,rfl⟩
 |[],_::_,h=>by cases h.1
 |_::_,[],h=>by cases h.1
 |(k,v)::aR,(y,d)::l,h=>by
   obtain⟨h1,h2⟩:=h;have hk:=(afM h1).1;have g1:=(afM h1).2;subst hk;cases h2 with
   |cons hd ht=>
     by_cases q:y=x;.subst q;exact .inr ⟨d,v,by simp[ja],pT rfl,hd⟩
     .have e:¬((.inr y:Key)=.inr x):=λz=>q (Sum.inr.inj z);rw[pU e];have:ja ((y,d)::l) x=ja l x:=by simp[ja,q]
      rw[this];exact TK.get x ⟨g1,ht⟩
theorem ee.snoc{K:Frag}:∀{vs:List V} {ds:List D},ee K H vs ds->HD K H v d->ee K H (vs++[v]) (ds++[d])
 |[],[],.nil,h=>.cons h .nil
 |_::_,_::_,.cons a b,h=>.cons a (b.snoc h)
theorem TK.put{K:Frag}(h:TK K H aR l)(hv:HD K H v d):TK K H (putK aR (.inr x) v) (pI l x d):=by
 have ea:∀(aR:List (Key×V)) (l:List (Str×D)),aR.map (·.1)=l.map (λx=>(.inr x.1:Key))->(aR.any λkv=>ι (kv.1=.inr x))=l.any λp=>ι (p.1=x):=λaR l e=>by
  rw[show(aR.any λkv=>ι (kv.1=.inr x))=(aR.map (·.1)).any λk=>ι (k=.inr x)by rw[ahD];rfl,e,ahD];congr 1;funext p;show ι ((Sum.inr p.1:Key)=.inr x)=_;exact adN.mpr ⟨λz=>Sum.inr.inj z,λz=>by rw[z]⟩
 unfold putK pI
 rw[ea aR l h.1]
 split
 .have mp:∀(aR:List (Key×V)) (l:List (Str×D)),TK K H aR l->TK K H (aR.map λkv=>if kv.1=.inr x then(kv.1,v)else kv) (l.map λp=>if p.1=x then(p.1,d)else p):=by
   intro aR;induction aR with
   |nil=>intro l h;cases l with|nil=>exact⟨rfl,.nil⟩|cons _ _=>cases h.1
   |cons kv aR ih=>
     intro l h;cases l with
     |nil=>cases h.1
     |cons p l=>
       obtain⟨k,u⟩:=kv;obtain⟨y,e⟩:=p;obtain⟨h1,h2⟩:=h;have hk:=(afM h1).1;have g1:=(afM h1).2;subst hk;cases h2 with
       |cons hd ht=>
         obtain⟨i1,i2⟩:=ih l ⟨g1,ht⟩;by_cases q:y=x
         .have e1:(Sum.inr y:Key)=.inr x:=by rw[q]
          simp only[abl,abe e1,abe q];exact⟨by rw[abl,abl,i1],.cons hv i2⟩
         .have e1:¬(Sum.inr y:Key)=.inr x:=λz=>q (Sum.inr.inj z);simp only[abl,abo e1,abo q];exact⟨by rw[abl,abl,i1],.cons hd i2⟩
  exact mp aR l h
 .exact ⟨by rw[adf,adf,h.1];rfl,by rw[adf,adf];exact h.2.snoc hv⟩
def TK.len{K:Frag}(h:TK K H aR l):aR.length=l.length:=by
 have:=ade List.length h.1
 rwa [aaI,aaI]at this
def GN(C:Addr)(K:Frag)(H Hw:Hp)(a dx p q:Addr)(s:Dk):Prop:=H a=ε 16.6/\H dx=ε (.own a)/\(∃kp,H p=ε (.dK kp)/\TK K Hw kp s.pl)/\(∃kq,H q=ε (.dK kq)/\TK K Hw kq s.lo)/\p≠q
def GN.own{K:Frag}(h:GN C K H Hw a dx p q s):∀x∈[a,dx,p,q],∃o,H x=ε o/\F6 o:=λ20=>by
 obtain⟨h1,h2,⟨_,h3,_⟩,⟨_,h4,_⟩,_⟩:=h
 simp at hx
 rcases hx with rfl|rfl|rfl|rfl
 .exact ⟨_,h1,trivial⟩
 .exact ⟨_,h2,trivial⟩
 .exact ⟨_,h3,trivial⟩
 .exact ⟨_,h4,trivial⟩
def GN.mono{K:Frag}(h:GN C K H Hw a dx p q s)(k:∀x∈[a,dx,p,q],H' x=H x)(e:aE Hw Ll):GN C K H' Ll a dx p q s:=by
 obtain⟨h1,h2,⟨kp,h3,t3⟩,⟨kq,h4,t4⟩,hn⟩:=h
 exact⟨(k a 0.2).trans h1,(k dx 0.2).trans h2,⟨kp,(k p 0.2).trans h3,t3.same e⟩,⟨kq,(k q 0.2).trans h4,t4.same e⟩,hn⟩
def Lp(C a dx p q:Addr):BN Dk where
 P K H Hw B s:=B=[a,dx,p,q]/\GN C K H Hw a dx p q s
 own h x hx:=h.2.own x (by rw[<-h.1];exact hx)
 mono h k e:=⟨h.1,h.2.mono (by rw[<-h.1];exact k) e⟩
structure uu{S:Type}(Γ:BN S)(C a dx p q:Addr)(get:S->Dk)(set:S->Dk->S):Prop where
 sp:∀{K H Hw B s},Γ.P K H Hw B s->∃B2,(∀x,x∈B↔x∈[a,dx,p,q]++B2)/\(∀x∈B2,x∉[a,dx,p,q])/\GN C K H Hw a dx p q (get s)/\∀{H' Ll:Hp} {k':Dk},GN C K H' Ll a dx p q k'->(∀x∈B2,H' x=H x)->aE Hw Ll->Γ.P K H' Ll B (set s k')
def jv:uu 12.0 C a dx p q id 6.8:=⟨λ{K H Hw B s} h=>⟨[],by rw[h.1,abE];exact λ_=>Iff.rfl,λ_ z=>(nomatch z),h.2,λk _ _=>⟨h.1,k⟩⟩⟩
def Ls.congr(h:Ls A H)(e:∀x,x∈B->x∈A):Ls B H:=⟨λ20=>h.1 x (e x hx),h.2⟩
def uv(K:Frag)(C:Addr)(n:Nat)(G:7.2):Sp:=λvs H Q _=>vs.length=n/\∃a dx p q A ds s d s',Ls 24.0 H/\(∀x∈A,x∉[a,dx,p,q])/\GN C K H (wo H 24.0) a dx p q s/\ee K (wo H 24.0) vs ds/\ds[0]?=ε (bM a)/\G a ds s=ε (d,s')/\
 ∀v H',dH [a,dx,p,q] H H'->GN C K H' (wo H' 24.0) a dx p q s'->HD K (wo H' 24.0) v d->Q v H'
noncomputable def outD{S:Type}:Res×S->Option (D×S)
 |(.nx _,s)=>ε (.none,s)
 |(.rt d,s)=>ε (d,s)
 |_=>ζ
def pe{S:Type}(n:Nat)(g:Addr->GD S)(a:Addr)(ds:List D)(s:S):Option (D×S):=(g a (ds.map ε++List.replicate (n-ds.length) ζ) s).bind outD
section
variable {P:4.6}{w:World}{K:Frag}{mg:cX}{base:Heap}{x qual:Str}{st:Stmt}{N ps:1.4}{k:Nat}{C:Addr}
theorem Qx(hO:9.7)(hN:N.length=n)(h:uv K C ps.length (pe n g) vs H Q E)(hx:xk=λ_ _=>True):
  ∃a dx p q,ur K O 12.0 xk (g a) {nx:=λ_ H'=>Q .iY H',rt:=Q} 16.7 H:=by
 subst hN hx
 obtain⟨hn,a,dx,p,q,A,ds,s,d,s',al,dj,hp,hd,_,e,qq⟩:=h
 obtain⟨⟨r,s1⟩,e1,e2⟩:=bind1 e
 refine⟨a,dx,p,q,wo H [a,dx,p,q],[a,dx,p,q],[],A,_,s,r,s1,⟨Rel.start al hd 3.9,⟨rfl,hp⟩,λ_ z=>(nomatch z),dj⟩,⟨cH,λ_ z=>(nomatch z),λ_ z=>il z,Lm al dj⟩,e1,?_⟩
 have sx:∀{H':Hp},aE (wo H [a,dx,p,q]) H'->dH [a,dx,p,q] H H':=λz b o nb hb=>z b o (by rw[aZ nb];exact hb)
 cases r with
 |nx δ=>
   cases e2;intro B U σ H' R F';obtain⟨rfl,pk⟩:=R.pr;exact qq .iY H' (sx F'.same) pk .iY
 |rt d=>
   cases e2;refine⟨λB v H' h n pk hv=>?_,λ_ _ _ _ _ _ _=>trivial⟩;obtain⟨rfl,pk⟩:=pk;exact qq v H' (sx h) pk hv
 |bk _=>cases e2
 |ct _=>cases e2
def U3(O:1.0)(g:Addr->GD Dk)(F:Df K mg x st ps)(S:15.0)
  (body:∀(a dx p q f:Addr) (bW:Value) (A:Around) (outer:16.1) (s:Shared) (H:Hp) (E:XK),dQ k 3.0->ke (eV Bp P w K mg base N x (ai st) f bW A outer s H E).SR (bR st) (ur K O 12.0 (λ_ _=>True) (g a)))
  (hO:9.7:=by decide)(hN:N.length=n:=by rfl)(hP:ps.length=m:=by rfl):Dn P w K mg base (k+1) x ps (uv K C m (pe n g)):=by
 subst hP
 refine F.ok S 20.7 (λf bW A outer s H vs Q E hr h=>?_)
 obtain⟨a,dx,p,q,t⟩:=Qx hO hN h rfl
 exact⟨_,body a dx p q f bW A outer s H E hr,t⟩
def MtD(P:4.6)(w:World)(K:Frag)(mg:cX)(base:Heap)(k:Nat)(C:Addr)(m:Str)(ps:1.4)(sp:Sp):Prop:=
 ∃f fd,mP P w K mg base Bp k f fd ps sp/\pF K C m f/\Binds K fd ps []
def Qy(O:1.0)(g:Addr->GD Dk)(F:Bx K x qual st f fd)(M:pF K C x f)(B:Binds K fd ps [])(S:15.0)
  (body:∀(a dx p q f:Addr) (bW:Value) (A:Around) (outer:16.1) (s:Shared) (H:Hp) (E:XK),dQ k (A.deeper (envOfC qual (ai st) s.heap.objs.size f bW))->ke (eV Bp P w K mg base N qual (ai st) f bW A outer s H E).SR (bR st) (ur K O 12.0 (λ_ _=>True) (g a)))
  (hO:9.7:=by decide)(hN:N.length=n:=by rfl)(hP:ps.length=m:=by rfl):MtD P w K mg base (k+1) C x ps (uv K C m (pe n g)):=by
 subst hP
 refine⟨f,fd,F.ok S 20.7 (λbW A outer s H vs Q E hr h=>?_),M,B⟩
 obtain⟨a,dx,p,q,t⟩:=Qx hO hN h rfl
 exact⟨_,body a dx p q f bW A outer s H E hr,t⟩
end
theorem sF{K:Frag}(h:HD K H v (bM a)):v=.ref a:=by
 generalize e:bM a=d at h
 unfold bM at e
 cases h with
 |ptr b=>
   simp at e;rw[show a=b by exact Int.ofNat.inj e]
 |@ye _ aR kds h1 h2 h3=>
   cases e;cases aR with
   |nil=>cases h2
   |cons p r=>cases(afM h2).1
 |exc h1 h2=>cases e
 |_=>cases e
open Classical in
def S6 {S α:Type} (j:Nat) (a:Addr) (g:DS->S->Option α):DS->S->Option α:=λδ s=>if δ[j]?=ε (ε (bM a))then g δ s else ζ
def nV(h:S6 j a g δ s=ε r):δ[j]?=ε (ε (bM a))/\g δ s=ε r:=by
 unfold S6 at h
 split at h
 .grind
 .cases h
def qa(h:δ[j]?=ε (ε (bM a)))(e:g δ s=r):S6 j a g δ s=r:=by
 unfold S6
 rw[abe h];exact e
noncomputable def uw{S:Type}(get:S->Dk)(set:S->Dk->S)(f:Dk->Option (D×Dk))(s:S):Option (D×S):=(f (get s)).bind λr=>ε (r.1,set s r.2)
def fP{S:Type}(get:S->Dk)(set:S->Dk->S)(j:Nat)(a:Addr)(G:7.2)(n:Nat)(gr:cG):DS->S->Option (D×S):=S6 j a λδ s=>(gr δ).bind λds=>if ds.length+1=n then uw get set (G a (bM a::ds)) s else ζ
section
variable {S:Type}{Γ:BN S}{get:S->Dk}{set:S->Dk->S}{X:Cx}{O:1.0}{C a dx p q:Addr}{k kk n j:Nat}{m x:Str}{ps:1.4}{G:7.2}{gr:cG}{apos pos Jq pos':Pos}{o e i value:Expr}{es:6.9}{xk:Str->Hp->Prop}
def Jr(hd:12.9)(R:eC X.K O Γ B U A0 σ δ H s)(sm:23.1)(hn:ds.length=n)(h0:ds[0]?=ε (bM a))(hs:ee X.K (wo H' (U++17.9)) vs ds)(e:uw get set (G a ds) s=ε (d,s'))
  (qq:∀B' v H',dH B H H'->(∀x∈B',x∈B\/H x=ζ)->eC X.K O Γ B' U A0 σ δ H' s'->HD X.K (wo H' (U++(B'++A0))) v d->Q v H'):uv X.K C n G vs H' Q E0:=by
 have R':=R.same sm
 obtain⟨⟨d1,k1⟩,e1,e2⟩:=bind1 e
 cases e2
 obtain⟨B2,hB,hdj,hp,Z1⟩:=hd.sp R'.p
 have mem:∀x,x∈U++17.9↔x∈[a,dx,p,q]++(U++(B2++A0)):=λx=>by grind
 have ew:∀h:Hp,wo h (U++17.9)=wo h ([a,dx,p,q]++(U++(B2++A0))):=λh=>GI mem
 have sub:=λ20=>(hB x).mpr (abC _ hx)
 refine⟨by rw[hs.len];exact hn,a,dx,p,q,U++(B2++A0),ds,get s,d1,k1,R'.r.al.congr (λ20=>(mem x).mpr hx),λ20=>?_,ew H' ▸ hp,ew H' ▸ hs,h0,e1,λv H2 k2 p2 h2=>?_⟩
 .rcases abg.mp hx with z|z;.exact λy=>R.dj x z (sub x y)
  .rcases abg.mp z with z|z;.grind
   .exact λy=>R.da x z (sub x y)
 .rw [<-ew]at p2 h2;have sx:dH B H' H2:=λb o nb hb=>k2 b o (λz=>nb (sub b z)) hb;refine qq B v H2 ((dH.of sm).trans sx) (λ_ z=>.inl z) (R'.grow sx (Z1 p2 (λ20=>?_) (sx.wo eC.M8))) h2;obtain⟨o,ho,_⟩:=Γ.own R'.p x ((hB x).mpr (aaW _ hx));rw[ho,k2 x o (hdj x hx) ho]
set_option tactic.hygienic true in
def qb(hd:12.9)(F:MtD X.prog X.w X.K X.mg X.base k C m ps (uv X.K C n G))(c:vB X.K C)(hr:dQ kk X.A)(hk:k<=kk)(hv:PE X o (mi j))(ha:PA X 4.5 6.1)(hj:j∉O:=by decide)(hl:∀u w:V,([("plans",u),("lots",w)]:List (Str×V)).lookup m=none:=by intro _ _;rfl)
  (Ic:starEach 4.5 X.env=1.7::starEach es X.env:=by rfl)(jL:0.8:=by rfl)
  (ht:eval 6.0 X.env=(do
   let ov <-eval o X.env
   standAt apos.atName
   let(f,first) <-holding [ov] (getMethod ov m pl)
   callWith pos f first (backTo pos (starEach 4.5 X.env)) (backToKw pos 9.5)):=by rfl):
  PE X 6.0 (S5 X.K O Γ (fP get set j a G n gr)):=by
 obtain⟨f,fd,F,M,B⟩:=F
 refine(DI (pl:=pl) hv c M F (hr.mono hk) B .nil KP ha Ic jL ht).mono λσ H Q ⟨B,U,A0,δ,s,d,s',R,ed,qq⟩=>?_
 obtain⟨h0,ed⟩:=nV ed
 intro 11
 split at e2
 rotate_left
 .grind
 rename_i hn
 obtain⟨v,hv,hp⟩:=R.r.fz j (bM a) hj h0
 obtain rfl:=sF hp
 obtain⟨_,_,_,U4,_⟩:=hd.sp R.p
 refine⟨.ref a,hv,a,dx,_,rfl,U4.1,hl _ _,U,B++A0,δ,ds,R.r,e1,λvs H' sm hs=>?_⟩
 show uv X.K C n G (.ref a::(vs++[])) H' Q E0
 rw[abE]
 exact Jr (ds:=bM a::ds) hd R sm hn rfl (.cons (.ptr a) hs) e2 qq
open Classical in
def rP (get:S->Dk) (set:S->Dk->S) (a:Addr) (G:7.2) (n:Nat) (gr:cG):DS->S->Option (D×S):=λδ s=>(gr δ).bind λds=>if ds.length=n/\ds[0]?=ε (bM a)then uw get set (G a ds) s else ζ
set_option tactic.hygienic true in
def ux(hd:12.9)(F:Dn X.prog X.w X.K X.mg X.base k x ps (uv X.K C n G))(hr:dQ kk X.A)(hk:k<=kk)(ha:PA X 4.5 6.1)(hg:Gl X x:=by rfl)
  (pP:1.1:=by decide)(he:starEach 4.5 X.env=1.7::starEach es X.env:=by rfl)(jL:0.8:=by rfl):
  PE X (.Call (.Name x Jq) 4.5 [] pos) (S5 X.K O Γ (rP get set a G n gr)):=(F4 F hr hk ha hg pP he jL).mono λσ H Q ⟨B,U,A0,δ,s,d,s',R,ed,qq⟩=>by
 intro 11
 split at e2
 rotate_left
 .grind
 rename_i hn
 refine⟨U,B++A0,δ,ds,R.r,e1,λvs H' sm hs=>?_⟩
 show uv X.K C n G (vs++[]) H' Q E0
 rw[abE]
 exact Jr hd R sm hn.1 hn.2 hs e2 qq
def Qz(b:Bool):Str:=if b=η then "plans" else "lots"
def Dk.fld(s:Dk)(b:Bool):List (Str×D):=if b=η then s.pl else s.lo
def Dk.put(s:Dk)(b:Bool)(l:List (Str×D)):Dk:=if b=η then⟨l,s.lo⟩else⟨s.pl,l⟩
theorem vZ{K:Frag}(b:Bool)(h:GN C K H Hw a dx p q s):∃r kv,H a=ε 16.6/\([("plans",.ref p),("lots",.ref q)]:List (Str×V)).lookup (Qz b)=ε (.ref r)/\r∈[a,dx,p,q]/\H r=ε (.dK kv)/\TK K Hw kv (s.fld b)/\
  ∀{H' Ll:Hp} {Xc:List (Key×V)} {l':List (Str×D)},H'=upd H r (.dK Xc)->aE Hw Ll->TK K Ll Xc l'->GN C K H' Ll a dx p q (s.put b l'):=by
 obtain⟨h1,h2,⟨kp,h3,t3⟩,⟨kq,h4,t4⟩,hn⟩:=h
 have n1:a≠p:=λz=>by rw[<-z,h1]at h3;cases h3
 have n2:a≠q:=λz=>by rw[<-z,h1]at h4;cases h4
 have n3:dx≠p:=λz=>by rw[<-z,h2]at h3;cases h3
 have n4:dx≠q:=λz=>by rw[<-z,h2]at h4;cases h4
 cases b with
 |true=>
   refine⟨p,kp,h1,rfl,by simp,h3,t3,?_⟩;rintro H' Ll Xc l' rfl s t;exact⟨by rw[aB n1];exact h1,by rw[aB n3];exact h2,⟨Xc,aN,t⟩,⟨kq,by rw[aB (afh hn)];exact h4,t4.same s⟩,hn⟩
 |false=>
   refine⟨q,kq,h1,rfl,by simp,h4,t4,?_⟩;rintro H' Ll Xc l' rfl s t;exact⟨by rw[aB n2];exact h1,by rw[aB n4];exact h2,⟨kp,by rw[aB hn];exact h3,t3.same s⟩,⟨Xc,aN,t⟩,hn⟩
def Ei{K:Frag}(h:HD K H v (.str y)):v=.str y:=by cases h;rfl
def QA(b:Bool)(j:Nat)(a:Addr)(gk:aY)(gv:DS->Dk->Option (D×Dk)):GD Dk:=S6 j a λδ s=>(gv δ s).bind λd=>(gk δ).bind λy=>match y with
 |.str x=>if(d.2.fld b).length<100000 then ε (.nx δ,d.2.put b (pI (d.2.fld b) x d.1))else ζ
 |_=>ζ
set_option tactic.hygienic true in
theorem U5(b:Bool)(hf:f=Qz b)(c:vB X.K C)(na:fG X.K C f)(hu:12.2)(hv:PE X o (mi j))(hi:PE X i (tE X.K O gk))(IT:PE X value (S5 X.K O 12.0 gv))(hj:j∉O:=by decide)
  (hb:18.2:=by rfl)(hs:swapsWith value (ε (.Subscript 23.2 i pos')) pos.line X.env=pure false:=by rfl):
  PS X (.Assign [.Subscript 23.2 i pos'] value pos) (ur X.K O 12.0 xk (QA b j a gk gv)):=(DT hu (DF hv hb) hi IT hs).mono λE σ H ⟨H0,B,U,A0,δ,s,r,s',R,F,ed,P⟩=>by
 subst hf
 obtain⟨h0,ed⟩:=nV ed
 intro 15
 obtain⟨y,e3,e4⟩:=bind1 e2
 cases y with
 |str z=>
   have e4:(if(s1.fld b).length<100000 then ε (Res.nx δ,s1.put b (pI (s1.fld b) z d))else ζ)=ε (r,s'):=e4;split at e4;rotate_left;.grind
   rename_i hl;cases e4;refine⟨B,U,A0,δ,s,d,s1,R,e1,λB1 v H1 k1 n1 R1 ZK=>?_⟩;obtain⟨rfl,pk1⟩:=R1.p;obtain⟨u,U6,hd⟩:=R1.r.fz j (bM a) hj h0;obtain rfl:=sF hd;obtain⟨r,kv,ea,el,hr,hk,tk,put⟩:=vZ b pk1;refine⟨.ref a,U6,a,C,dx,_,.ref r,rfl,ea,c,na,el,U,[a,dx,p,q]++A0,δ,_,R1.r,e3,λyv H2 k2 hy=>?_⟩;obtain rfl:=Ei hy;have R2:=R1.same k2;have WX:=k2 r _ hk;have sx:dH [a,dx,p,q] H2 (upd H2 r (.dK (putK kv (.inr z) v))):=λb o nb hb=>by rw[aB λw=>nb (by rw[w];exact hr)];exact hb
   have sw:=sx.wo (A:=U++([a,dx,p,q]++A0)) eC.M8;have pk2:=R2.p.2;obtain⟨r',Xc,ea',el',hr',WW,tk',Z2⟩:=vZ b pk2;have er:r'=r:=by rw[el]at el';cases el';rfl
   subst er;have F1:=(F.mX k1 n1).grow ((dH.of k2).trans sx);exact⟨r',_,rfl,DQ.k (k:=.inr z) WX (by rw[tk.len];exact small hl),P _ U σ _ (R2.grow sx ⟨rfl,Z2 rfl sw (((tk.same (b9 k2)).same sw).put ((ZK.same (b9 k2)).same sw))⟩) F1⟩
 |_=>cases e4
def Lq(b:Bool)(j:Nat)(a:Addr)(gk:aY):DS->Dk->Option (D×Dk):=S6 j a λδ s=>(gk δ).bind λy=>match y with
 |.str x=>(ja (s.fld b) x).bind λd=>ε (d,s)
 |_=>ζ
theorem Lr(b:Bool)(hf:f=Qz b)(c:vB X.K C)(na:fG X.K C f)(hu:12.2)(hv:PE X o (mi j))(hi:PE X i (tE X.K O gk))(hj:j∉O:=by decide)
  (hb:18.2:=by rfl)(hs:T6 i:=by intro _ _;rfl):PE X (.Subscript 23.2 i pos) (S5 X.K O 12.0 (Lq b j a gk)):=(T8 hu (DF hv hb) hi hs).mono λσ H Q ⟨B,U,A0,δ,s,d,s',R,ed,qq⟩=>by
 subst hf
 obtain⟨rfl,pk⟩:=id R.p
 obtain⟨h0,ed⟩:=nV ed
 obtain⟨y,e3,e4⟩:=bind1 ed
 cases y with
 |str z=>
   obtain⟨d',e5,e6⟩:=bind1 e4;cases e6;obtain⟨u,U6,hd⟩:=R.r.fz j (bM a) hj h0;obtain rfl:=sF hd;obtain⟨r,kv,ea,el,hr,hk,tk,_⟩:=vZ b pk;refine⟨.ref a,U6,a,C,dx,_,.ref r,rfl,ea,c,na,el,U,[a,dx,p,q]++A0,δ,_,R.r,e3,λyv H2 k2 hy=>?_⟩;obtain rfl:=Ei hy;rcases(tk.same (b9 k2)).get z with⟨g1,_⟩|⟨d2,v,g1,g2,hv⟩;.grind
   .rw [g1]at e5;cases e5;exact⟨r,v,rfl,by rw[<-g2];exact uc.k (k:=.inr z) (k2 r _ hk),qq _ v H2 (.of k2) (λ_ z=>.inl z) (R.same k2) hv⟩
 |_=>cases e4
def Lu(b:Bool)(j:Nat)(a:Addr)(gk:aY):DS->Dk->Option (Bool×Dk):=S6 j a λδ s=>(gk δ).bind λy=>match y with
 |.str x=>ε (!(ja (s.fld b) x).isSome,s)
 |_=>ζ
theorem Lv(b:Bool)(hf:f=Qz b)(c:vB X.K C)(na:fG X.K C f)(hu:12.2)(hv:PE X o (mi j))(hi:PE X i (tE X.K O gk))(hj:j∉O:=by decide)
  (hb:18.2:=by rfl)(hm:behindInMarks .NotIn 23.2=false:=by rfl):PT X (.Compare i [.NotIn] [.Attribute o f apos] pos) (S4 X.K O 12.0 (Lu b j a gk)):=(YK (MS hu hi (DF hv hb)) hm).mono λσ H Q ⟨B,U,A0,δ,s,d,s',R,ed,qq⟩=>by
 subst hf
 obtain⟨rfl,pk⟩:=id R.p
 obtain⟨h0,ed⟩:=nV ed
 obtain⟨y,e3,e4⟩:=bind1 ed
 cases y with
 |str z=>
   cases e4;refine⟨U,[a,dx,p,q]++A0,δ,_,R.r,e3,λyv H2 k2 hy=>?_⟩;obtain rfl:=Ei hy;have R2:=R.same k2;obtain⟨u,U6,hd⟩:=R2.r.fz j (bM a) hj h0;obtain rfl:=sF hd;obtain⟨r,kv,ea,el,hr,hk,tk,_⟩:=vZ b R2.p.2;refine⟨.ref a,U6,a,C,dx,_,.ref r,rfl,ea,c,na,el,?_⟩;refine⟨r,_,rfl,uc.k (k:=.inr z) hk,_,rfl,?_⟩;rcases tk.get z with⟨g1,g2⟩|⟨d2,v,g1,g2,hv⟩;.rw [g2];rw[g1]at qq;exact qq _ H2 (.of k2) (λ_ z=>.inl z) R2
   .rw [g2];rw[g1]at qq;exact qq _ H2 (.of k2) (λ_ z=>.inl z) R2
 |_=>cases e4
end
def Ej(K:Frag)(C:Addr):Sp:=λvs H Q _=>∃x dx,vs=[.ref x]/\H x=ε (.ins C dx [])/\H dx=ε (.own x)/\∀p q,H p=ζ->H q=ζ->p≠q->Q .iY (upd (upd (upd H p (.dK [])) q (.dK [])) x 16.6)
def Js:TE:=λ_ H Q=>∀p,H p=ζ->Q 19.0 (upd H p (.dK []))
def GO:PE X (.Dict [] [] pos) Js:=λpins s σ H Q I h=>
 wpAny_Dict_empty ⟨.ref s.heap.objs.size,_,I.laid (a:=s.heap.objs.size) (o:=.dK []) (t':=s.toks) (λ_ _ q=>aao _ q) 5.6 (O6 s.heap I.big),rfl,h _ 21.0⟩
def QB{K:Frag}(c:vB K C)(n1:fG K C "plans")(n2:fG K C "lots")(h:Ej K C vs H Q E):
  (λ(D:Ends) σ H=>YY K (mi 0) Js "plans" {nx:=λFA H1=>YY K (mi 0) Js "lots" D FA H1,rt:=D.rt,bk:=D.bk,ct:=D.ct} σ H) {nx:=λ_ H'=>Q .iY H',rt:=Q} (start ["self"] vs) H:=by
 obtain⟨x,dx,rfl,h1,h2,q⟩:=h
 intro p hp
 refine⟨.ref x,rfl,x,C,dx,[],rfl,?_,c,n1,by decide,λr hr=>⟨.ref x,rfl,x,C,dx,mO "plans" 19.0 [],rfl,?_,c,n2,by show 1<1000;decide,?_⟩⟩
 .rw [aB λz=>by rw[z,hp]at h1;cases h1];exact h1
 .rw [aB λz=>by rw[z]at hr;rw[aN]at hr;cases hr];exact aN
 .have e1:p≠x:=λz=>by rw[z,h1]at hp;cases hp
  have e2:r≠x:=λz=>by rw[z]at hr;rw[aN]at hr;cases hr
  have e3:p≠r:=λz=>by rw[<-z,aB e1,aN]at hr;cases hr
  have hr0:H r=none:=by
   rw[aB e2,aB (afh e3)]at hr;exact hr
  have:=q p r hp hr0 e3;have eh:upd (upd (upd (upd H p (.dK [])) x (.ins C dx (mO "plans" 19.0 []))) r (.dK [])) x (.ins C dx (mO "lots" (.ref r) (mO "plans" 19.0 [])))=upd (upd (upd H p (.dK [])) r (.dK [])) x (.ins C dx [("plans",.ref p),("lots",.ref r)]):=by
   funext b;by_cases b1:b=x;.subst b1;rw[aN,aN];rfl
   .rw [aB b1,aB b1];by_cases b2:b=r;.subst b2;rw[aN,aN]
    .rw [aB b2,aB b2,aB b1]
  rw[eh];exact this
open Classical in
def QC {α:Type} (g:Addr->Option α):Option α:=if h:∃d,∀a,g a=ε d then ε h.choose else ζ
set_option tactic.hygienic true in
def QD(h:QC g=ε d)(a:Addr):g a=ε d:=by
 unfold QC at h
 split at h
 .grind
 .cases h
def U7(h:∀a,g a=ε d):QC g=ε d:=by
 have x:∃d,∀a,g a=ε d:=⟨d,h⟩
 unfold QC
 rw[dif_pos x]
 exact(x.choose_spec 0).symm.trans (h 0)
def ahy{S:Type}:Res×S->Option Res
 |(.rt d,_)=>ε (.rt d)
 |_=>ζ
def Ek(j:Nat)(g:Addr->GD Dk):aV:=λδ=>QC λa=>(g a (δ.set j (ε (bM a))) ⟨[],[]⟩).bind ahy
section
variable {X:Cx}{O:1.0}{C f:Addr}{fd:FuncData}{k kk j:Nat}{x y:Str}{Jq pos ad4 pos':Pos}{rest:List Stmt}{xk:Str->Hp->Prop}
def Rel.hide{K:Frag}(R:2.2)(s:23.1)(n:∀x∈B,H x=ζ)(w:∀x∈B,∃o,H' x=ε o/\F6 o):Rel K O U 17.9 σ δ H':=by
 have k:aE (wo H 8.0) (wo H' (U++17.9)):=λb o hb=>by
  have nb:b∉U++A0:=λz=>by rw[il z]at hb;cases hb
  rw[aZ nb]at hb;rw[aZ λz=>?_];.exact s b o hb
  .grind
 refine⟨R.len,λi d hi ed=>?_,λi d hi ed=>?_,R.inj,λ20=>?_,λp xs m=>s.sr (R.al.2 p xs m)⟩
 .obtain ⟨v,a,b⟩:=R.fz i d hi ed;exact⟨v,a,b.same k⟩
 .obtain ⟨l,o,a,b,c,v⟩:=R.ow i d hi ed;exact⟨l,o,a,b,s l o c,v.same k⟩
 .rcases abg.mp hx with y|y
  .obtain ⟨o,e,v⟩:=R.al.1 x (abC _ y);exact⟨o,s x o e,v⟩
  .rcases abg.mp y with y|y;.grind
   .obtain ⟨o,e,v⟩:=R.al.1 x (aaW _ y);exact⟨o,s x o e,v⟩
theorem QG(M:Mk X.K C f)(F:mP X.prog X.w X.K X.mg X.base Bp k f fd ["self"] (Ej X.K C))(hr:dQ kk X.A)(hk:k+1<=kk)(hm:X.mg x=ε 1.9)(hb:Binds X.K fd ["self"] [])(hN:X.N.Nodup)(hi:X.N[j]?=ε y)(hx:Loc X.env.scope y)
  (ad5:∀a dx p q,ke X rest (ur X.K O 12.0 xk (g a)))(hj:j∉O:=by decide)(hg:Gl X x:=by rfl)(pP:1.1:=by decide)
  (hs:swapsWith (.Call (.Name x Jq) [] [] pos) (ε (.Name y ad4)) pos'.line X.env=pure false:=by rfl)(hf:X.fn y=η\/X.env.scope.names.lookup y=ε .local:=by first|exact .inl rfl|exact .inr rfl):
  ke X (.Assign [.Name y ad4] (.Call (.Name x Jq) [] [] pos) pos'::rest) (tS X.K O (θ,xk) (Ek j g)):=by
 have h2:ke X rest (λE σ H=>∃a dx p q,ur X.K O 12.0 xk (g a) E σ H):=λpins s σ H E I ⟨a,dx,p,q,t⟩=>ad5 a dx p q pins s σ H E I t
 refine(tZ (bP hN hi hx (OR M F (hr.mono hk) hg hm hb .nil KP pP) hs hf) h2).mono λE σ H hh=>hh.e λH0 U A0 δ r R F0 ed P=>?_
 intro a dx ha hdx gT
 refine⟨a,dx,rfl,aN,by rw[aB gT];exact aN,λp q hp hq hpq=>⟨rfl,a,dx,p,q,?_⟩⟩
 obtain⟨⟨r1,s1⟩,e1,e2⟩:=bind1 (QD ed a)
 have np:p≠a:=λz=>by rw[z,aN]at hp;cases hp
 have nd:p≠dx:=λz=>by rw[z,aB gT,aN]at hp;cases hp
 have hp0:H p=none:=by rw[aB np,aB nd]at hp;exact hp
 have nq:q≠a:=λz=>by rw[z,aN]at hq;cases hq
 have ndq:q≠dx:=λz=>by rw[z,aB gT,aN]at hq;cases hq
 have hq0:H q=none:=by rw[aB nq,aB ndq]at hq;exact hq
 obtain⟨H',eH⟩:∃H',H'=upd (upd (upd (upd (upd H dx (.own a)) a (.ins C dx [])) p (.dK [])) q (.dK [])) a 16.6:=⟨_,rfl⟩
 rw[<-eH]
 have k1:H' a=ε 16.6:=by rw[eH];exact aN
 have k2:H' dx=ε (.own a):=by rw[eH,aB gT,aB (afh ndq),aB (afh nd),aB gT];exact aN
 have k3:H' p=ε (.dK []):=by rw[eH,aB np,aB hpq];exact aN
 have k4:H' q=ε (.dK []):=by rw[eH,aB nq];exact aN
 have sm:aE H H':=λb o h=>by
  have f1:b≠a:=λz=>by rw[z,ha]at h;cases h
  have f2:b≠dx:=λz=>by rw[z,hdx]at h;cases h
  have f3:b≠p:=λz=>by rw[z,hp0]at h;cases h
  have f4:b≠q:=λz=>by rw[z,hq0]at h;cases h
  rw[eH,aB f1,aB f4,aB f3,aB f1,aB f2];exact h
 have dk:∀Hw,GN C X.K H' Hw a dx p q ⟨[],[]⟩:=λHw=>⟨k1,k2,⟨[],k3,rfl,.nil⟩,⟨[],k4,rfl,.nil⟩,hpq⟩
 have nB:∀z∈[a,dx,p,q],H z=none:=λz hz=>by grind
 have nn:∀A:List Addr,(∀z∈A,∃o,H z=ε o/\F6 o)->∀z∈A,z∉[a,dx,p,q]:=λA h z hz hB=>by grind
 have R1:=(R.hide (B:=[a,dx,p,q]) sm nB (dk (wo H' [])).own)
 refine⟨H0,[a,dx,p,q],U,A0,_,⟨[],[]⟩,r1,s1,⟨R1.set hj (.ptr a),⟨rfl,dk _⟩,nn U λz hz=>R.al.1 z (abC _ hz),nn A0 λz hz=>R.al.1 z (aaW _ hz)⟩,⟨F0.same.trans sm,F0.new,λz hz=>F0.same.free (nB z hz),F0.old⟩,e1,?_⟩
 cases r1 with
 |rt d=>
   cases e2;refine⟨λB v H2 s2 _ _ hv=>P.1 v H2 ?_,λB c H2 hd s2 _ _=>P.2 c H2 hd s2⟩;exact⟨s2,hv.same (iP λz hz=>aaW _ hz)⟩
 |_=>cases e2
end
abbrev Fm:=List (Str×Nat×Addr×List Str)
def QH(P:Params)(t:Fm)(n:Nat):Obj:=⟨.type "dict",ζ,.dict (t.map λe=>(⟨PyData.keyHash P e.1,.str e.1 e.2.1,.ref e.2.2.1⟩:DictEntry)).toArray n,#[]⟩
structure U8(w:World)(K:Frag)(mg:cX)(x:Str)(t:Fm):Prop where
 at_:∃a n,mg x=ε 5.5/\21.8=θ/\K.lookup a=ε (QH w.params t n)
 rh:∀e∈t,(e.2.2.1,e.2.2.2.map V.str)∈dw
 nd:(t.map (·.1)).Nodup
theorem Lw{h:Heap}(e:h.get? a=ε (QH w.params t n))(nd:(t.map (·.1)).Nodup):h.DictOf (eu P w) a (t.map λe=>((.inr e.1:Key),Value.ref e.2.2.1)):=by
 refine⟨_,_,n,e,⟨rfl,rfl,rfl⟩,rfl,λy hy=>?_,?_,?_⟩
 .have hy:y∈t.map λe=>(⟨PyData.keyHash w.params e.1,.str e.1 e.2.1,.ref e.2.2.1⟩:DictEntry):=by simpa using hy
  obtain⟨z,_,rfl⟩:=abt.mp hy;exact⟨.inr z.1,vt z.1 z.2.1,rfl⟩
 .simp only[List.toList_toArray];clear e nd;induction t with
  |nil=>exact .nil
  |cons z t ih=>exact .cons (vt z.1 z.2.1) rfl ih
 .grind
def QI{t:Fm}:valueAt (t.map λe=>((.inr e.1:Key),Value.ref e.2.2.1)) (.inr x)=(t.find? λe=>ι (e.1=x)).map λe=>Value.ref e.2.2.1:=by
 unfold valueAt
 rw[List.find?_map]
 have:((λkv:Key×Value=>ι (kv.1=.inr x)) ∘ λe:Str×Nat×Addr×List Str=>((.inr e.1:Key),Value.ref e.2.2.1))=λe=>ι (e.1=x):=by grind
 rw[this]
 cases t.find? λe=>ι (e.1=x)<;>rfl
def U9(t:Fm)(g:aY):aY:=λδ=>(g δ).bind λd=>match d with
 |.str x=>ε (.bool (t.find? λe=>ι (e.1=x)).isSome)
 |_=>ζ
noncomputable def Lx(t:Fm)(g:aY):aY:=λδ=>(g δ).bind λd=>match d with
 |.str x=>(t.find? λe=>ι (e.1=x)).map λe=>.tuple (e.2.2.2.map .str)
 |_=>ζ
theorem QJ{K:Frag}(l:1.4):ee K H (l.map V.str) (l.map .str):=by
 induction l with
 |nil=>exact .nil
 |cons a l ih=>exact .cons (.str a) ih
section
variable {X:Cx}{O:1.0}{x:Str}{t:Fm}{i:Expr}{g:aY}{pos np:Pos}
theorem Z3(F:U8 X.w X.K X.mg x t)(hi:PE X i (tE X.K O g))(hg:Gl X x:=by rfl)(hd:1.1:=by decide)(hm:behindInMarks .In (.Name x np)=false:=by rfl):PE X (.Compare i [.In] [.Name x np] pos) (tE X.K O (U9 t g)):=by
 obtain⟨⟨a,n,hx,hs,lk⟩,tp,nd⟩:=F
 refine(YJ (t:=λ8=>tE X.K O g σ H λy H1=>∃z,y=.str z/\Q (.bl (t.find? λe=>ι (e.1=z)).isSome) H1) (λpins s σ H Q I h=>?_) hm).mono λ1=>?_
 .refine eU (hi pins s σ H _ I h) λiv s1 ⟨y,H1,I1,ry,z,ey,q1⟩=>?_;subst ey;refine eU (Q:=λu s2=>u=.ref a/\s2=s1) (lS I1 hg hx ⟨rfl,rfl⟩ hd) λu s2 ⟨e1,e2⟩=>?_;subst e1 e2;have dd:=Lw (P:=X.prog) (w:=X.w) (I1.o7 _ _ lk) nd;refine wpAny_in_of (knd:=eu X.prog X.w) (k:=.inr z) (zq (k:=.inr z) ry) hs dd.mapOf ?_;rw[QI,aiQ];exact⟨.bl _,H1,I1.tok _,rfl,q1⟩
 .obtain ⟨y,e1,e2⟩:=bind1 ed;cases y with
  |str z=>
    cases e2;exact⟨U,A0,δ,_,R,e1,λv H' s hv=>by cases hv;exact⟨z,rfl,q _ H' s (.bl _)⟩⟩
  |_=>cases e2
theorem Va(F:U8 X.w X.K X.mg x t)(hi:PE X i (tE X.K O g))(hg:Gl X x:=by rfl)(hd:1.1:=by decide)(hs:T6 i:=by intro _ _;rfl):PE X (.Subscript (.Name x np) i pos) (tE X.K O (Lx t g)):=by
 obtain⟨⟨a,n,hx,_,lk⟩,tp,nd⟩:=F
 refine(show PE X (.Subscript (.Name x np) i pos) (λ8=>tE X.K O g σ H λy H1=>∃z e,y=.str z/\(t.find? λe=>ι (e.1=z))=ε e/\Q (.ref e.2.2.1) H1)from λpins s σ H Q I h=>?_).mono λ1=>?_
 .refine KQ PySem.F.slot_dict_getitem.lookup hs (eU (Q:=λu s1=>u=.ref a/\s1=s) (lS I hg hx ⟨rfl,rfl⟩ hd) λu s1 ⟨e1,e2⟩=>?_);subst e1 e2;refine eU (hi pins s1 σ H _ I h) λiv s2 ⟨y,H2,I2,ry,z,e,ey,ef,q2⟩=>?_;subst ey;have dd:=Lw (P:=X.prog) (w:=X.w) (I2.o7 _ _ lk) nd;refine⟨dd.mapOf.typeIs,wpAny_getItem_of (knd:=eu X.prog X.w) (k:=.inr z) (zq (k:=.inr z) ry) dd.mapOf (by rw[QI,ef];rfl) ⟨.ref e.2.2.1,H2,I2.tok _,rfl,q2⟩⟩
 .obtain ⟨y,e1,e2⟩:=bind1 ed;cases y with
  |str z=>
    obtain⟨e,ef,rfl⟩:=adT.mp e2;refine⟨U,A0,δ,_,R,e1,λv H' s hv=>?_⟩;cases hv;refine⟨z,e,rfl,ef,q _ H' s ?_⟩;have R':=R.same s;have tt:=R'.al.2 _ _ (tp e (List.mem_of_find?_eq_some ef));refine .tup (tt.wo λhz=>?_) (QJ _);obtain⟨o,ho,w⟩:=R'.al.1 _ hz;exact tt.apart ho w rfl
  |_=>cases e2
end
end L2
namespace L2
open PySem PySem.Spec PyProof.Rows
section
variable {X:Cx}{O:1.0}{o e f:Expr}{go ge gf:aY}{apos cY:Pos}
noncomputable def GP(a b:Str)(k:Int):List Str:=Builtin.Str.partsBetween a (Builtin.Str.occurrences a b 0 a.length (limitOf a k)) b.length
def El(a b:Str)(k:Int):List Str:=if(ι (a.length<b.length)||decide (Builtin.Str.strKind a<Builtin.Str.strKind b))=η then[a]else if(Builtin.Str.occurrences a b 0 a.length (limitOf a k)).isEmpty=η then[a]else GP a b k
def j3(a b:Str)(k:Int):Bool:=(b.length==0)==θ&&ι (0<=k)&&ι (k<1000)&&ι (a.length<=100000)&&ι ((GP a b k).length<=100000)&&ι ((El a b k).length<=100000)
def Vb:V->List V->Hp->VK->Prop:=λx vs H Q=>∃a b k,x=.str a/\vs=[.str b,.int k]/\j3 a b k=η/\∀p,H p=ζ->Q 19.0 (upd H p (.lst ((El a b k).map V.str)))
def Jt(hk:(ι (k< -2^63)||decide (k >=2^63))=θ)(hy:(y.length==0)=θ)(hsz:x.length<=sizeLine)(ZP:(GP x y k).length<=sizeLine)
  (hq:∀(l:List (Str×Tok)) n,l.map (·.1)=El x y k->Q 2.6 {s with heap:=s.heap.push 18.4,toks:=n}):
  wpAny (model M w) A (call (.builtin "str.split") [.str x t,.str y u,.int k v]) Q E s:=by
 cases h1:(ι (x.length<y.length)||decide (Builtin.Str.strKind x<Builtin.Str.strKind y))
 .cases hf:(Builtin.Str.occurrences x y 0 x.length (limitOf x k)).isEmpty
  .refine agP aeW (agO _ _ _) afo (ahn _ _ _) (meets_str_split_sep_max x y k t u v hk h1 hy hf hsz ZP) ?_;rw[strsFrom_eq];exact hq (numbered s.toks _) _ ((numbered_texts _ _).trans ((abo (ae8 h1)).trans (abo (ae8 hf))).symm)
  .exact agP aeW (agO _ _ _) afo (ahn _ _ _) (meets_str_split_max_not_found x y k t u v hk h1 hy hf) (hq [(x,t)] s.toks ((abo (ae8 h1)).trans (abe hf)).symm)
 .exact agP aeW (agO _ _ _) afo (ahn _ _ _) (meets_str_split_max_cannot_occur x y k t u v hk h1) (hq [(x,t)] s.toks (abe h1).symm)
def NA:TX X "str.split" Vb:=by
 intro 13
 obtain⟨a,b,k,rfl,rfl,bV,q⟩:=h
 unfold j3 at bV
 simp at bV
 obtain⟨⟨⟨⟨⟨k1,k4⟩,k5⟩,k6⟩,k7⟩,k8⟩:=bV
 intro 10
 obtain⟨u,w,rfl,⟨t',rfl⟩,⟨t2,rfl⟩⟩:=bL.two rv
 refine Jt 3.4 (by simpa using k1) (Nat.le_of_lt (nF k6)) (Nat.le_of_lt (nF k7)) λl n hl=>?_
 have J:=I.laid (t':=n) (o:=.lst ((El a b k).map V.str)) (h':=s.heap.push 18.4) (a:=s.heap.objs.size) (λ22=>aao _ z) 5.6
  ⟨by rw[aaI];exact afY (nF k8),strValues l,0,by rw[<-hl];exact sE l,aaS _ rfl⟩
 exact⟨.ref _,_,J,rfl,q _ 21.0⟩
def qW(go ge gf:aY):cG:=λδ=>(go δ).bind λs=>(ge δ).bind λx=>(gf δ).bind λy=>match s,x,y with
 |.str a,.str b,.int k=>if j3 a b k=η then ε ((El a b k).map .str)else ζ
 |_,_,_=>ζ
theorem NB(ho:PE X o (ir X.K O go))(he:PE X e (ir X.K O ge))(hf:PE X f (ir X.K O gf))(jY:attributeBase o "split" X.env 12.3=eval o X.env:=by rfl)
  (DP:((backTo cY (starEach [e,f] X.env)).all (λx=> !x.1)&&(backToKw cY 9.5).all (λx=>x.1.isSome)&&ι ([e,f].length+([]:List Keyword).length+10.0<30))=true:=by rfl)
  (jZ:7.9:=by rfl)(yJ:starEach [e,f] X.env=[1.7,(θ,eval f X.env)]:=by rfl)(hs:starEach [f] X.env=[(θ,eval f X.env)]:=by rfl)(DZ:starEach ([]:List Expr) X.env=[]:=by rfl):
  PE X (.Call (.Attribute o "split" apos) [e,f] [] cY) (tN X.K O (qW go ge gf)):=
 (kY afL aeW PySem.F.type_str_split NA ho (bu he (bu hf cz (by rw[hs,DZ])) (by rw[yJ,hs])) jY DP jZ (by rw[yJ,hs]) (by rw[hs];rfl)).mono λ1=>by
  obtain⟨s,e1,ed⟩:=bind1 ed;obtain⟨x,e2,ed⟩:=bind1 ed;obtain⟨y,e3,ed⟩:=bind1 ed;cases s with
  |str a=>
    cases x with
    |str b=>
      cases y with
      |int k=>
        replace ed:(if j3 a b k=η then ε ((El a b k).map PyData.str)else ζ)=ε d:=ed;by_cases bV:j3 a b k=η
        .rw [abe bV]at ed;cases ed;refine⟨U,A0,δ,_,R,e1,λ17=>?_⟩;rw[h1.text];refine⟨rfl,U,A0,δ,_,R.same s1,e2,λw H2 s2 h2=>?_⟩;rw[h2.text];refine⟨U,A0,δ,_,R.same 7.3,e3,λw3 H3 s3 h3=>?_⟩;rw[h3.int];refine⟨a,b,k,rfl,rfl,bV,λ21=>?_⟩;have s4:=(s1.trans s2).trans s3;exact q p _ _ (s4.trans (cy hp _)) (s4.free hp) aN (ee.texts _)
        .grind
      |_=>cases ed
    |_=>cases ed
  |_=>cases ed
end
end L2
namespace L2
open PySem PySem.Spec PySem.W PyProof.Rows
def kB(K:Frag)(mg:cX)(C:Addr)(n:Nat)(G:7.2):Sp:=λvs H Q E=>vs.length=n/\∃a dx p q A ds s d s',Ls 24.0 H/\(∀x∈A,x∉[a,dx,p,q])/\GN C K H (wo H 24.0) a dx p q s/\ee K (wo H 24.0) vs ds/\ds[0]?=ε (bM a)/\G a ds s=ε (d,s')/\
 (∀v H',dH [a,dx,p,q] H H'->GN C K H' (wo H' 24.0) a dx p q s'->HD K (wo H' 24.0) v d->Q v H')/\∀c H',d=cI c->dH [a,dx,p,q] H H'->GN C K H' (wo H' 24.0) a dx p q s'->kj mg E c H'
inductive Em(P:4.6)(w:World)(K:Frag)(mg:cX)(base:Heap)(k:Nat)(C:Addr)(m:Str)(ps:1.4)(sp:Sp):Prop|mk (f fd)(_:mP P w K mg base (mJ P w) k f fd ps sp)(_:pF K C m f)(_:Binds K fd ps [])
section
variable {P:4.6}{w:World}{K:Frag}{mg:cX}{base:Heap}{x qual:Str}{st:Stmt}{N ps:1.4}{k:Nat}{C:Addr}
theorem Vc(hO:9.7)(hN:N.length=n)(h:kB K mg C ps.length (pe n g) vs H Q E):
  ∃a dx p q,ur K O 12.0 (kj mg E) (g a) {nx:=λ_ H'=>Q .iY H',rt:=Q} 16.7 H:=by
 subst hN
 obtain⟨hn,a,dx,p,q,A,ds,s,d,s',al,dj,hp,hd,_,e,qq,qx⟩:=h
 obtain⟨⟨r,s1⟩,e1,e2⟩:=bind1 e
 refine⟨a,dx,p,q,wo H [a,dx,p,q],[a,dx,p,q],[],A,_,s,r,s1,⟨Rel.start al hd 3.9,⟨rfl,hp⟩,λ_ z=>(nomatch z),dj⟩,⟨cH,λ_ z=>(nomatch z),λ_ z=>il z,Lm al dj⟩,e1,?_⟩
 have sx:∀{H':Hp},aE (wo H [a,dx,p,q]) H'->dH [a,dx,p,q] H H':=λz b o nb hb=>z b o (by rw[aZ nb];exact hb)
 cases r with
 |nx δ=>
   cases e2;intro B U σ H' R F';obtain⟨rfl,pk⟩:=R.pr;exact qq .iY H' (sx F'.same) pk .iY
 |rt d=>
   cases e2;refine⟨λB v H' h n pk hv=>?_,λB c H' e h n pk=>?_⟩;.obtain ⟨rfl,pk⟩:=pk;exact qq v H' (sx h) pk hv
   .obtain ⟨rfl,pk⟩:=pk;exact qx c H' e (sx h) pk
 |bk _=>cases e2
 |ct _=>cases e2
def mY(O:1.0)(g:Addr->GD Dk)(F:Bx K x qual st f fd)(M:pF K C x f)(B:Binds K fd ps [])(S:15.0)
  (body:∀(a dx p q f:Addr) (bW:Value) (A:Around) (outer:16.1) (s:Shared) (H:Hp) (E:XK),dQ k (A.deeper (envOfC qual (ai st) s.heap.objs.size f bW))->ke (eV (mJ P w) P w K mg base N qual (ai st) f bW A outer s H E) (bR st) (ur K O 12.0 (kj mg E) (g a)))
  (hO:9.7:=by decide)(hN:N.length=n:=by rfl)(hP:ps.length=m:=by rfl):Em P w K mg base (k+1) C x ps (kB K mg C m (pe n g)):=by
 subst hP
 intro 9
 refine⟨f,_,KI lk xC S 20.7 (λA outer s H vs Q E hr h=>?_),M,B⟩
 obtain⟨a,dx,p,q,t⟩:=Vc hO hN h
 exact⟨_,body a dx p q f bW A outer s H E hr,t⟩
end
section
variable {S:Type}{Γ:BN S}{get:S->Dk}{set:S->Dk->S}{X:Cx}{O:1.0}{C a dx p q:Addr}{k kk n j:Nat}{m x:Str}{ps:1.4}{G:7.2}{gr:cG}{apos pos:Pos}{o e:Expr}{es:6.9}{E:XK}{st:Stmt}
def Vd(hd:12.9)(R:eC X.K O Γ B U A0 σ δ H s)(sm:23.1)(hn:ds.length=n)(h0:ds[0]?=ε (bM a))(hs:ee X.K (wo H' (U++17.9)) vs ds)(e:uw get set (G a ds) s=ε (d,s'))
  (qq:∀B' v H',dH B H H'->(∀x∈B',x∈B\/H x=ζ)->eC X.K O Γ B' U A0 σ δ H' s'->HD X.K (wo H' (U++(B'++A0))) v d->Q v H')
  (qx:∀B' c H',d=cI c->dH B H H'->(∀x∈B',x∈B\/H x=ζ)->eC X.K O Γ B' U A0 σ δ H' s'->kj X.mg E c H'):kB X.K X.mg C n G vs H' Q E:=by
 have R':=R.same sm
 obtain⟨⟨d1,k1⟩,e1,e2⟩:=bind1 e
 obtain⟨B2,hB,hdj,hp,Z1⟩:=hd.sp R'.p
 have mem:∀x,x∈U++17.9↔x∈[a,dx,p,q]++(U++(B2++A0)):=λx=>by grind
 have ew:∀h:Hp,wo h (U++17.9)=wo h ([a,dx,p,q]++(U++(B2++A0))):=λh=>GI mem
 have sub:=λ20=>(hB x).mpr (abC _ hx)
 have fin:∀H2,dH [a,dx,p,q] H' H2->GN C X.K H2 (wo H2 (U++17.9)) a dx p q k1->dH B H H2/\eC X.K O Γ B U A0 σ δ H2 (set s k1):=λH2 k2 p2=>by
  have sx:dH B H' H2:=λb o nb hb=>k2 b o (λz=>nb (sub b z)) hb;refine⟨(dH.of sm).trans sx,R'.grow sx (Z1 p2 (λ20=>?_) (sx.wo eC.M8))⟩;obtain⟨o,ho,_⟩:=Γ.own R'.p x ((hB x).mpr (aaW _ hx));rw[ho,k2 x o (hdj x hx) ho]
 refine⟨by rw[hs.len];exact hn,a,dx,p,q,U++(B2++A0),ds,get s,d1,k1,R'.r.al.congr (λ20=>(mem x).mpr hx),λ20=>?_,ew H' ▸ hp,ew H' ▸ hs,h0,e1,λv H2 k2 p2 h2=>?_,λc H2 hc k2 p2=>?_⟩
 .rcases abg.mp hx with z|z;.exact λy=>R.dj x z (sub x y)
  .rcases abg.mp z with z|z;.grind
   .exact λy=>R.da x z (sub x y)
 .grind
 .grind
def j4(F:Em X.prog X.w X.K X.mg X.base k C m ps (kB X.K X.mg C n G))(c:vB X.K C)(hr:dQ kk X.A)(hk:k<=kk)(hx:kg (mJ X.prog X.w) X E)(hv:PE X o (mi j))(ha:PA X 4.5 6.1)
  (Ic:starEach 4.5 X.env=1.7::starEach es X.env:=by rfl)(jL:0.8:=by rfl)
  (ht:eval 6.0 X.env=(do
   let ov <-eval o X.env
   standAt apos.atName
   let(f,first) <-holding [ov] (getMethod ov m pl)
   callWith pos f first (backTo pos (starEach 4.5 X.env)) (backToKw pos 9.5)):=by rfl):
  PE X 6.0 (FU C m (kB X.K X.mg C n G) [] E (mi j) 6.1):=by
 obtain⟨f,fd,F,M,B⟩:=F
 exact DI (pl:=pl) hv c M F (hr.mono hk) B .nil hx ha Ic jL ht
set_option tactic.hygienic true in
def QK(hd:12.9)(R:eC X.K O Γ B U A0 σ δ H s)(hj:j∉O)(hl:∀u w:V,([("plans",u),("lots",w)]:List (Str×V)).lookup m=ζ)(ed:fP get set j a G n gr δ s=ε (d,s'))
  (qq:∀B' v H',dH B H H'->(∀x∈B',x∈B\/H x=ζ)->eC X.K O Γ B' U A0 σ δ H' s'->HD X.K (wo H' (U++(B'++A0))) v d->Q v H')
  (qx:∀B' c H',d=cI c->dH B H H'->(∀x∈B',x∈B\/H x=ζ)->eC X.K O Γ B' U A0 σ δ H' s'->kj X.mg E c H'):FU C m (kB X.K X.mg C n G) [] E (mi j) 6.1 σ H Q:=by
 obtain⟨h0,ed⟩:=nV ed
 intro 11
 split at e2
 rotate_left
 .grind
 rename_i hn
 obtain⟨v,hv,hp⟩:=R.r.fz j (bM a) hj h0
 obtain rfl:=sF hp
 obtain⟨_,_,_,U4,_⟩:=hd.sp R.p
 refine⟨.ref a,hv,a,dx,_,rfl,U4.1,hl _ _,U,B++A0,δ,ds,R.r,e1,λvs H' sm hs=>?_⟩
 show kB X.K X.mg C n G (.ref a::(vs++[])) H' Q E
 rw[abE]
 exact Vd (ds:=bM a::ds) hd R sm hn rfl (.cons (.ptr a) hs) e2 qq qx
def En(g:13.5):GD S:=λδ s=>(g δ s).bind λx=>ε (z8 x.1 (.nx δ),x.2)
theorem NC(hd:12.9)(h:PS X st (Cs (FU C m (kB X.K X.mg C n G) [] E (mi j) 6.1)))(hj:j∉O:=by decide)(hl:∀u w:V,([("plans",u),("lots",w)]:List (Str×V)).lookup m=none:=by intro _ _;rfl):
  PS X st (ur X.K O Γ (kj X.mg E) (En (fP get set j a G n gr))):=h.mono λD σ H ⟨H0,B,U,A0,δ,s,r,s',R,F,ed,P⟩=>by
 intro 15
 have e3:z8 d (.nx δ)=r/\s1=s':=by cases e2;exact⟨rfl,rfl⟩
 obtain⟨e3,rfl⟩:=e3
 refine QK hd R hj hl e1 (λB' v H' k n R' hv=>?_) (λB' c H' hc k n R'=>?_)
 .cases hx:fO d with
  |some c=>rw[gD hx]at hv;exact(rN hv).elim
  |none=>
    rw[mU hx]at e3;subst e3;exact P B' U _ H' R' (F.mX k n)
 .subst hc;have:r=.rt (cI c):=e3.symm;subst this;exact P.2 B' c H' rfl (F.grow k).same (F.mX k n).ro R'.pr
end
def Ve{S:Type}(gb:GD S)(hand:Str->Option D):GD S:=λδ s=>(gb δ s).bind λr=>match r.1 with
 |.rt d=>(match fO d with
   |some c=>(hand c).bind λd'=>ε (.rt d',r.2)
   |none=>ε (.rt d,r.2))
 |x=>ε (x,r.2)
section
variable {S:Type}{Γ:BN S}{X:Cx}{O:1.0}{T n:Str}{Tv:Value}{tp GC pos:Pos}{body Qs:List Stmt}{ZV:Stmt}{gb:GD S}{gs:Addr->aV}{hand:Str->Option D}{xk:Str->Hp->Prop}{i:Nat}
theorem Vf(hb:∀mV E,ke (X.tr mV E) body (ur X.K O Γ (kj X.mg E) gb))(hs:∀a,ke (X.S0 a) (ZV::Qs) (tS X.K O (θ,λ_ _=>True) (gs a)))
  (BG:∀c d,hand c=ε d->∃C,nsIn X.K mainGlobals c=ε (ε 1.9)/\X.mg c=ε 1.9/\exmOne X.K 1.9 Tv=ε η)
  (hhx:∀a c d,hand c=ε d->gs a ((List.replicate X.N.length ζ).set i (ε (Jm a c)))=ε (.rt d))(hT:X.mg T=ε Tv)(hN:X.N.Nodup)(hi:X.N[i]?=ε n:=by rfl)(hiO:i∉O:=by decide)
  (hl:X.env.scope.names.lookup n=ε .local:=by rfl)(hgT:Gl X T:=by rfl)(Ic:X.stack=X.env::X.outer:=by rfl)(rM:X.env.frame=ε X.env.locals:=by rfl)(BM:(T==("__debug__":Str))=false:=by decide):
  PS X (.Try body [.ExceptHandler (ε (.Name T tp)) (ε n) (ZV::Qs) GC] [] [] pos) (ur X.K O Γ xk (Ve gb hand)):=by
 rintro pins s σ H D I ⟨H00,B0,U,A0,δ,sg,r,s',R,F,ed,P⟩
 obtain⟨⟨r0,s1⟩,e1,e2⟩:=bind1 ed
 refine wpAny_Try_except ?_
 refine abw (hb pins (λcv _ H2=>∃c C B,r0=.rt (cI c)/\cv=.ref C/\X.mg c=ε 1.9/\aE H00 H2/\(∀x∈B,H00 x=ζ)/\Γ.P X.K H2 (wo H2 17.9) B s1) [] s σ H D I.tr ⟨H00,B0,U,A0,δ,sg,r0,s1,R,F,e1,?_⟩) (λfl s2 hq=>?_) ?_
 .cases r0 with
  |nx δ'=>cases e2;exact P
  |bk δ'=>cases e2;exact P
  |ct δ'=>cases e2;exact P
  |rt d=>
    cases hx:fO d with
    |none=>
      simp only[hx]at e2;cases e2;exact⟨P.1,λB c H' hd s _ _=>by subst hd;cases hx⟩
    |some c=>
      have hd:=gD hx;subst hd;exact⟨λB v H' _ _ _ h=>(rN h).elim,λB c' H' hd s n pk C hC=>⟨c',C,B,by rw[hd],rfl,hC,s,n,pk⟩⟩
 .cases fl with
  |next=>obtain⟨d8,H',I',q⟩:=hq;exact ahr ⟨d8,H',I'.Jl,q⟩
  |brk=>obtain⟨d8,H',I',q⟩:=hq;exact⟨d8,H',I'.Jl,q⟩
  |cont=>obtain⟨d8,H',I',q⟩:=hq;exact⟨d8,H',I'.Jl,q⟩
  |ret u=>obtain⟨v,d8,H',I',rv,q⟩:=hq;exact⟨v,d8,H',I'.Jl,rv,q⟩
 rintro v s2 ⟨σ0,H0,s0,I0,a,t,C,B,H1,rfl,os,bare,un,bV,na,ta,cov,C4,nc0,c,C',BB,er,hC,hm,QL,ad6,U4⟩
 cases hC
 subst er
 have e3:=e2
 obtain⟨d,hd,hr⟩:=bind1 e3
 cases hr
 obtain⟨C2,SY,Zw,hex⟩:=BG c d hd
 rw[hm]at Zw
 cases Zw
 have fr:=C4.2.2.1
 have st:=C4.1
 have ahB:Heap.FlyingW B (X.env::X.outer) a 1.9 (.ref t) s2.heap:=by rw[<-Ic];exact C4
 have nf:∀b∈qQ X.stack,H1 b=none:=λ10=>by
  obtain⟨_,o,ho,_⟩:=I0.stack.mem hb;exact un.free b o ho (I0.DD b hb) λz=>nomatch z
 have again:∀{h2:Heap},Heap.FlyingW B (X.env::X.outer) a 1.9 (.ref t) h2->s2.heap.UpToSlots h2->Inv X pins σ0 H1 {s2 with heap:=h2}:=λ{h2} GB up2=>
  I0.FQ (ch:=[]) os (Jk un cov st GB.1 up2 fr) (yS bV cov st GB.1 nf) bare (λb z=>nomatch z)
 refine C3 (I0.ok.frames.trans (ade ε Ic)) rM ahB nc0 λh4 held nc4 up4=>?_
 refine Qq held nc4 λh5 Z4 nc5 up5=>?_
 have I5:=again Z4 (up4.trans up5)
 have LT:Looks 0.4 h5 (typeOf 5.5) 1.9:=by
  obtain⟨ob,hob,hc⟩:=Z4.there;rw[<-hc];exact(Looks.ld hob).andThen Looks.now
 refine wpAny_handleBy_cons (codeAny_handlers_test (lS (I5.S0 a) hgT hT ?_ BM)) (by intro q;cases q)
 refine(exm_one (M:=model X.prog X.w) I5.o7 LT hex).here ?_
 refine codeAny_handlers_suite_as (Eg Z4 nc5 λh6 ad7 nc6 up6=>?_)
 have I6:=again ad7 ((up4.trans up5).trans up6)
 have ad8:=ad7.there
 have I6t:=I6.ZU (o:=WL a C) I0 na ta ⟨⟨ad8,nc6⟩,let⟨o,q,_⟩:=ad8;⟨o,q⟩,λh1 h2 ⟨⟨o,q,c⟩,⟨o2,fs,q2,c2⟩⟩ kk=>⟨⟨o,kk o q,c⟩,⟨o2,fs,kk o2 q2,c2⟩⟩⟩
 refine zc (X:=X.S0 a) (v:=.ref a) (I6t.S0 a) hN hi (.inl hl) rfl (λs7 I7=>?_) (.inr hl)
 have hin:=(abp.mp hi).1
 have sN:aE H1 (upd H1 a (WL a C)):=cy ta _
 have alH:Ls (BB++A0) H1:=by
  refine⟨λ20=>?_,(F.old.same QL).2⟩;rcases abg.mp hx with z|z;.exact Γ.own U4 x z
  .exact (F.old.same QL).1 x z
 refine abw (hs a pins s7 _ _ {nx:=λ_ _=>False,rt:=D.rt} I7 ⟨H1,[],BB++A0,_,.rt d,Rel.ZY I0.len hin hiO alH ta SY,⟨sN,λ_ z=>(by simp at z),alH⟩,hhx a c d hd,⟨λv H' h=>?_,λ_ _ _ _=>trivial⟩⟩) (λfl s8 hq=>?_) λ22=>z.elim
 .unfold yf at h;exact P.1 BB v H' (QL.trans h.1) ad6 (Γ.mono U4 (BN.at U4 h.1) (b9 h.1)) h.2
 cases fl with
 |ret u=>
   obtain⟨v,d8,H',J,rv,q⟩:=hq;obtain⟨m,hn,_⟩:=id J.loc;exact wpAny_nameGoes hl hn (by rw[I0.ok.kind];rfl) λh9 m' hn' xH=>⟨v,_,H',(J.ahm I0.ok).forget hn' xH,rv,q⟩
 |next=>obtain⟨_,_,_,q⟩:=hq;exact q.elim
 |brk=>obtain⟨_,_,_,q⟩:=hq;exact q.elim
 |cont=>obtain⟨_,_,_,q⟩:=hq;exact q.elim
end
def DfA(K:Frag)(mg:cX)(y x:Str)(st:Stmt)(ps:1.4):Prop:=∃f fd,Bx K x x st f fd/\mg y=ε 10.3/\Binds K fd ps []
abbrev Tk:=List (Addr×List (Str×Nat))
def tkV(t:Tk):List (Addr×List V):=t.map λe=>(e.1,e.2.map λx=>V.str x.1)
def tkO(l:List (Str×Nat)):Obj:=⟨.type "tuple",ζ,.seq (l.map λx=>Value.str x.1 x.2).toArray 0,#[]⟩
theorem Ly:∀l:List (Str×Nat),bL (l.map λx=>V.str x.1) (l.map λx=>Value.str x.1 x.2)
 |[]=>.nil
 |_::l=>.cons ⟨_,rfl⟩ (Ly l)
theorem Lz{α:Type}{x:α}:∀{l:List (Addr×α)},(l.map (·.1)).Nodup->(p,x)∈l->l.lookup p=ε x
 |(b,y)::l,nd,m=>by
   rw[abl,List.nodup_cons]at nd;rw[ai7];rcases aa9.mp m with z|z;.grind
   .have:(p==b)=false:=agm.mpr λe=>nd.1 (e ▸ (abt.mpr ⟨_,z,rfl⟩:p∈l.map (·.1)));rw[this];exact Lz nd.2 z
theorem QN{α:Type}{x:α}:∀{l:List (Addr×α)},l.lookup p=ε x->(p,x)∈l
 |(b,y)::l,h=>by
   rw[ai7]at h;cases q:p==b with
   |true=>rw[q]at h;cases h;rw[eq_of_beq q];exact abd
   |false=>rw[q]at h;exact aa8 _ (QN h)
abbrev Ti:=List (Addr×List (Int×Nat))
def tiV(t:Ti):List (Addr×List V):=t.map λe=>(e.1,e.2.map λx=>V.int x.1)
def tiO(l:List (Int×Nat)):Obj:=⟨.type "tuple",ζ,.seq (l.map λx=>Value.int x.1 x.2).toArray 0,#[]⟩
theorem LA:∀l:List (Int×Nat),bL (l.map λx=>V.int x.1) (l.map λx=>Value.int x.1 x.2)
 |[]=>.nil
 |_::l=>.cons ⟨_,rfl⟩ (LA l)
def Xd{K:Frag}{α:Type}{f:α->Obj}:∀{t:List (Addr×α)},t.map (λe=>K.lookup e.1)=t.map (λe=>ε (f e.2))->∀e∈t,K.lookup e.1=ε (f e.2):=by simp
def Z5{K:Frag}(ct:dw=tkV t++tiV u)(nd:((tkV t++tiV u).map (·.1)).Nodup)(h:t.map (λe=>K.lookup e.1)=t.map (λe=>ε (tkO e.2)))(h2:u.map (λe=>K.lookup e.1)=u.map (λe=>ε (tiO e.2)))(hl:(∀e∈t,e.2.length<=sizeLine)/\∀e∈u,e.2.length<=sizeLine):lx K:=by
 refine⟨λp xs m=>?_,λp xs m=>?_⟩
 .rw [ct]at m ⊢;exact Lz nd m
 .rw [ct]at m;rcases abg.mp (QN m)with m|m;.obtain ⟨e,he,q⟩:=abt.mp m;cases q;exact⟨_,_,_,_,Xd h e he,by rw[aaI];exact hl.1 e he,Ly e.2⟩
  .obtain ⟨e,he,q⟩:=abt.mp m;cases q;exact⟨_,_,_,_,Xd h2 e he,by rw[aaI];exact hl.2 e he,LA e.2⟩
def aea{t:Fm}(ct:dw=tkV k++tiV u)(e:(t.map λe=>(e.2.2.1,e.2.2.2))=k.map λe=>(e.1,e.2.map (·.1))):∀e∈t,(e.2.2.1,e.2.2.2.map V.str)∈dw:=λ20=>by
 have:(x.2.2.1,x.2.2.2)∈k.map λe=>(e.1,e.2.map (·.1)):=e ▸ List.mem_map_of_mem (f:=λe:Str×Nat×Addr×List Str=>(e.2.2.1,e.2.2.2)) hx
 obtain⟨y,hy,q⟩:=abt.mp this
 obtain⟨q1,q2⟩:=Prod.mk.inj q
 rw[ct,<-q1,<-q2,afl]
 refine abC _ ?_
 exact List.mem_map_of_mem (f:=λe:Addr×List (Str×Nat)=>(e.1,e.2.map λx=>V.str x.1)) hy
def QO(R:7.2):Addr->List D->Dk->Option (D×Dk):=λa ds s=>(R a ds s).bind λr=>if(fO r.1).isSome=η then ζ else ε r
def Vg(h:R a ds s=ε (d,s'))(hd:(fO d).isSome=θ):QO R a ds s=ε (d,s'):=by
 unfold QO
 rw[h,aaG,abo (by rw[hd];exact abj)]
set_option tactic.hygienic true in
theorem Em.no{K:Frag}(h:Em P w K mg base k C m ps (kB K mg C n R)):MtD P w K mg base k C m ps (uv K C n (QO R)):=by
 obtain⟨f,fd,F,M,B⟩:=h
 have cv:∀vs H Q E,uv K C n (QO R) vs H Q E->kB K mg C n R vs H Q (λ18=>False):=λvs H Q E ⟨hn,a,dx,p,q,A,ds,s,d,s',al,dj,hp,hd,h0,e,qq⟩=>by
  obtain⟨r,e1,e2⟩:=bind1 e;split at e2;.grind
  .rename_i hf;cases e2;exact⟨hn,a,dx,p,q,A,ds,s,_,_,al,dj,hp,hd,h0,e1,qq,λc H' z _ _=>absurd (show(fO d).isSome=η by rw[z];rfl) hf⟩
 refine⟨f,fd,⟨λvs H Q E h=>F.len vs H Q _ (cv vs H Q E h),λA outer s H args us vs Q E hr e0 hb r h=>afD (F.run A outer s H args us vs Q _ hr e0 hb r (cv vs H Q E h)) λr s' hq=>?_⟩,M,B⟩
 cases r with
 |error e=>obtain⟨_,_,_,_,_,_,_,_,_,_,_,_,_,_,_,z⟩:=hq;exact z.elim
 |ok fl=>cases fl<;>exact hq
end L2
namespace LS
open PySem PySem.Spec PyProof.Rows
section
variable {prog:4.6}{w:World}{A:Around}{E:eL}{s:Shared}{z TI TO i1 i2:Addr}{f1 f2:4.0}{n1 n2 i:Nat}{P1 P2:Nat->Value->Prop}{S1 S2:Nat->Heap->Prop}{a b:Value}
structure ZAp(z TI TO i1 i2:Addr)(f1 f2:4.0):Prop where
 zI:z≠TI
 zO:z≠TO
 z1:z≠i1
 z2:z≠i2
 IO:TI≠TO
 I1:TI≠i1
 I2:TI≠i2
 O1:TO≠i1
 O2:TO≠i2
 fz1:z∉f1
 fz2:z∉f2
 fO1:TO∉f1
 fO2:TO∉f2
 f12:i2∉f1
 f21:i1∉f2
def v5(D:Draws prog w A it fp n P S)(hi:i<n)(hs:S i s.heap)
  (hQ:∀x h' tk,P i x->S (i+1) h'->Heap.SameBut it s.heap h'->Q (ε x) 11.0):wpAny 0.7 A ((Builtin.SmallTypes.nextOf 14.3 >>= λv=>pure (ε v)).onRaise k) Q E s:=
 wpAny_onRaise (aab (D.item i s _ _ hi hs λx h' tk p st k=>aaR (hQ x h' tk p st k)))
def QP(Z:ZAp z TI TO i1 i2 f1 f2)(D1:Draws prog w A.in1 i1 f1 n1 P1 S1)(D2:Draws prog w A.in1 i2 f2 n2 P2 S2)(h1:i<n1)(h2:i<n2)
  (hz:IsZip s.heap z TI TO .none)(hI:IsPair s.heap TI (.ref i1) (.ref i2))(hO:IsPair s.heap TO a b)(s1:S1 i s.heap)(s2:S2 i s.heap)
  (hQ:∀x y T h' tk,P1 i x->P2 i y->s.heap.objs.size<=T->IsZip h' z TI TO (rawInt T)->IsPair h' TI (.ref i1) (.ref i2)->IsPair h' TO x y->S1 (i+1) h'->S2 (i+1) h'->IsPair h' T x y->(∀c o,c∉[z,TO,i1,i2]->s.heap.get? c=ε o->h'.get? c=ε o)->Q (ε (.ref T)) 11.0):
  wpAny 0.7 A (pyNext (.ref z)) Q E s:=by
 have hT:s.TypeIs (.ref z) "zip":=⟨_,hz,rfl⟩
 unfold pyNext
 refine aab (agE (adC (name:="__next__") hT aip (aeL aip hT F.entry_zip_next ?_ (F.args_zip_next_1 _))))
 wp_walk using(wpAny_field hz rfl (x:=.none) (i:=0) rfl),(wpAny_field hz rfl (x:=.bool θ) (i:=2) rfl),(wpAny_field hz rfl (x:=.ref TI) (i:=3) rfl),(wpAny_field hz rfl (x:=.ref TO) (i:=4) rfl),(wpAny_seqItems hI rfl),(wpAny_setField_rec hz (x:=.ellipsis) 0.2)
 intro g1 z1 k1
 have a1:S1 i g1:=D1.frame i _ _ s1 λc hc o e=>k1.extBut c o (λq=>Z.fz1 25.0) e
 have O1:IsPair g1 TO a b:=k1.extBut _ _ Z.zO.symm hO
 refine aab ?_
 show wpAny _ _ (forIn [(Value.ref i1,0),(Value.ref i2,1)] _ _) _ _ _
 simp only[afE,List.forIn_nil]
 refine aab (aab (v5 D1 h1 a1 λx g2 tk2 p2 a2 k2=>?_))
 have O2:IsPair g2 TO a b:=k2.extBut _ _ Z.O1 O1
 wp_walk using(wpAny_seqItems O2 rfl),(wpAny_updateSeq_pair O2),wpAny_letGo
 intro g3 O3 k3
 refine aab (wpAny_letGo (aaR ?_))
 have z3:=k3.extBut _ _ Z.zO (k2.extBut _ _ Z.z1 z1)
 have I3:IsPair g3 TI (.ref i1) (.ref i2):=k3.extBut _ _ Z.IO (k2.extBut _ _ Z.I1 (k1.extBut _ _ Z.zI.symm hI))
 have a3:S1 (i+1) g3:=D1.frame _ _ _ a2 λc hc o e=>k3.extBut c o (λq=>Z.fO1 25.0) e
 have b3:S2 i g3:=D2.frame _ _ _ s2 λc hc o e=>k3.extBut c o (λq=>Z.fO2 25.0) (k2.extBut c o (λq=>Z.f21 25.0) (k1.extBut c o (λq=>Z.fz2 25.0) e))
 refine aab (aab (v5 D2 h2 b3 λy g4 tk4 p4 b4 k4=>?_))
 have O4:IsPair g4 TO x b:=k4.extBut _ _ Z.O2 O3
 wp_walk using(wpAny_seqItems O4 rfl),(wpAny_updateSeq_pair O4),wpAny_letGo
 intro g5 O5 k5
 replace O5:IsPair g5 TO x y:=O5
 refine aab (wpAny_letGo (aaR (aaR ?_)))
 have z5:=k5.extBut _ _ Z.zO (k4.extBut _ _ Z.z2 z3)
 have I5:IsPair g5 TI (.ref i1) (.ref i2):=k5.extBut _ _ Z.IO (k4.extBut _ _ Z.I2 I3)
 have a5:S1 (i+1) g5:=D1.frame _ _ _ a3 λc hc o e=>k5.extBut c o (λq=>Z.fO1 25.0) (k4.extBut c o (λq=>Z.f12 25.0) e)
 have b5:S2 (i+1) g5:=D2.frame _ _ _ b4 λc hc o e=>k5.extBut c o (λq=>Z.fO2 25.0) e
 have hsz:g5.objs.size=s.heap.objs.size:=by rw[k5.1,k4.1,k3.1,k2.1];exact k1.1
 wp_walk using(wpAny_seqItems O5 rfl)
 refine⟨_,rfl,aaR ?_⟩
 have k6:∀c o,c≠z->g5.get? c=ε o->(((g5.push {cls:=Value.type "tuple",data:=Data.seq #[x,y]}).update z (Obj.mapFields λx=>x.setIfInBounds 0 (rawInt g5.objs.size))).update z (Obj.mapFields λx=>x.setIfInBounds 1 (Value.bool θ))).get? c=ε o:=λc o hc e=>(ag6 _ _ _ _ hc).trans ((ag6 _ _ _ _ hc).trans (aao _ e))
 have zT:g5.objs.size≠z:=λq=>absurd (aba z5) (by rw[q];exact ac3 _)
 refine hQ x y g5.objs.size _ _ p2 p4 (Nat.le_of_eq hsz.symm) ?_ (k6 _ _ Z.zI.symm I5) (k6 _ _ Z.zO.symm O5) (D1.frame _ _ _ a5 λc hc o e=>k6 c o (λq=>Z.fz1 25.0) e) (D2.frame _ _ _ b5 λc hc o e=>k6 c o (λq=>Z.fz2 25.0) e) ?_ λc o hc e=>?_
 .exact acx _ (acx _ (aao _ z5) rfl) rfl
 .exact (ag6 _ _ _ _ zT).trans ((ag6 _ _ _ _ zT).trans (aaS _ rfl))
 .have n1:c≠z:=λq=>hc (by simp[q]);have n2:c≠TO:=λq=>hc (by simp[q]);have n3:c≠i1:=λq=>hc (by simp[q]);have n4:c≠i2:=λq=>hc (by simp[q]);exact k6 c o n1 (k5.extBut c o n2 (k4.extBut c o n4 (k3.extBut c o n2 (k2.extBut c o n3 (k1.extBut c o n1 e)))))
def GQ(D:Draws prog w A it fp n P S)(hs:S n s.heap)
  (hE:∀h' e,Heap.ExtBut it s.heap h'->(∃o,h'.get? e=ε o/\o.cls=.type "StopIteration")->wpAny 0.7 A (k (.ref e)) (λ_ s'=>E (.ref e) s') E 2.0):wpAny 0.7 A ((Builtin.SmallTypes.nextOf 14.3 >>= λv=>pure (ε v)).onRaise k) Q E s:=
 wpAny_onRaise (aab (D.done s _ _ hs λh' e k c=>hE h' e k c))
def Vh(Z:ZAp z TI TO i1 i2 f1 f2)(D1:Draws prog w A.in1 i1 f1 n1 P1 S1)(D2:Draws prog w A.in1 i2 f2 n2 P2 S2)(hi:min n1 n2=i)
  (hz:IsZip s.heap z TI TO .none)(hI:IsPair s.heap TI (.ref i1) (.ref i2))(hO:IsPair s.heap TO a b)(s1:S1 i s.heap)(s2:S2 i s.heap)
  (hQ:∀h' tk,(∀c o,c∉[z,TO,i1,i2]->s.heap.get? c=ε o->h'.get? c=ε o)->Q ζ 11.0):
  wpAny 0.7 A (pyNext (.ref z)) Q E s:=by
 have hT:s.TypeIs (.ref z) "zip":=⟨_,hz,rfl⟩
 unfold pyNext
 refine aab (agE (adC (name:="__next__") hT aip (aeL aip hT F.entry_zip_next ?_ (F.args_zip_next_1 _))))
 wp_walk using(wpAny_field hz rfl (x:=.none) (i:=0) rfl),(wpAny_field hz rfl (x:=.bool θ) (i:=2) rfl),(wpAny_field hz rfl (x:=.ref TI) (i:=3) rfl),(wpAny_field hz rfl (x:=.ref TO) (i:=4) rfl),(wpAny_seqItems hI rfl),(wpAny_setField_rec hz (x:=.ellipsis) 0.2)
 intro g1 z1 k1
 have a1:S1 i g1:=D1.frame i _ _ s1 λc hc o e=>k1.extBut c o (λq=>Z.fz1 25.0) e
 have O1:IsPair g1 TO a b:=k1.extBut _ _ Z.zO.symm hO
 refine aab ?_
 show wpAny _ _ (forIn [(Value.ref i1,0),(Value.ref i2,1)] _ _) _ _ _
 simp only[afE,List.forIn_nil]
 by_cases h1:i<n1
 .have h2:n2=i:=by lia
  subst h2;refine aab (aab (v5 D1 h1 a1 λx g2 tk2 p2 a2 k2=>?_));have O2:IsPair g2 TO a b:=k2.extBut _ _ Z.O1 O1;wp_walk using(wpAny_seqItems O2 rfl),(wpAny_updateSeq_pair O2),wpAny_letGo;intro g3 O3 k3;refine aab (wpAny_letGo (aaR ?_));have z3:=k3.extBut _ _ Z.zO (k2.extBut _ _ Z.z1 z1);have b3:S2 n2 g3:=D2.frame _ _ _ s2 λc hc o e=>k3.extBut c o (λq=>Z.fO2 25.0) (k2.extBut c o (λq=>Z.f21 25.0) (k1.extBut c o (λq=>Z.fz2 25.0) e));refine aab (aab (GQ D2 b3 λg4 e k4 c4=>?_));refine wpAny_setField_rec (k4 _ _ Z.z2 z3) 0.2 λg5 z5 k5=>?_;obtain⟨oe,he,ce⟩:=c4;have ez:e≠z:=λq=>by rw[q,k4 _ _ Z.z2 z3]at he;cases he;exact absurd (ahJ ce) 0.0
  have ty:Shared.TypeIs {s with heap:=g5,toks:=tk2} (.ref e) "StopIteration":=⟨oe,k5.extBut _ _ ez he,ce⟩;wp_walk using(wpAny_isInstance (T:="StopIteration") (b:=η) ty isSubtype_stop);refine hQ _ _ λc o hc e=>?_;have n1:c≠z:=λq=>hc (by simp[q]);have n2:c≠TO:=λq=>hc (by simp[q]);have n3:c≠i1:=λq=>hc (by simp[q]);have n4:c≠i2:=λq=>hc (by simp[q]);exact k5.extBut c o n1 (k4 c o n4 (k3.extBut c o n2 (k2.extBut c o n3 (k1.extBut c o n1 e))))
 .have h2:n1=i:=by lia
  subst h2;refine aab (aab (GQ D1 a1 λg4 e k4 c4=>?_));refine wpAny_setField_rec (k4 _ _ Z.z1 z1) 0.2 λg5 z5 k5=>?_;obtain⟨oe,he,ce⟩:=c4;have ez:e≠z:=λq=>by rw[q,k4 _ _ Z.z1 z1]at he;cases he;exact absurd (ahJ ce) 0.0
  have ty:Shared.TypeIs {s with heap:=g5} (.ref e) "StopIteration":=⟨oe,k5.extBut _ _ ez he,ce⟩;wp_walk using(wpAny_isInstance (T:="StopIteration") (b:=η) ty isSubtype_stop);refine hQ _ _ λc o hc e=>?_;have n1:c≠z:=λq=>hc (by simp[q]);have n3:c≠i1:=λq=>hc (by simp[q]);exact k5.extBut c o n1 (k4 c o n3 (k1.extBut c o n1 e))
end
structure aeb(h h':Heap)(l t:Addr):Prop where
 zip:IsZip h' (h.objs.size+4) (h.objs.size+2) (h.objs.size+3) .none
 two:IsPair h' (h.objs.size+2) (.ref h.objs.size) (.ref (h.objs.size+1))
 own:IsPair h' (h.objs.size+3) .none .none
 it1:h'.IsListIter h.objs.size l 0
 it2:h'.IsTupleIter (h.objs.size+1) t 0
 keep:∀c o,h.get? c=ε o->h'.get? c=ε o
def QR(l t:Addr)(xs ts:17.4):Meets (Builtin.«zip.__new__» ⟨[.type "zip",.ref l,.ref t],[]⟩) (λ_ R s=>s.heap.IsList l xs/\s.heap.IsTuple t ts/\∀h',aeb s.heap h' l t->R (.ok (.ret (.ref (s.heap.objs.size+4)))) 2.0):=
 .of_wp λprog w A R s h=>by
  obtain⟨hp,g,d,tk,os⟩:=s;obtain⟨hl,ht,h⟩:=h;have D0:=sub_zip;have hL:Heap.IsList (Shared.heap ⟨hp,g,d,tk,os⟩) l xs:=hl;have hT:Heap.IsTuple (Shared.heap ⟨hp.push {cls:=.type "list_iterator",data:=.fields #[.ref l,.int 0 0]},g,d,tk,os⟩) t ts:=ht.at λo e=>aao _ e;wp_walk using wpAny_pyIter_list hL,wpAny_pyIter_tuple hT;have e1:∀o:Obj,(hp.push o).objs.size=hp.objs.size+1:=λo=>aeI ..;have e2:∀o o2:Obj,((hp.push o).push o2).objs.size=hp.objs.size+2:=λo o2=>by rw[aeI,e1]
  have e3:∀o o2 o3:Obj,(((hp.push o).push o2).push o3).objs.size=hp.objs.size+3:=λo o2 o3=>by rw[aeI,e2]
  have e4:∀o o2 o3 o4:Obj,((((hp.push o).push o2).push o3).push o4).objs.size=hp.objs.size+4:=λo o2 o3 o4=>by rw[aeI,e3]
  simp only[e1,e2,e3,e4];refine⟨_,rfl,h _ ?_⟩;constructor;.rw [<-e4];exact aaS _ rfl
  .refine aao _ (aao _ ?_);show _=_;rw[<-e2];exact aaS _ rfl
  .refine aao _ ?_;rw[<-e3];exact aaS _ rfl
  .exact ⟨_,aao _ (aao _ (aao _ (aao _ (aaS _ rfl)))),rfl,rfl⟩
  .exact ⟨_,aao _ (aao _ (aao _ (by rw[<-e1];exact aaS _ rfl))),rfl,rfl⟩
  .exact λc o e=>aao _ (aao _ (aao _ (aao _ (aao _ e))))
section
variable {prog:4.6}{w:World}{A:Around}{E:eL}{s:Shared}
def NF(hl:s.heap.IsList l xs)(ht:s.heap.IsTuple t ts)(h:∀h',aeb s.heap h' l t->Q (.ref (s.heap.objs.size+4)) 2.0):wpAny 0.7 A (call (.type "zip") [.ref l,.ref t]) Q E s:=by
 refine callType_new F.called_zip 0.0 (F.typeCall_zip_2 _ _) (F.newCall_zip_2 _ _) (λobj=>F.args_object_init_3 obj _ _) F.entry_zip_new (QR l t xs ts) ⟨hl,ht,λh' n=>⟨⟨_,n.zip,rfl⟩,h h' n⟩⟩
end
end LS
namespace L2
open PySem PySem.Spec PyProof.Rows LS
def aec(K:aq)(a b:Addr):It:=
 ⟨λi H=>∃xs ys x y,nD K H a xs/\o8 K H b ys/\xs[i]?=ε x/\ys[i]?=ε y,λi H v H'=>∃p x y,H p=ζ/\v=.ref p/\H'=upd H p (.tup [x,y])/\(∀xs,nD K H a xs->xs[i]?=ε x)/\∀ys,o8 K H b ys->ys[i]?=ε y,λi H=>∃xs ys,nD K H a xs/\o8 K H b ys/\min xs.length ys.length=i⟩
def NG{K:aq}(l1 l2 z TI TO i1 i2:Addr)(D:ZAp z TI TO i1 i2 [i1,l1] [i2,l2])(n1:l1≠i1)(n2:l2≠i2):Turn P w K 8.4 (aec K l1 l2) [z,TI,TO,i1,i2] z (λi h=>IsZip h z TI TO .none/\IsPair h TI (.ref i1) (.ref i2)/\(∃a b,IsPair h TO a b)/\h.IsListIter i1 l1 i/\h.IsTupleIter i2 l2 i) where
 mem:=by simp
 obj:=λi h st b hb=>by
  obtain⟨h1,h2,⟨a,c,h3⟩,⟨o4,h4,_,d4⟩,o5,h5,_,d5⟩:=st;simp at hb;rcases hb with rfl|rfl|rfl|rfl|rfl;.grind
  .grind
  .grind
  .grind
  .grind
 keep:=λi h h' st k=>by
  obtain⟨h1,h2,⟨a,c,h3⟩,h4,h5⟩:=st;exact⟨k z 0.2 _ h1,k TI 0.2 _ h2,⟨a,c,k TO 0.2 _ h3⟩,h4.at λo e=>k i1 0.2 o e,h5.at λo e=>k i2 0.2 o e⟩
 item:=by
  intro 0;subst hP hw hK;obtain⟨xs,ys,x,y,Vi,MZ,hx,hy⟩:=hg;obtain⟨t1,rv1,p1,WV⟩:=I.list Vi;obtain⟨t2,rv2,p2,hz2⟩:=I.tuple MZ;obtain⟨u1,U6,ru1⟩:=rv1.get hx;obtain⟨u2,hu2,ru2⟩:=rv2.get hy;obtain⟨s1,s2,⟨ta,tb,s3⟩,s4,s5⟩:=st;have D1:=Draws.list (prog:=X.prog) (w:=X.w) (A:=X.A.in1) 13.1 i1 l1 n1 t1.toArray;have D2:=lV (prog:=X.prog) (w:=X.w) (A:=X.A.in1) 13.1 i2 l2 n2 t2.toArray;have g1:t1.toArray[i]?=ε u1:=by simpa using U6
  have g2:t2.toArray[i]?=ε u2:=by simpa using hu2
  refine QP D D1 D2 (acN.mp g1).1 (acN.mp g2).1 s1 s2 s3 ⟨s4,p1.isList⟩ ⟨s5,p2⟩ λx' y' T h1 tk e1 e2 hT r1 r2 r3 r4 r5 ht hk=>⟨_,rfl,wpAny_letOwnedTupleGo_zip r1 λh2 z2 k2=>?_⟩;rw[g1]at e1;rw[g2]at e2;cases e1;cases e2;have hTz:T≠z:=λq=>absurd (aba s1) (by rw[<-q];exact Nat.not_lt.mpr hT);have I1:Inv X pins σ H {s with heap:=h2,toks:=tk}:=I.qT (t':=tk) (ch:=[z,TI,TO,i1,i2]) (λb o hb eo=>by
   have hb':b∉[z,TO,i1,i2]:=λq=>hb (by simp at q ⊢;rcases q with q|q|q|q<;>simp[q]);exact k2.extBut b o (λq=>hb (by simp[q])) (hk b o hb' eo)) hf;have ht2:IsTup h2 T [u1,u2].toArray:=⟨_,k2.extBut _ _ hTz ht,rfl,_,rfl⟩;have rM:=I.bV.fresh hT;have fo:=I.zf (H':=H) hT rM;have I2:=I1.IM rM (acw I.sz hT) fo.2.1 fo.2.2.2.2.1 fo.2.2.2.2.2 ht2 (.cons ru1 (.cons ru2 .nil)) (by show 2<=sizeLine;decide);refine⟨.ref T,_,I2,rfl,⟨T,x,y,rM,rfl,rfl,λzs hz=>by rw[I.zd hz Vi];exact hx,λzs hz=>by rw[I.vw hz MZ];exact hy⟩,⟨z2,k2.extBut _ _ D.zI.symm r2,⟨_,_,k2.extBut _ _ D.zO.symm r3⟩,r4.1.at λo e=>k2.extBut _ _ D.z1.symm e,r5.1.at λo e=>k2.extBut _ _ D.z2.symm e⟩,λ10=>?_⟩;have lR:b<s.heap.objs.size:=by
   obtain⟨o4,s4,_⟩:=s4;obtain⟨o5,s5,_⟩:=s5;simp at hb;rcases hb with q|q|q|q|q;.rw [q];exact aba s1
   .rw [q];exact aba s2
   .rw [q];exact aba s3
   .rw [q];exact aba s4
   .rw [q];exact aba s5
  rw[aB (abn (abc lR hT))];exact(hf b hb).1
 done:=by
  intro 0;subst hP hw hK;obtain⟨xs,ys,Vi,MZ,hx⟩:=hg;obtain⟨t1,rv1,p1,WV⟩:=I.list Vi;obtain⟨t2,rv2,p2,hz2⟩:=I.tuple MZ;obtain⟨s1,s2,⟨ta,tb,s3⟩,s4,s5⟩:=st;have D1:=Draws.list (prog:=X.prog) (w:=X.w) (A:=X.A.in1) 13.1 i1 l1 n1 t1.toArray;have D2:=lV (prog:=X.prog) (w:=X.w) (A:=X.A.in1) 13.1 i2 l2 n2 t2.toArray;have a1:=rv1.length;have a2:=rv2.length;refine Vh D D1 D2 (by simp only[abr];lia) s1 s2 s3 ⟨s4,p1.isList⟩ ⟨s5,p2⟩ λh1 tk hk=>⟨rfl,?_⟩;exact I.qT (t':=tk) (ch:=[z,TI,TO,i1,i2]) (λb o hb eo=>hk b o (λq=>hb (by simp at q ⊢;rcases q with q|q|q|q<;>simp[q])) eo) hf
 self:=λ15=>wpAny_pyIter_zip st.1 h
section
variable {X:Cx}{O:1.0}{a b:Expr}{ga gb:aY}{p pos:Pos}{es:6.9}{kk}{rn:Pos}
def aed(K:aq)(ta:TA):TI:=λσ H R=>ta σ H λvs H1=>∃a b xs ys,vs=[.ref a,.ref b]/\nD K H1 a xs/\o8 K H1 b ys/\R (aec K a b) H1
def ahG{x a b:Nat}(h1:x≠a)(h2:x≠b):x∉[a,b]:=by simp[h1,h2]
def Vj{n l1 l2:Nat}(h1:l1<n)(h2:l2<n):ZAp (n+4) (n+2) (n+3) n (n+1) [n,l1] [n+1,l2]:=by
 constructor<;>first|(show @Ne Nat _ _;lia)|exact ahG 0.1 0.1
theorem Vk(hg:Gl X "zip")(hm:X.mg "zip"=ζ)(ha:PA X [a,b] ta)(hs:starEach [a,b] X.env=13.2::starEach [b] X.env:=by rfl)(yJ:(backTo pos (starEach [b] X.env)).any (·.1)=false:=by rfl):PI X 8.4 (.Call (.Name "zip" p) [a,b] [] pos) (aed X.K ta):=by
 intro pins s σ H R I h
 refine afw (nA I hg hm ZO (afa (eU 11.8 λus s1 ⟨vs,H1,I1,r1,q1⟩=>?_) hs yJ))
 obtain⟨l1,l2,xs,ys,e,Vi,MZ,q⟩:=q1
 subst e
 cases r1 with
 |cons r1 t1=>
   cases t1 with
   |cons r2 t2=>
     cases t2;cases r1;cases r2;obtain⟨t1,rv1,p1,WV⟩:=I1.list Vi;obtain⟨t2,rv2,p2,hz2⟩:=I1.tuple MZ;have lt1:l1<s1.heap.objs.size:=by obtain⟨o,ho,_⟩:=p1.isList;exact aba ho
     have lt2:l2<s1.heap.objs.size:=by obtain⟨o,ho,_⟩:=id p2;exact aba ho
     refine NF p1.isList p2 λh' n=>wpAny_pyIter_zip n.zip ?_;refine⟨s1.heap.objs.size+4,[s1.heap.objs.size+4,s1.heap.objs.size+2,s1.heap.objs.size+3,s1.heap.objs.size,s1.heap.objs.size+1],_,_,H1,rfl,I1.kept (t':=s1.toks) n.keep,NG l1 l2 _ _ _ _ _ (Vj lt1 lt2) (abn lt1) (abn (agb lt2)),⟨n.zip,n.two,⟨_,_,n.own⟩,n.it1,n.it2⟩,λ10=>?_,q⟩;have hle:s1.heap.objs.size<=b:=by grind
     exact I1.zf hle (I1.bV.fresh hle)
def C7(ga gb:aY):cG:=λδ=>(ga δ).bind λx=>(gb δ).bind λy=>match x,y with
 |.list x,.tuple y=>ε (Qj x y)
 |_,_=>ζ
theorem Vl(hm:X.mg "zip"=ζ)(ha:PE X a (tE X.K O ga))(hb:PE X b (tE X.K O gb))(hg:Gl X "zip":=by rfl)(hs:starEach [a,b] X.env=13.2::starEach [b] X.env:=by rfl)(SX:starEach [b] X.env=(θ,eval b X.env)::starEach [] X.env:=by rfl)(yJ:(backTo pos (starEach [b] X.env)).any (·.1)=false:=by rfl):PI X 8.4 (.Call (.Name "zip" p) [a,b] [] pos) (tI X.K O (C7 ga gb)):=
 (Vk hg hm (bu ha (bu hb cz SX) hs) hs yJ).mono λ4=>by
  intro 1;obtain⟨y,e3,e4⟩:=bind1 e2;refine⟨U,A0,δ,x,R,e1,λ17=>⟨U,A0,δ,y,R.same s1,e3,λv2 H2 s2 h2=>?_⟩⟩;cases x with
  |list x=>
    cases y with
    |tuple y=>
      cases e4;have h1':=h1.same (b9 (A:=U++A0) s2);cases h1' with
      |lst Vi d1=>
        cases h2 with
        |tup MZ d2=>
          refine⟨_,_,_,_,rfl,(Vi.same cH).sq,(.inl (cH.sr MZ)),q _ H2 7.3 ?_⟩;intro A' i H3 s3 al;have k1:=d1.same s3;have k2:=d2.same s3;have l1:=((Vi.same s3).same cH).sq;have l2:o8 X.K H3 _ _:=.inl (cH.sr (s3.sr MZ));refine⟨λd hd=>?_,λhi=>⟨_,_,l1,l2,by rw[hi,Qj,List.length_zipWith,k1.len,k2.len]⟩⟩;rw[Qj,List.getElem?_zipWith]at hd;cases ex:x[i]? with
          |none=>rw[ex]at hd;cases hd
          |some dx=>
            cases ey:y[i]? with
            |none=>rw[ex,ey]at hd;cases hd
            |some dy=>
              rw[ex,ey]at hd;cases hd;obtain⟨vx,hvx,hdx⟩:=k1.get ex;obtain⟨vy,hvy,hdy⟩:=k2.get ey;refine⟨⟨_,_,vx,vy,l1,l2,hvx,hvy⟩,λz H4 hz=>?_⟩;obtain⟨p,x',y',hp,rfl,rfl,f1,f2⟩:=hz;have g1:=f1 _ l1;have g2:=f2 _ l2;rw[hvx]at g1;rw[hvy]at g2;cases g1;cases g2;exact⟨cy hp _,HD.BE al hp (.cons hdx (.cons hdy .nil))⟩
    |_=>cases e4
  |_=>cases e4
end
end L2
namespace L2
open PySem PySem.Spec PySem.W PyProof.Rows
def NH(sc:Scope)(N:1.4)(ix:1.0)(N' xs:1.4)(hc:24.3)(own:UC k gt)(hi:PIG gd X tg iter (SW X.K O gi))
  (hg:∀cl C s2 H2 fp pins,PG 0.6 tg (tG X.K [] gt))(hf:∀cl C s2 H2 fp pins,PF 0.6 ifs (tT X.K [] gc))(pZ:∀cl C s2 H2 fp pins,PE 0.6 elt (tE X.K [] ge))
  (Gp:25.1:=by decide)(hk:lj sc scope N xs ix N'=true:=by decide +kernel)(hl:xs.length=k:=by rfl)
  (e1:X.env.scope=sc:=by rfl)(e2:X.N=N:=by rfl)(hs:3.7:=by intro _;rfl):PE X 2.4 (tN X.K O (gK gi k ix gt gc ge)):=by
 subst hl
 exact(CU (ll hk e1 e2) hc hi hg hf pZ hs).mono λ18=>zS own Gp
def i6(h:g δ=g' δ):aT (i5 s (aI g)) δ=aT (i5 s (aI g')) δ:=by unfold aT i5 aI;rw[h]
section
variable {M:Model}{A:Around}{E:eL}{s:Shared}{base:Heap}{env:Env}{outer:16.1}{L e:Addr}{cls a0 fl:Value}
def QS(rM:A.frames=ε 12.1)(hf:env.frame=ε L)(f1:base.StaysIn s.heap)(f2:base.get? e=ζ)(f3:s.heap.FunFrames base 12.1)(f4:22.4)(x:cD s.heap e)
  (hQ:∀h',Heap.HeldW base 12.1 e cls a0 L h'->cD h' e->s.heap.UpToSlots h'->Q () 2.0):wpAny M A (noteFrame (.ref e) env) Q E s:=by
 by_cases q:(fl==rawInt L)=η
 .have q':=eq_of_beq q;subst q';exact wpAny_noteFrame_againW hf f4 (hQ s.heap ⟨f1,f2,f3,f4⟩ x (.refl _))
 .obtain ⟨oe,vs,T,oT,ts,he,⟨Il,h0⟩,hd,h1,ZT,UN,hT,BM,h3⟩:=f4;subst Il;obtain⟨o',fs,Bt,tW,h2⟩:=id x;rw[he]at Bt;cases Bt;rw[hd]at tW;cases tW;have other:∀b,b≠T->(s.heap.update T (Obj.mapFields (·.setIfInBounds 3 Value.none))).get? b=s.heap.get? b:=λ10=>ac8 _ _ (afh hb);have qd:∀b o,s.heap.get? b=ε o->(∀vs,o.data≠.fields vs)->b≠T:=λb o hb xK q=>by grind
  have fr:=f3.of_keeps λb o hb xK=>⟨o,(other b (qd b o hb xK)).trans hb,rfl⟩;unfold noteFrame;simp only[hf];refine aab (afe he hd h1 ?_);refine aab (afe hT BM h3 ?_);rw[abo q];refine aab (ae5 hT BM (acN.mp h3).1 ?_);refine abw (kS xFe (wpAny_entryW (E:=λ_ _=>False) (Q:=λ_ s2=>∃h',s2=2.0/\Heap.NotedW base 12.1 e oe.cls a0 (rawInt L) (s.heap.update T (Obj.mapFields (·.setIfInBounds 3 Value.none))) h') rM fr hf ((other e (afh UN)).trans he)
   (λb o Z6=>(other b λq=>by rw[q,ZT]at Z6;cases Z6).trans (f1 b o Z6)) f2 hd (acN.mp h1).1 h0 λh' n=>⟨h',rfl,n⟩)
   (vV (E:=λ_ _=>False) (Q:=λ_ s2=>cD s2.heap e) rM fr hf ((other e (afh UN)).trans he) hd (acN.mp h1).1 h2 λ_ _ _ _ k _ _ _ _ _=>k)) (λ_ s2 ⟨⟨h',e2,x1,x2,x3,x4⟩,nc⟩=>?_) λ22=>z.1.elim;subst e2;exact hQ h' ⟨x1,f2,x2,x3⟩ nc λb o hb xK=>x4 b o ((other b (qd b o hb xK)).trans hb) xK
def Ju(rM:A.frames=ε 12.1)(hf:env.frame=ε L)(f1:base.StaysIn s.heap)(f2:base.get? e=ζ)(f3:s.heap.FunFrames base 12.1)(f4:22.4)(x:cD s.heap e)
  (hQ:∀h',Heap.FlyingW base outer e cls a0 h'->cD h' e->s.heap.UpToSlots h'->Q () 2.0):wpAny M A (leaving env (.ref e)) Q E s:=by
 refine aab (QS rM hf f1 f2 f3 f4 x λh1 hh nc up=>?_)
 refine Qq (s:={s with heap:=h1}) hh nc λh2 C4 nc2 up2=>?_
 obtain⟨k1,k2,⟨_,_,k3⟩,k4⟩:=C4
 exact hQ h2 ⟨k1,k2,k3,k4⟩ nc2 (up.trans up2)
def QT(f1:base.StaysIn s.heap)(f3:s.heap.FunFrames base l)(f4:22.4)(x:cD s.heap e)
  (hE:∀h' fl',base.StaysIn h'->h'.FunFrames base l->h'.TracedAtW base e cls a0 fl'->cD h' e->s.heap.UpToSlots h'->E (.ref e) 2.0):wpAny M A (PySem.passOn what (.ref e) Gm:Sem Value) Q E s:=by
 obtain⟨oe,vs,T,oT,ts,he,Il,hd,h1,ZT,UN,hT,BM,h3⟩:=f4
 have aee:=(acN.mp h3).1
 obtain⟨v,hv⟩:∃v:Value,v=(Gm.frame.elim Value.none λf=>rawInt f):=⟨_,rfl⟩
 have other:∀b,b≠T->(s.heap.update T (Obj.mapFields (·.setIfInBounds 3 v))).get? b=s.heap.get? b:=λ10=>ac8 _ _ (afh hb)
 have qd:∀b o,s.heap.get? b=ε o->(∀vs,o.data≠.fields vs)->b≠T:=λb o hb xK q=>by grind
 refine aab (afe he hd h1 ?_)
 refine aab ?_
 refine aab (afe he hd h1 ?_)
 rw[abe (show(Value.ref T !=Value.none)=η from by simp),<-hv]
 refine ae5 hT BM aee (aiT (hE _ v (λb o Z6=>(other b λq=>by rw[q,ZT]at Z6;cases Z6).trans (f1 b o Z6)) (f3.of_keeps λb o hb xK=>⟨o,(other b (qd b o hb xK)).trans hb,rfl⟩) ?_ (x.upd (.inr 0.0)) λb o hb xK=>⟨o.slots,(other b (qd b o hb xK)).trans hb⟩))
 exact⟨oe,vs,T,_,_,(other e (afh UN)).trans he,Il,hd,h1,ZT,UN,acx _ hT (ad9 (abF BM _)),abF BM _,by simp[aee]⟩
end
def Vm(u:Un (qQ l) [] H H1 g h)(c:Xa g l H1 B)(st:B.StaysIn h)(yI:B.StaysIn h')(up:∀b∈qQ l,∀o,h.get? b=ε o->(∀vs,o.data≠.fields vs)->∃sl,h'.get? b=ε {o with slots:=sl})(fr:h.FunFrames base l):Un (qQ l) [] H H1 g h' where
 keep:=λb o q n hb hx=>yI b o (c.at st (u.keep b o q n hb hx) hb (.inr ⟨_,q⟩))
 slot:=λb o q n hb hx=>by
  obtain⟨sl,e⟩:=u.slot b o q n hb hx;obtain⟨_,o1,pL,xK⟩:=fr.mem hb;rw[e]at pL;cases pL;obtain⟨Tt,e'⟩:=up b hb _ e xK;exact⟨Tt,e'⟩
 free:=u.free
 there:=λb o q hx=>by
  by_cases hb:b∈qQ l;.obtain ⟨_,o1,pL,xK⟩:=fr.mem hb;obtain⟨Tt,e'⟩:=up b hb _ pL xK;exact⟨_,e'⟩
  .obtain ⟨o',e⟩:=u.there b o q hx;exact⟨o',yI b o' (c.at st e hb (.inr ⟨_,q⟩))⟩
 rh:=u.rh
 ri:=u.ri
 sj:=u.sj
theorem Ac{h h' B B':Heap}:∀{l:16.1},h.FunFrames B l->(∀{b},B.get? b=ζ->B'.get? b=ζ)->(∀env∈l,∀L,env.frame=ε L->h'.get? L=h.get? L)->h'.FunFrames B' l
 |[],_,_,_=>trivial
 |env::_,⟨hk,⟨L,o,hf,hn,ho,hd⟩,hr⟩,hb,hg=>⟨hk,⟨L,o,hf,hb hn,(hg env (.head _) L hf).trans ho,hd⟩,Ac hr hb λe he=>hg e (.tail _ he)⟩
def Eo(h:b∈qQ l):b∈qQ (env::l):=by
 obtain⟨e,he,hb⟩:=afO.mp h
 exact afO.mpr ⟨e,aa8 _ he,hb⟩
def yT(P:4.6)(w:World)(Y:Cx)(E:XK):Cx:=cxZ Y λv s1=>∃pins σ H0 s0,Inv Y pins σ H0 s0/\mJ P w Y.stack H0 s0 E v s1
section
variable {P:4.6}{w:World}{K:aq}{mg:cX}{base:Heap}{N:1.4}{qual:Str}{scope:Scope}{f:Addr}{cd:Value}{A:Around}{outer:16.1}{s:Shared}{H:Hp}{E:XK}
def Jv:kg (mJ P w) (yT P w Y E) E:=λpins σ H s _ _ I h=>⟨pins,σ,H,s,I.unZ,h⟩
theorem Jw(hX:X=eV (mJ P w) P w K mg base N qual scope f cd A outer s H E) 
  (I0:Inv X pins σ H2 s2)(hC:s2.heap.objs.size<=C)(hf:∀b∈fp,t6 X pins H2 b)(Iz:Inv (bI X sc N' cl C s2 H2 fp pins) pz σz Hz sz)(hx:mJ P w X.stack Hz sz E e s'):
  notedBy 0.4 X.A (compEnvC sc cl C X.env) (λe s'=>compPost 0.4 X.A X.xe use QQ acc C (.error e) s') e s':=by
 subst hX
 obtain⟨a,t,Cc,B,H3,rfl,os,bare,un,bV,na,ta,cov,C4,nc,hE⟩:=hx
 have I1:=Iz.FQ (ch:=[]) os un bV bare (λb z=>nomatch z)
 have IX:=I0.FQ (s':=s') (ch:=fp) I1.os I1.base I1.bV I1.bare λ10=>⟨(hf b hb).2.2.2.1,(hf b hb).2.1,(hf b hb).2.2.2.2.1,(hf b hb).2.2.2.2.2⟩
 obtain⟨m,hn,_⟩:=I1.loc
 have hn:s'.heap.Ns C m:=hn
 have fC:H3 C=none:=I1.free
 refine C3 (env:=envOfC qual scope s.heap.objs.size f cd) I0.ok.frames rfl C4 nc λh1 held nc1 up1=>?_
 refine⟨m,up1.ns hn,λh2 sb Gm _=>?_⟩
 have hn1:=up1.ns hn
 obtain⟨oC,es,ep,hoC,hdC,_⟩:=hn1
 have nfC:∀(h:Heap) b o vs,h1.get? b=ε o->o.data=.fields vs->b≠C:=λh b o vs hb hd z=>by grind
 have M8:∀b o,(hideAll B [C]).get? b=ε o->b≠C/\B.get? b=ε o:=λb o q=>by
  refine⟨λz=>?_,of_hideAll _ q⟩;rw[z,hideAll_none _ (aff.mpr rfl)]at q;cases q
 have gT:∀{b},B.get? b=ζ->(hideAll B [C]).get? b=none:=λ{b} q=>by
  cases z:(hideAll B [C]).get? b with
  |none=>rfl
  |some o=>rw[(M8 b o z).2]at q;cases q
 obtain⟨g1,g2,g3,g4⟩:=held
 have rH:=λb o q=>(sb.2 b (M8 b o q).1).trans (g1 b o (M8 b o q).2)
 have inC:∀b∈qQ 6.6,b≠C:=λ10=>by
  obtain⟨_,o,ho,_⟩:=I0.stack.mem hb;exact abn (abc (aba ho) hC)
 have fr2:=Ac g3 gT λenv he L hL=>sb.2 L (inC L (afO.mpr ⟨env,he,hL⟩))
 have old:∀b o,s.heap.get? b=ε o->∃o',sz.heap.get? b=ε o':=λb o q=>by
  obtain⟨o1,q1⟩:=I0.base.there b o q λz=>nomatch z;refine Iz.base.there b o1 q1 λhb=>?_;rcases(hf b hb).2.2.2.1 with z|z;.cases z
  .exact absurd (abc (aba q) z) (ac3 _)
 have tr2:h2.TracedAtW (hideAll B [C]) a (.ref Cc) (.ref t) (rawInt s.heap.objs.size):=by
  obtain⟨oe,vs,T,oT,ts,he,Il,hd,k1,ZT,UN,hT,BM,h3⟩:=g4;exact⟨oe,vs,T,oT,ts,(sb.2 a (nfC h1 a oe vs he hd)).trans he,Il,hd,k1,gT ZT,UN,(sb.2 T (nfC h1 T oT ts hT BM)).trans hT,BM,h3⟩
 have nc2:cD h2 a:=by
  obtain⟨o,fs,ho,hd,k⟩:=nc1;exact⟨o,fs,(sb.2 a (nfC h1 a o fs ho hd)).trans ho,hd,k⟩
 refine QT (s:={s' with heap:=h2}) rH fr2 tr2 nc2 λh3 fl' SU fr3 tr3 nc3 up3=>?_
 have z7:Xa s.heap outer H3 (hideAll B [C]):=λb nb i=>by
  have hb:b∉qQ 6.6:=λz=>by
   rcases aa9.mp (IX.nz b z)with e|z
   .rcases i with i|⟨o0,i⟩;.exact i (by rw[e];exact IX.free)
    .exact absurd (abc (aba i) (by rw[e];exact IX.ok.above)) (ac3 _)
   .exact nb z
  obtain⟨o,q⟩:=cov b hb (i.imp id λ⟨o0,i⟩=>old b o0 i);refine⟨o,hideAll_get _ q λz=>?_⟩;have z:=aff.mp z;subst z;rcases i with i|⟨o0,i⟩;.grind
  .exact absurd (abc (aba i) (acw I0.sz hC)) (ac3 _)
 refine Ju (s:={s' with heap:=h3}) I0.ok.frames rfl SU (gT g2) fr3 tr3 nc3 λh4 Z7 nc4 up4=>?_
 refine⟨a,t,Cc,hideAll B [C],H3,rfl,IX.os,IX.bare,Vm IX.base z7 (λb o q=>C4.1 b o (M8 b o q).2) Z7.1 (λb hb o q xK=>?_) IX.jX,yS IX.bV z7 (λb o q=>C4.1 b o (M8 b o q).2) Z7.1 (λ10=>?_),?_,ta,z7,Z7,nc4,hE⟩
 .obtain ⟨s1,e1⟩:=up1 b o q xK;obtain⟨s3,e3⟩:=up3 b _ ((sb.2 b (inC b (Eo hb))).trans e1) xK;obtain⟨s4,e4⟩:=up4 b _ e3 xK;exact⟨s4,e4⟩
 .obtain ⟨_,o,ho,_⟩:=IX.ok.jX.mem hb;exact IX.base.free b o ho (IX.ok.Fz b hb) λz=>nomatch z
 .cases q:s.heap.get? a with
  |none=>rfl
  |some o=>grind
end
noncomputable def mapR(f:D->Option D):List D->Option (List D ⊕ D)
 |[]=>ε (.inl [])
 |d::ds=>(f d).bind λx=>match fO x with
   |some _=>ε (.inr x)
   |none=>(mapR f ds).map λr=>match r with
     |.inl xs=>.inl (x::xs)
     |.inr e=>.inr e
def glue(xs:List D):List D ⊕ D->List D ⊕ D
 |.inl l=>.inl (xs++l)
 |.inr e=>.inr e
def Z8:List D ⊕ D->D
 |.inl xs=>.tuple xs
 |.inr e=>e
def xO(gi:cG)(ix:1.0)(ge:aY):aY:=λδ=>(gi δ).bind λds=>if ds.length<=100000 then(mapR (λd=>ge (ε d::fM ix δ)) ds).map Z8 else ζ
inductive tR(K:Frag)(mg:cX)(O:1.0)(E:XK)(g:aY)(σ:St)(H:Hp)(Q:VK):Prop|mk (U A0 δ d)(_:2.2)(_:g δ=ε d)(_:∀v H',aE H H'->HD K (wo H' 8.0) v d->Q v H')(_:∀c H',d=cI c->aE H H'->kj mg E c H')
section
variable {X:Cx}{O:1.0}{E:XK}{i:Nat}{st:Stmt}{b:Bool}{g:aY}
theorem Ep(h:PS X st (ze (tR X.K X.mg O E g) (mM i)))(hi:i∉O:=by decide):PS X st (tS X.K O (b,kj X.mg E) (j2 i g)):=h.mono λ7=>by
 intro 6
 have e3:=adM e2
 refine⟨U,A0,δ,d,R,e1,λv H' s hv=>?_,λc H' hd s=>?_⟩
 .cases hx:fO d with
  |some c=>rw[gD hx]at hv;exact(rN hv).elim
  |none=>
    rw[mU hx]at e3;subst e3;exact P U _ H' ((R.same s).set hi hv) (F.grow s)
 .subst hd;subst e3;exact P.2 c H' rfl (F.same.trans s)
def uy(h:PS X st (Tw (tR X.K X.mg O E g))):PS X st (tS X.K O (θ,kj X.mg E) (aT g)):=h.mono λ7=>by
 intro 6
 cases e2
 refine⟨U,A0,δ,d,R,e1,λv H' s hv=>P.1 v H' ?_,λc H' hd s=>P.2 c H' hd (F.same.trans s)⟩
 exact⟨F.same.trans s,hv.same 21.5⟩
end
noncomputable def NI(x:Str)(n:Nat):Str:=⟨(List.replicate n x.cps).foldl (·++·) #[]⟩
def rQ:D->D->Option D
 |.str x,.int n=>if 1<n/\n<=1000/\0<x.length/\x.length<=1000 then ε (.str (NI x n.toNat))else ζ
 |_,_=>ζ
def yU:kQ X (binaryOp .Mult) (λ13=>∃i n,x=.str i/\y=.int n/\(1<n/\n<=1000/\0<i.length/\i.length<=1000)/\Q (.str (NI i n.toNat)) H):=by
 intro 3
 obtain⟨i,n,rfl,rfl,⟨h1,h2,h3,h4⟩,q⟩:=h
 intro 10
 obtain⟨t',rfl⟩:=ry
 have hf:(n==1||i.length==0)=false:=by grind
 have hm:i.length*n.toNat<=1000*1000:=Nat.mul_le_mul h4 0.1
 have tl:Builtin.Str.tooLong (i.length*n.toNat)=false:=by unfold Builtin.Str.tooLong;exact decide_eq_false (by unfold sizeLine;lia)
 refine P.mul_str ?_ (λ_ _=>?_) (λ_ _=>?_) ?_
 .grind
 .have:(1000:Int)<=(2^63-1)/n:=(Int.le_ediv_iff_mul_le 0.1).mpr (by have:(1000:Int)*n<=1000*1000:=Int.mul_le_mul_of_nonneg_left 0.1 0.0;lia);lia
 .grind
 .rw [abo 0.1,hf,abo abj];exact⟨fits_reps tl,.str (NI i n.toNat),H,I.tok _,⟨_,rfl⟩,q⟩
def uz{K:aq}:kh K (λ13=>∃i n,x=.str i/\y=.int n/\(1<n/\n<=1000/\0<i.length/\i.length<=1000)/\Q (.str (NI i n.toNat)) H) rQ:=by
 intro 5
 unfold rQ at e
 split at e
 .split at e
  .cases e;exact⟨_,_,hx.str,hy.int,by assumption,q _ H 3.8 (.str _)⟩
  .cases e
 .cases e
inductive LB:List Expr->List Str->Prop
 |nil:LB [] []
 |cons {n:Str} {k:Nat} {p:Pos} {es:6.9} {ns:1.4}:LB es ns->LB (.Constant (.str n) k p::es) (n::ns)
theorem Ad(h:LB es ns):C6 es=ε ns:=by
 induction h with
 |nil=>rfl
 |cons _ ih=>unfold C6;rw[ih];rfl
inductive tAR(K:Frag)(mg:cX)(O:1.0)(E:XK)(g:15.8)(σ:St)(H:Hp)(Q:List V->Hp->Prop):Prop|mk (U A0 δ r)(_:2.2)(_:g δ=ε r)(_:∀ds,r=.inl ds->∀vs H',aE H H'->ee K (wo H' 8.0) vs ds->Q vs H')(_:∀c H',r=.inr (cI c)->aE H H'->kj mg E c H')
def lW:DS->Option (List D ⊕ D):=λ_=>ε (.inl [])
noncomputable def onL(f:19.3):List D ⊕ D->Option D
 |.inl ds=>f ds
 |.inr e=>ε e
def Xe(d:D):List D ⊕ D->List D ⊕ D
 |.inl l=>.inl (d::l)
 |.inr e=>.inr e
def cB(g:aY)(gr:15.8):DS->Option (List D ⊕ D):=λδ=>(g δ).bind λd=>match fO d with
 |some _=>ε (.inr d)
 |none=>(gr δ).map (Xe d)
def sG(G:19.3)(n:Nat)(gr:15.8):aY:=λδ=>(gr δ).bind (onL λds=>if ds.length=n then G ds else ζ)
def qe(gr:15.8):aY:=λδ=>(gr δ).bind (onL λds=>if ds.length<=1000 then ε (.tuple ds)else ζ)
section
variable {X:Cx}{O:1.0}{E:XK}{k kk n:Nat}{x:Str}{ps:1.4}{p pos:Pos}{e:Expr}{es:6.9}{g:aY}{gr:15.8}{G:19.3}
def Ae(h:PE X e (tE X.K O g)):PE X e (tR X.K X.mg O E g):=h.mono λ_ _ _ ⟨U,A0,δ,d,R,ed,q,_⟩=>⟨U,A0,δ,d,R,ed,q⟩
def jC{gr:cG}(h:PE X e 25.3):PE X e (tR X.K X.mg O E (av G n gr)):=h.mono λ_ _ _ ⟨_,_,_,_,R,ed,q,qx⟩=>z9 R ed q qx
def lX:PA X [] (tAR X.K X.mg O E lW):=cz.mono λ_ H _ ⟨_,_,_,_,_,ed,q,_⟩=>by
 cases ed
 exact q [] rfl [] H (aE.refl _) .nil
theorem eW(he:PE X e (tR X.K X.mg O E g))(hr:PA X es (tAR X.K X.mg O E gr))(hs:starEach 4.5 X.env=1.7::starEach es X.env:=by rfl):PA X 4.5 (tAR X.K X.mg O E (cB g gr)):=(bu he hr hs).mono λσ H Q ⟨U,A0,δ,r,R,ed,q,qx⟩=>by
 intro 6
 refine⟨U,A0,δ,d,R,e1,λv H1 s1 hv=>?_,λc H1 hd s1=>?_⟩
 .cases hx:fO d with
  |some c=>rw[gD hx]at hv;exact(rN hv).elim
  |none=>
    rw[hx]at e2;obtain⟨r',e3,rfl⟩:=adT.mp e2;exact⟨U,A0,δ,r',R.same s1,e3,λds hr vs H2 s2 h2=>by subst hr;exact q _ rfl (v::vs) H2 7.3 (.cons (hv.same (b9 s2)) h2),λc H2 hr s2=>by subst hr;exact qx c H2 rfl 7.3⟩
 .subst hd;cases e2;exact qx c H1 rfl s1
def qX(F:Dn X.prog X.w X.K X.mg X.base k x ps (ny X.K n G))(hr:dQ kk X.A)(hk:k<=kk)(ha:PA X 4.5 (tAR X.K X.mg O E gr))(hg:Gl X x:=by rfl)
  (pP:1.1:=by decide)(he:starEach 4.5 X.env=1.7::starEach es X.env:=by rfl)(jL:0.8:=by rfl):
  PE X 3.1 (tR X.K X.mg O E (sG G n gr)):=(F4 F hr hk ha hg pP he jL).mono λσ H Q ⟨U,A0,δ,d,R,ed,q,qx⟩=>by
 obtain⟨r,e1,e2⟩:=bind1 ed
 refine⟨U,A0,δ,r,R,e1,λds hr vs H1 s1 h1=>?_,λc H1 hr s1=>?_⟩
 .subst hr;have e2:(if ds.length=n then G ds else ζ)=ε d:=e2;split at e2
  .show ny X.K n G (vs++[]) H1 Q E0;rw[abE];exact⟨by rw[h1.len];assumption,U++A0,ds,d,(R.same s1).al,h1,e2,λv H2 s2 h2=>q v H2 7.3 h2⟩
  .grind
 .subst hr;cases e2;exact qx c H1 rfl s1
set_option tactic.hygienic true in
def Er(ha:PA X es (tAR X.K X.mg O E gr)):PE X (.Tuple es x1 pos) (tR X.K X.mg O E (qe gr)):=(IE ha).mono λσ H Q ⟨U,A0,δ,d,R,ed,q,qx⟩=>by
 obtain⟨r,e1,e2⟩:=bind1 ed
 refine⟨U,A0,δ,r,R,e1,λds hr vs H1 s1 h1=>?_,λc H1 hr s1=>?_⟩
 .subst hr;have e2:(if ds.length<=1000 then ε (PyData.tuple ds)else ζ)=ε d:=e2;split at e2
  .cases e2;refine⟨by rw[h1.len];exact acw ‹_› 0.0,λ21=>?_⟩;exact q _ _ (s1.trans (cy hp _)) (HD.BE (R.same s1).al hp h1)
  .grind
 .subst hr;cases e2;exact qx c H1 rfl s1
def Jx{K:Frag}{st:Stmt}(F:Df K mg x st ps):Dn P w K mg base k x ps (ny K n λ_=>ζ):=by
 obtain⟨f,fd,F,m,b⟩:=F
 exact⟨f,fd,⟨λvs H Q E z=>(by obtain⟨_,_,_,_,_,_,z,_⟩:=z;cases z),λA o s H ar us vs Q E _ _ _ _ z=>by obtain⟨_,_,_,_,_,_,z,_⟩:=z;cases z⟩,m,F.kp,b⟩
end
section
variable {S:Type}
inductive Jy(K:Frag)(mg:cX)(O:1.0)(Γ:BN S)(E:XK)(g:13.5)(σ:St)(H:Hp)(Q:VK):Prop|mk (B U A0 δ s d s')(_:5.0)(_:g δ s=ε (d,s'))(_:∀B' v H',dH B H H'->(∀x∈B',x∈B\/H x=ζ)->eC K O Γ B' U A0 σ δ H' s'->HD K (wo H' (U++(B'++A0))) v d->Q v H')(_:∀B' c H',d=cI c->dH B H H'->(∀x∈B',x∈B\/H x=ζ)->eC K O Γ B' U A0 σ δ H' s'->kj mg E c H')
def dX(ga:13.5)(f:D->aY):DS->S->Option (D×S):=λδ s=>(ga δ s).bind λr=>match fO r.1 with
 |some _=>ε r
 |none=>(f r.1 δ).bind λd=>ε (d,r.2)
variable {Γ:BN S}{get:S->Dk}{set:S->Dk->S}{X:Cx}{O:1.0}{E:XK}{C a dx p q:Addr}{k kk n j i:Nat}{m x:Str}{ps:1.4}{pos Jq:Pos}{e b:Expr}{es:6.9}{st:Stmt}{ga:13.5}
def lB(hd:12.9)(h:PE X e (FU C m (kB X.K X.mg C n G) [] E (mi j) 6.1))(hj:j∉O:=by decide)(hl:∀u w:V,([("plans",u),("lots",w)]:List (Str×V)).lookup m=none:=by intro _ _;rfl):
  PE X e (Jy X.K X.mg O Γ E (fP get set j a G n gr)):=h.mono λ_ _ _ ⟨_,_,_,_,_,_,_,R,ed,q,qx⟩=>QK hd R hj hl ed q qx
theorem LC{K:Frag}(h:Jy K mg O Γ E (dX ga f) σ H Q)
  (k:∀B U A0 δ s1 y d v H1,eC K O Γ B U A0 σ δ H1 s1->HD K (wo H1 (U++17.9)) v y->f y δ=ε d->(∀u H2,aE H1 H2->HD K (wo H2 (U++17.9)) u d->Q u H2)->(∀c H2,d=cI c->aE H1 H2->kj mg E c H2)->Q' v H1):Jy K mg O Γ E ga σ H Q':=by
 obtain⟨B,U,A0,δ,s,d,s',R,ed,qq,qx⟩:=h
 obtain⟨⟨y,s1⟩,e1,e2⟩:=bind1 ed
 refine⟨B,U,A0,δ,s,y,s1,R,e1,λB1 v H1 k1 n1 R1 h1=>?_,λB1 c H1 hd k1 n1 R1=>?_⟩
 .cases hx:fO y with
  |some c=>rw[gD hx]at h1;exact(rN h1).elim
  |none=>
    simp only[hx]at e2;obtain⟨d',e3,e4⟩:=bind1 e2;cases e4;exact k B1 U A0 δ _ y d v H1 R1 h1 e3 (λu H2 s2 h2=>qq B1 u H2 (k1.trans (.of s2)) n1 (R1.same s2) h2) λc H2 hc s2=>qx B1 c H2 hc (k1.trans (.of s2)) n1 (R1.same s2)
 .subst hd;cases e2;exact qx B1 c H1 rfl k1 n1 R1
def Z9(ha:PE X e 23.3)(hb:9.0)(hs:yM b:=by exact λ_ _=>rfl):PE X (.Subscript e b pos) (Jy X.K X.mg O Γ E (dX ga λy δ=>(gb δ).bind (bw y))):=(WD OW ha hb hs).mono λσ H Q h=>
 LC h λB U A0 δ s1 y d v H1 R1 h1 ef qq _=>by
  obtain⟨z,e1,e2⟩:=bind1 ef;exact⟨U,B++A0,δ,z,R1.r,e1,λu H2 s2 h2=>Pn _ H2 v u y z d Q (R1.same s2).r.al (.inl (h1.same (b9 s2))) h2 e2 λw H3 s3 h3=>qq w H3 (s2.trans s3) h3⟩
def NJ(F:Dn X.prog X.w X.K X.mg X.base k x ps (ny X.K 1 G))(hr:dQ kk X.A)(hk:k<=kk)(ha:PE X e 23.3)(hg:Gl X x:=by rfl)
  (pP:1.1:=by decide)(he:starEach [e] X.env=1.7::starEach [] X.env:=by rfl)(jL:(backTo pos (starEach ([]:List Expr) X.env)).any (·.1)=false:=by rfl):
  PE X (.Call (.Name x Jq) [e] [] pos) (Jy X.K X.mg O Γ E (dX ga λy _=>G [y])):=(F4 F hr hk (bu ha cz he) hg pP he jL).mono λσ H Q h=>
 LC h λB U A0 δ s1 y d v H1 R1 h1 ef qq _=>by
  exact⟨rfl,U++17.9,[y],_,R1.r.al,.cons h1 .nil,ef,qq⟩
set_option tactic.hygienic true in
def NK(F:vW X.prog X.w X.K X.mg X.base k x ps (pH X.K X.mg n G))(hr:dQ kk X.A)(hk:k<=kk)(hx:kg (mJ X.prog X.w) X E)(ha:PE X e 23.3)(hb:PA X (e1::es) 6.1)(hg:Gl X x:=by rfl)
  (pP:1.1:=by decide)(he:starEach (e::e1::es) X.env=1.7::starEach (e1::es) X.env:=by rfl)(jL:(backTo pos (starEach (e1::es) X.env)).any (·.1)=false:=by rfl):
  PE X (.Call (.Name x Jq) (e::e1::es) [] pos) (Jy X.K X.mg O Γ E (dX ga λy δ=>(gr δ).bind λds=>if ds.length+1=n then G (y::ds)else ζ)):=by
 obtain⟨f,fd,F,m,kp,b⟩:=F
 refine(DH F (hr.mono hk) hg m kp b .nil hx (bu ha hb he) pP he jL).mono λσ H Q h=>LC h λB U A0 δ s1 y d v H1 R1 h1 ef qq qx=>?_
 obtain⟨ds,e3,e4⟩:=bind1 ef
 split at e4
 rotate_left
 .grind
 rename_i hn
 refine⟨U,B++A0,δ,ds,R1.r,e3,λvs H2 s2 h2=>?_⟩
 show pH X.K X.mg n G ((v::vs)++[]) H2 Q E
 rw[abE]
 exact⟨by rw[<-hn,<-h2.len];rfl,U++17.9,y::ds,d,(R1.same s2).r.al,.cons (h1.same (b9 s2)) h2,e4,λu H3 s3 h3=>qq u H3 (s2.trans s3) h3,λc H3 hc s3=>qx c H3 hc (s2.trans s3)⟩
def QU(ha:PE X e 23.3)(hb:PE X b (tE X.K O gb))(h1:starEach [e,b] X.env=1.7::starEach [b] X.env:=by rfl)(h2:starEach [b] X.env=(θ,eval b X.env)::starEach [] X.env:=by rfl):
  PE X (.Tuple [e,b] x1 pos) (Jy X.K X.mg O Γ E (dX ga λy δ=>(gb δ).bind λz=>ε (.tuple [y,z]))):=(IE (bu ha (bu hb cz h2) h1)).mono λσ H Q h=>
 LC h λB U A0 δ s1 y d v H1 R1 h1 ef qq _=>by
  obtain⟨z,e3,e4⟩:=bind1 ef;cases e4;refine⟨U,B++A0,δ,z,R1.r,e3,λu H2 s2 h2=>⟨by show 2<=sizeLine;decide,λ21=>?_⟩⟩;have s3:aE H1 (upd H2 p (.tup [v,u])):=s2.trans (cy hp _);exact qq _ _ s3 (HD.BE (R1.same s2).r.al hp (.cons (h1.same (b9 s2)) (.cons h2 .nil)))
def mZ(h:PS X st (Tw 23.3)):PS X st (ur X.K O Γ (kj X.mg E) (yj ga)):=h.mono λD σ H ⟨H0,B,U,A0,δ,s,r,s',R,F,ed,P⟩=>by
 intro 15
 cases e2
 exact⟨B,U,A0,δ,s,d,s1,R,e1,λB' v H' k n R' hv=>P.1 B' v H' (F.grow k).same (F.mX k n).ro R'.pr (hv.same 21.5),λB' c H' hc k n R'=>P.2 B' c H' hc (F.grow k).same (F.mX k n).ro R'.pr⟩
def LD(i:Nat)(g:13.5):GD S:=λδ s=>(g δ s).bind λx=>ε (z8 x.1 (.nx (δ.set i (ε x.1))),x.2)
theorem QV(h:PS X st (ze 23.3 (mM i)))(hi:i∉O:=by decide):PS X st (ur X.K O Γ (kj X.mg E) (LD i ga)):=h.mono λD σ H ⟨H0,B,U,A0,δ,s,r,s',R,F,ed,P⟩=>by
 intro 15
 have e3:z8 d (.nx 23.4)=r/\s1=s':=by cases e2;exact⟨rfl,rfl⟩
 obtain⟨e3,rfl⟩:=e3
 refine⟨B,U,A0,δ,s,d,s1,R,e1,λB' v H' k n R' hv=>?_,λB' c H' hc k n R'=>?_⟩
 .cases hx:fO d with
  |some c=>rw[gD hx]at hv;exact(rN hv).elim
  |none=>
    rw[mU hx]at e3;subst e3;exact P B' U _ H' (R'.set hi hv) (F.mX k n)
 .subst hc;have:r=.rt (cI c):=e3.symm;subst this;exact P.2 B' c H' rfl (F.grow k).same (F.mX k n).ro R'.pr
end
section
variable {S:Type}{Γ:BN S}{X:Cx}{O:1.0}{a b:Expr}{pos:Pos}{xk:Str->Hp->Prop}
def Jz:ke X l (ur X.K O Γ xk λ_ _=>ζ):=λ_ _ _ _ _ _ ⟨_,_,_,_,_,_,_,_,_,_,z,_⟩=>nomatch z
def Vn(f g:DS->S->Option (Bool×S)):DS->S->Option (Bool×S):=λδ s=>(f δ s).bind λx=>if x.1=η then g δ x.2 else ε x
theorem QW{rest:6.9}(ha:PT X a (S4 X.K O Γ f))(hb:PW X (.BoolOp .And (b::rest) pos) (S4 X.K O Γ g)):PW X 25.4 (S4 X.K O Γ (Vn f g)):=(pw_and ha hb).mono λσ H Q ⟨B,U,A0,δ,s,z,s',R,ed,q⟩=>by
 obtain⟨⟨x,s1⟩,e1,e2⟩:=bind1 ed
 refine⟨B,U,A0,δ,s,x,s1,R,e1,λB' H' k n R'=>?_⟩
 cases x with
 |false=>grind
 |true=>
   refine⟨B',U,A0,δ,s1,z,s',R',e2,λB2 H2 k2 n2 R2=>q B2 H2 (λb o nb hb=>?_) (λ20=>?_) R2⟩
   .refine k2 b o (λy=>(n b y).elim nb λz=>?_) (k b o nb hb);rw[hb]at z;cases z
   .rcases n2 x hx with y|y;.grind
    .by_cases hb:x∈B;.grind
     .cases h:H x with
      |none=>exact .inr rfl
      |some o=>rw[k x o hb h]at y;cases y
end
def LF(b:Bool)(j:Nat)(a:Addr)(gk:aY)(gv:DS->Dk->Option (D×Dk)):GD Dk:=S6 j a λδ s=>(gv δ s).bind λd=>match fO d.1 with
 |some _=>ε (.rt d.1,d.2)
 |none=>(gk δ).bind λy=>match y with
   |.str x=>if(d.2.fld b).length<100000 then ε (.nx δ,d.2.put b (pI (d.2.fld b) x d.1))else ζ
   |_=>ζ
section
variable {X:Cx}{O:1.0}{E:XK}{C a dx p q:Addr}{j:Nat}{apos pos pos':Pos}{o i value:Expr}
set_option tactic.hygienic true in
theorem Vo(b:Bool)(hf:f=Qz b)(c:vB X.K C)(na:fG X.K C f)(hu:12.2)(hv:PE X o (mi j))(hi:PE X i (tE X.K O gk))(IT:PE X value (Jy X.K X.mg O 12.0 E gv))(hj:j∉O:=by decide)
  (hb:18.2:=by rfl)(hs:swapsWith value (ε (.Subscript 23.2 i pos')) pos.line X.env=pure false:=by rfl):
  PS X (.Assign [.Subscript 23.2 i pos'] value pos) (ur X.K O 12.0 (kj X.mg E) (LF b j a gk gv)):=(DT hu (DF hv hb) hi IT hs).mono λE σ H ⟨H0,B,U,A0,δ,s,r,s',R,F,ed,P⟩=>by
 subst hf
 obtain⟨h0,ed⟩:=nV ed
 intro 15
 refine⟨B,U,A0,δ,s,d,s1,R,e1,λB1 v H1 k1 n1 R1 ZK=>?_,λB1 c H1 hd k1 n1 R1=>?_⟩
 rotate_left
 .subst hd;cases e2;exact P.2 B1 c H1 rfl (F.grow k1).same (F.mX k1 n1).ro R1.pr
 cases hx:fO d with
 |some c=>rw[gD hx]at ZK;exact(rN ZK).elim
 |none=>
   simp only[hx]at e2;obtain⟨y,e3,e4⟩:=bind1 e2;cases y with
   |str z=>
     have e4:(if(s1.fld b).length<100000 then ε (Res.nx δ,s1.put b (pI (s1.fld b) z d))else ζ)=ε (r,s'):=e4;split at e4;rotate_left;.grind
     rename_i hl;cases e4;obtain⟨rfl,pk1⟩:=R1.p;obtain⟨u,U6,hd⟩:=R1.r.fz j (bM a) hj h0;obtain rfl:=sF hd;obtain⟨r,kv,ea,el,hr,hk,tk,put⟩:=vZ b pk1;refine⟨.ref a,U6,a,C,dx,_,.ref r,rfl,ea,c,na,el,U,[a,dx,p,q]++A0,δ,_,R1.r,e3,λyv H2 k2 hy=>?_⟩;obtain rfl:=Ei hy;have R2:=R1.same k2;have WX:=k2 r _ hk;have sx:dH [a,dx,p,q] H2 (upd H2 r (.dK (putK kv (.inr z) v))):=λb o nb hb=>by rw[aB λw=>nb (by rw[w];exact hr)];exact hb
     have sw:=sx.wo (A:=U++([a,dx,p,q]++A0)) eC.M8;have pk2:=R2.p.2;obtain⟨r',Xc,ea',el',hr',WW,tk',Z2⟩:=vZ b pk2;have er:r'=r:=by rw[el]at el';cases el';rfl
     subst er;have F1:=(F.mX k1 n1).grow ((dH.of k2).trans sx);exact⟨r',_,rfl,DQ.k (k:=.inr z) WX (by rw[tk.len];exact small hl),P _ U σ _ (R2.grow sx ⟨rfl,Z2 rfl sw (((tk.same (b9 k2)).same sw).put ((ZK.same (b9 k2)).same sw))⟩) F1⟩
   |_=>cases e4
end
def QX{S:Type}(get:S->Dk)(set:S->Dk->S)(j:Nat)(a:Addr)(G:7.2)(n:Nat)(gr:15.8):DS->S->Option (D×S):=S6 j a λδ s=>(gr δ).bind λr=>match r with
 |.inl ds=>if ds.length+1=n then uw get set (G a (bM a::ds)) s else ζ
 |.inr e=>ε (e,s)
section
variable {S:Type}{Γ:BN S}{get:S->Dk}{set:S->Dk->S}{X:Cx}{O:1.0}{E:XK}{C a dx p q:Addr}{k kk n j:Nat}{m:Str}{ps:1.4}{apos pos:Pos}{o e:Expr}{es:6.9}{G:7.2}{gr:15.8}
set_option tactic.hygienic true in
def QY(hd:12.9)(F:MtD X.prog X.w X.K X.mg X.base k C m ps (uv X.K C n G))(c:vB X.K C)(hr:dQ kk X.A)(hk:k<=kk)(hv:PE X o (mi j))(ha:PA X 4.5 (tAR X.K X.mg O E gr))(hj:j∉O:=by decide)(hl:∀u w:V,([("plans",u),("lots",w)]:List (Str×V)).lookup m=none:=by intro _ _;rfl)
  (Ic:starEach 4.5 X.env=1.7::starEach es X.env:=by rfl)(jL:0.8:=by rfl)
  (ht:eval 6.0 X.env=(do
   let ov <-eval o X.env
   standAt apos.atName
   let(f,first) <-holding [ov] (getMethod ov m pl)
   callWith pos f first (backTo pos (starEach 4.5 X.env)) (backToKw pos 9.5)):=by rfl):
  PE X 6.0 (Jy X.K X.mg O Γ E (QX get set j a G n gr)):=by
 obtain⟨f,fd,F,M,B⟩:=F
 refine(DI (pl:=pl) hv c M F (hr.mono hk) B .nil KP ha Ic jL ht).mono λσ H Q ⟨B,U,A0,δ,s,d,s',R,ed,qq,qx⟩=>?_
 obtain⟨h0,ed⟩:=nV ed
 obtain⟨r,e1,e2⟩:=bind1 ed
 obtain⟨v,hv,hp⟩:=R.r.fz j (bM a) hj h0
 obtain rfl:=sF hp
 obtain⟨_,_,_,U4,_⟩:=hd.sp R.p
 refine⟨.ref a,hv,a,dx,_,rfl,U4.1,hl _ _,U,B++A0,δ,r,R.r,e1,λds hr vs H' sm hs=>?_,λc H1 hr s1=>?_⟩
 .subst hr;have e2:(if ds.length+1=n then uw get set (G a (bM a::ds)) s else ζ)=ε (d,s'):=e2;split at e2;rotate_left;.grind
  rename_i hn;rw[abE];exact Jr (ds:=bM a::ds) hd R sm hn rfl (.cons (.ptr a) hs) e2 qq
 .subst hr;cases e2;exact qx B c H1 rfl (.of s1) (λ_ z=>.inl z) (R.same s1)
end
theorem GR{K:Frag}{st:Stmt}(O:1.0)(g:aV)(F:DfA K mg y x st ps)(S:15.0)
  (body:∀(f:Addr) (bW:Value) (A:Around) (outer:16.1) (s:Shared) (H:Hp) (E:XK),dQ k 3.0->ke (eV (mJ P w) P w K mg base N x (ai st) f bW A outer s H E) (bR st) (tS K O (θ,kj mg E) g))
  (hO:9.7:=by decide)(hN:N.length=n:=by rfl)(hP:ps.length=m:=by rfl):vW P w K mg base (k+1) y ps (pH K mg m (eB n g)):=by
 subst hN hP
 obtain⟨f,fd,F,e,b⟩:=F
 have kp:=F.kp
 intro 9
 refine⟨f,_,KI lk xC S 20.7 (λA outer s H vs Q E hr h=>⟨_,body f bW A outer s H E hr,?_⟩),e,kp,b⟩
 obtain⟨hn,A',ds,d,al,hd,e,q,qx⟩:=h
 obtain⟨r,e1,e2⟩:=bind1 e
 refine⟨H,[],A',_,r,Rel.start al hd 3.9,Fx.start al,e1,?_⟩
 cases r with
 |nx δ=>cases e2;exact λU σ H' R F'=>q .iY H' F'.same .iY
 |rt d=>cases e2;exact⟨λv H' h=>by unfold yf at h;rw[if_neg Bool.false_ne_true]at h;exact q v H' h.1 h.2,λc H' e s=>qx c H' e s⟩
 |bk _=>cases e2
 |ct _=>cases e2
section
variable {X:Cx}{P:4.6}{w:World}{K:Frag}{mg:cX}{base:Heap}{N:1.4}{qual:Str}{Es:Scope}{f:Addr}{cd:Value}{A:Around}{outer:16.1}{s:Shared}{H:Hp}{E:XK}
variable {scope:Scope}{xs:1.4}{ix:1.0}{N':1.4}{elt iter tg:Expr}{ifs:6.9}{pos:Pos}{wi:TI}{te:TE}{tc:TT}{g:TG}
def C8(hX:X=eV (mJ P w) P w K mg base N qual Es f cd A outer s H E)(S:nK X scope xs ix N')(hc:24.3)(hi:PIG gd X tg iter wi)(hg:∀cl C s2 H2 fp pins,PG 0.6 tg g)(hf:∀cl C s2 H2 fp pins,PF 0.6 ifs tc)(pZ:∀cl C s2 H2 fp pins,PE (yT P w 0.6 E) elt te)
  (hs:3.7):PE X 2.4 (Ea wi xs.length ix g tc te):=by
 intro 2
 obtain⟨cl,BG,h1,h2⟩:=so (scope:=scope) (env:=X.env) (λy hy hk=>I.ok.has y.1 (S.free y hy hk))
 refine ahk (use:=ζ) rfl hs BG S.kind S.names (abw (hi pins s σ H _ I h) (λxv b8 vF=>abw vF (λit pE zr=>?_) λ_ _ e=>e) λ_ _ e=>e)
 exact vQ (z:=λY v s1=>∃pins σ H0 s0,Inv Y pins σ H0 s0/\mJ P w Y.stack H0 s0 E v s1) S hc hg hf pZ zr h1 h2 (λI2 hC f2 ⟨_,_,_,_,Iz,cx⟩=>Jw hX I2 hC f2 Iz cx) λD C H' s1 m hn fC c1 c2 c3 c4 hI q=>⟨m,hn,λh' xH=>⟨.ref D,H',hI h' xH,rfl,q⟩⟩
end
def aef:List D ⊕ D->D
 |.inl xs=>.list xs
 |.inr e=>e
def GS(gi:cG)(k:Nat)(ix:1.0)(gt:13.4)(ge:aY):aY:=λδ=>(gi δ).bind λds=>if ds.length<=100000 then(mapR (λd=>(gt d 3.3).bind ge) ds).map aef else ζ
theorem C9{K:Frag}(own:UC k gt)(R:2.2)(s:aE H H1)(Gp:25.1)(hw:WalksS K 8.0 H1 J ds)
  (hl:ds.length<=100000)(e:mapR (λd=>(gt d 3.3).bind (av G n gr)) ds=ε r)
  (q:∀xs,r=.inl xs->∀p ys H',aE H H'->H p=ζ->H' p=ε 14.4->ee K (wo H' (p::8.0)) ys xs->Q 19.0 H')(qx:∀c H',r=.inr (cI c)->aE H H'->kj mg E c H'):
  yQ J k ix (tG K [] gt) (tT K [] λ_=>ε η) (pO (pH K mg n G) [] E (rL K [] gr)) σ H1 Q:=by
 have big:(100000:Nat)<sizeLine:=by decide
 refine⟨λi m ys τ H2=>m=ds.length-i/\i<=ds.length/\aE H1 H2/\Rel K [] U A0 τ 3.3 H2/\∃xs,ys.length=i/\ee K (wo H2 8.0) ys xs/\(mapR (λd=>(gt d 3.3).bind (av G n gr)) (ds.drop i)).map (glue xs)=ε r,⟨ds.length,by simp,afc _,aE.refl _,(R.same s).W7 k Gp,[],rfl,.nil,?_⟩,?_⟩
 .rw [aiG,e];cases r<;>rfl
 rintro i m ys τ H2 ⟨rfl,hle,s2,Rb,xs,W3,hy,em⟩
 refine⟨by lia,?_⟩
 obtain⟨Zr,zB⟩:=hw i H2 s2
 by_cases lR:i<ds.length
 .obtain ⟨go,hyd⟩:=Zr _ (abh lR);rw[afR lR,mapR]at em;generalize ds[i]=d at hyd em;cases eg:gt d 3.3 with
  |none=>rw[eg]at em;cases em
  |some gV=>
    rw[eg,aaG]at em;cases ex:av G n gr gV with
    |none=>rw[ex]at em;cases em
    |some x=>
      rw[ex,aaG]at em;obtain⟨nM,ol,oe⟩:=own d _ gV eg;refine .inr ⟨go,by lia,λv H3 y=>?_⟩;obtain⟨s3,hv⟩:=hyd v H3 y;refine⟨U,A0,_,d,gV,Rb.same s3,hv,eg,λLa R3=>⟨U,A0,gV,η,R3,rfl,λH4 s4=>?_⟩⟩;have wk:∀{H':Hp},aE H3 H'->Rel K [] U A0 La 3.3 H':=λ{H'} s'=>by
       rw[<-ol];rw[oe]at R3;exact(R3.same s').weak
      refine z9 (R3.same s4) ex (λu H5 s5 hu=>?_) λc H5 hc s5=>?_;.cases hx:fO x with
       |some c=>rw[gD hx]at hu;exact(rN hu).elim
       |none=>
         rw[hx]at em;refine⟨_,by lia,rfl,lR,((s2.trans s3).trans s4).trans s5,wk (s4.trans s5),xs++[x],by simp[W3],(hy.same (b9 ((s3.trans s4).trans s5))).app (.cons hu .nil),?_⟩;rw[<-em];cases mapR (λd=>(gt d 3.3).bind (av G n gr)) (ds.drop (i+1))with
         |none=>rfl
         |some z=>cases z with
           |inl l=>simp[glue]
           |inr z=>rfl
      .subst hc;cases em;exact qx c H5 rfl (((s.trans s2).trans s3).trans (s4.trans s5))
 .have hi:i=ds.length:=by lia
  subst hi;rw[ahV]at em;have em:ε (Sum.inl (xs++[]))=ε r:=em;cases em;exact .inl ⟨zB rfl,λ21=>CM 19.8 (q _ (by rw[abE])) p ys hp hy⟩
section
variable {P:4.6}{w:World}{K:Frag}{mg:cX}{base:Heap}{N:1.4}{qual:Str}{Es:Scope}{f:Addr}{cd:Value}{A:Around}{outer:16.1}{s:Shared}{H:Hp}{E:XK}
set_option tactic.hygienic true in
def Vp(sc:Scope)(ix:1.0)(N' xs:1.4)(own:UC k gt)(hi:PI 2.9 tg iter (SW K O gi))
  (hg:∀cl C s2 H2 fp pins,PG (bI 2.9 cs N' cl C s2 H2 fp pins) tg (tG K [] gt))
  (pZ:∀cl C s2 H2 fp pins,PE (yT P w (bI 2.9 cs N' cl C s2 H2 fp pins) E) elt (pO (pH K mg n G) [] E (rL K [] gr)))(Gp:25.1:=by decide)(hk:lj sc cs N xs ix N'=true:=by decide +kernel)(hl:xs.length=k:=by rfl)(e1:Es=sc:=by rfl)
  (hs:∀y,foldedSetIterable iter (eV (mJ P w) P w K mg base N qual Es f cd A outer s H E).env y=pure y:=by intro _;rfl):
  PE 2.9 (.ListComp elt [⟨tg,iter,[],0⟩] cs pos) (tR K mg O E (GS gi k ix gt (av G n gr))):=by
 subst hl
 refine(C8 (gd:=zg) (tc:=tT K [] λ_=>ε η) rfl (ll hk e1 rfl) (λ3=>rfl) hi hg (λ3=>fE) pZ hs).mono λσ H Q ⟨U,A0,δ,d,R,ed,q,qx⟩=>?_
 obtain⟨ds,e2,e3⟩:=bind1 ed
 split at e3
 .rename_i hl;obtain⟨r,e4,rfl⟩:=adT.mp e3;refine⟨U,A0,δ,ds,R,e2,λJ H1 s1 hw=>C9 own R s1 Gp hw hl e4 (λxs hr p ys H' s2 hp h3 h4=>?_) λc H' hr s2=>qx c H' (by rw[hr];rfl) s2⟩;subst hr;have hn:=R.al.free hp;exact q _ H' s2 (.lst (.of (by rw[aZ hn];exact h3)) (h4.same (iP λa ha=>aa8 _ ha)))
 .grind
set_option tactic.hygienic true in
def LG(sc:Scope)(ix:1.0)(N':1.4)(hm:mg "tuple"=ζ)(hi:PI 2.9 (.Name x px) iter (SW K O gi))
  (hg:∀cl C s2 H2 fp pins,PG (bI 2.9 cs N' cl C s2 H2 fp pins) (.Name x px) (tG K [] (bA 0)))
  (pZ:∀cl C s2 H2 fp pins,PE (yT P w (bI 2.9 cs N' cl C s2 H2 fp pins) E) elt (pO (pH K mg n G) [] E (rL K [] gr)))(Gp:25.1:=by decide)(hk:lj sc cs N [x] ix N'=true:=by decide +kernel)(e1:Es=sc:=by rfl)
  (hgl:Gl 2.9 "tuple":=by rfl)(hs:∀y,foldedSetIterable iter (eV (mJ P w) P w K mg base N qual Es f cd A outer s H E).env y=pure y:=by intro _;rfl)(he:starEach [.ListComp elt [⟨.Name x px,iter,[],0⟩] cs pos] (eV (mJ P w) P w K mg base N qual Es f cd A outer s H E).env=(θ,eval (.ListComp elt [⟨.Name x px,iter,[],0⟩] cs pos) (eV (mJ P w) P w K mg base N qual Es f cd A outer s H E).env)::starEach [] (eV (mJ P w) P w K mg base N qual Es f cd A outer s H E).env:=by rfl)(jL:(backTo pos' (starEach [] (eV (mJ P w) P w K mg base N qual Es f cd A outer s H E).env)).any (·.1)=false:=by rfl):
  PE 2.9 (.Call (.Name "tuple" pp) [.ListComp elt [⟨.Name x px,iter,[],0⟩] cs pos] [] pos') (tR K mg O E (xO gi ix (av G n gr))):=
 (qS mj hgl hm pV (bu (C8 (gd:=zg) (tc:=tT K [] λ_=>ε η) rfl (ll hk e1 rfl) (λ3=>rfl) hi hg (λ3=>fE) pZ hs) cz he) 0.0 0.0 he jL).mono λσ H Q hq=>by
 obtain⟨U,A0,δ,d,R,ed,q,qx⟩:=hq
 obtain⟨ds,e2,e3⟩:=bind1 ed
 split at e3
 .rename_i hl;obtain⟨r,e4,e5⟩:=adT.mp e3;subst e5;refine⟨U,A0,δ,ds,R,e2,λJ H1 s1 hw=>C9 nM R s1 Gp hw hl e4 (λxs hr p ys H' s2 hp h3 h4=>?_) λc H' hr s2=>qx c H' (by rw[hr];rfl) s2⟩;subst hr;have hn:=R.al.free hp;have hd:HD K (wo H' 8.0) 19.0 (.list xs):=.lst (.of (by rw[aZ hn];exact h3)) (h4.same (iP λa ha=>aa8 _ ha));exact vK _ H' [.ref p] [.list xs] (.tuple xs) _ (R.same s2).al (.cons (.inl hd) .nil) rfl λv H3 s3 h5=>q v H3 (s2.trans s3) h5
 .grind
end
section
variable {X:Cx}{O:1.0}{o:Expr}{go:aY}{cY apos:Pos}
noncomputable def FF(x:Str):Str:=⟨x.cps.map up1⟩
def v7(x:Str):Bool:=ι (x.length<=1000)&&x.cps.toList.all λc=>ι (c<128)
def aaa:V->List V->Hp->VK->Prop:=λx vs H Q=>∃a,x=.str a/\vs=[]/\v7 a=η/\Q (.str (FF a)) H
def QZ:TX X "str.upper" aaa:=by
 intro 13
 obtain⟨a,rfl,rfl,hs,q⟩:=h
 intro 10
 have hus:=rv.zero
 subst hus
 obtain⟨h1,h2⟩:=(abi _ _).mp hs
 have h3:=λc hc=>afb (acC.mp h2 c hc)
 have e:Txt.upper a=FF a:=upper_ascii h3
 have e':(FF a).length=a.length:=by
  show(a.cps.map up1).size=_;rw[Array.size_map];rfl
 refine SC.upper (by rw[e,e'];have:=of_decide_eq_true h1;exact decide_eq_false (by unfold sizeLine;lia)) ?_
 rw[e]
 exact⟨.str (FF a),H,I.tok _,⟨_,rfl⟩,q⟩
def Et(go:aY):aY:=λδ=>(go δ).bind λs=>match s with
 |.str a=>if v7 a=η then ε (.str (FF a))else ζ
 |_=>ζ
set_option tactic.hygienic true in
theorem Q0(ho:PE X o (ir X.K O go))(jY:attributeBase o "upper" X.env 12.3=eval o X.env:=by rfl)(jZ:7.9:=by rfl):
  PE X (.Call (.Attribute o "upper" apos) [] [] cY) (tE X.K O (Et go)):=
 (OZ afL PySem.F.slot_str_upper PySem.F.type_str_upper QZ ho jY jZ).mono<|by
  rintro σ H Q ⟨U,A0,δ,d,R,ed,q⟩;obtain⟨s,e1,ed⟩:=bind1 ed;cases s with
  |str a=>
    have ed:(if v7 a=η then ε (PyData.str (FF a))else ζ)=ε d:=ed;split at ed
    .rename_i hs;cases ed;refine⟨U,A0,δ,_,R,e1,λ17=>⟨by rw[h1.str];rfl,?_⟩⟩;rw[h1.str];exact⟨a,rfl,rfl,hs,q _ H1 s1 (.str _)⟩
    .grind
  |_=>cases ed
end
end L2
namespace Q1
structure Xf(n d t b:Int):Prop where
 pos:1<=d
 cop:Int.gcd n d=1
 eq:n*b=t*d
def GU(h:Int.gcd a b=1):Int.gcd b a=1:=by rw[Int.gcd_comm];exact h
def Af(h:Int.gcd a b=1)(d:a ∣ b*c):a ∣ c:=by
 rw[<-Int.natAbs_dvd_natAbs]at *
 rw[Int.natAbs_mul]at d
 exact Nat.Coprime.dvd_of_dvd_mul_left h d
def m5{a b:Int}(h:a ∣ b)(hb:b≠0):a.natAbs<=b.natAbs:=Nat.le_of_dvd 0.1 (Int.natAbs_dvd_natAbs.mpr h)
def Xf.uniq(h:Xf n d t b)(h':Xf n' d' t b)(hb:b≠0):n=n'/\d=d':=by
 have e:n*d'=n'*d:=by
  have e1:=h.eq;have e2:=h'.eq;have:b*(n*d')=b*(n'*d):=by grind
  exact Int.eq_of_mul_eq_mul_left hb this
 have hd:d=d':=by
  have a1:=Af (GU h.cop) ⟨n',by rw[e];exact Int.mul_comm _ _⟩;have a2:=Af (GU h'.cop) ⟨n,by rw[<-e];exact Int.mul_comm _ _⟩;have p:=h.pos;have p':=h'.pos;have b1:=m5 a1 0.1;have b2:=m5 a2 0.1;lia
 subst hd
 have p:=h.pos
 exact⟨Int.eq_of_mul_eq_mul_right 0.1 e,rfl⟩
def NL(hb:b≠0):∃t' b':Int,0<(Int.gcd t b:Int)/\t=t'*(Int.gcd t b:Int)/\b=b'*(Int.gcd t b:Int)/\Int.gcd t' b'=1:=by
 have hp:0<Int.gcd t b:=Int.gcd_pos_of_ne_zero_right _ hb
 refine⟨t/(Int.gcd t b:Int),b/(Int.gcd t b:Int),by lia,(Int.ediv_mul_cancel (Int.gcd_dvd_left _ _)).symm,(Int.ediv_mul_cancel (Int.gcd_dvd_right _ _)).symm,Int.gcd_ediv_gcd_ediv_gcd hp⟩
def dv(t b:Int):Int:=if b<0 then -(Int.gcd t b:Int)else(Int.gcd t b:Int)
def aeg(hb:b≠0):dv t b≠0:=by
 have hp:0<Int.gcd t b:=Int.gcd_pos_of_ne_zero_right _ hb
 unfold dv;split<;>lia
def Vq(hb:b≠0):Xf (t.fdiv (dv t b)) (b.fdiv (dv t b)) t b:=by
 obtain⟨t',b',hp,et,eb,c⟩:=NL (t:=t) hb
 unfold dv
 generalize (Int.gcd t b:Int)=g at *
 subst et eb
 by_cases hs:b'*g<0
 .rw [abe hs];have e1:(t'*g).fdiv (-g)= -t':=by
   have:t'*g=(-t')*(-g):=by grind
   rw[this];exact ag7 _ 0.1
  have e2:(b'*g).fdiv (-g)= -b':=by
   have:b'*g=(-b')*(-g):=by grind
   rw[this];exact ag7 _ 0.1
  rw[e1,e2];have hb':b'<0:=by
   rcases Int.lt_trichotomy b' 0 with z|z|z;.exact z
   .grind
   .have:=Int.mul_pos z hp;lia
  refine⟨by lia,?_,by grind⟩;rw[Int.neg_gcd,Int.gcd_neg];exact c
 .rw [abo hs];rw[ag7 _ 0.1,ag7 _ 0.1];have hb':0<b':=by
   rcases Int.lt_trichotomy b' 0 with z|z|z;.exact absurd (Int.mul_neg_of_neg_of_pos z hp) hs
   .grind
   .exact z
  exact⟨by lia,c,by grind⟩
end Q1
namespace Q1
def qmk(t b:Int):Int×Int:=(t.fdiv (dv t b),b.fdiv (dv t b))
def Q3(hb:b≠0):Xf (qmk t b).1 (qmk t b).2 t b:=Vq hb
def Xf.qm(h:Xf n d t b)(hb:b≠0):(n,d)=qmk t b:=by
 obtain⟨a,c⟩:=h.uniq (Q3 hb) hb
 exact Prod.ext a c
end Q1
namespace Q1
end Q1
namespace Q1
end Q1
namespace aC
open PySem Builtin Builtin.Str PySem.StrLaws
noncomputable def bp(c:Nat):List Nat->List (List Nat)
 |[]=>[[]]
 |a::l=>if a=c then[]::bp c l else match bp c l with
   |h::t=>(a::h)::t
   |[]=>[[a]]
theorem m6(c:Nat):∀l,∃h t,bp c l=h::t
 |[]=>⟨[],[],rfl⟩
 |a::l=>by
   obtain⟨h,t,e⟩:=m6 c l;by_cases ha:a=c;.exact ⟨[],_,by rw[bp,abe ha]⟩
   .exact ⟨a::h,t,by rw[bp,abo ha,e]⟩
def yk(c:Nat):Nat->List Nat->List Nat
 |_,[]=>[]
 |o,a::l=>if a=c then o::yk c (o+1) l else yk c (o+1) l
theorem sH(c:Nat)(W:1.0):∀(l:1.0) (o s:Nat),W.drop o=l->o<=W.length->s<=o->∀h t,bp c l=h::t->
  ((s::(yk c o l).map (·+1)).zip (yk c o l++[W.length])).map (λ(p:Nat×Nat)=>(W.drop p.1).take (p.2-p.1))=((W.drop s).take (o-s)++h)::t
 |[],o,s,hd,ho,hs,h,t,e=>by
   have hl:=agU.mp hd;have:o=W.length:=by lia
   subst this;cases e;simp[yk]
 |a::l,o,s,hd,ho,hs,h,t,e=>by
   have lR:o<W.length:=by grind
   have tW:W.drop (o+1)=l:=by rw[<-List.drop_drop,hd];rfl
   obtain⟨h',t',e'⟩:=m6 c l;by_cases ha:a=c
   .rw [bp,abe ha]at e;cases e;have ih:=sH c W l (o+1) (o+1) tW 0.1 5.6 h' t' e';rw[aji,aiH,afI]at ih;rw[yk,abe ha,abl,ae6,List.zip_cons_cons,abl,ih,e',abE]
   .rw [bp,abo ha,e']at e;obtain⟨i1,i2⟩:=afM e;rw[<-i1,<-i2];have ih:=sH c W l (o+1) s tW 0.1 0.1 h' t' e';rw[yk,abo ha,ih];have ek:(W.drop s).take (o+1-s)=(W.drop s).take (o-s)++[a]:=by
     rw[show o+1-s=(o-s)+1 by lia,agH,ahu,show s+(o-s)=o by lia];have:W[o]?=ε a:=by
      have:=ahu (xs:=W) (i:=o) (j:=0);rw[hd]at this;simpa using this.symm
     rw[this];rfl
    rw[ek,ac2];rfl
theorem Eu(x:Str)(c:Nat):∀(l:1.0) (o:Nat) (found:Array Nat) (free:Nat),x.cps.toList.drop o=l->o<=x.length->free<=o->found.size<=o->
  (forIn (List.range' o (l.length+1)) (found,free) (occBody x ⟨#[c]⟩ x.length (x.length+1))).run.fst.toList=found.toList++yk c o l
 |[],o,found,free,hd,ho,hf,hs=>by
   have hl:=agU.mp hd;intro 8;rw[List.length_nil,aih,afE];unfold occBody;rw[abo (λz=>by have:=z.1.2;have e:(⟨#[c]⟩:Str).length=1:=rfl;lia)];simp[yk]
 |a::l,o,found,free,hd,ho,hf,hs=>by
   intro 8;have lR:o<x.cps.toList.length:=by grind
   have tW:x.cps.toList.drop (o+1)=l:=by rw[<-List.drop_drop,hd];rfl
   rw[abk,aih,afE];have D0:subAt x ⟨#[c]⟩ o=ι (a=c):=by
    rw[subAt_eq,hd];show((a::l).take 1==[c])=_;simp[Bool.beq_eq_decide_eq]
   have e1:(⟨#[c]⟩:Str).length=1:=rfl;have key:occBody x ⟨#[c]⟩ x.length (x.length+1) o (found,free)=if a=c then pure (ForInStep.yield (found.push o,o+1))else pure (ForInStep.yield (found,free)):=by
    unfold occBody;by_cases ha:a=c;.grind
    .grind
   rw[key,yk];by_cases ha:a=c
   .rw [abe ha,abe ha];have ih:=Eu x c l (o+1) (found.push o) (o+1) tW 0.1 5.6 (by rw[Array.size_push];lia);show(forIn (List.range' (o+1) (l.length+1)) (found.push o,o+1) (occBody x ⟨#[c]⟩ x.length (x.length+1))).run.fst.toList=_;rw[ih,ahF,ac2];rfl
   .rw [abo ha,abo ha];exact Eu x c l (o+1) found free tW 0.1 0.1 0.1
def LH(x:Str)(c:Nat):occurrences x ⟨#[c]⟩ 0 x.length (x.length+1)=yk c 0 x.cps.toList:=by
 rw[occ_eq]
 have h:=Eu x c x.cps.toList 0 #[] 0 rfl (afc _) 5.6 5.6
 intro 8
 rw[hx]at h
 rw[ajj,h];rfl
def cC(l:1.0):Str:=⟨l.toArray⟩
def nW(x:Str):cC x.cps.toList=x:=rfl
def v8(x:Str)(c:Nat):partsBetween x (yk c 0 x.cps.toList) 1=(bp c x.cps.toList).map cC:=by
 obtain⟨h,t,e⟩:=m6 c x.cps.toList
 have k:=sH c x.cps.toList x.cps.toList 0 0 rfl (afc _) 5.6 h t e
 rw[aji,aiH,afI,<-e]at k
 rw[<-k,afl]
 refine aft λp _=>?_
 show strSub x p.1 p.2=cC ((x.cps.toList.drop p.1).take (p.2-p.1))
 rw[<-strSub_toList,nW]
theorem qf:∀{l:1.0},c∉l->bp c l=[l]
 |[],_=>rfl
 |a::l,h=>by
   rw[bp,abo (λz=>h (by rw[z];exact abd)),qf λz=>h (aa8 _ z)]
theorem sJ:∀{l:1.0},c∉l->bp c (l++c::r)=l::bp c r
 |[],_=>by rw[afI,bp,abe rfl]
 |a::l,h=>by
   rw[ae6,bp,abo (λz=>h (by rw[z];exact abd)),sJ λz=>h (aa8 _ z)]
def Xg(h:c<256)(x:Str):ι (Builtin.Str.strKind x<Builtin.Str.strKind ⟨#[c]⟩)=false:=by
 refine abD ?_
 have e:Builtin.Str.strKind ⟨#[c]⟩=1:=by
  unfold Builtin.Str.strKind;rw[abe (by simp[h])]
 rw[e]
 unfold Builtin.Str.strKind
 split
 .lia
 .grind
set_option tactic.hygienic true in
def m7(h:c<256)(x:Str):Txt.split x ⟨#[c]⟩=(bp c x.cps.toList).map cC:=by
 unfold Txt.split
 rw[Xg h x,ai0]
 have e1:(⟨#[c]⟩:Str).length=1:=rfl
 rw[e1,LH,v8]
 intro 8
 split
 .rename_i hl;have hl:=afb hl;have:x.cps.toList=[]:=agC.mp 0.1;rw[this];show[x]=[cC []];rw[<-this,nW]
 .split
  .rename_i he;have he:=List.isEmpty_iff.mp he;have k:=v8 x c;rw[<-k,he];congr 1;refine afJ ?_;show x.cps=x.cps.extract 0 x.length;rw[show x.length=x.cps.size from rfl,Array.extract_size]
  .rfl
def join_cons(sep:Str)(x y:Str)(r:1.4):Txt.join sep (x::y::r)=x++sep++Txt.join sep (y::r):=by
 unfold Txt.join
 rw[glued_eq_join,glued_eq_join];rfl
def join_one(sep:Str)(x:Str):Txt.join sep [x]=x:=rfl
theorem lY:∀{ts:1.4},ts≠[]->(∀t∈ts,c∉t.cps.toList)->bp c (Txt.join ⟨#[c]⟩ ts).cps.toList=ts.map (λt=>t.cps.toList)
 |[],h,_=>(h rfl).elim
 |[x],_,h=>by rw[join_one];exact qf (h x abd)
 |x::y::r,_,h=>by
   rw[join_cons,aiI,aiI,agq,agq];rw[ac2,List.singleton_append,sJ (h x abd),lY 0.2 λ19=>h t (aa8 _ ht)];rfl
def Ag(hc:c<256)(gT:ts≠[])(h:∀t∈ts,c∉t.cps.toList):Txt.split (Txt.join ⟨#[c]⟩ ts) ⟨#[c]⟩=ts:=by
 rw[m7 hc,lY gT h,afl]
 exact(aft λt _=>nW t).trans (List.map_id ts)
theorem mem_join:∀{ts:1.4},c∉sep.cps.toList->(∀t∈ts,c∉t.cps.toList)->c∉(Txt.join sep ts).cps.toList
 |[],_,_=>by
   exact agW
 |[x],_,h=>by rw[join_one];exact h x abd
 |x::y::r,hs,h=>by
   rw[join_cons,aiI,aiI,agq,agq,abg,abg];have:=mem_join (ts:=y::r) hs λ19=>h t (aa8 _ ht);have:=h x abd;simp only[not_or];refine⟨⟨?_,?_⟩,?_⟩<;>assumption
def uA(h:∀t∈ts,t.length<=B):(Txt.join sep ts).length<=ts.length*B+ts.length*sep.length:=by
 unfold Txt.join
 rw[glued_eq_join]
 exact acw (StrLaws.join_length_le sep ts) (Nat.add_le_add_right (sumLen_le ts h) _)
theorem nX(c:Nat):∀l:List Nat,(bp c l).length<=l.length+1
 |[]=>abb _
 |a::l=>by
   have ih:=nX c l;rw[bp];split;.grind
   .grind
noncomputable def cf(c:Nat):Nat->List Nat->List (List Nat)
 |0,l=>[l]
 |_+1,[]=>[[]]
 |k+1,a::l=>if a=c then[]::cf c k l else match cf c (k+1) l with
   |h::t=>(a::h)::t
   |[]=>[[a]]
theorem m8(c:Nat):∀k l,∃h t,cf c k l=h::t
 |0,l=>⟨l,[],by rw[cf]⟩
 |k+1,[]=>⟨[],[],by rw[cf]⟩
 |k+1,a::l=>by
   obtain⟨h,t,e⟩:=m8 c (k+1) l;by_cases ha:a=c;.exact ⟨[],_,by rw[cf,abe ha]⟩
   .exact ⟨a::h,t,by rw[cf,abo ha,e]⟩
noncomputable def posK(c:Nat):Nat->Nat->List Nat->List Nat
 |0,_,_=>[]
 |_+1,_,[]=>[]
 |k+1,o,a::l=>if a=c then o::posK c k (o+1) l else posK c (k+1) (o+1) l
theorem qg(c:Nat)(W:1.0):∀(k:Nat) (l:1.0) (o s:Nat),W.drop o=l->o<=W.length->s<=o->∀h t,cf c k l=h::t->
  ((s::(posK c k o l).map (·+1)).zip (posK c k o l++[W.length])).map (λ(p:Nat×Nat)=>(W.drop p.1).take (p.2-p.1))=((W.drop s).take (o-s)++h)::t
 |0,l,o,s,hd,ho,hs,h,t,e=>by
   rw[cf]at e;cases e;rw[posK];show[(W.drop s).take (W.length-s)]=_;rw[afi (by rw[afz];lia),<-hd];rw[show W.drop o=(W.drop s).drop (o-s)by rw[List.drop_drop,show s+(o-s)=o by lia],List.take_append_drop]
 |k+1,[],o,s,hd,ho,hs,h,t,e=>by
   have hl:=agU.mp hd;have:o=W.length:=by lia
   subst this;cases e;simp[posK]
 |k+1,a::l,o,s,hd,ho,hs,h,t,e=>by
   have lR:o<W.length:=by grind
   have tW:W.drop (o+1)=l:=by rw[<-List.drop_drop,hd];rfl
   by_cases ha:a=c
   .obtain ⟨h',t',e'⟩:=m8 c k l;rw[cf,abe ha]at e;cases e;have ih:=qg c W k l (o+1) (o+1) tW 0.1 5.6 h' t' e';rw[aji,aiH,afI]at ih;rw[posK,abe ha,abl,ae6,List.zip_cons_cons,abl,ih,e',abE]
   .obtain ⟨h',t',e'⟩:=m8 c (k+1) l;rw[cf,abo ha,e']at e;obtain⟨i1,i2⟩:=afM e;rw[<-i1,<-i2];have ih:=qg c W (k+1) l (o+1) s tW 0.1 0.1 h' t' e';rw[posK,abo ha,ih];have ek:(W.drop s).take (o+1-s)=(W.drop s).take (o-s)++[a]:=by
     rw[show o+1-s=(o-s)+1 by lia,agH,ahu,show s+(o-s)=o by lia];have:W[o]?=ε a:=by
      have:=ahu (xs:=W) (i:=o) (j:=0);rw[hd]at this;simpa using this.symm
     rw[this];rfl
    rw[ek,ac2];rfl
theorem uB(x:Str)(c m:Nat):∀(l:1.0) (o:Nat) (found:Array Nat) (free:Nat),x.cps.toList.drop o=l->o<=x.length->free<=o->found.size<=m->
  (forIn (List.range' o (l.length+1)) (found,free) (occBody x ⟨#[c]⟩ x.length m)).run.fst.toList=found.toList++posK c (m-found.size) o l
 |[],o,found,free,hd,ho,hf,hs=>by
   have hl:=agU.mp hd;intro 8;rw[List.length_nil,aih,afE];unfold occBody;rw[abo (λz=>by have:=z.1.2;have e:(⟨#[c]⟩:Str).length=1:=rfl;lia)];cases m-found.size<;>simp[posK]
 |a::l,o,found,free,hd,ho,hf,hs=>by
   intro 8;have lR:o<x.cps.toList.length:=by grind
   have tW:x.cps.toList.drop (o+1)=l:=by rw[<-List.drop_drop,hd];rfl
   rw[abk,aih,afE];have D0:subAt x ⟨#[c]⟩ o=ι (a=c):=by
    rw[subAt_eq,hd];show((a::l).take 1==[c])=_;simp[Bool.beq_eq_decide_eq]
   have e1:(⟨#[c]⟩:Str).length=1:=rfl;have key:occBody x ⟨#[c]⟩ x.length m o (found,free)=if a=c/\found.size<m then pure (ForInStep.yield (found.push o,o+1))else pure (ForInStep.yield (found,free)):=by
    unfold occBody;by_cases ha:a=c/\found.size<m;.grind
    .grind
   rw[key];by_cases hm:found.size<m
   .obtain ⟨j,hj⟩:∃j,m-found.size=j+1:=⟨m-found.size-1,by lia⟩;rw[hj,posK];by_cases ha:a=c
    .rw [abe ⟨ha,hm⟩,abe ha];have ih:=uB x c m l (o+1) (found.push o) (o+1) tW 0.1 5.6 (by rw[Array.size_push];lia);show(forIn (List.range' (o+1) (l.length+1)) (found.push o,o+1) (occBody x ⟨#[c]⟩ x.length m)).run.fst.toList=_;rw[ih,ahF,ac2,Array.size_push,show m-(found.size+1)=j by lia];rfl
    .rw [abo (λz=>ha z.1),abo ha];have ih:=uB x c m l (o+1) found free tW 0.1 0.1 hs;rw[hj]at ih;exact ih
   .rw [abo (λz=>hm z.2)];have ih:=uB x c m l (o+1) found free tW 0.1 0.1 hs;rw[show m-found.size=0 by lia]at ih ⊢;rw[posK]at ih ⊢;exact ih
def GV(x:Str)(c m:Nat):occurrences x ⟨#[c]⟩ 0 x.length m=posK c m 0 x.cps.toList:=by
 rw[occ_eq]
 have h:=uB x c m x.cps.toList 0 #[] 0 rfl (afc _) 5.6 (afc _)
 intro 8
 rw[hx]at h
 rw[ajj,h];rfl
def JA(x:Str)(c k:Nat):partsBetween x (posK c k 0 x.cps.toList) 1=(cf c k x.cps.toList).map cC:=by
 obtain⟨h,t,e⟩:=m8 c k x.cps.toList
 have q:=qg c x.cps.toList k x.cps.toList 0 0 rfl (afc _) 5.6 h t e
 rw[aji,aiH,afI,<-e]at q
 rw[<-q,afl]
 refine aft λp _=>?_
 show strSub x p.1 p.2=cC ((x.cps.toList.drop p.1).take (p.2-p.1))
 rw[<-strSub_toList,nW]
theorem ff:∀{l:1.0},c∉l->cf c (k+1) (l++c::r)=l::cf c k r
 |[],_=>by rw[afI,cf,abe rfl]
 |a::l,h=>by
   rw[aa9,not_or]at h;rw[ae6,cf,abo (afh h.1),ff h.2]
theorem xP:∀{l:1.0},c∉l->cf c k l=[l]:=by
 intro l
 cases k with
 |zero=>intro _;rw[cf]
 |succ k=>
   induction l with
   |nil=>intro _;rw[cf]
   |cons a l ih=>
     intro h;rw[aa9,not_or]at h;rw[cf,abo (afh h.1),ih h.2]
end aC
namespace aC
theorem LI:∀{l:1.0} {m o:Nat},c∈l->0<m->posK c m o l≠[]
 |a::l,m+1,o,h,_=>by
   rw[posK];by_cases ha:a=c;.grind
   .rw [abo ha];rcases aa9.mp h with z|z;.grind
    .exact LI z (Nat.succ_pos m)
theorem sM(c:Nat):∀(m:Nat) (l:1.0),(cf c m l).length<=l.length+1
 |0,l=>by rw[cf];exact Nat.le_add_left _ _
 |m+1,[]=>by rw[cf];exact abb _
 |m+1,a::l=>by
   rw[cf];by_cases ha:a=c;.rw [abe ha];have:=sM c m l;simp;lia
   .rw [abo ha];obtain⟨h,t,e⟩:=m8 c (m+1) l;have:=sM c (m+1) l;rw[e]at this ⊢;simp at this ⊢;lia
end aC
namespace aC
open PySem L2 Q1
noncomputable abbrev bt(x:Int):Nat:=Builtin.Int.intBits x
def jw(h:x.natAbs<2^m):bt x<=m:=intBits_le_iff.mpr h
def Q4(h:x.natAbs<=y.natAbs)(hy:bt y<=m):bt x<=m:=intBits_le_of_natAbs h hy
def Ah(h:bt x<=m)(h2:m<=n):bt x<=n:=acw h h2
def uC(h1:bt x<=m)(h2:bt y<=n)(h:m+n<=134217728:=by lia):IntMulOk x y:=IntMulOk.of_le h1 h2 h
def LJ(i:Int):(if i<0 then -i else i)=(i.natAbs:Nat):=by split<;>lia
def pf(h:IntMulOk a b):i3 (.int a) (.int b)=ε (.int (a*b)):=zu h
def gQ(h:0<b):d9 (.int a) (.int b)=ε (.int (a%b)):=by
 rw[<-Int.fmod_eq_emod_of_nonneg _ (Int.le_of_lt h)]
 exact zu (C:=λ_ j=>j≠0) 0.1
def GW(h:0<b)(hb:bt b<=9000):mm (.int a) (.int b)=ε (.int (a/b)):=by
 rw[<-Int.fdiv_eq_ediv_of_nonneg _ (Int.le_of_lt h)]
 exact zu (C:=KR) ⟨by lia,CL hb⟩
def Q5(h:b≠0)(hb:bt b<=9000):mm (.int a) (.int b)=ε (.int (a.fdiv b)):=zu (C:=KR) ⟨h,CL hb⟩
def LK{k:Nat}(h:a.natAbs<2^64)(hk:k<=1000000):su (.int a) (.int k)=ε (.int (a^k)):=by
 have:=zu (C:=YT) (g:=λi j=>.int (i^j.toNat)) (a:=a) (b:=k) ⟨by lia,by lia,h⟩
 simpa using this
def jD{β:Type}(x:Option β)(P:β->Prop):Prop:=∃d,x=ε d/\P d
def cj(h:jD x λy=>y=d):x=ε d:=by
 obtain⟨y,e,rfl⟩:=h;exact e
def jD.mk{d:β}(e:x=ε d)(h:P d):jD x P:=⟨d,e,h⟩
def cM(h:a δ=ε 20.6):az a b δ=b δ':=by
 unfold az;rw[h];rfl
def jQ(h:a δ=ε (.rt d)):az a b δ=ε (.rt d):=by
 unfold az;rw[h];rfl
def JB(W:Nat->DS->Prop)(Z:DS->Prop)(m:Nat)(h:W m δ)
  (hs:∀m δ,W m δ->(c δ=ε θ/\Z δ)\/(c δ=ε η/\∃δ' m',b δ=ε 20.6/\m'<m/\W m' δ')):∃δ',mr c b δ=ε 20.6/\Z δ':=by
 obtain⟨q,h1,δ',rfl,h2⟩:=MY W (λ_ q=>∃δ',q=.nx δ'/\Z δ') m δ h (λm δ hW=>by
  rcases hs m δ hW with⟨a,z⟩|⟨a,δ',m',e,l,w⟩;.exact .inl ⟨a,δ,rfl,z⟩
  .exact .inr ⟨a,.inl ⟨δ',m',.inl e,l,w,λq hq=>hq⟩⟩)
 exact⟨δ',h1,h2⟩
theorem GX(W:Nat->DS->Prop):∀(ds:List D) (k:Nat) {δ:DS},W k δ->(∀i d δ,ds[i]?=ε d->W (k+i) δ->∃gV δ',t d δ=ε gV/\b gV=ε 20.6/\W (k+i+1) δ')->
  ∃δ',sv t b ds δ=ε 20.6/\W (k+ds.length) δ'
 |[],k,δ,h,_=>⟨δ,rfl,h⟩
 |d::ds,k,δ,h,hs=>by
   obtain⟨gV,δ',e1,e2,h'⟩:=hs 0 d δ rfl h;obtain⟨JC,e3,h2⟩:=GX W ds (k+1) h' (λi d δ e w=>by
    have:=hs (i+1) d δ (by simpa using e) (by rw[show k+(i+1)=k+1+i by lia];exact w);rw[show k+(i+1)+1=k+1+i+1 by lia]at this;exact this);refine⟨JC,?_,by rw[abk,show k+(ds.length+1)=k+1+ds.length by lia];exact h2⟩;rw[sv,e1,aaG,e2,aaG];exact e3
theorem LL{α:Type}(enc:α->D)(W:Nat->DS->Prop)(xs:List α)(h:W 0 δ)
  (hs:∀i x δ,xs[i]?=ε x->W i δ->∃gV δ',t (enc x) δ=ε gV/\b gV=ε 20.6/\W (i+1) δ'):∃δ',sv t b (xs.map enc) δ=ε 20.6/\W xs.length δ':=by
 obtain⟨δ',e,w⟩:=GX (t:=t) (b:=b) W (xs.map enc) 0 h (λi d δ e w=>by
  rw[abv]at e;cases ex:xs[i]? with
  |none=>rw[ex]at e;cases e
  |some x=>
    rw[ex]at e;cases e;rw[Nat.zero_add]at w ⊢;exact hs i x δ ex w)
 rw[Nat.zero_add,aaI]at w
 exact⟨δ',e,w⟩
def Q6(W:Nat->DS->Prop)(h:W 0 δ)
  (hs:∀i δ,i<n->W i δ->∃gV δ',t (.int (lo+i)) δ=ε gV/\b gV=ε 20.6/\W (i+1) δ'):∃δ',sv t b (lg lo n) δ=ε 20.6/\W n δ':=by
 obtain⟨δ',e,w⟩:=LL (t:=t) (b:=b) (λk:Nat=>PyData.int (lo+k)) W (List.range n) h (λi x δ e w=>by
  have hi:=(abp.mp e).1;rw[agI]at hi;rw[ais hi]at e;cases e;exact hs i δ hi w)
 rw[agI]at w
 exact⟨δ',e,w⟩
def Dc{b rest:aV}{R:β->Prop}(W:Nat->DS->Prop)(Z:DS->Prop)(m:Nat)(h:W m δ)
  (hs:∀m δ,W m δ->(c δ=ε θ/\Z δ)\/(c δ=ε η/\∃δ' m',b δ=ε 20.6/\m'<m/\W m' δ'))(k:∀δ',Z δ'->jD ((rest δ').bind f) R):jD ((az (mr c b) rest δ).bind f) R:=by
 obtain⟨δ',h1,h2⟩:=JB W Z m h hs
 rw[cM h1]
 exact k δ' h2
def yV{α:Type}{b rest:aV}{R:β->Prop}(enc:α->D)(xs:List α)(W:Nat->DS->Prop)(hi:gi δ=ε (xs.map enc))(h:W 0 δ)
  (hs:∀i x δ,xs[i]?=ε x->W i δ->∃gV δ',t (enc x) δ=ε gV/\b gV=ε 20.6/\W (i+1) δ')(k:∀δ',W xs.length δ'->jD ((rest δ').bind f) R):jD ((az (pW gi t b) rest δ).bind f) R:=by
 obtain⟨δ',h1,h2⟩:=LL (t:=t) (b:=b) enc W xs h hs
 rw[cM (δ':=δ') (by unfold pW;rw[hi];exact h1)]
 exact k δ' h2
def uD{b rest:aV}{R:β->Prop}(lo:Int)(n:Nat)(W:Nat->DS->Prop)(hi:gi δ=ε (lg lo n))(h:W 0 δ)
  (hs:∀i δ,i<n->W i δ->∃gV δ',t (.int (lo+i)) δ=ε gV/\b gV=ε 20.6/\W (i+1) δ')(k:∀δ',W n δ'->jD ((rest δ').bind f) R):jD ((az (pW gi t b) rest δ).bind f) R:=by
 obtain⟨δ',h1,h2⟩:=Q6 (t:=t) (b:=b) W h hs
 rw[cM (δ':=δ') (by unfold pW;rw[hi];exact h1)]
 exact k δ' h2
def bQ{a rest:aV}{R:β->Prop}(δ':DS)(h:a δ=ε 20.6)(k:jD ((rest δ').bind f) R):jD ((az a rest δ).bind f) R:=by
 rw[cM h];exact k
def sP{a rest:aV}{R:β->Prop}(h:c δ=ε θ)(k:jD ((rest δ).bind f) R):jD ((az (gy c a bf) rest δ).bind f) R:=by
 rw[cM (δ':=δ) (by unfold gy;rw[h];rfl)];exact k
theorem yW{a b rest:aV}{R:β->Prop}(x:Bool)(h:c δ=ε x)(k1:x=η->jD ((az a rest δ).bind f) R)(k2:x=θ->jD ((az b rest δ).bind f) R):jD ((az (gy c a b) rest δ).bind f) R:=by
 have e:gy c a b δ=if x=η then a δ else b δ:=by unfold gy;rw[h];rfl
 cases x with
 |true=>rw[if_pos rfl]at e;have:=k1 rfl;unfold az at this ⊢;rw[e];exact this
 |false=>rw[if_neg Bool.false_ne_true]at e;have:=k2 rfl;unfold az at this ⊢;rw[e];exact this
def yX{rest:aV}{R:β->Prop}(d:D)(h:g δ=ε d)(k:jD (f (.rt d)) R):jD ((az (aT g) rest δ).bind f) R:=by
 rw[jQ (d:=d) (by unfold aT;rw[h];rfl)];exact k
def ret(d:D)(h:g δ=ε d)(k:jD (f (.rt d)) R):jD ((aT g δ).bind f) R:=by
 unfold aT;rw[h];exact k
def gL(δ':DS)(h:a δ=ε 20.6)(k:b δ'=r):az a b δ=r:=(cM h).trans k
def c9(h:c δ=ε θ):gy c a bf δ=ε (.nx δ):=by unfold gy;rw[h];rfl
def Ai{rest:aV}:az bf rest δ=rest δ:=rfl
theorem seq_assoc:az (az a b) c δ=az a (az b c) δ:=by
 unfold az
 cases a δ with
 |none=>rfl
 |some r=>cases r<;>rfl
theorem LM{α β:Type}(enc:α->D)(sQ:β->D)(h:α->β):∀(l:List α),(∀a∈l,f (enc a)=ε (sQ (h a)))->Px f (l.map enc)=ε ((l.map h).map sQ)
 |[],_=>rfl
 |a::l,hf=>by
   rw[abl,Px,hf a abd,aaG,LM enc sQ h l λ10=>hf b (aa8 _ hb)];rfl
def jf{α β:Type}(enc:α->D)(sQ:β->D)(h:α->β)(l:List α)(hi:gi δ=ε (l.map enc))(hn:l.length<=100000)
  (hf:∀a∈l,ge (ε (enc a)::fM ix δ)=ε (sQ (h a))):eF gi ix ge δ=ε ((l.map h).map sQ):=by
 unfold eF
 rw[hi,aaG,abe (by rw[aaI];exact hn)]
 exact LM enc sQ h l hf
def aeh(a b:Ue):fV (dF a) (dF b)=ε (.bool (ι (a=b))):=by
 show(if(SeqAt.shaped (dF a)&&SeqAt.shaped (dF b))=η then ε (PyData.bool (PyData.eqv (dF a) (dF b)))else ζ)=_
 rw[WK,WK,Zg];rfl
def Ew(a b:Int):fV (.int a) (.int b)=ε (.bool (ι (a=b))):=rfl
def aac(a b:Int):BD (.int a) (.int b)=ε (.bool (!ι (a=b))):=rfl
def JD(h:fV a b=ε (.bool c)):BD a b=ε (.bool (!c)):=by unfold BD;rw[h];rfl
def kT(h:g δ=ε [.int (n:Nat)])(hn:n<=100000):gO g δ=ε (lg 0 n):=by
 unfold gO
 rw[h,aaG]
 show(if -(2^62)<=((n:Nat):Int)/\((n:Nat):Int)<2^62 then ε (lg 0 ((n:Nat):Int).toNat)else ζ)=_
 rw[adU,abe ⟨by lia,by lia⟩]
def call_of(h:g δ=ε ds)(hn:ds.length=n)(hG:G ds=r):av G n g δ=r:=by
 unfold av;rw[h,Option.bind_some,if_pos hn];exact hG
def iE(h:g δ=ε ds)(hn:ds.length=n)(hG:G ds=r):fJ G n g δ=r:=by
 unfold fJ;rw[h,Option.bind_some,if_pos hn];exact hG
def aK(h:g δ=ε l):aI g δ=ε (.list l):=by unfold aI;rw[h];rfl
def cons_of(h:a δ=ε x)(h2:r δ=ε xs):aa a r δ=ε (x::xs):=by unfold aa;rw[h,h2];rfl
def aU(h:g δ=ε d):br i g δ=ε (.nx 23.4):=by unfold br;rw[h];rfl
def kG(h:g δ=ε d):jd i g δ=ε (.nx (δ.set i (ε (.list d)))):=by unfold jd;rw[h];rfl
def Q7(l:List D):cA [.list l]=ε (.int l.length):=rfl
def Ex(l:List D):cA [.tuple l]=ε (.int l.length):=rfl
def GY(l:List D)(i:Int):bw (.list l) 17.6=CD l i:=rfl
def Q8(q:Ue):bw (dF q) (.int 0)=ε (.int q.1):=rfl
def Q9(q:Ue):bw (dF q) (.int 1)=ε (.int q.2):=rfl
def Xh(h1:a δ=ε θ)(h2:b δ=r):Od a b δ=r:=by unfold Od;rw[h1];exact h2
def aad(h1:a δ=ε η)(h2:b δ=r):jy a b δ=r:=by unfold jy;rw[h1];exact h2
def jR(h:a δ=ε x):kD a δ=ε (!x):=by unfold kD;rw[h];rfl
def dM(h:g δ=ε (.bool b)):gB g δ=ε b:=by unfold gB;rw[h];rfl
def jg(h:g δ=ε (.bool b)):jc g δ=ε b:=by unfold jc;rw[h];rfl
def ao(h1:a δ=ε x)(h2:b δ=ε y)(h3:f x y=r):g2 f a b δ=r:=by unfold g2;rw[h1,h2];exact h3
abbrev ib:List Str:=["NoDeed","NoName","NoPlan","NoText","NoEnd","NoShares"]
noncomputable abbrev Dd:List Str:=["NoNumber","NoPlan","TooLong","NoText","NoEnd","TooMany","NoRow","NoTelling","NoLot","NotOnly","Only","NoShares","NoDeed","NoName","NoDraw"]
noncomputable abbrev Of:Fm:=[("plan many",936,554,["number"]),("plan till",939,555,["number","number"]),("plan steps",943,556,["number","number or -1","number","number"]),("plan between",949,557,["number","number","number","number","number"]),("show",956,558,[]),("ends",958,559,[]),("ways",960,560,["number","number"]),("odds",964,561,["number","number","fraction"]),("mean",969,562,["fraction"]),("share",972,563,["number","number"]),("judge",976,564,[]),("rule",978,565,["fraction","fraction","fraction"]),("lot",983,566,["name"]),("bad",986,567,[]),("good",988,568,[]),("at",990,569,[])]
noncomputable abbrev fmK:Tk:=[(554,[("number",937)]),(555,[("number",940),("number",941)]),(556,[("number",944),("number or -1",945),("number",946),("number",947)]),(557,[("number",950),("number",951),("number",952),("number",953),("number",954)]),(558,[]),(559,[]),(560,[("number",961),("number",962)]),(561,[("number",965),("number",966),("fraction",967)]),(562,[("fraction",970)]),(563,[("number",973),("number",974)]),(564,[]),(565,[("fraction",979),("fraction",980),("fraction",981)]),(566,[("name",984)]),(567,[]),(568,[]),(569,[])]
noncomputable abbrev fiK:Ti:=[(336,[(0,629),(1,630)]),(432,[(1,763),(1,764)])]
abbrev sI(x:Int):Option D:=ε (.int x)
abbrev sL(x:List D):Option D:=ε (.list x)
abbrev iR:aV:=(az (br 0 (eM DV 1.3))
  (az (br 1 (eM DV 2.5))
  (az (mr (gB (g2 BD (af 1) (aA 0))) (az (br 2 (g2 d9 (af 0) (af 1)))
  (az (br 0 (af 1))
  (az (br 1 (af 2))
  (gy (gB (g2 BC (g1 Py (af 1)) (aA 4000))) (λ_=>ζ) bf)))))
  (aT (af 0)))))
def gj:List D->Option D:=eB 4 iR
def sR(a0 a1:D):gj [a0,a1]=(iR [ε a0,ε a1,ζ,ζ]).bind cu:=rfl
abbrev JE:aV:=(az (gy (gB (g2 fV (af 1) (aA 0))) (λ_=>ζ) bf)
  (az (br 2 (av gj 2 (aa (af 0) 2.5)))
  (az (gy (gB (g2 IK (af 1) (aA 0))) (br 2 (g1 F8 (af 2))) bf)
  (aT (cR (aa (g2 mm (af 0) (af 2)) (aa (g2 mm (af 1) (af 2)) ag)))))))
def Aj:List D->Option D:=eB 3 JE
def aae(a0 a1:D):Aj [a0,a1]=(JE [ε a0,ε a1,ζ]).bind cu:=rfl
abbrev Ey:aV:=(aT (g2 IK (g2 i3 (g2 bw (af 0) (aA 0)) 7.5) (g2 i3 4.3 (g2 bw (af 0) (aA 1)))))
def kH:List D->Option D:=eB 2 Ey
abbrev Ak:aV:=(aT (i4 (MW "int" (af 0)) (g1 adp (MW "bool" (af 0)))))
def nY:List D->Option D:=eB 1 Ak
abbrev sT:aV:=(az (gy (Od (kD (jc (MW "tuple" (af 0)))) (gB (g2 fV 22.3 (aA 0)))) 6.7 bf)
  (az (gy (kD (jc (eM Gq (aa (aI (eF (bx (af 0)) [1] (i4 (av nY 1 1.3) (g2 M0 (af 0) (af 1))))) ag)))) 6.7 bf)
  (aT (g2 fV (aI (Pq zA 1.3)) (aI (ZF (af 0)))))))
def jE:List D->Option D:=eB 2 sT
abbrev Al:aV:=(aT (aI (ZF (aI (rm iB (aI (Pq zA 1.3)) (aI (eF (bx (af 0)) [] (g2 ak (af 0) (aA 1)))))))))
def j5:List D->iA:=uf 1 Al
abbrev v9:aV:=(az (gy (Od (kD (jc (MW "tuple" (af 0)))) (kD (gB (f9 vI vI (aA 1) 22.3 (aA 24))))) 6.7 bf)
  (az (br 1 (aI (bD (aa (aA 0) ag))))
  (az (pW (bx (af 0)) (bA 2)
   (az (gy (kD (jc (av jE 2 (aa (af 2) 2.5)))) 6.7 bf)
  (br 1 (aI (fJ j5 1 5.1)))))
  (aT (gC 11.6)))))
def m9:List D->Option D:=eB 3 v9
abbrev wc:aV:=(az (br 2 (g2 ak 4.3 7.5))
  (aT (i4 (f9 vI IK (aA 0) (af 2) 22.3) (g2 M0 4.3 (g2 bw (af 0) (af 2))))))
def ng:List D->Option D:=eB 3 wc
def NM(a0 a1:D):ng [a0,a1]=(wc [ε a0,ε a1,ζ]).bind cu:=rfl
abbrev we:aV:=(az (jd 1 (bD (aa (cR (aa (aA 0) (aa (aA 0) ag))) ag)))
  (az (pW (Qf (af 0)) (mR 2 (fe (bA 2) (fe (bA 3) pd)))
   (PD 1 (eF (bx (aI (fJ j5 1 14.0))) [2] (cR (aa (af 0) (aa (g2 vH (af 1) (af 0)) ag))))))
  (aT (af 1))))
def kU:List D->iA:=uf 4 we
abbrev JF:aV:=(aT (aI (gK (bx (aI (fJ kU 1 1.3))) 1 [0] (bA 0) (kD (jc (av ng 2 (aa (af 1) 1.3)))) (af 0))))
def Ez:List D->iA:=uf 1 JF
abbrev sU:aV:=(az (jd 1 (bD ag))
  (az (pW (Qg (af 0)) (mR 2 (fe (bA 2) (fe (bA 3) pd)))
   (PD 1 (eF (bx (af 3)) [2] (cR (aa (af 0) (aa (g2 vH (af 1) (af 0)) ag))))))
  (aT (af 1))))
def lC:List D->iA:=uf 4 sU
abbrev nZ:aV:=(az (br 2 (aI (fJ Ez 1 1.3)))
  (pW (bx (af 1)) (bA 3)
   (gy (gB (g2 (Gu η) (af 3) (af 2))) (jA "NoEnd") bf)))
def gm:List D->Option D:=eB 4 nZ
abbrev EA:aV:=(az (gy (gB (g2 fV (af 1) (aM "b"))) (aT (cR (aa (g2 ak (g2 bw (af 0) (aA 0)) (aA 1)) (aa (g2 bw (af 0) (aA 1)) ag)))) bf)
  (aT (cR (aa (g2 bw (af 0) (aA 0)) (aa (g2 ak (g2 bw (af 0) (aA 1)) (aA 1)) ag)))))
def jS:List D->Option D:=eB 2 EA
abbrev LN:List D->Option D:=λ_=>ζ
abbrev qh:aV:=(az (W8 2 (P8 (af 1) (aA 1)))
  (az (pW (bx (aI (fJ lC 1 1.3))) (bA 3)
   (az (br 4 (vS (af 2) (af 3) (aA 0)))
  (pW (bx (cR (aa (av jS 2 (aa (af 3) (aa (aM "b") ag))) (aa (av jS 2 (aa (af 3) (aa (aM "g") ag))) ag)))) (bA 5)
   (Lb 2 (af 5) (g2 ak (vS (af 2) (af 5) (aA 0)) (af 4))))))
  (aT (af 2))))
def j6:List D->Option D:=eB 6 qh
abbrev wg:aV:=(aT (vS (av j6 2 (aa (af 0) (aa (cR (aa (aA 0) (aa (aA 0) ag))) ag))) (af 1) (aA 0)))
def qY:List D->Option D:=eB 2 wg
abbrev EB:aV:=(az (cc (av gm 2 (aa (af 0) (aa (aI (bD 2.5)) ag))))
  (λ_=>ζ))
def EC:List D->Option D:=eB 2 EB
def Vr(a0 a1:D):EC [a0,a1]=(EB [ε a0,ε a1]).bind cu:=rfl
abbrev lD:aV:=(gy (kD (jy (jc (av kH 2 (aa (gC (.tuple [(.int (0)),(.int (1))])) 1.3))) (jy (jc (av kH 2 (aa (af 0) 2.5))) (jc (av kH 2 (aa (af 1) (aa (gC (.tuple [(.int (1)),(.int (1))])) ag))))))) (jA "NoShares") bf)
def fQ:List D->Option D:=eB 2 lD
abbrev iJ:aV:=(az (cc (av fQ 2 (aa (af 1) 5.1)))
  (λ_=>ζ))
def iK:List D->Option D:=eB 8 iJ
def wj(a0 a1 a2 a3:D):iK [a0,a1,a2,a3]=(iJ [ε a0,ε a1,ε a2,ε a3,ζ,ζ,ζ,ζ]).bind cu:=rfl
abbrev n0:aV:=(az (cc (av gm 2 (aa (af 0) (aa (aI (bD 2.5)) ag))))
  (λ_=>ζ))
def n5:List D->Option D:=eB 2 n0
def GZ(a0 a1:D):n5 [a0,a1]=(n0 [ε a0,ε a1]).bind cu:=rfl
abbrev n6:aV:=(aT (i5 8.7 (aI (eF (bx (af 0)) [] (eM mT 1.3)))))
def kI:List D->Option D:=eB 1 n6
abbrev qi:aV:=(aT (i5 (aM "|") (aI (eF (bx (af 0)) [] (av kI 1 1.3)))))
def lZ:List D->Option D:=eB 1 qi
abbrev qj:aV:=(az (gy (Od (gB (g2 fV (af 0) (aM ""))) (kD (jc (eM Gq (aa (aI (eF (nP (af 0)) [] (g2 (BJ η) (af 0) (aM "0123456789")))) ag))))) 6.7 bf)
  (aT (Ul (g2 fV (af 0) (aM "0")) (g2 BD (g2 bw (af 0) (aA 0)) (aM "0")))))
def i7:List D->Option D:=eB 1 qj
abbrev jT:aV:=(az (gy (Od (kD (jc (av i7 1 1.3))) (gB (g2 BC 22.3 (aA 2)))) (jA "NoText") bf)
  (aT (eM Lf 1.3)))
def gG:List D->Option D:=eB 1 jT
def Am(a0:D):gG [a0]=(jT [ε a0]).bind cu:=rfl
abbrev n8:aV:=(aT (xO (bx (aI (iw (af 0) 8.7))) [] (av gG 1 1.3)))
def gn:List D->Option D:=eB 1 n8
def BO(a0:D):gn [a0]=(n8 [ε a0]).bind cu:=rfl
abbrev l6:aV:=(az (j2 1 (xO (bx (aI (iw (af 0) (aM "|")))) [] (av gn 1 1.3)))
  (az (gy (kD (jc (av m9 1 2.5))) (jA "NoText") bf)
  (aT (af 1))))
def eX:List D->Option D:=eB 2 l6
def ED(a0:D):eX [a0]=(l6 [ε a0,ζ]).bind cu:=rfl
abbrev kl:List D->Option D:=λ_=>ζ
abbrev xQ:List D->Option D:=λ_=>ζ
abbrev qk:aV:=(az (gy (gB (g2 fV (af 1) (aM "show"))) (aT (av lZ 1 1.3)) bf)
  (az (gy (gB (g2 fV (af 1) (aM "ends"))) (λ_=>ζ) bf)
  (az (gy (gB (g2 fV (af 1) (aM "judge"))) (λ_=>ζ) bf)
  (az (gy (gB (g2 fV (af 1) (aM "mean"))) (λ_=>ζ) bf)
  (az (gy (gB (g2 fV (af 1) (aM "rule"))) (aT (sG xQ 1 (cB (av iK 4 (aa (af 0) (aa 2.8 (aa 7.4 (aa 8.8 ag))))) lW))) bf)
  (az (br 3 (cR (aa 2.8 (aa 7.4 ag))))
  (az (gy (gB (g2 fV (af 1) (aM "ways"))) (aT (eM mT (aa (av qY 2 (aa (af 0) 14.0)) ag))) bf)
  (az (gy (gB (g2 fV (af 1) (aM "share"))) (aT (sG kl 1 (cB (av n5 2 (aa (af 0) 14.0)) lW))) bf)
  (aT (sG kl 1 (cB (sG LN 2 (cB (av EC 2 (aa (af 0) 14.0)) (cB 8.8 lW))) lW)))))))))))
def eG:List D->Option D:=eB 4 qk
abbrev uE:aV:=(aT (i5 (aM ",") (aI (eF (bx (af 0)) [] (eM mT 1.3)))))
def n9:List D->Option D:=eB 1 uE
abbrev rR:aV:=(gy (kD (jc (af 0))) (jA "NoDeed") bf)
def bY:List D->Option D:=eB 1 rR
abbrev og:aV:=(az (cc (av bY 1 (aa (i4 (av i7 1 1.3) (g2 vI 22.3 (aA 30))) ag)))
  (aT (eM Lf 1.3)))
def bB:List D->Option D:=eB 1 og
abbrev iL:aV:=(az (br 1 (aI (iw (af 0) (aM "/"))))
  (az (gy (gB (g2 fV (eM cA 2.5) (aA 1))) (j2 2 (qe (cB (av bB 1 1.3) (cB (aA 1) lW)))) (az (cc (av bY 1 (aa (g2 fV (eM cA 2.5) (aA 2)) ag)))
  (az (j2 2 (qe (cB (av bB 1 (aa 4.3 ag)) (cB (av bB 1 (aa 7.5 ag)) lW))))
  (cc (av bY 1 (aa (i4 (g2 BC 7.4 (aA 1)) (g2 fV (af 2) (av Aj 2 (aa 2.8 (aa 7.4 ag))))) ag))))))
  (az (cc (av bY 1 (aa (g2 vI 2.8 7.4) ag)))
  (aT (af 2)))))
def gA:List D->Option D:=eB 3 iL
def wm(a0:D):gA [a0]=(iL [ε a0,ζ,ζ]).bind cu:=rfl
abbrev j7:aV:=(az (gy (gB (g2 fV (af 1) (aM "name"))) (aT (af 0)) bf)
  (az (gy (gB (g2 fV (af 1) (aM "fraction"))) (aT (av gA 1 1.3)) bf)
  (az (gy (jy (gB (g2 fV (af 1) (aM "number or -1"))) (gB (g2 fV (af 0) (aM "-1")))) (aT (g1 F8 (aA 1))) bf)
  (aT (av bB 1 1.3)))))
def dO:List D->Option D:=eB 2 j7
def uF(a0 a1:D):dO [a0,a1]=(j7 [ε a0,ε a1]).bind cu:=rfl
abbrev oh:aV:=(az (cc (av bY 1 (aa (U9 Of (af 0)) ag)))
  (az (br 3 (Lx Of (af 0)))
  (az (cc (av bY 1 (aa (g2 fV (eM cA 5.1) (eM cA 14.0)) ag)))
  (aT (qe (cB (af 0) (cB (af 1) (cB (GS (C7 (af 2) (af 3)) 2 [] (mR 2 13.6) (av dO 2 (aa (af 0) 2.5))) lW))))))))
def cg:List D->Option D:=eB 4 oh
abbrev lE:aV:=(az (br 1 (aI (qW (af 0) 8.7 (aA 3))))
  (az (gy (jy (gB (g2 fV (eM cA 2.5) (aA 4))) (jy (gB (g2 fV 4.3 (aM "plan"))) (jy (gB (g2 BD 7.5 (aM ""))) (gB (g2 fV 18.7 (aM "hand")))))) (aT (cR (aa (aM "plan hand") (aa 7.5 (aa (aI (bD (aa 24.5 ag))) ag))))) bf)
  (az (br 2 (aI (iw (af 0) 8.7)))
  (az (cc (av bY 1 (aa (i4 (g2 pY (aM "") (af 2)) (g2 KZ (eM cA 5.1) (aA 2))) ag)))
  (az (gy (jy (gB (g2 fV 2.8 (aM "plan"))) (gB (g2 KZ (eM cA 5.1) (aA 3)))) (aT (av cg 3 (aa (g2 ak 11.1 8.8) (aa 7.4 (aa (aI (ki (af 2) (b0 (aA 3)) bH)) ag))))) bf)
  (aT (av cg 3 (aa 2.8 (aa 7.4 (aa (aI (ki (af 2) (b0 (aA 2)) bH)) ag))))))))))
def aG:List D->Option D:=eB 3 lE
def xR(a0:D):aG [a0]=(lE [ε a0,ζ,ζ]).bind cu:=rfl
abbrev rT:aV:=(gy (kD (jc (af 0))) (jA "NoPlan") bf)
def dh:List D->Option D:=eB 1 rT
abbrev qZ:aV:=(az (cc (av dh 1 (aa (f9 vI vI (aA 1) (af 0) (aA 24)) ag)))
  (λ_=>ζ))
def q9:List D->Option D:=eB 1 qZ
def JG(a0:D):q9 [a0]=(qZ [ε a0]).bind cu:=rfl
abbrev Ra:aV:=(az (cc (av dh 1 (aa (i4 (f9 vI vI (aA 1) (af 0) (aA 24)) (f9 vI vI (aA 1) (af 1) (aA 24))) ag)))
  (λ_=>ζ))
def Rc:List D->Option D:=eB 2 Ra
abbrev xS:aV:=(az (cc (av dh 1 (aa (i4 (g2 KZ (af 0) (aA 1)) (i4 (g2 KZ (af 3) (aA 1)) (g2 vI (g2 ak (af 0) (af 3)) (aA 24)))) ag)))
  (az (cc (av dh 1 (aa (i4 (g2 KZ (af 1) (g1 F8 (aA 1))) (g2 BC (af 2) (af 1))) ag)))
  (λ_=>ζ)))
def xT:List D->Option D:=eB 5 xS
abbrev De:aV:=(az (cc (av dh 1 (aa (i4 (g2 KZ (af 0) (aA 0)) (i4 (g2 KZ (af 1) (aA 1)) (i4 (g2 KZ (af 2) (aA 1)) (g2 KZ (af 3) (aA 1))))) ag)))
  (az (cc (av dh 1 (aa (f9 vI vI (aA 1) (af 4) (aA 24)) ag)))
  (λ_=>ζ)))
def Dh:List D->Option D:=eB 5 De
abbrev kJ:aV:=(gy (Od (kD (gB (f9 vI vI (aA 1) 22.3 (aA 8)))) (kD (jc (eM Gq (aa (aI (eF (nP (af 0)) [] (g2 (BJ η) (af 0) 22.5))) ag))))) (jA "NoName") bf)
def cN:List D->Option D:=eB 1 kJ
def BP(a0:D):cN [a0]=(kJ [ε a0]).bind cu:=rfl
abbrev wq:aV:=(az (gy (gB (g2 fV (af 0) (aM "plan many"))) (aT (av q9 1 (aa 4.3 ag))) bf)
  (az (gy (gB (g2 fV (af 0) (aM "plan till"))) (aT (av Rc 2 (aa 4.3 (aa 7.5 ag)))) bf)
  (az (gy (gB (g2 fV (af 0) (aM "plan steps"))) (aT (av xT 4 (aa 4.3 (aa 7.5 (aa 18.7 (aa 24.5 ag)))))) bf)
  (az (gy (gB (g2 fV (af 0) (aM "plan between"))) (aT (av Dh 5 (aa 4.3 (aa 7.5 (aa 18.7 (aa 24.5 (aa (g2 bw (af 1) (aA 4)) ag))))))) bf)
  (aT (av eX 1 (aa 4.3 ag)))))))
def gH:List D->Option D:=eB 2 wq
abbrev sV:aV:=(az (gy (gB (g2 IK (af 1) 22.3)) (aT (g2 bw (af 0) (af 1))) bf)
  (aT (aA 0)))
def gq:List D->Option D:=eB 2 sV
def JH(a0 a1:D):gq [a0,a1]=(sV [ε a0,ε a1]).bind cu:=rfl
abbrev oi:aV:=(az (jd 3 (bD ag))
  (az (pW (gO 5.1) (bA 4)
   (az (yg 3 (g2 d9 (af 0) (af 1)))
  (br 0 (g2 mm (af 0) (af 1)))))
  (aT (af 3))))
def jh:List D->iA:=uf 5 oi
def EE(a0 a1 a2:D):jh [a0,a1,a2]=(oi [ε a0,ε a1,ε a2,ζ,ζ]).bind ue:=rfl
abbrev ql:aV:=(az (jd 3 (bD ag))
  (az (pW (gO 5.1) (bA 4)
   (az (br 5 (g2 d9 (g2 ak (g2 ak (g2 i3 (g2 d9 (af 0) (aA 1000003)) (aA 48271)) (g2 i3 (g2 i3 (af 4) (af 4)) (aA 69621))) (g2 i3 (af 4) (aA 16807))) (aA 2147483647)))
  (yg 3 (g2 d9 (g2 mm (g2 d9 (g2 ak (g2 i3 (af 5) (aA 39373)) (af 0)) (aA 2147483629)) (aA 13)) (af 1)))))
  (aT (af 3))))
def j8:List D->iA:=uf 6 ql
def G0(a0 a1 a2:D):j8 [a0,a1,a2]=(ql [ε a0,ε a1,ε a2,ζ,ζ,ζ]).bind ue:=rfl
abbrev sW:aV:=(az (br 2 (g2 mm (af 0) (aA 4)))
  (az (br 3 (g2 ak (aA 100) (g2 i3 (aA 200) (eM Uo (aa (g2 BC (af 1) (aA 12)) ag)))))
  (az (br 4 (aI (fJ j8 3 (aa (af 2) (aa (aA 3) 14.0)))))
  (az (gy (gB (g2 KZ (eM DV 1.3) 19.9)) (br 4 (aI (fJ jh 3 (aa (af 2) (aa (aA 3) 14.0))))) bf)
  (az (jd 5 (bD (aa (cR (aa (aA 0) ag)) ag)))
  (az (br 6 (aI (bD (aa (aA 0) (aa (aA 1) ag)))))
  (az (br 7 (aA 0))
  (az (mr (jy (gB (g2 IK (eM cA 20.1) (af 1))) (gB (g2 BC 22.0 (aA 0)))) (az (br 8 (aI (gK (nI (af 6)) 2 [4,3,7] (mR 2 13.6) (gB 22.9) (af 1))))
  (az (br 7 (g2 ak (af 7) 22.0))
  (az (gy (gB (g2 BC (g2 d9 (af 0) (aA 4)) (aA 1))) (br 8 (aI (ki (af 6) (b0 (g2 bw (af 4) (g2 d9 (af 7) (af 3)))) (b0 (eM xG (aa (aA 0) (aa (g2 vH 22.0 (g2 bw (af 4) (g2 d9 (g2 ak (af 7) (aA 1)) (af 3)))) ag))))))) bf)
  (az (br 6 (aI (ZF (aI (rm iB (af 8) (aI (eF (bx (af 8)) [] (g2 ak (af 0) (aA 1)))))))))
  (gy (gB (g2 BC (eM cA (aa (af 8) ag)) (aA 0))) (yg 5 (eM ud (aa (af 8) ag))) bf))))))
  (aT (eM ud 20.1))))))))))
def oj:List D->Option D:=eB 9 sW
abbrev mw:aV:=(az (gy (gB (f9 IK IK (g1 F8 19.9) (af 0) 19.9)) (az (br 2 (aI (fJ j8 3 (aa (af 0) (aa (aA 1000003) (aa (eM cA 2.5) ag))))))
  (aT (aI (eF (gO (aa (eM cA 2.5) ag)) [2,1] (g2 d9 (g2 bw (af 1) (af 0)) (g2 bw (af 2) (af 0))))))) bf)
  (az (jd 3 (bD ag))
  (az (br 0 (g2 mm (af 0) (aA 2)))
  (az (pW (bx (af 1)) (bA 4)
   (az (yg 3 (g2 d9 (af 0) (af 4)))
  (br 0 (g2 mm (af 0) (af 4)))))
  (aT (af 3))))))
def iF:List D->iA:=uf 5 mw
abbrev An(y:Addr):aV:=(az (br 1 (aI (bD (aa (dY ib "NoNumber" (af 0)) (aa (dY ib "NoPlan" (af 0)) (aa (dY ib "TooLong" (af 0)) (aa (dY ib "NoText" (af 0)) ag)))))))
  (az (br 1 (aI (rm iB (af 1) (aI (bD (aa (dY ib "NoEnd" (af 0)) (aa (dY ib "TooMany" (af 0)) (aa (dY ib "NoRow" (af 0)) (aa (dY ib "NoTelling" (af 0)) ag)))))))))
  (az (br 1 (aI (rm iB (af 1) (aI (bD (aa (dY ib "NoLot" (af 0)) (aa (dY ib "NotOnly" (af 0)) (aa (dY ib "Only" (af 0)) (aa (dY ib "NoShares" (af 0)) ag)))))))))
  (az (br 1 (aI (rm iB (af 1) (aI (bD (aa (dY ib "NoDeed" (af 0)) (aa (dY ib "NoName" (af 0)) (aa (dY ib "NoDraw" (af 0)) ag))))))))
  (az (br 2 (aI (bD (rO ["NoNumber","NoPlan","TooLong","NoText","NoEnd","TooMany","NoRow","NoTelling","NoLot","NotOnly"]))))
  (az (br 2 (aI (rm iB (af 2) (aI (bD (rO ["Only","NoShares","NoDeed","NoName","NoDraw"]))))))
  (az (gy (kD (jc (dY ib "ValueError" (af 0)))) (aT (aM "other")) bf)
  (aT (i5 (aM "") (aI (gK (uo y 0 (aa (aA 15) ag)) 1 [2,1] (bA 0) (jc (g2 bw (af 2) (af 0))) (g2 bw (af 1) (af 0)))))))))))))
def fi(y:Addr):List D->Option D:=eB 3 (An y)
def nh(a:Addr)(c:Str)(R:aV)(hc:c∈ib):(az (br 1 (aI (bD (aa (dY ib "NoNumber" (af 0)) (aa (dY ib "NoPlan" (af 0)) (aa (dY ib "TooLong" (af 0)) (aa (dY ib "NoText" (af 0)) ag)))))))
  (az (br 1 (aI (rm iB (af 1) (aI (bD (aa (dY ib "NoEnd" (af 0)) (aa (dY ib "TooMany" (af 0)) (aa (dY ib "NoRow" (af 0)) (aa (dY ib "NoTelling" (af 0)) ag)))))))))
  (az (br 1 (aI (rm iB (af 1) (aI (bD (aa (dY ib "NoLot" (af 0)) (aa (dY ib "NotOnly" (af 0)) (aa (dY ib "Only" (af 0)) (aa (dY ib "NoShares" (af 0)) ag)))))))))
  (az (br 1 (aI (rm iB (af 1) (aI (bD (aa (dY ib "NoDeed" (af 0)) (aa (dY ib "NoName" (af 0)) (aa (dY ib "NoDraw" (af 0)) ag))))))))
  (az (br 2 (aI (bD (rO ["NoNumber","NoPlan","TooLong","NoText","NoEnd","TooMany","NoRow","NoTelling","NoLot","NotOnly"]))))
  (az (br 2 (aI (rm iB (af 2) (aI (bD (rO ["Only","NoShares","NoDeed","NoName","NoDraw"]))))))
  (az (gy (kD (jc (dY ib "ValueError" (af 0)))) (aT (aM "other")) bf) R))))))) [ε (Jm a c),ζ,ζ]=R [ε (Jm a c),sL (Dd.map λT=>.bool (isX c T)),sL (Dd.map .str)]:=by
 rcases aa9.mp hc with rfl|hc
 .kernel_rfl
 rcases aa9.mp hc with rfl|hc
 .kernel_rfl
 rcases aa9.mp hc with rfl|hc
 .kernel_rfl
 rcases aa9.mp hc with rfl|hc
 .kernel_rfl
 rcases aa9.mp hc with rfl|hc
 .kernel_rfl
 rcases aa9.mp hc with rfl|hc
 .kernel_rfl
 cases hc
def G1(a:Addr):fi a [Jm a "NoDeed"]=dz "NoDeed":=by
 refine Eq.trans (ade 21.7 ((nh a "NoDeed" _ 0.2).trans (i6 (mW (gE rfl))))) ?_
 kernel_rfl
def G4(a:Addr):fi a [Jm a "NoName"]=dz "NoName":=by
 refine Eq.trans (ade 21.7 ((nh a "NoName" _ 0.2).trans (i6 (mW (gE rfl))))) ?_
 kernel_rfl
def G5(a:Addr):fi a [Jm a "NoPlan"]=dz "NoPlan":=by
 refine Eq.trans (ade 21.7 ((nh a "NoPlan" _ 0.2).trans (i6 (mW (gE rfl))))) ?_
 kernel_rfl
def G6(a:Addr):fi a [Jm a "NoText"]=dz "NoText":=by
 refine Eq.trans (ade 21.7 ((nh a "NoText" _ 0.2).trans (i6 (mW (gE rfl))))) ?_
 kernel_rfl
def JI(a:Addr):fi a [Jm a "NoEnd"]=dz "NoEnd":=by
 refine Eq.trans (ade 21.7 ((nh a "NoEnd" _ 0.2).trans (i6 (mW (gE rfl))))) ?_
 kernel_rfl
def BQ(a:Addr):fi a [Jm a "NoShares"]=dz "NoShares":=by
 refine Eq.trans (ade 21.7 ((nh a "NoShares" _ 0.2).trans (i6 (mW (gE rfl))))) ?_
 kernel_rfl
def aaj(a:Addr)(c:Str)(hc:c∈ib):fi a [Jm a c]=dz c:=by
 rcases aa9.mp hc with rfl|hc
 .exact G1 a
 rcases aa9.mp hc with rfl|hc
 .exact G4 a
 rcases aa9.mp hc with rfl|hc
 .exact G5 a
 rcases aa9.mp hc with rfl|hc
 .exact G6 a
 rcases aa9.mp hc with rfl|hc
 .exact JI a
 rcases aa9.mp hc with rfl|hc
 .exact BQ a
 cases hc
abbrev mx:aV:=(aT (i5 (aM "|") (aI (eF (bx (af 0)) [] (i5 8.7 (aI (eF (bx (af 0)) [] (eM mT 1.3))))))))
def eI:List D->Option D:=eB 1 mx
abbrev qo:aV:=(az (br 1 22.5)
  (az (gy (gB (g2 fV (g2 d9 (af 0) (aA 8)) (aA 5))) (az (br 2 (aI (bD (rO ["plan","lot","hand","many","bad","good","at","rule","ends","ways","odds","mean","show"]))))
  (aT (aI (eF (gO (aa (aA 3) ag)) [2,0] (g2 bw (af 1) (g2 d9 (g2 ak (g2 mm (af 2) (aA 8)) (g2 i3 (aA 5) (af 0))) (aA 13))))))) bf)
  (az (br 3 (aM ""))
  (az (pW (gO (aa (g2 ak (aA 1) (g2 d9 (g2 mm (af 0) (aA 8)) (aA 8))) ag)) (bA 4)
   (br 3 (g2 ak (af 3) (g2 bw (af 1) (g2 d9 (g2 ak (g2 mm (af 0) (aA 64)) (g2 i3 (af 4) (g2 mm (af 0) (aA 1664)))) (aA 26))))))
  (az (br 5 (g2 d9 (g2 mm (af 0) (aA 64)) (eM cA 14.0)))
  (az (jd 6 (bD ag))
  (az (pW (gO (aa (aA 3) ag)) (bA 4)
   (az (br 7 (g2 bw (af 1) (g2 d9 (g2 ak (g2 mm (af 0) (aA 64)) (g2 i3 (aA 7) (af 4))) (aA 26))))
  (yg 6 (g2 ak (g2 ak (p6 (af 3) bH (b0 (af 5))) (af 7)) (p6 (af 3) (b0 (g2 ak (af 5) (aA 1))) bH)))))
  (aT (af 6)))))))))
def j9:List D->iA:=uf 8 qo
abbrev sX:aV:=(az (br 3 (eM mT (aa 8.8 ag)))
  (az (br 4 (eM mT (aa (g2 bw (af 2) (aA 3)) ag)))
  (az (br 5 (g2 bw (aI (bD (aa (aM "0") (aa (aM "1") (aa (aM "1/2") (aa (aM "3/7") (aa (g2 ak (g2 ak (eM mT (aa (g2 ak (g2 bw (af 2) (aA 4)) (aA 1)) ag)) (aM "/")) (eM mT (aa (g2 ak (g2 bw (af 2) (aA 4)) (aA 2)) ag))) ag))))))) (g2 d9 8.8 (aA 5))))
  (az (jd 6 (bD (aa (g2 ak (g2 ak (g2 ak 11.1 (af 0)) (aM " many ")) (af 3)) (aa (g2 ak (g2 ak (g2 ak (g2 ak (g2 ak 11.1 (af 0)) (aM " till ")) (af 3)) 8.7) (af 4)) (aa (g2 ak (aM "show ") (af 0)) (aa (g2 ak (aM "ends ") (af 0)) ag))))))
  (az (jd 6 (rm iB (af 6) (aI (bD (aa (g2 ak (g2 ak (g2 ak (g2 ak (g2 ak (g2 ak 11.1 (af 0)) (aM " steps ")) (af 3)) (aM " -1 ")) (af 4)) (aM " 3")) (aa (g2 ak (g2 ak (g2 ak (g2 ak (g2 ak (aM "ways ") (af 0)) 8.7) (af 3)) 8.7) (af 4)) ag))))))
  (az (yg 6 (g2 ak (g2 ak (g2 ak (g2 ak (g2 ak (g2 ak 11.1 (af 0)) (aM " between ")) (af 3)) 8.7) (af 4)) (aM " 1 2 5")))
  (az (yg 6 (g2 ak (g2 ak (g2 ak (g2 ak (g2 ak (g2 ak (g2 ak (aM "odds ") (af 0)) 8.7) (af 3)) 8.7) (af 4)) 8.7) (af 5)))
  (az (jd 6 (rm iB (af 6) (aI (bD (aa (g2 ak (g2 ak (g2 ak (aM "mean ") (af 0)) 8.7) (af 5)) (aa (g2 ak (g2 ak (g2 ak (g2 ak (g2 ak (aM "share ") (af 0)) 8.7) (af 3)) 8.7) (af 4)) (aa (g2 ak (aM "judge ") (af 0)) ag)))))))
  (az (jd 6 (rm iB (af 6) (aI (bD (aa (g2 ak (g2 ak (g2 ak (aM "rule ") (af 0)) (aM " 1/3 1/2 ")) (af 5)) (aa (g2 ak (g2 ak (g2 ak (aM "lot ") (af 0)) 8.7) (af 1)) (aa (g2 ak (aM "bad ") (af 0)) (aa (g2 ak (aM "good ") (af 0)) ag))))))))
  (aT (g2 bw (aI (rm iB (af 6) (aI (bD (aa (g2 ak (aM "at ") (af 0)) (aa (g2 ak (g2 ak (g2 ak (g2 ak (aM "rule ") (af 0)) 8.7) (af 5)) (aM " 1/2 1/9")) (aa (g2 ak (g2 ak (g2 ak (aM "lot ") (af 1)) 8.7) (af 0)) ag))))))) 2.8)))))))))))
def gX:List D->Option D:=eB 7 sX
abbrev om:aV:=(az (br 2 (aI (iw (af 0) 8.7)))
  (az (br 3 7.5)
  (az (br 4 (g2 ak (aA 2) (g2 d9 24.5 (eM xG (aa (aA 1) (aa (g2 vH (eM cA 5.1) (aA 2)) ag))))))
  (az (gy (gB (g2 fV (af 3) (aA 0))) (aT (g2 bw (aI (bD (aa (g2 ak 8.7 (af 0)) (aa (g2 ak (af 0) 8.7) (aa (g2 ak (g2 ak 2.8 (aM "  ")) (i5 8.7 (aI (ki (af 2) (b0 (aA 1)) bH)))) ag))))) (g2 d9 18.7 (aA 3)))) bf)
  (az (gy (gB (g2 fV (af 3) (aA 1))) (aT (g2 ak (g2 ak 2.8 (aM "s")) (p6 (af 0) (b0 (eM cA (aa 2.8 ag))) bH))) bf)
  (az (gy (gB (g2 fV (af 3) (aA 2))) (aT (g2 ak (af 0) (aM " 1"))) bf)
  (az (gy (gB (g2 fV (af 3) (aA 3))) (aT 2.8) bf)
  (az (gy (jy (gB (g2 IK (af 3) (aA 7))) (jy (gB (g2 BC (eM cA 5.1) (aA 2))) (gB (g2 pY 2.8 (cR (aa (aM "lot") (aa (aM "plan") ag))))))) (az (br 5 (aI (bD (rO ["01","-1","+1","x","1.0","2/4","1/1","3/2","0/3","1/","/2","1/2/3","","1/-2"]))))
  (az (br 5 (g2 bw (aI (rm iB (af 5) (aI (bD (aa (g2 rQ (aM "1") (aA 31)) (aa (g2 ak (aM "1/") (g2 rQ (aM "1") (aA 31))) ag)))))) (g2 d9 18.7 (aA 16))))
  (aT (i5 8.7 (aI (rm iB (aI (rm iB (aI (ki (af 2) bH (b0 (af 4)))) (aI (bD 20.1)))) (aI (ki (af 2) (b0 (g2 ak (af 4) (aA 1))) bH)))))))) bf)
  (az (gy (jy (gB (g2 IK (af 3) (aA 7))) (gB (g2 fV 2.8 (aM "plan")))) (az (br 4 (g2 ak (aA 3) (g2 d9 24.5 (g2 vH (eM cA 5.1) (aA 3)))))
  (az (br 5 (g2 bw (aI (bD (aa (aM "01") (aa (aM "+1") (aa (aM "x") (aa (aM "1/2") (aa (aM "-2") (aa (aM "") (aa (aM "1,2") (aa (g2 rQ (aM "1") (aA 31)) ag)))))))))) (g2 d9 18.7 (aA 8))))
  (aT (i5 8.7 (aI (rm iB (aI (rm iB (aI (ki (af 2) bH (b0 (af 4)))) (aI (bD 20.1)))) (aI (ki (af 2) (b0 (g2 ak (af 4) (aA 1))) bH)))))))) bf)
  (az (gy (jy (gB (g2 fV (af 3) (aA 7))) (gB (g2 pY 2.8 (cR (aa (aM "show") (aa (aM "ends") (aa (aM "judge") (aa (aM "bad") (aa (aM "good") (aa (aM "at") ag)))))))))) (aT (i5 8.7 (aI (ki (af 2) bH (b0 (g1 F8 (aA 1))))))) bf)
  (az (br 6 (aI (bD (rO [""," ","plan","plan a","plan a hand","plan a many","plan a many 3 ","plan  a many 3","plan a none 3"]))))
  (aT (g2 bw (aI (rm iB (af 6) (aI (bD (rO ["plan a steps 2 -2 1 1","lot a","lot a b c","odds a 1 0","rule a 1/3 1/2","draw a","Show a"]))))) (g2 d9 18.7 (aA 16)))))))))))))))
def di:List D->Option D:=eB 7 om
abbrev wt:aV:=(az (br 3 (eM mT (aa (g2 ak (aA 25) 8.8) ag)))
  (az (jd 4 (bD (aa (cR (aa (g2 ak (g2 ak (g2 ak 11.1 (af 1)) (aM " many ")) (af 3)) (aa (aM "NoPlan") ag))) (aa (cR (aa (g2 ak (g2 ak 11.1 (af 1)) (aM " till 0 3")) (aa (aM "NoPlan") ag))) ag))))
  (az (jd 4 (rm iB (af 4) (aI (bD (aa (cR (aa (g2 ak (g2 ak 11.1 (af 1)) (aM " steps 12 1 2 13")) (aa (aM "NoPlan") ag))) (aa (cR (aa (g2 ak (g2 ak 11.1 (af 1)) (aM " between 0 0 1 1 3")) (aa (aM "NoPlan") ag))) ag))))))
  (az (yg 4 (cR (aa (g2 ak (g2 ak (g2 ak (g2 ak 11.1 (af 1)) (aM " hand ")) (av eI 1 1.3)) (aM "|")) (aa (aM "NoText") ag))))
  (az (yg 4 (cR (aa (g2 ak (g2 ak 11.1 (af 1)) (aM " hand ")) (aa (aM "NoText") ag))))
  (az (jd 4 (rm iB (af 4) (aI (bD (aa (cR (aa (g2 ak (g2 ak (aM "odds ") (af 1)) (aM " 0 0 1/2")) (aa (aM "NoEnd") ag))) (aa (cR (aa (g2 ak (g2 ak (g2 ak (aM "share ") (af 1)) (aM " 0 ")) (eM mT (aa (g2 ak 22.3 (aA 1)) ag))) (aa (aM "NoEnd") ag))) ag))))))
  (az (jd 4 (rm iB (af 4) (aI (bD (aa (cR (aa (g2 ak (g2 ak (aM "rule ") (af 1)) (aM " 1/2 1/2 1")) (aa (aM "NoShares") ag))) (aa (cR (aa (g2 ak (g2 ak (aM "rule ") (af 1)) (aM " 0 1/2 1")) (aa (aM "NoShares") ag))) ag))))))
  (az (jd 4 (rm iB (af 4) (aI (bD (aa (cR (aa (g2 ak (g2 ak (aM "rule ") (af 1)) (aM " 1/2 1 0")) (aa (aM "NoShares") ag))) (aa (cR (aa (g2 ak (g2 ak 11.1 (af 1)) (aM " hand 0  0")) (aa (aM "NoText") ag))) ag))))))
  (aT (g2 bw (af 4) (g2 d9 2.8 (aA 12))))))))))))
def ra:List D->Option D:=eB 5 wt
abbrev iS(a:Addr):GD Dk:=(dJ (xN (Lu η 0 a (af 1)) (nU (jA "NoName")) ip)
  (yj (Lq η 0 a (af 1))))
def bG:Addr->List D->Dk->Option (D×Dk):=pe 2 iS
abbrev ji(a:Addr):GD Dk:=(dJ (LF θ 0 a (af 1) (dX (fP id 6.8 0 a bG 2 5.1) λy δ=>((cR (aa (aA 0) (aa (aA 0) ag))) δ).bind λz=>ε (.tuple [y,z])))
  (nU (aT (aM "ok"))))
def dZ:Addr->List D->Dk->Option (D×Dk):=pe 3 ji
abbrev jk(a:Addr):GD Dk:=(dJ (xN (Lu θ 0 a (af 1)) (nU (jA "NoName")) ip)
  (yj (Lq θ 0 a (af 1))))
def ck:Addr->List D->Dk->Option (D×Dk):=pe 2 jk
abbrev oo(a:Addr):GD Dk:=(dJ (LD 3 (fP id 6.8 0 a ck 2 2.5))
  (λ_ _=>ζ))
def jl:Addr->List D->Dk->Option (D×Dk):=pe 6 oo
abbrev km(a:Addr):GD Dk:=(dJ (QA η 0 a (af 1) (Eh (af 2)))
  (nU (aT (aM "ok"))))
def fR:Addr->List D->Dk->Option (D×Dk):=pe 3 km
abbrev qp(a:Addr):GD Dk:=(dJ (nU (j2 2 (av aG 1 2.5)))
  (dJ (nU (br 3 2.8))
  (dJ (nU (br 4 7.4))
  (dJ (nU (br 5 8.8))
  (dJ (nU (cc (av cN 1 (aa (af 4) ag))))
  (dJ (xN (Eh (jc (yR (af 3) 11.1))) (yj (QX id 6.8 0 a fR 3 (cB (af 4) (cB (av gH 2 (aa (af 3) 20.1)) lW)))) ip)
  (dJ (xN (Eh (gB (g2 fV (af 3) (aM "lot")))) (yj (fP id 6.8 0 a dZ 3 (aa (af 4) (aa (g2 bw (af 5) (aA 0)) ag)))) ip)
  (dJ (xN (Eh (gB (g2 fV (af 3) (aM "at")))) (yj (dX (dX (fP id 6.8 0 a ck 2 (aa (af 4) ag)) λy δ=>((aA 1) δ).bind (bw y)) λy _=>n9 [y])) ip)
  (dJ (xN (Eh (gB (g2 fV (af 3) (aM "bad")))) (yj (fP id 6.8 0 a jl 3 (aa (af 4) (aa (aM "b") ag)))) ip)
  (dJ (xN (Eh (gB (g2 fV (af 3) (aM "good")))) (yj (fP id 6.8 0 a jl 3 (aa (af 4) (aa (aM "g") ag)))) ip)
  (yj (dX (fP id 6.8 0 a bG 2 (aa (af 4) ag)) λy δ=>((aa (af 3) 20.1) δ).bind λds=>if ds.length+1=3 then eG (y::ds)else ζ))))))))))))
def bj:Addr->List D->Dk->Option (D×Dk):=pe 6 qp
abbrev eJ:=QO bj
abbrev rV(a:Addr):aV:=(aT (av (fi a) 1 5.1))
def Ao(a:Addr)(c:Str)(d:D)(h:nR ib (λc=>.str c) c=ε d):rV a ((List.replicate 3 ζ).set 2 (ε (Jm a c)))=ε (.rt d):=by
 obtain⟨hc,rfl⟩:=xM h
 exact UT rfl (aaj a c hc)
abbrev my(a:Addr):GD Dk:=(dJ (Ve (En (fP id 6.8 0 a bj 2 2.5)) (nR ib (λc=>.str c)))
  (nU (aT (aM "none"))))
def cn:Addr->List D->Dk->Option (D×Dk):=pe 3 my
abbrev Rf:aV:=(az (br 1 (aI (fJ j9 1 (aa (g2 d9 (av gq 2 (aa (af 0) (aa (aA 1) ag))) (g2 su (aA 10) (aA 30))) ag))))
  (az (br 2 4.3)
  (az (br 3 (av oj 2 (aa (av gq 2 (aa (af 0) (aa (aA 0) ag))) (aa (g2 ak (aA 1) (g2 d9 (av gq 2 (aa (af 0) (aa (aA 1) ag))) (aA 7))) ag))))
  (Ek 4 λa=>(dJ (GJ (fP id 6.8 4 a eJ 2 (aa (g2 ak (g2 ak (g2 ak 11.1 (af 2)) (aM " hand ")) (av eI 1 14.0)) ag)))
  (dJ (GJ (fP id 6.8 4 a eJ 2 (aa (g2 ak (g2 ak (g2 ak (aM "lot ") (af 2)) 8.7) (af 2)) ag)))
  (dJ (nU (br 5 (aI (bD (aa 7.5 (aa (Et 4.3) (aa (g2 ak 4.3 (aM "abcdefgh")) (aa (g2 ak 4.3 (aM "1")) (aa (aM "-") ag)))))))))
  (dJ (xN (dB (d2 BD (fP id 6.8 4 a eJ 2 (aa (g2 ak (g2 ak (g2 ak (g2 ak (aM "ways ") (af 2)) 8.7) (g2 rQ (aM "9") (aA 30))) (aM " 0")) ag)) (aM "0"))) (nU 6.7) ip)
  (dJ (Nz (bx (aI (rm iB (aI (ki (af 0) (b0 (aA 2)) (b0 (aA 22)))) (aI (bD (aa (av gq 2 (aa (af 0) (aa (aA 2) ag))) ag)))))) (bA 6)
   (dJ (nU (br 7 (aI (fJ iF 2 (aa (af 6) (aa (aI (bD (aa (aA 18) (aa (aA 9) (aa (aA 40) (aa (aA 40) (aa (g2 su (aA 10) (aA 9)) (aa (aA 5) ag)))))))) ag))))))
  (dJ (Nz (bx (cR (aa (af 2) (aa (g2 bw (af 5) 15.3) ag)))) (bA 8)
   (xN (dB (d2 BD (rP id 6.8 a cn 2 (aa (af 4) (aa (av di 2 (aa (av gX 3 (aa (af 8) (aa (af 2) (aa (af 7) ag)))) (aa (af 7) ag))) ag))) (aM "NoDeed"))) (nU 6.7) ip))
  (dJ (nU (br 9 (av gX 3 (aa (g2 bw (af 5) 15.3) (aa (af 2) (aa (af 7) ag))))))
  (dJ (nU (gy (jy (Od (gB (g2 fV (p6 (af 9) bH (b0 (aA 5))) 11.1)) (gB (g2 fV (p6 (af 9) bH (b0 (aA 4))) (aM "lot ")))) (gB (g2 fV 15.3 (aA 0)))) (br 9 (g2 ak (aM "show ") (g2 bw (af 5) 15.3))) bf))
  (dJ (xN (dB (d2 BD (rP id 6.8 a cn 2 (aa (af 4) (aa (af 9) ag))) (aM "NoName"))) (nU 6.7) ip)
  (dJ (nU (br 10 (g2 ak (aM " hand ") (g2 bw (aI (bD (aa (aM "0") (aa (aM "0|1") (aa (aM "x") (aa (aM "") (aa (aM "0||0") ag))))))) (g2 d9 (g2 bw (af 7) (aA 2)) (aA 5))))))
  (dJ (xN (Vn (Eh (gB (g2 BC 15.3 (aA 0)))) (dB (d2 BD (rP id 6.8 a cn 2 (aa (af 4) (aa (g2 ak (g2 ak 11.1 (g2 bw (af 5) 15.3)) (af 10)) ag))) (aM "NoName")))) (nU 6.7) ip)
  (dJ (nU (br 11 (av ra 3 (aa (af 3) (aa (af 2) (aa (af 7) ag))))))
  (dJ (xN (dB (d2 BD (rP id 6.8 a cn 2 (aa (af 4) (aa (g2 bw (af 11) (aA 0)) ag))) (g2 bw (af 11) (aA 1)))) (nU 6.7) ip)
  (xN (dOr (dB (d2 BD (fP id 6.8 4 a eJ 2 (aa (g2 ak (aM "show ") (af 2)) ag)) (av eI 1 14.0))) (dB (d2 BD (fP id 6.8 4 a eJ 2 (aa (g2 ak (aM "at ") (af 2)) ag)) (aM "0,0")))) (nU 6.7) ip)))))))))))
  (nU (aT (gC 11.6))))))))))))
def Di:List D->Option D:=eB 12 Rf
end aC
open L2
namespace aC
open PySem L2 Q1
def JL(ns:3.6)(k:Nat):gq [.list 9.1,.int k]=ε (.int (ns.getD k 0)):=by
 rw[JH]
 simp only[az,gy,gB,g2,af,adD,acT,ae7,eM,aa,ag,aaG,Q7,Pj,aT,GY,adA]
 rw[aaI,acI]
 by_cases h:k<ns.length
 .rw [abe 0.1,iI (v:=.int ns[k]) (by rw[abv,abh h];rfl),abh h];rfl
 .rw [abo 0.1,ahQ 0.1];rfl
noncomputable def dR(r:3.6):D:=.tuple (r.map .int)
def fW(p:g7):D:=.tuple (p.map dR)
def JM(l:3.6):Prop:=l.Pairwise (·<·)
def led(r:3.6):List Int:=ss (r++r.map (·+1))
def Nx(r s:3.6):Prop:=s≠[]/\JM s/\∀x∈s,x∈led r
def Xm:List Int->List (List Int)->Prop
 |_,[]=>True
 |r,s::q=>Nx r s/\Xm s q
def lst:List Int->List (List Int)->List Int
 |r,[]=>r
 |_,s::q=>lst s q
theorem G7:∀{q:g7} {r:3.6},Xm r q->Nx (lst r q) s->Xm r (q++[s])
 |[],_,_,h=>⟨h,trivial⟩
 |_::_,_,h1,h2=>⟨h1.1,G7 h1.2 h2⟩
theorem lst_snoc:∀{q:g7} {r:3.6},lst r (q++[s])=s
 |[],_=>rfl
 |_::q,_=>lst_snoc (q:=q)
structure Pl(p:g7):Prop where
 ex:∃q,p=[0]::q/\Xm [0] q
def EF:x∈led r↔x∈r\/x-1∈r:=by
 unfold led
 rw[IZ,abg,abt]
 constructor
 .grind
 .grind
theorem G8:∀{l:3.6} {a b:Int},JM l->(∀x∈l,a<=x/\x<=b)->(l.length:Int)<=max 0 (b-a+1)
 |[],a,b,_,_=>by simp;lia
 |x::l,a,b,h,hb=>by
   obtain⟨h1,h2⟩:=afB.mp h;have hx:=hb x abd;have:=G8 (l:=l) (a:=x+1) (b:=b) h2 λy hy=>⟨by have:=h1 y hy;lia,(hb y (aa8 _ hy)).2⟩;rw[abk];lia
def oq(h1:af i δ=ε (.list ds))(h2:g δ=ε d)(h3:ds.length<100000):yg i g δ=ε (.nx (δ.set i (ε (.list (ds++[d]))))):=by
 unfold yg
 rw[h1,h2]
 show(if ds.length<100000 then _ else _)=_
 rw[abe h3]
def Xn(h:g δ=ε d)(h2:ZE d=ε 9.1)(h3:ns.length<64):ZF g δ=ε ((ss ns).map .int):=by
 unfold ZF
 rw[h,aaG,h2,aaG,CS,aaG,abe h3]
def jm(h1:a δ=ε (.list x))(h2:b δ=ε (.list y))(h3:x.length+y.length<=100000):rm iB a b δ=ε (x++y):=by
 unfold rm
 rw[h1,h2]
 show(if x.length+y.length<=100000 then _ else _)=_
 rw[abe h3]
theorem rW(x:Bool)(h:c δ=ε x)(h1:x=η->a δ=r)(h2:x=θ->b δ=r):gy c a b δ=r:=by
 unfold gy
 rw[h]
 cases x with
 |true=>exact h1 rfl
 |false=>exact h2 rfl
def Rg{α:Type}(enc:α->D)(l:List α)(lo hi:Option Int):∃m:List α,cutD (l.map enc) lo hi=m.map enc/\m.Sublist l:=by
 refine⟨(l.drop (HT.sk l.length 0 lo)).take (HT.sk l.length l.length hi-HT.sk l.length 0 lo),?_,(List.take_sublist _ _).trans (List.drop_sublist _ _)⟩
 unfold cutD
 rw[aaI,ai2,ai3]
def jn(h:g δ=ε ds)(h2:f ds=r):eM f g δ=r:=by unfold eM;rw[h];exact h2
def part_of(h:g δ=ε 17.6):b0 g δ=ε (ε i):=by unfold b0;rw[h];rfl
def Rh(h1:a δ=ε 8.3)(h2:b δ=ε 8.3\/b δ=ε (dR r))(hl:r.length<32):ZF (aI (rm iB a (aI (eF (bx b) [] (g2 ak (af 0) (gC (.int 1))))))) δ=ε ((led r).map .int):=by
 have hi:bx b δ=ε (r.map .int):=by
  unfold bx;rcases h2 with h2|h2;.grind
  .rw [h2];rfl
 have hc:eF (bx b) [] (g2 ak (af 0) (gC (.int 1))) δ=ε ((r.map (·+1)).map .int):=jf PyData.int PyData.int (λx=>x+1) r hi 0.1 (λx _=>rfl)
 have ahN:=jm h1 (aK hc) 3.4
 refine Xn (aK ahN) ?_ 3.4
 rw[adf]
 rfl
def xU(c b:Int)(n:Nat)(hb:0<b)(hn:n<=1000):jD (j8 [.int c,.int b,.int (n:Nat)]) λds=>∃l:List Int,ds=l.map .int/\l.length=n/\∀x∈l,0<=x/\x<b:=by
 rw[G0]
 refine bQ [sI c,sI b,sI (n:Nat),sL ([]),ζ,ζ] rfl ?_
 refine uD 0 n (λi δ=>∃(l:3.6) (x y:23.0),δ=[sI c,sI b,sI (n:Nat),sL 22.6,x,y]/\l.length=i/\∀x∈l,0<=x/\x<b) (kT rfl 0.1) ⟨[],ζ,ζ,rfl,rfl,by simp⟩ ?_ ?_
 .rintro i δ hi ⟨l,x,y,rfl,hl,hx⟩;have m1:i3 (.int (c%1000003)) (.int 48271)=ε (.int (c%1000003*48271)):=pf (mul_right 0.0 0.0);have m2:i3 (.int 6.4) (.int 6.4)=ε (.int (6.4*6.4)):=pf (mul_right 0.1 0.1);have m3:i3 (.int (6.4*6.4)) (.int 69621)=ε (.int (6.4*6.4*69621)):=pf (mul_right 0.0 0.0);have m4:i3 (.int 6.4) (.int 16807)=ε (.int (6.4*16807)):=pf (mul_right 0.0 0.0);refine⟨_,[sI c,sI b,sI (n:Nat),sL ((l++[_]).map .int),sI 6.4,sI ((c%1000003*48271+6.4*6.4*69621+6.4*16807)%2147483647)],rfl,
   gL [sI c,sI b,sI (n:Nat),sL 22.6,sI 6.4,sI ((c%1000003*48271+6.4*6.4*69621+6.4*16807)%2147483647)]
    (aU (ao (ao (ao (ao (ao rfl rfl (gQ 0.0)) rfl m1) (ao (ao rfl rfl m2) rfl m3) rfl) (ao rfl rfl m4) rfl) rfl (gQ 0.0)))
    ((oq (d:=.int (((c%1000003*48271+6.4*6.4*69621+6.4*16807)%2147483647*39373+c)%2147483629/13%b)) rfl
      (ao (ao (ao (ao (ao rfl rfl (pf (mul_right 0.0 0.0))) rfl rfl) rfl (gQ 0.0)) rfl (GW 0.0 (Ah (jw (m:=4) 0.0) 0.0))) rfl (gQ hb)) 3.4).trans (by rw[adf];rfl)),l++[_],_,_,rfl,by simp[hl],?_⟩;intro z hz;rcases abg.mp hz with q|q;.grind
  .rw [aff.mp q];exact⟨afv _ 0.1,afg _ hb⟩
 .rintro δ' ⟨l,x,y,rfl,hl,hx⟩;exact ret (.list 22.6) rfl (.mk rfl ⟨l,rfl,hl,hx⟩)
def EG(c b:Int)(n:Nat)(hb:0<b)(hb2:bt b<=9000)(hn:n<=1000):jD (jh [.int c,.int b,.int (n:Nat)]) λds=>∃l:List Int,ds=l.map .int/\l.length=n/\∀x∈l,0<=x/\x<b:=by
 rw[EE]
 refine bQ [sI c,sI b,sI (n:Nat),sL ([]),ζ] rfl ?_
 refine uD 0 n (λi δ=>∃(c:Int) (l:3.6) (x:23.0),δ=[sI c,sI b,sI (n:Nat),sL 22.6,x]/\l.length=i/\∀x∈l,0<=x/\x<b) (kT rfl 0.1) ⟨c,[],ζ,rfl,rfl,by simp⟩ ?_ ?_
 .rintro i δ hi ⟨c,l,x,rfl,hl,hx⟩;refine⟨_,[sI (c/b),sI b,sI (n:Nat),sL ((l++[c%b]).map .int),sI 6.4],rfl,
   gL [sI c,sI b,sI (n:Nat),sL ((l++[c%b]).map .int),sI 6.4] ((oq (d:=.int (c%b)) rfl (ao rfl rfl (gQ hb)) 3.4).trans (by rw[adf];rfl)) (aU (ao rfl rfl (GW hb hb2))),c/b,l++[c%b],_,rfl,by simp[hl],?_⟩;intro z hz;rcases abg.mp hz with q|q;.grind
  .rw [aff.mp q];exact⟨afv _ 0.1,afg _ hb⟩
 .rintro δ' ⟨c,l,x,rfl,hl,hx⟩;exact ret (.list 22.6) rfl (.mk rfl ⟨l,rfl,hl,hx⟩)
theorem LP(hf:∀(k:Nat) (x:Int),∃b:Bool,f (.tuple [.int (k:Nat),.int x])=ε (if b=η then ε (.int x)else ζ)):∀(l:3.6) (n:Nat),∃m:List Int,zR f (((l.map PyData.int).zipIdx n).map λp=>.tuple [.int (p.2:Nat),p.1])=ε (m.map .int)/\m.Sublist l
 |[],n=>⟨[],rfl,.slnil⟩
 |x::l,n=>by
   obtain⟨m,e,hs⟩:=LP hf l (n+1);obtain⟨b,hb⟩:=hf n x;rw[abl,List.zipIdx_cons,abl,zR,hb,aaG,e,aaG];cases b with
   |true=>exact⟨x::m,rfl,hs.cons₂ x⟩
   |false=>exact⟨m,rfl,hs.cons x⟩
def JN{l:3.6}{i:Int}(h0:0<=i)(h1:i<l.length):∃x,x∈l/\bw (.list 22.6) 17.6=ε (.int x):=by
 obtain⟨k,rfl⟩:∃k:Nat,i=(k:Int):=⟨i.toNat,by lia⟩
 have hk:k<l.length:=by lia
 exact⟨l[k],agz hk,iI (by rw[abv,abh hk];rfl)⟩
def ahO:led [0]=[0,1]:=PV 0.2 (by intro z;simp)
def sZ(c:Int)(m n:Nat)(x y z u v:23.0):DS:=[ε (.int c),ε 23.9,ε (.int (c/4)),ε (.int (n:Nat)),x,y,z,u,v]
def sY(c:Int)(m n:Nat)(dg:3.6)(q:g7)(eD:3.6)(pos:Nat)(z:23.0):DS:=sZ c m n 14.8 (ε (.list (([0]::q).map dR))) (ε (.list (eD.map .int))) (ε (.int (pos:Nat))) z
theorem JO(c:Int)(m:Nat)(hm1:1<=m)(hm:m<=24):jD (oj [.int c,.int (m:Nat)]) λd=>∃p,d=fW p/\Pl p/\p.length<=m/\∀r∈p,r.length<=25:=by
 have p18:su (.int 10) (.int 18)=ε (.int (10^18)):=LK (k:=18) 0.0 0.0
 obtain⟨many,aej,aal,aek⟩:∃many:Nat,100<=many/\many<=300/\g2 ak (aA 100) (g2 i3 (aA 200) (eM Uo (aa (g2 BC (af 1) (aA 12)) ag))) [sI c,sI (m:Nat),sI (c/4),ζ,ζ,ζ,ζ,ζ,ζ]=ε (.int (many:Nat)):=by
  by_cases h:(12:Int)<(m:Int)
  .refine ⟨300,by decide,by decide,ao rfl (ao rfl (show _=ε (.int 1)from ?_) (pf (mul_right 0.0 0.0))) rfl⟩;show ε (PyData.int (if ι ((12:Int)<(m:Int))=η then 1 else 0))=_;rw[abq h];rfl
  .refine ⟨100,by decide,by decide,ao rfl (ao rfl (show _=ε (.int 0)from ?_) (pf (mul_right 0.0 0.0))) rfl⟩;show ε (PyData.int (if ι ((12:Int)<(m:Int))=η then 1 else 0))=_;rw[abD h];rfl
 have Vw:(0:Int)<(many:Int):=Int.ofNat_lt.mpr (abc 0.0 aej)
 have Ri:many<=1000:=acw aal 0.0
 refine bQ [sI c,sI (m:Nat),sI (c/4),ζ,ζ,ζ,ζ,ζ,ζ] (aU (ao rfl rfl (GW 0.0 (Ah (jw (m:=4) 0.0) 0.0)))) ?_
 refine bQ (sZ c m many ζ ζ ζ ζ ζ) (aU aek) ?_
 obtain⟨_,e1,l1,rfl,hl1,hx1⟩:=xU (c/4) 3 many 0.0 Ri
 refine bQ (sZ c m many (ε (.list (l1.map .int))) ζ ζ ζ ζ) (aU (aK (iE (cons_of rfl 4.2) rfl e1))) ?_
 have dig:∃dg:List Int,dg.length=many/\gy (gB (g2 KZ (eM DV 1.3) 19.9)) (br 4 (aI (fJ jh 3 (aa (af 2) (aa (aA 3) 14.0))))) bf (sZ c m many (ε (.list (l1.map .int))) ζ ζ ζ ζ)
   =ε (.nx (sZ c m many 14.8 ζ ζ ζ ζ)):=by
  obtain⟨_,e2,l2,rfl,MN,hx2⟩:=EG (c/4) 3 many 0.0 (Ah (jw (m:=4) 0.0) 0.0) Ri;have hc:gB (g2 KZ (eM DV 1.3) 19.9) (sZ c m many (ε (.list (l1.map .int))) ζ ζ ζ ζ)=ε (ι ((10^18:Int)<=(if c<0 then -c else c))):=dM (ao rfl p18 rfl);by_cases h:((10^18:Int)<=(if c<0 then -c else c));.exact ⟨l2,MN,rW η (by rw[hc,abq h]) (λ_=>aU (aK (iE (cons_of rfl 4.2) rfl e2))) 3.5⟩
  .exact ⟨l1,hl1,rW θ (by rw[hc,abD h]) 3.5 (λ_=>rfl)⟩
 obtain⟨dg,hdg,edg⟩:=dig
 refine bQ _ edg ?_
 refine Dc (λk δ=>∃(q:g7) (eD:3.6) (pos:Nat) (z:23.0),δ=19.1/\
   Xm [0] q/\q.length+1<=m/\(eD=[]\/eD=led (lst [0] q))/\JM eD/\(∀x∈eD,0<=x/\x<=(q.length:Int)+1)/\(∀r∈q,r.length<=25)/\k=2*(m-q.length)+(if eD=[]then 0 else 1))
  (λδ=>∃(q:g7) (x y z:23.0),δ=(sZ c m many 14.8 (ε (.list (([0]::q).map dR))) x y z)/\Xm [0] q/\q.length+1<=m/\∀r∈q,r.length<=25)
  (2*m+1) ⟨[],[0,1],0,ζ,rfl,trivial,by simpa using hm1,.inr ahO.symm,by unfold JM;simp,by intro x hx;simp at hx;rcases hx with h|h<;>subst h<;>decide,by simp,by simp⟩ ?_ ?_
 .rintro k δ ⟨q,eD,pos,z,rfl,hq,hqm,ael,hr,hb,rp,rfl⟩;have hlen:eD.length<=q.length+2:=by
   have:=G8 hr hb;lia
  have cond:jy (gB (g2 IK (eM cA 20.1) (af 1))) (gB (g2 BC 22.0 (aA 0))) 19.1
    =ε (ι ((((([0]::q).map dR).length:Nat):Int)<(m:Int))&&ι ((0:Int)<(((eD.map PyData.int).length:Nat):Int))):=by
   by_cases h:((((([0]::q).map dR).length:Nat):Int)<(m:Int));.rw [abq h,ahp];exact aad (dM (b:=η) (show _=_ from ade (λb=>ε (PyData.bool b)) (abq h))) (dM rfl)
   .rw [abD h,Bool.false_and];have h1:gB (g2 IK (eM cA 20.1) (af 1)) 19.1=ε false:=
     dM (b:=θ) (show _=_ from ade (λb=>ε (PyData.bool b)) (abD h));unfold jy;rw[h1];rfl
  rw[cond];cases xC:(ι ((((([0]::q).map dR).length:Nat):Int)<(m:Int))&&ι ((0:Int)<(((eD.map PyData.int).length:Nat):Int)))with
  |false=>exact .inl ⟨rfl,q,_,_,_,rfl,hq,hqm,rp⟩
  |true=>
    have alD:q.length+1<m:=by grind
    have gT:eD≠[]:=by grind
    have BG:=ael.resolve_left gT;refine .inr ⟨rfl,?_⟩;have comp:∃r1:List Int,gK (nI (af 6)) 2 [4,3,7] (mR 2 13.6) (gB 22.9) (af 1)
      19.1=ε (r1.map .int)/\r1.Sublist eD:=by
     obtain⟨f,ef⟩:∃f:D->Option (Option D),f=λd=>(mR 2 13.6 d (List.replicate 2 ζ++fM [4,3,7] 19.1)).bind λgV=>
       (gB 22.9 gV).bind λb=>if b=η then(af 1 gV).map ε else ε none:=⟨_,rfl⟩;have hf:∀(k:Nat) (x:Int),∃b:Bool,f (.tuple [.int (k:Nat),.int x])=ε (if b=η then ε (.int x)else ζ):=by
      intro k x;obtain⟨y,_,ey⟩:=JN (l:=dg) (i:=((pos:Nat)+(k:Nat):Int)%(many:Nat)) (afv _ (Int.ne_of_gt Vw)) (by rw[hdg];exact afg _ Vw);refine⟨ι (0<y),?_⟩;rw[ef];show(Option.bind (ε [ε (PyData.int (k:Nat)),sI x,sL (dg.map .int),sI (many:Nat),sI (pos:Nat)]) _)=_;rw[aaG];have hb:gB 22.9 [ε (PyData.int (k:Nat)),sI x,sL (dg.map .int),sI (many:Nat),sI (pos:Nat)]=ε (ι (0<y)):=
       dM (ao (ao rfl (ao 5.9 rfl (gQ Vw)) ey) rfl rfl);rw[hb,aaG];cases ι (0<y)<;>rfl
     obtain⟨m1,em1,SX⟩:=LP hf eD 0;refine⟨m1,?_,SX⟩;unfold gK;rw[show nI (af 6) 19.1=ε (ug (eD.map .int))from rfl,aaG,abe (by rw[CO,aaI];lia)];rw[ef]at em1;exact em1
    obtain⟨r1,er1,SX⟩:=comp;have slice:∃r:List Int,r.Sublist eD/\gy (gB (g2 BC (g2 d9 (af 0) (aA 4)) (aA 1))) (br 8 (aI (ki (af 6) (b0 (g2 bw (af 4) (g2 d9 (af 7) (af 3)))) (b0 (eM xG (aa (aA 0) (aa (g2 vH 22.0 (g2 bw (af 4) (g2 d9 (g2 ak (af 7) (aA 1)) (af 3)))) ag))))))) bf
      1.8
      =ε (.nx (sZ c m many 14.8 (ε (.list (([0]::q).map dR))) (ε (.list (eD.map .int))) (ε (.int ((pos:Nat)+(eD.map PyData.int).length))) (ε 8.3))):=by
     obtain⟨y1,_,ey1⟩:=JN (l:=dg) (i:=((pos:Nat)+(eD.map PyData.int).length:Int)%(many:Nat)) (afv _ (Int.ne_of_gt Vw)) (by rw[hdg];exact afg _ Vw);obtain⟨y2,_,ey2⟩:=JN (l:=dg) (i:=((pos:Nat)+(eD.map PyData.int).length+1:Int)%(many:Nat)) (afv _ (Int.ne_of_gt Vw)) (by rw[hdg];exact afg _ Vw);have hc:gB (g2 BC (g2 d9 (af 0) (aA 4)) (aA 1)) 1.8=ε (ι (1<c%4)):=
      dM (ao (ao rfl rfl (gQ 0.0)) rfl rfl);by_cases h:1<c%4
     .obtain ⟨r2,er2,yJ⟩:=Rg PyData.int eD (ε y1) (ε (if 18.0-y2>0 then 18.0-y2 else 0));refine⟨r2,yJ,rW η (by rw[hc,abq h]) (λ_=>aU (aK ?_)) 3.5⟩;have f1:b0 (g2 bw (af 4) (g2 d9 (af 7) (af 3))) 1.8=ε (ε y1):=by
       exact part_of (ao rfl (ao rfl rfl (gQ Vw)) ey1)
      have f2:b0 (eM xG (aa (aA 0) (aa (g2 vH 22.0 (g2 bw (af 4) (g2 d9 (g2 ak (af 7) (aA 1)) (af 3)))) ag))) 1.8
        =ε (ε (if 18.0-y2>0 then 18.0-y2 else 0)):=by
       have g:g2 vH 22.0 (g2 bw (af 4) (g2 d9 (g2 ak (af 7) (aA 1)) (af 3))) 1.8=ε (.int (18.0-y2)):=
        ao rfl (ao rfl (ao 5.9 rfl (gQ Vw)) ey2) rfl;exact part_of (jn (cons_of rfl (cons_of g rfl)) rfl)
      unfold ki;rw[f1,f2];show ε (cutD (eD.map .int) _ _)=_;rw[er2]
     .exact ⟨r1,SX,rW θ (by rw[hc,abD h]) 3.5 (λ_=>rfl)⟩
    obtain⟨r,hs,esl⟩:=slice;have hrr:=hr.sublist hs;have hrl:r.length<=25:=by have:=hs.length_le;lia
    have e6:=Rh (a:=af 8) (b:=af 8) (δ:=(sZ c m many 14.8 (ε (.list (([0]::q).map dR))) (ε (.list (eD.map .int))) (ε (.int ((pos:Nat)+(eD.map PyData.int).length))) (ε 8.3))) (r:=r) rfl 15.6 0.1;by_cases hre:r=[]
    .subst hre;refine⟨(sZ c m many 14.8 (ε (.list (([0]::q).map dR))) (ε (.list (([]:List Int).map .int))) (ε (.int (((pos+eD.length:Nat):Nat):Int))) (ε (.list (([]:List Int).map .int)))),2*(m-q.length),?_,by rw[abo gT];lia,q,[],pos+eD.length,_,rfl,hq,hqm,.inl rfl,.nil,by simp,rp,by simp⟩;refine gL _ (aU (aK er1)) (gL _ (aU 5.9) (gL _ esl (gL _ (aU (aK e6)) ?_)));rw[aaI];rfl
    .have hnx:Nx (lst [0] q) r:=⟨hre,hrr,λ20=>BG ▸ hs.subset hx⟩;refine⟨(sZ c m many 14.8 (ε (.list (([0]::(q++[r])).map dR))) (ε (.list ((led r).map .int))) (ε (.int (((pos+eD.length:Nat):Nat):Int))) (ε 8.3)),2*(m-(q++[r]).length)+(if led r=[]then 0 else 1),?_,?_,q++[r],led r,pos+eD.length,_,rfl,G7 hq hnx,by simp;lia,.inr (by rw[lst_snoc]),vP,?_,?_,rfl⟩
     .refine gL _ (aU (aK er1)) (gL _ (aU 5.9) (gL _ esl (gL _ (aU (aK e6)) ?_)));have GC:(0:Int)<((r.map PyData.int).length:Int):=by
       have:=agx.mpr hre;simp;lia
      refine(rW η (dM (b:=η) (show _=_ from ade (λb=>ε (PyData.bool b)) (abq GC))) (λ_=>oq (ds:=([0]::q).map dR) (d:=dR r) rfl rfl 3.4) λz=>nomatch z).trans ?_;rw[aaI,<-List.cons_append,adf];rfl
     .have hl:led r≠[]:=λe=>by
       obtain⟨x,hx⟩:=List.exists_mem_of_ne_nil r hre;have:=EF.mpr (.inl hx);rw[e]at this;simp at this
      rw[abo hl,abo gT];simp;lia
     .intro x hx;rcases EF.mp hx with h|h;.grind
      .grind
     .grind
 .rintro δ' ⟨q,x,y,z,rfl,hq,hqm,rp⟩;refine ret (fW ([0]::q)) rfl (.mk rfl ⟨[0]::q,rfl,⟨q,rfl,hq⟩,by simpa using hqm,λr hr=>?_⟩);rcases aa9.mp hr with h|h;.grind
  .grind
def LQ{T:3.6}:M0 17.6 (.list 22.7)=ε (.bool (ι (i∈T))):=by
 have hf:(lh 17.6&&(T.map PyData.int).all lh)=true:=by simp[lh]
 show(if(lh 17.6&&(T.map PyData.int).all lh)=η then ε (PyData.bool ((T.map PyData.int).any λz=>Ut z 17.6))else ζ)=_
 rw[abe hf,ahD]
 congr 2
 rw[afX,List.any_eq_true,adA]
 constructor
 .rintro ⟨x,hx,e⟩;rw[Function.comp,K6,adA]at e;rw[<-e];exact hx
 .intro h;exact⟨i,h,by rw[Function.comp,K6];simp⟩
def aam:M0 17.6 (dR T)=ε (.bool (ι (i∈T))):=LQ
def dd(b:Int)(h:0<b)(h2:b.natAbs<2^70):mm (.int a) (.int b)=ε (.int (a/b)):=GW h (Ah (jw h2) 0.0)
theorem Ap(h1:a δ=ε (.bool x))(h2:x=η->b δ=ε (.bool y)):i4 a b δ=ε (.bool (x&&y)):=by
 unfold i4
 rw[dM h1,aaG]
 cases x with
 |true=>rw[abe rfl,h2 rfl];rfl
 |false=>rfl
def aem(h0:0<=i)(h1:i<(p.length:Int)):bw (fW p) 17.6=ε (dR (p.getD i.toNat [])):=by
 obtain⟨k,rfl⟩:∃k:Nat,i=(k:Int):=⟨i.toNat,by lia⟩
 have hk:k<p.length:=by lia
 refine iI ?_
 rw[abv,adU,acI,abh hk]
 rfl
abbrev WF:=Int->Int->Int
def dC(c:Int×Int):D:=.tuple [.int c.1,.int c.2]
noncomputable def rX(F:WF)(c:Int×Int):WF:=λx y=>F x y+(if x=c.1+1/\y=c.2 then F c.1 c.2 else 0)+(if x=c.1/\y=c.2+1 then F c.1 c.2 else 0)
def JP(c:Int×Int):WF:=λx y=>if x=c.1/\y=c.2 then 1 else 0
def Rj(n:Nat)(r:3.6):List (Int×Int):=r.map λb=>(b,(n:Int)-b)
def fA:Nat->List (List Int)->List (Int×Int)
 |_,[]=>[]
 |n,r::p=>Rj n r++fA (n+1) p
theorem wu(r:3.6):∀(p:g7) (n:Nat),fA n (p++[r])=fA n p++Rj (n+p.length) r
 |[],n=>by simp[fA]
 |s::p,n=>by
   rw[ae6,fA,fA,wu r p (n+1),ac2,abk,show n+1+p.length=n+(p.length+1)by lia]
theorem Aq:∀(p:g7) (n:Nat),(∀r∈p,r.length<=25)->(fA n p).length<=25*p.length
 |[],_,_=>by simp[fA]
 |r::p,n,h=>by
   have h1:=Aq p (n+1) λs hs=>h s (aa8 _ hs);have h2:=h r abd;rw[fA,abm,abk,Rj,aaI];lia
structure Dt(kds:gU)(F:WF):Prop where
 fn:Uh kds=θ
 ahR:∀b g:Int,(gP kds [.inl b,.inl g]).getD (.int 0)=.int (F b g)
instance {kds:gU}{F:WF}:CoeFun (Dt kds F) (λ_=>∀b g:Int,(gP kds [.inl b,.inl g]).getD (.int 0)=.int (F b g)):=⟨Dt.ahR⟩
theorem Vx(h:Uh kds=θ):Uh (mS kds k d)=false:=by
 unfold mS
 split
 .cases kds with
  |nil=>rfl
  |cons p r=>
    obtain⟨p1,p2⟩:=p;rw[abl];split<;>(cases p1 with
     |list l=>
       cases l with
       |nil=>cases h
       |cons _ _=>rfl
     |_=>rfl)
 .cases kds with
  |nil=>rfl
  |cons p r=>
    obtain⟨p1,p2⟩:=p;cases p1 with
    |list l=>
      cases l with
      |nil=>cases h
      |cons _ _=>rfl
    |_=>rfl
def uG(h1:gd δ=ε 15.9)(h2:gk δ=ε (dC c))(h3:ge δ=ε z)(hf:Uh kds=false:=by first|assumption|exact Dt.fn (by assumption)):vS gd gk ge δ=ε ((gP kds [.inl c.1,.inl c.2]).getD z):=by
 unfold vS;rw[h1,h2,h3]
 show(if Uh kds=η then ζ else _)=_
 rw[hf];rfl
def LR(h1:af i δ=ε 15.9)(h2:gk δ=ε (dC c))(h3:ge δ=ε d)(h4:kds.length<100000):Lb i gk ge δ=ε (.nx (δ.set i (ε (.dict (mS kds [.inl c.1,.inl c.2] d))))):=by
 unfold Lb;rw[h1,h2,h3]
 show(if kds.length<100000 then _ else _)=_
 rw[abe h4]
def aan:(([.inl b,.inl g]:List Key)=[.inl x,.inl y])↔b=x/\g=y:=by simp
def ahS{t:13.4}{b:DS->Option Res}{d1 d2:D}{δ:DS}(gV JC Td δ4:DS)(h1:t d1 δ=ε gV)(h2:b gV=ε (.nx JC))(h3:t d2 JC=ε Td)(h4:b Td=ε (.nx δ4)):sv t b [d1,d2] δ=ε (.nx δ4):=by
 simp only[sv,h1,h2,h3,h4,aaG]
def Dt.put(h:Dt kds F)(x y v:Int):Dt (mS kds [.inl x,.inl y] (.int v)) (λb g=>if b=x/\g=y then v else F b g):=by
 refine⟨Vx h.fn,λb g=>?_⟩
 rw[Nf]
 by_cases e:b=x/\g=y
 .grind
 .rw [abo (λz=>e (aan.mp z)),abo e];exact h b g
def Rk(h1:af i δ=ε (.list ds))(h2:g δ=ε zs)(h3:ds.length+zs.length<=100000):PD i g δ=ε (.nx (δ.set i (ε (.list (ds++zs))))):=by
 unfold PD
 rw[h1,h2]
 show(if ds.length+zs.length<=100000 then _ else _)=_
 rw[abe h3]
def Vy(p:g7):ug (p.map dR)=p.zipIdx.map λx=>.tuple [.int (x.2:Nat),dR x.1]:=by
 unfold ug
 rw[List.zipIdx_map,afl]
 rfl
theorem JQ(hl:19.7)(rp:16.4):lC [fW p]=ε ((fA 0 p).map dC):=by
 refine cj ?_
 refine yV (λx:List Int×Nat=>PyData.tuple [.int (x.2:Nat),dR x.1]) p.zipIdx (λi δ=>∃a b,δ=[ε (fW p),sL ((fA 0 (p.take i)).map dC),a,b]) ?_ ⟨ζ,ζ,rfl⟩ ?_ ?_
 .show ε (ug (p.map dR))=_;rw[Vy]
 .rintro i ⟨r,n⟩ δ hi ⟨a,b,rfl⟩;rw[agQ]at hi;cases er:p[i]? with
  |none=>rw[er]at hi;cases hi
  |some r'=>
    rw[er]at hi;simp at hi;obtain⟨rfl,rfl⟩:=hi;have hil:=(abp.mp er).1;have hr:=rp r' (afd er);have ht:p.take (i+1)=p.take i++[r']:=by
     rw[agH,er];rfl
    have hln:(p.take i).length=i:=by rw[afy];lia
    have hc0:=Aq (p.take i) 0 λs hs=>rp s (aim hs);refine⟨_,[ε (fW p),sL ((fA 0 (p.take (i+1))).map dC),sI (i:Nat),ε (dR r')],rfl,?_,_,_,rfl⟩;have hc:eF (bx (af 3)) [2] (cR (aa (af 0) (aa (g2 vH (af 1) (af 0)) ag))) [ε (fW p),sL ((fA 0 (p.take i)).map dC),sI (i:Nat),ε (dR r')]=ε ((r'.map λb=>(b,(i:Int)-b)).map dC):=
     jf PyData.int dC (λb=>(b,(i:Int)-b)) r' rfl 0.1 λx _=>rfl;refine(Rk rfl hc (by simp only[aaI];lia)).trans ?_;rw[ht,wu,hln,Nat.zero_add,adf];rfl
 .rintro δ' ⟨a,b,rfl⟩;refine ret (.list ((fA 0 p).map dC)) ?_ 5.7;rw[List.length_zipIdx,ai9];rfl
def Ar(ha:PyData.strOk a=η)(hb:PyData.strOk b=η)(hc:(a==b)=c):fV (.str a) (.str b)=ε (.bool c):=by
 unfold fV
 simp[SeqAt.shaped,PyData.canLay0,PyData.depth,PyData.eqv,ha,hb,hc]
def NN(c:Int×Int):jS [dC c,.str "b"]=ε (dC (c.1+1,c.2)):=by
 exact cj (yW η (dM (b:=η) (ao rfl rfl (Ar ⋯ ⋯ ⋯))) (λ_=>yX (dC (c.1+1,c.2)) rfl 5.7) λz=>nomatch z)
def NO(c:Int×Int):jS [dC c,.str "g"]=ε (dC (c.1,c.2+1)):=by
 exact cj (sP (dM (b:=θ) (ao rfl rfl (Ar ⋯ ⋯ ⋯))) (ret (dC (c.1,c.2+1)) rfl 5.7))
def G9(hl:19.7)(rp:16.4)(c:Int×Int):∃kds,j6 [fW p,dC c]=ε 15.9/\Dt kds ((fA 0 p).foldl rX (JP c)):=by
 have BG:=Aq p 0 rp
 have main:jD (j6 [fW p,dC c]) λd=>∃kds,d=.dict kds/\Dt kds ((fA 0 p).foldl rX (JP c)):=by
  refine bQ [ε (fW p),ε (dC c),ε (.dict [(dC c,.int 1)]),ζ,ζ,ζ] rfl ?_;refine yV dC (fA 0 p) (λi δ=>∃kds a b e,δ=[ε (fW p),ε (dC c),ε 15.9,a,b,e]/\Dt kds (((fA 0 p).take i).foldl rX (JP c))/\kds.length<=1+2*i) ?_ ⟨_,_,_,_,rfl,?_,by simp⟩ ?_ ?_
  .have ec:aI (fJ lC 1 1.3) [ε (fW p),ε (dC c),ε (.dict [(dC c,.int 1)]),ζ,ζ,ζ]=ε (.list ((fA 0 p).map dC)):=aK (iE 0.9 rfl (JQ hl rp));unfold bx;rw[ec];rfl
  .refine ⟨rfl,λb g=>?_⟩;exact(Dt.put (kds:=[]) (F:=λ_ _=>0) ⟨rfl,λb g=>rfl⟩ c.1 c.2 1) b g
  .rintro i k δ hi ⟨kds,a,b,e,rfl,hd,hlen⟩;have hil:=(abp.mp hi).1;obtain⟨F,hF⟩:∃F,F=((fA 0 p).take i).foldl rX (JP c):=⟨_,rfl⟩;rw[<-hF]at hd;have aeo:((fA 0 p).take (i+1)).foldl rX (JP c)=rX F k:=by
    rw[agH,hi,List.foldl_append,<-hF];rfl
   obtain⟨k1,Zt⟩:∃k1,k1=mS kds [.inl (k.1+1),.inl k.2] (.int (F (k.1+1) k.2+F k.1 k.2)):=⟨_,rfl⟩;have hd1:=hd.put (k.1+1) k.2 (F (k.1+1) k.2+F k.1 k.2);rw[<-Zt]at hd1;have hd2:=hd1.put k.1 (k.2+1) (F k.1 (k.2+1)+F k.1 k.2);have l1:k1.length<=kds.length+1:=by rw[Zt];exact CZ _ _ _
   have l2:=CZ k1 [.inl k.1,.inl (k.2+1)] (.int (F k.1 (k.2+1)+F k.1 k.2));refine⟨_,[ε (fW p),ε (dC c),ε (.dict (mS k1 [.inl k.1,.inl (k.2+1)] (.int (F k.1 (k.2+1)+F k.1 k.2)))),ε (dC k),sI (F k.1 k.2),ε (dC (k.1,k.2+1))],rfl,?_,_,_,_,_,rfl,?_,by lia⟩
   .refine gL [ε (fW p),ε (dC c),ε 15.9,ε (dC k),sI (F k.1 k.2),e] (aU ((uG rfl rfl rfl).trans (ade ε (hd k.1 k.2)))) ?_;unfold pW;have hit:bx (cR (aa (av jS 2 (aa (af 3) (aa (aM "b") ag))) (aa (av jS 2 (aa (af 3) (aa (aM "g") ag))) ag))) [ε (fW p),ε (dC c),ε 15.9,ε (dC k),sI (F k.1 k.2),e]=ε [dC (k.1+1,k.2),dC (k.1,k.2+1)]:=by
     have e1:av jS 2 (aa (af 3) (aa (aM "b") ag)) [ε (fW p),ε (dC c),ε 15.9,ε (dC k),sI (F k.1 k.2),e]=ε (dC (k.1+1,k.2)):=call_of 4.2 rfl (NN k);have e2:av jS 2 (aa (af 3) (aa (aM "g") ag)) [ε (fW p),ε (dC c),ε 15.9,ε (dC k),sI (F k.1 k.2),e]=ε (dC (k.1,k.2+1)):=call_of 4.2 rfl (NO k);unfold bx cR;rw[cons_of e1 (cons_of e2 rfl)];rfl
    rw[hit,aaG];refine ahS [ε (fW p),ε (dC c),ε 15.9,ε (dC k),sI (F k.1 k.2),ε (dC (k.1+1,k.2))] [ε (fW p),ε (dC c),ε (.dict k1),ε (dC k),sI (F k.1 k.2),ε (dC (k.1+1,k.2))] [ε (fW p),ε (dC c),ε (.dict k1),ε (dC k),sI (F k.1 k.2),ε (dC (k.1,k.2+1))] _ rfl ?_ rfl ?_
    .refine (LR (c:=(k.1+1,k.2)) rfl rfl (ao ((uG (c:=(k.1+1,k.2)) rfl rfl rfl).trans (ade ε (hd (k.1+1) k.2))) rfl rfl) 0.1).trans ?_;rw[Zt];rfl
    .have h5:(gP k1 [.inl k.1,.inl (k.2+1)]).getD (.int 0)=.int (F k.1 (k.2+1)):=by
      have:=hd1 k.1 (k.2+1);rw[this];rw[abo 0.1]
     exact LR (c:=(k.1,k.2+1)) rfl rfl (ao ((uG (c:=(k.1,k.2+1)) rfl rfl rfl).trans (ade ε h5)) rfl rfl) 0.1
   .rw [aeo];refine⟨hd2.fn,λx y=>?_⟩;rw[hd2 x y];congr 1;show(if x=k.1/\y=k.2+1 then _ else if x=k.1+1/\y=k.2 then _ else F x y)=F x y+_+_;by_cases c1:x=k.1/\y=k.2+1;.grind
    .grind
  .rintro δ' ⟨kds,a,b,e,rfl,hd,_⟩;rw[ai9]at hd;exact ret 15.9 rfl (.mk rfl ⟨kds,rfl,hd⟩)
 obtain⟨_,e,kds,rfl,hd⟩:=main
 exact⟨kds,e,hd⟩
def NP(hl:19.7)(rp:16.4)(c:Int×Int):qY [fW p,dC c]=ε (.int ((fA 0 p).foldl rX (JP (0,0)) c.1 c.2)):=by
 obtain⟨kds,e,hd⟩:=G9 hl rp (0,0)
 exact cj (ret _ ((uG (c:=c) (call_of 4.2 rfl e) rfl rfl).trans (ade ε (hd c.1 c.2))) 5.7)
def A0:Int->Int:=λb=>if b=0 then 1 else 0
theorem Rl{α β:Type}(enc:α->D)(sQ:β->D)(h:α->β)(P:α->Bool):∀l:List α,(∀a∈l,f (enc a)=ε (if P a=η then ε (sQ (h a))else ζ))->zR f (l.map enc)=ε (((l.filter P).map h).map sQ)
 |[],_=>rfl
 |a::l,q=>by
   have ih:=Rl enc sQ h P l λ10=>q b (aa8 _ hb);rw[abl,zR,q a abd,aaG,ih,aaG,List.filter_cons];cases P a<;>rfl
theorem Rm{α β:Type}(enc:α->D)(sQ:β->D)(h:α->β)(P:α->Bool)(l:List α)(hi:gi δ=ε (l.map enc))(hl:l.length<=100000)
  (hc:∀a∈l,gc (ε (enc a)::fM ix δ)=ε (P a))(he:∀a∈l,P a=η->ge (ε (enc a)::fM ix δ)=ε (sQ (h a))):gK gi 1 ix (bA 0) gc ge δ=ε (((l.filter P).map h).map sQ):=by
 unfold gK
 rw[hi,aaG,abe (by rw[aaI];exact hl)]
 refine Rl enc sQ h P l λa ha=>?_
 show(Option.bind (ε (ε (enc a)::fM ix δ)) _)=_
 rw[aaG,hc a ha,aaG]
 cases q:P a with
 |true=>rw[abe rfl,abe rfl,he a ha q];rfl
 |false=>rfl
theorem uH(h1:a δ=ε x)(h2:b δ=ε y)(h3:f x y=ε (.bool u))(h4:c δ=ε w)(h5:f' y w=ε (.bool v)):f9 f f' a b c δ=ε (.bool (u&&v)):=by
 unfold f9
 rw[h1,h2]
 simp only[aaG,h3]
 cases u with
 |true=>simp only[h4,aaG,h5,ahp]
 |false=>rfl
def Ha(h:r.length<32):j5 [dR r]=ε ((led r).map .int):=by
 exact cj (ret (.list ((led r).map .int)) (aK (Rh (a:=aI (Pq zA 1.3)) (b:=af 0) (r:=r) rfl (.inr rfl) h)) 5.7)
noncomputable def goB(p:g7)(c:Int×Int):Bool:=(ι (0<=c.1+c.2)&&ι (c.1+c.2<(p.length:Int)))&&ι (c.1∈p.getD (c.1+c.2).toNat [])
def NQ(p:g7)(c:Int×Int):ng [fW p,dC c]=ε (.bool (goB p c)):=by
 rw[NM]
 refine cj ?_
 refine ret (.bool (goB p c)) ?_ 5.7
 refine Ap (x:=ι (0<=c.1+c.2)&&ι (c.1+c.2<(p.length:Int))) ?_ λh=>?_
 .have e2:IK (.int (c.1+c.2)) (.int (((p.map dR).length:Nat):Int))=ε (.bool (ι (c.1+c.2<(p.length:Int)))):=by
   rw[aaI];rfl
  exact uH rfl rfl rfl rfl e2
 .rw [abi,adA,adA]at h;exact ao rfl (ao rfl rfl (aem h.1 h.2)) aam
theorem wx:∀(p:g7) (n:Nat),(∀r∈p,r.length<=50)->(fA n p).length<=50*p.length
 |[],_,_=>by simp[fA]
 |r::p,n,h=>by
   have h1:=wx p (n+1) λs hs=>h s (aa8 _ hs);have h2:=h r abd;rw[fA,abm,abk,Rj,aaI];lia
def Rn(p:g7):Qe (p.map dR)=(p.zipIdx 1).map λx=>.tuple [.int (x.2:Nat),dR x.1]:=by
 unfold Qe zX
 rw[List.zipIdx_map,afl]
 rfl
theorem LU(x:Int):∀l:List Int,(ins x l).length<=l.length+1
 |[]=>by simp[ins]
 |y::l=>by
   have:=LU x l;rw[ins];split;.simp
   .grind
theorem Ro:∀l:List Int,(ss l).length<=l.length
 |[]=>by simp[ss]
 |x::l=>by
   have h1:=Ro l;have h2:=LU x (ss l);rw[ss,abk];lia
def EH:(led r).length<=2*r.length:=by
 have h:((led r):List Int).length<=(r++r.map (·+1)).length:=Ro _
 rw[abm,aaI]at h
 lia
theorem NR(hl:19.7)(rp:16.4):kU [fW p]=ε (((0,0)::fA 1 (p.map led)).map dC):=by
 refine cj ?_
 refine yV (λx:List Int×Nat=>PyData.tuple [.int (x.2:Nat),dR x.1]) (p.zipIdx 1) (λi δ=>∃a b,δ=[ε (fW p),sL (((0,0)::fA 1 ((p.take i).map led)).map dC),a,b]) ?_ ⟨ζ,ζ,rfl⟩ ?_ ?_
 .show ε (Qe (p.map dR))=_;rw[Rn]
 .rintro i ⟨r,n⟩ δ hi ⟨a,b,rfl⟩;rw[agQ]at hi;cases er:p[i]? with
  |none=>rw[er]at hi;cases hi
  |some r'=>
    rw[er]at hi;simp at hi;obtain⟨rfl,rfl⟩:=hi;have hil:=(abp.mp er).1;have hr:=rp r' (afd er);have ht:p.take (i+1)=p.take i++[r']:=by
     rw[agH,er];rfl
    have hln:(p.take i).length=i:=by rw[afy];lia
    have hll:(led r').length<=50:=by have:=EH (r:=r');lia
    have BG:(fA 1 ((p.take i).map led)).length<=1200:=by
     have:=wx ((p.take i).map led) 1 (λs hs=>by
      obtain⟨t,ht,rfl⟩:=abt.mp hs;have:=EH (r:=t);have:=rp t (aim ht);lia);rw[aaI,hln]at this;lia
    refine⟨_,[ε (fW p),sL (((0,0)::fA 1 ((p.take (i+1)).map led)).map dC),sI ((1+i:Nat):Int),ε (dR r')],rfl,?_,_,_,rfl⟩;have hc:eF (bx (aI (fJ j5 1 14.0))) [2] (cR (aa (af 0) (aa (g2 vH (af 1) (af 0)) ag))) [ε (fW p),sL (((0,0)::fA 1 ((p.take i).map led)).map dC),sI ((1+i:Nat):Int),ε (dR r')]=ε (((led r').map λb=>(b,((1+i:Nat):Int)-b)).map dC):=by
     refine jf PyData.int dC (λb=>(b,((1+i:Nat):Int)-b)) (led r') ?_ 0.1 λx _=>rfl;have ec:aI (fJ j5 1 14.0) [ε (fW p),sL (((0,0)::fA 1 ((p.take i).map led)).map dC),sI ((1+i:Nat):Int),ε (dR r')]=ε (.list ((led r').map .int)):=aK (iE 0.9 rfl (Ha 0.1));unfold bx;rw[ec];rfl
    refine(Rk rfl hc (by simp only[aaI,abk];lia)).trans ?_;have key:fA 1 ((p.take (i+1)).map led)=fA 1 ((p.take i).map led)++Rj (1+i) (led r'):=by
     rw[ht,adf,show List.map led [r']=[led r']from rfl,wu,aaI,hln]
    simp only[key,abl,adf];rfl
 .rintro δ' ⟨a,b,rfl⟩;refine ret (.list (((0,0)::fA 1 (p.map led)).map dC)) ?_ 5.7;rw[List.length_zipIdx,ai9];rfl
def ph(p:g7):List (Int×Int):=((0,0)::fA 1 (p.map led)).filter λc=> !goB p c
def aap(hl:19.7)(rp:16.4):Ez [fW p]=ε ((ph p).map dC):=by
 have BG:(fA 1 (p.map led)).length<=1200:=by
  have:=wx (p.map led) 1 (λs hs=>by
   obtain⟨t,ht,rfl⟩:=abt.mp hs;have:=EH (r:=t);have:=rp t ht;lia);rw[aaI]at this;lia
 have hc:gK (bx (aI (fJ kU 1 1.3))) 1 [0] (bA 0) (kD (jc (av ng 2 (aa (af 1) 1.3)))) (af 0) [ε (fW p)]=ε (((((0,0)::fA 1 (p.map led)).filter λc=> !goB p c).map id).map dC):=by
  refine Rm dC dC id (λc=> !goB p c) ((0,0)::fA 1 (p.map led)) ?_ (by simp only[abk];lia) (λc _=>?_) λc _ _=>rfl
  .have ec:aI (fJ kU 1 1.3) [ε (fW p)]=ε (.list (((0,0)::fA 1 (p.map led)).map dC)):=aK (iE 0.9 rfl (NR hl rp));unfold bx;rw[ec];rfl
  .exact jR (jg (call_of 4.2 rfl (NQ p c)))
 rw[List.map_id]at hc
 exact cj (ret (.list ((ph p).map dC)) (aK hc) 5.7)
def TE(n:Nat)(x:D):Prop:=PyData.canLay0 x=η/\PyData.depth x<=n
theorem Rp:∀{l:List D},(∀x∈l,TE n x)->PyData.canLayAll0 l=η/\PyData.depthAll l<=n
 |[],_=>⟨rfl,afc _⟩
 |a::l,h=>by
   obtain⟨h1,h2⟩:=h a abd;obtain⟨h3,h4⟩:=Rp λ20=>h x (aa8 _ hx);refine⟨by rw[PyData.canLayAll0,h1,h3];rfl,?_⟩;exact Nat.max_le.mpr ⟨h2,h4⟩
def Vz(r:3.6):SeqAt.shaped 8.3=true:=by
 obtain⟨h1,h2⟩:=Rp (n:=1) (l:=r.map PyData.int) λ20=>by
  obtain⟨i,_,rfl⟩:=abt.mp hx;exact⟨by rw[PyData.canLay0],by rw[PyData.depth];lia⟩
 unfold SeqAt.shaped
 rw[PyData.canLay0,PyData.depth,h1];simp;lia
theorem xV:∀l:List Int,PyData.eqvAll 22.6 22.6=η
 |[]=>rfl
 |a::l=>by
   rw[abl,PyData.eqvAll,xV l,PyData.eqv];simp
def VA(r:3.6):fV 8.3 8.3=ε 11.6:=by
 show(if(SeqAt.shaped 8.3&&SeqAt.shaped 8.3)=η then ε (PyData.bool (PyData.eqv 8.3 8.3))else ζ)=_
 rw[Vz r,abe (by rfl),PyData.eqv,xV]
def JR{r T:3.6}(h1:r≠[])(h2:JM r)(h3:∀x∈r,x∈T)(hl:r.length<=25):jE [dR r,.list 22.7]=ε 11.6:=by
 have c1:kD (jc (MW "tuple" (af 0))) [ε (dR r),sL 22.7]=ε false:=by kernel_rfl
 have c2:gB (g2 fV 22.3 (aA 0)) [ε (dR r),sL 22.7]=ε false:=by
  refine dM (ao (jn 0.9 (show cA [dR r]=ε (.int (r.length:Nat))by unfold dR;rw[Ex,List.length_map])) rfl ?_);rw[Ew,abD (by have:=agx.mpr h1;lia)]
 have aep:eF (bx (af 0)) [1] (i4 (av nY 1 1.3) (g2 M0 (af 0) (af 1))) [ε (dR r),sL 22.7]=ε ((r.map λ_=>η).map .bool):=
  jf PyData.int PyData.bool (λ_=>η) r rfl 0.1 λ20=>Ap (x:=η) (y:=η) (call_of 0.9 rfl 0.3) λ_=>ao rfl rfl (LQ.trans (by rw[abq (h3 x hx)]))
 have T3:jc (eM Gq (aa (aI (eF (bx (af 0)) [1] (i4 (av nY 1 1.3) (g2 M0 (af 0) (af 1))))) ag)) [ε (dR r),sL 22.7]=ε true:=by
  refine jg (jn (cons_of (aK aep) rfl) ?_);show(lp ((r.map λ_=>η).map .bool)).map _=_;rw[nO];simp
 refine cj (sP (Xh c1 c2) (sP (jR T3) (ret 11.6 (ao (aK rfl) (aK (Xn (ns:=r) rfl rfl 0.1)) ?_) 5.7)))
 rw[Uz h2]
 exact VA r
theorem Dj:∀(q:g7) (T:3.6) (x:23.0),(∀s q',q=s::q'->(s≠[]/\JM s/\∀x∈s,x∈T)/\Xm s q')->(∀s∈q,s.length<=25)->
  ∃δ',sv (bA 2) (az (gy (kD (jc (av jE 2 (aa (af 2) 2.5)))) 6.7 bf) (br 1 (aI (fJ j5 1 5.1)))) (q.map dR) [ε th,sL 22.7,x]=ε 20.6
 |[],T,x,_,_=>⟨_,rfl⟩
 |s::q,T,x,h,rp=>by
   obtain⟨⟨a,b,c⟩,d⟩:=h s q rfl;have hl:=rp s abd;have hc:=jR (jg (call_of (G:=jE) (n:=2) (g:=aa (af 2) 2.5) (δ:=[ε th,sL 22.7,ε (dR s)]) 4.2 rfl (JR a b c hl)));obtain⟨δ',e⟩:=Dj (th:=th) q (led s) (ε (dR s)) (λt q' z=>by subst z;exact d) λ19=>rp t (aa8 _ ht);refine⟨δ',?_⟩;rw[abl,sv,show bA 2 (dR s) [ε th,sL 22.7,x]=ε [ε th,sL 22.7,ε (dR s)]from rfl,aaG,show az _ _ [ε th,sL 22.7,ε (dR s)]=ε (.nx [ε th,sL ((led s).map .int),ε (dR s)])from gL _ (c9 hc) (aU (aK (iE 0.9 rfl (Ha 0.1))))];exact e
def NS(hp:Pl p)(hl:19.7)(rp:16.4):m9 [fW p]=ε 11.6:=by
 obtain⟨q,rfl,hq⟩:=hp.ex
 obtain⟨δ',e⟩:=Dj (th:=fW ([0]::q)) ([0]::q) [0] ζ (λs q' z=>by cases z;exact⟨⟨by simp,by unfold JM;simp,by simp⟩,hq⟩) rp
 have c2:kD (gB (f9 vI vI (aA 1) 22.3 (aA 24))) [ε (fW ([0]::q)),ζ,ζ]=ε false:=by
  refine jR (x:=η) (dM ((uH (x:=.int 1) (y:=.int (([0]::q).length:Nat)) (w:=.int 24) (u:=η) (v:=η) rfl (jn 0.9 (show cA [fW ([0]::q)]=ε (.int (([0]::q).length:Nat))by unfold fW;rw[Ex,List.length_map])) ?_ rfl ?_).trans rfl))
  .show ε (PyData.bool (ι ((1:Int)<=(([0]::q).length:Nat))))=_;rw[abq (by rw[abk];lia)]
  .show ε (PyData.bool (ι (((([0]::q).length:Nat):Int)<=24)))=_;rw[abq 0.1]
 exact cj (sP (Xh 0.3 c2) (bQ [ε (fW ([0]::q)),sL (([0]:List Int).map .int),ζ] rfl (bQ δ' e (ret 11.6 rfl 5.7))))
def sOk(h:∀c∈x.cps.toList,c<128):PyData.strOk x=η/\x.cps.all (·<128)=true:=by
 refine⟨?_,?_⟩
 .show x.cps.all (·<0x110000)=η;rw[Array.all_eq_true_iff_forall_mem];intro c hc;have:=h c (Array.mem_toList_iff.mpr hc);exact abq 0.1
 .grind
def wy(hx:PyData.strOk x=η)(hy:PyData.strOk y=η):fV 18.9 (.str y)=ε (.bool (x==y)):=Ar hx hy rfl
def wz{x y:Str}(h:x.cps.toList≠y.cps.toList):(x==y)=false:=by lia
noncomputable def nS(b:Int):Str:=Str.ofString (toString b)
noncomputable def fT(m:Nat):List Nat:=(Nat.toDigits 10 m).map Char.toNat
def ic(m:Nat):(nS (m:Nat)).cps.toList=fT m:=PySem.W.KIN.signs_num m
def aeq(m:Nat):Bool:=(fT m).all (λc=>ι (48<=c)&&ι (c<=57))&&!(fT m).isEmpty&&ι ((fT m).length<=2)&&(ι (m=0)||(!((fT m)[0]?==ε 48)))
def aaq:∀m,m<25->aeq m=true:=⋯
structure Dg(m:Nat):Prop where
 Br:∀c∈fT m,48<=c/\c<=57
 ne:fT m≠[]
 len:(fT m).length<=2
 hd:m=0\/(fT m)[0]?≠ε 48
def Xo(h:m<25):Dg m:=by
 have k:=aaq m h
 unfold aeq at k
 simp at k
 exact⟨k.1.1.1,k.1.1.2,k.1.2,k.2⟩
def ahT:(("0123456789":Str)).cps.toList=[48,49,50,51,52,53,54,55,56,57]:=⋯
def As:(5.2).cps.toList=[]:=⋯
def Xp:(("0":Str)).cps.toList=[48]:=⋯
def Hb:(" ":Str)=⟨#[32]⟩:=⋯
def He:("|":Str)=⟨#[124]⟩:=⋯
structure Ent(r:3.6):Prop where
 ne:r≠[]
 len:r.length<=25
 Br:∀b∈r,0<=b/\b<=24
def rS(r:3.6):Str:=Txt.join ⟨#[32]⟩ (r.map nS)
def pS(p:g7):Str:=Txt.join ⟨#[124]⟩ (p.map rS)
def uI(h:0<=b/\b<=24):∃m:Nat,b=(m:Int)/\m<25:=⟨b.toNat,by lia,by lia⟩
def Rq(h:0<=b/\b<=24):(nS b).length<=2:=by
 obtain⟨m,rfl,hm⟩:=uI h
 have e:(nS (m:Nat)).cps.toList.length=(nS (m:Nat)).length:=abf
 rw[<-e,ic];exact(Xo hm).len
def Xq(h:0<=b/\b<=24)(hc:c<48\/57<c):c∉(nS b).cps.toList:=by
 obtain⟨m,rfl,hm⟩:=uI h
 rw[ic]
 intro hx
 have:=(Xo hm).Br c hx
 lia
def JS(h:Ent r):(rS r).length<=75:=by
 have k:=uA (sep:=⟨#[32]⟩) (B:=2) (ts:=r.map nS) λ19=>by
  obtain⟨b,hb,rfl⟩:=abt.mp ht;exact Rq (h.Br b hb)
 rw[aaI]at k
 have:=h.len
 have e:(⟨#[32]⟩:Str).length=1:=rfl
 rw[e]at k
 unfold rS
 lia
def aer(h:Ent r):JoinOk ⟨#[32]⟩ (r.map nS)=true:=by
 unfold JoinOk
 rw[ahK (B:=2) (λ19=>by
  obtain⟨b,hb,rfl⟩:=abt.mp ht;exact Rq (h.Br b hb)) (by rw[aaI];have:=h.len;have e:(⟨#[32]⟩:Str).length=1:=rfl;rw[e];lia)]
 rfl
def Xr{p:g7}(hl:19.7)(h:∀r∈p,Ent r):JoinOk ⟨#[124]⟩ (p.map rS)=true:=by
 unfold JoinOk
 rw[ahK (B:=75) (λ19=>by
  obtain⟨r,hr,rfl⟩:=abt.mp ht;exact JS (h r hr)) (by rw[aaI];have e:(⟨#[124]⟩:Str).length=1:=rfl;rw[e];lia)]
 rfl
def aar(hl:19.7)(h:∀r∈p,Ent r):(pS p).length<=2000:=by
 have k:=uA (sep:=⟨#[124]⟩) (B:=75) (ts:=p.map rS) λ19=>by
  obtain⟨r,hr,rfl⟩:=abt.mp ht;exact JS (h r hr)
 rw[aaI]at k
 have e:(⟨#[124]⟩:Str).length=1:=rfl
 rw[e]at k
 unfold pS
 lia
def Xs(h:Ent r)(hc:c<48\/57<c)(h32:c≠32):c∉(rS r).cps.toList:=by
 refine mem_join (by simpa using h32) λ19=>?_
 obtain⟨b,hb,rfl⟩:=abt.mp ht
 exact Xq (h.Br b hb) hc
def JT(h:∀r∈p,Ent r):∀c∈(pS p).cps.toList,c<128:=λc hc=>by
 rcases Nat.lt_or_ge c 128 with z|z
 .exact z
 .refine absurd hc (mem_join 3.4 λ19=>?_);obtain⟨r,hr,rfl⟩:=abt.mp ht;exact Xs (h r hr) 0.1 0.1
def yY(h1:go δ=dz sep)(h2:ge δ=ε (.list (ns.map .str)))(h3:JoinOk sep ns=η):i5 go ge δ=ε (.str (Txt.join sep ns)):=by
 unfold i5
 rw[h1,aaG,h2,aaG]
 show(vU (ns.map PyData.str)).bind _=_
 rw[zY,aaG,abe h3]
def aas(h:0<=b/\b<=24):mT [.int b]=ε (.str (nS b)):=by
 show(if b.natAbs<2000000000 then ε (PyData.str (Str.ofString (toString b)))else ζ)=_
 rw[abe 0.1];rfl
def Hf(h:Ent r)(e:g δ=ε (dR r)):i5 8.7 (aI (eF (bx g) [] (eM mT 1.3))) δ=ε (.str (rS r)):=by
 refine yY (ns:=r.map nS) (show ε (PyData.str (" ":Str))=_ by rw[Hb]) (aK ?_) (aer h)
 refine jf PyData.int PyData.str nS r ?_ (by have:=h.len;lia) λ10=>jn 0.9 (aas (h.Br b hb))
 unfold bx;rw[e];rfl
def EI(h:Ent r):kI [dR r]=ε (.str (rS r)):=by
 exact cj (ret _ (Hf h rfl) 5.7)
def Hg(hl:19.7)(h:∀r∈p,Ent r):lZ [fW p]=ε (.str (pS p)):=by
 refine cj (ret (.str (pS p)) ?_ 5.7)
 refine yY (ns:=p.map rS) (show ε (PyData.str ("|":Str))=_ by rw[He]) (aK ?_) (Xr hl h)
 exact jf dR PyData.str rS p rfl 0.1 λr hr=>call_of 0.9 rfl (EI (h r hr))
def rY(hl:19.7)(h:∀r∈p,Ent r):eI [fW p]=ε (.str (pS p)):=by
 refine cj (ret (.str (pS p)) ?_ 5.7)
 refine yY (ns:=p.map rS) (show ε (PyData.str ("|":Str))=_ by rw[He]) (aK ?_) (Xr hl h)
 exact jf dR PyData.str rS p rfl 0.1 λr hr=>Hf (h r hr) rfl
def qr(hc:c<256)(h1:go δ=dz a)(h2:ge δ=ε (.str ⟨#[c]⟩))(h3:a.length<=2000):iw go ge δ=ε ((Txt.split a ⟨#[c]⟩).map .str):=by
 have e1:(⟨#[c]⟩:Str).length=1:=rfl
 have hx:a.cps.toList.length=a.length:=abf
 have hl:=nX c a.cps.toList
 have ok:nQ a ⟨#[c]⟩=true:=by
  unfold nQ;rw[e1,LH,v8,m7 hc,aaI,abq (show a.length<=100000 by lia),abq (show(bp c a.cps.toList).length<=100000 by lia)];rfl
 unfold iw
 rw[h1,aaG,h2,aaG]
 show(if nQ a ⟨#[c]⟩=η then ε ((Txt.split a ⟨#[c]⟩).map PyData.str)else ζ)=_
 rw[abe ok]
theorem LV:∀{q:g7} {r:3.6} {n:Nat},(∀x∈r,0<=x/\x<=(n:Int))->Xm r q->∀s∈q,s≠[]/\∀x∈s,0<=x/\x<=((n+q.length:Nat):Int)
 |[],_,_,_,_,_,hs=>absurd hs agW
 |t::q,r,n,hr,hc,s,hs=>by
   have ht:∀x∈t,0<=x/\x<=((n+1:Nat):Int):=λ20=>by
    rcases EF.mp (hc.1.2.2 x hx)with z|z;.grind
    .grind
   rcases aa9.mp hs with rfl|hs;.exact ⟨hc.1.1,λ20=>by have:=ht x hx;rw[abk];lia⟩
   .obtain ⟨a,b⟩:=LV ht hc.2 s hs;exact⟨a,λ20=>by have:=b x hx;rw[abk];lia⟩
def aat(hp:Pl p)(hl:19.7)(rp:16.4):∀r∈p,Ent r:=λr hr=>by
 obtain⟨q,rfl,hq⟩:=hp.ex
 rw[abk]at hl
 rcases aa9.mp hr with rfl|hs
 .exact ⟨by simp,by simp,by simp⟩
 .obtain ⟨a,b⟩:=LV (n:=0) 0.2 hq r hs;exact⟨a,rp r hr,λ20=>by have:=b x hx;lia⟩
def ou(h1:a δ=ε x)(h2:b δ=ε y):cR (aa a (aa b ag)) δ=ε (.tuple [x,y]):=by
 unfold cR;rw[cons_of h1 (cons_of h2 rfl)];rfl
def aau(a b:Int)(hb:bt b<=4000):gj [.int a,.int b]=ε (.int (Int.gcd a b:Nat)):=by
 rw[sR]
 refine cj ?_
 refine bQ [sI (a.natAbs:Nat),sI b,ζ,ζ] (by simp only[br,eM,aa,af,acT,ae7,ag,aaG,DV,aiJ];rw[LJ]) ?_
 refine bQ [sI (a.natAbs:Nat),sI (b.natAbs:Nat),ζ,ζ] (by simp only[br,eM,aa,af,adD,acT,ae7,ag,aaG,DV,List.set_cons_succ,aiJ];rw[LJ]) ?_
 refine Dc (λm δ=>∃(x:Nat) (r p:23.0),δ=[sI (x:Nat),sI (m:Nat),r,p]/\bt (m:Int)<=4000/\Nat.gcd x m=Int.gcd a b) (λδ=>∃(x:Nat) (r p:23.0),δ=[sI (x:Nat),sI 0,r,p]/\x=Int.gcd a b) b.natAbs ?_ ?_ ?_
 .exact ⟨_,ζ,ζ,rfl,Q4 0.2 hb,rfl⟩
 .rintro m δ ⟨x,r,p,rfl,hbm,hg⟩;by_cases hm:m=0
  .subst hm;exact .inl ⟨by simp;rfl,x,r,p,rfl,by simpa using hg⟩
  .have lR:x%m<m:=acJ _ 0.1;have e:((x:Int)%(m:Int))=((x%m:Nat):Int):=by lia
   have hb':bt ((x%m:Nat):Int)<=4000:=Q4 3.4 hbm;refine .inr ⟨by simp only[gB,g2,af,adD,acT,ae7,gC,aaG,aac];simp;lia,[sI m,sI ((x%m:Nat):Int),sI ((x%m:Nat):Int),p],x%m,?_,lR,m,_,_,rfl,hb',?_⟩
   .simp only[az,br,g2,af,acT,ae7,adD,aaG,gy,gB,g1,gC,bf];rw[gQ 0.1,e];simp only[aaG,adD,acT,ae7,aiJ,List.set_cons_succ,Py,Pj,adA];have alM:Builtin.Int.intBits ((x%m:Nat):Int)<=4000:=hb';rw[abo 0.1]
   .rw [<-hg,Nat.gcd_comm x m,Nat.gcd_rec m x,Nat.gcd_comm]
 .rintro δ' ⟨x,r,p,rfl,h2⟩;exact ret _ (by simp only[af,acT,ae7];rw[h2]) 5.7
def VB(t b:Int)(hb0:b≠0)(hb:bt b<=4000):Aj [.int t,.int b]=ε (dF (qmk t b)):=by
 rw[aae]
 refine cj ?_
 have hg:=aau t b hb
 have hd0:dv t b≠0:=aeg hb0
 have hgb:bt (dv t b)<=9000:=by
  refine Ah (Q4 ?_ hb) 0.0;have:(Int.gcd t b) ∣ b.natAbs:=Nat.gcd_dvd_right _ _;have:=Nat.le_of_dvd 0.1 this;unfold dv;split<;>lia
 refine sP (by simp only[gB,g2,af,adD,acT,ae7,gC,aaG,Ew];rw[abD hb0]) ?_
 refine bQ [sI t,sI b,sI (Int.gcd t b:Nat)] (by simp only[br,av,aa,af,acT,ae7,adD,ag,aaG];rw[hg];rfl) ?_
 refine bQ [sI t,sI b,sI (dv t b)] ?_ ?_
 .simp only[gy,gB,g2,af,adD,acT,ae7,gC,aaG,Pj,adA];unfold dv;split<;>rfl
 .refine ret (dF (qmk t b)) ?_ 5.7;simp only[cR,aa,g2,af,acT,ae7,adD,aaG];rw[Q5 hd0 hgb,Q5 hd0 hgb];rfl
def Au(a b:Ue)(m1:IntMulOk a.1 b.2)(m2:IntMulOk b.1 a.2):kH [dF a,dF b]=ε (.bool (ι (a.1*b.2<b.1*a.2))):=by
 exact cj (ret _ (ao (ao (ao rfl rfl (Q8 a)) (ao rfl rfl (Q9 b)) (pf m1)) (ao (ao rfl rfl (Q8 b)) (ao rfl rfl (Q9 a)) (pf m2)) rfl) 5.7)
theorem LW(h1:a δ=ε x)(h2:b δ=ε y):Od a b δ=ε (x||y):=by
 unfold Od;rw[h1,Option.bind_some];cases x with
 |true=>rfl
 |false=>rw[abo abj,h2];rfl
theorem aes(h1:a δ=ε (.bool x))(h2:b δ=ε (.bool y)):Ul a b δ=ε (.bool (x||y)):=by
 unfold Ul
 rw[dM h1,aaG]
 cases x with
 |true=>rfl
 |false=>rw[abo abj,h2];rfl
noncomputable def rZ(c:Nat):Bool:=ι (48<=c)&&ι (c<=57)
def isNum(w:1.0):Bool:=(!ι (w=[])&&w.all rZ)&&(ι (w=[48])||!(w.head?==ε 48))
def jF(w:1.0):Bool:=isNum w&&ι (w.length<=2)
def Rr(w:1.0):Int:=w.foldl (λ(n:Int) (c:Nat)=>10*n+((c:Int)-48)) 0
def Av(h:g δ=ε (.list l)):bx g δ=ε l:=by unfold bx;rw[h];rfl
def iq(w:1.0):(cC w).cps.toList=w:=List.toList_toArray
def eE(w:1.0):(cC w).length=w.length:=abr
def EJ(h:x.cps.toList=v):(cC w==x)=ι (w=v):=by
 by_cases q:w=v
 .rw [abq q];exact afq.mpr (afJ (afC.mp ((iq w).trans (q.trans h.symm))))
 .rw [abD q];exact wz (by rw[iq,h];exact q)
def VC(c:Nat):BJ η (.str ⟨#[c]⟩) (.str "0123456789")=ε (.bool (rZ c)):=by
 show ε (PyData.bool ((!(Builtin.Str.occurrences ("0123456789":Str) ⟨#[c]⟩ 0 ("0123456789":Str).length 1).isEmpty)==η))=_
 rw[PySem.StrLaws.found_one,ahT]
 congr 2
 unfold rZ
 rw[beq_true,afX,adW,abi,adW,adW]
 simp
 omega
theorem LX(hw:∀c∈w,c<128)(hl:w.length<=2000):i7 [.str (cC w)]=ε (.bool (isNum w)):=by
 refine cj ?_
 obtain⟨k1,k2⟩:=sOk (x:=cC w) (λc hc=>hw c (by rw[iq]at hc;exact hc))
 have o1:PyData.strOk ""=true:=⋯
 have o2:PyData.strOk "0"=true:=⋯
 have c1:gB (g2 fV (af 0) (aM "")) [ε (.str (cC w))]=ε (ι (w=[])):=dM (ao rfl rfl ((wy k1 o1).trans (by rw[EJ As])))
 have es:nP (af 0) [ε (.str (cC w))]=ε (w.map λc=>PyData.str ⟨#[c]⟩):=by
  show(if(cC w).cps.all (·<128)=η then ε (p3 (cC w))else ζ)=_;rw[abe k2,p3,iq]
 have ec:eF (nP (af 0)) [] (g2 (BJ η) (af 0) (aM "0123456789")) [ε (.str (cC w))]=ε ((w.map rZ).map .bool):=jf (λc:Nat=>PyData.str ⟨#[c]⟩) PyData.bool rZ w es 0.1 λc _=>ao rfl rfl (VC c)
 have ca:jc (eM Gq (aa (aI (eF (nP (af 0)) [] (g2 (BJ η) (af 0) (aM "0123456789")))) ag)) [ε (.str (cC w))]=ε (w.all rZ):=by
  refine jg (jn (cons_of (aK ec) rfl) ?_);show(lp ((w.map rZ).map .bool)).map _=_;rw[nO];simp[agX]
 have hc:=LW c1 (jR ca)
 unfold isNum
 refine yW _ hc (λq=>?_) λq=>?_
 .refine yX (.bool θ) rfl (.mk rfl ?_);cases h0:ι (w=[])with
  |true=>rfl
  |false=>grind
 .rw [Ai];rw[Bool.or_eq_false_iff]at q;have gT:=afQ q.1;obtain⟨a,r,rfl⟩:∃a r,w=a::r:=by
   cases w with
   |nil=>exact(gT rfl).elim
   |cons a r=>exact⟨a,r,rfl⟩
  have ix:bw (.str (cC (a::r))) (.int 0)=ε (.str ⟨#[a]⟩):=by
   show(if(cC (a::r)).length<=100000 then(CD (cC (a::r)).cps.toList 0).map (λc=>PyData.str ⟨#[c]⟩)else ζ)=_;rw[abe (by rw[eE];lia),iq,show(0:Int)=((0:Nat):Int)from rfl,iI (v:=a) rfl];rfl
  have oa:PyData.strOk ⟨#[a]⟩=true:=(sOk (x:=⟨#[a]⟩) (λc hc=>by
   have:c=a:=by simpa using hc
   subst this;exact hw c abd)).1;refine ret _ (aes (ao rfl rfl ((wy k1 o2).trans (by rw[EJ Xp]))) (ao (ao rfl rfl ix) rfl ((JD (wy oa o2)).trans rfl))) (.mk rfl ?_);congr 2;rw[show((⟨#[a]⟩:Str)=="0")=ι ([a]=[48])from EJ (w:=[a]) Xp];by_cases z:a=48;.grind
  .grind
def dg1:∀a,a<10->fT a=[a+48]:=⋯
def dg2:∀a,a<10->∀b,b<10->1<=a->fT (10*a+b)=[a+48,b+48]:=⋯
theorem Rt(h:jF w=η):∃m:Nat,m<100/\w=fT m/\Rr w=(m:Int):=by
 unfold jF isNum rZ at h
 simp at h
 obtain⟨⟨⟨h1,h2⟩,h3⟩,h4⟩:=h
 match w,h1,h2,h3,h4 with
 |[],h1,_,_,_=>exact(h1 rfl).elim
 |[a],_,h2,_,_=>
   have:=h2 a abd;refine⟨a-48,by lia,by rw[dg1 _ 0.1,show a-48+48=a by lia],?_⟩;show 10*0+((a:Int)-48)=_;lia
 |[a,b],_,h2,h3,_=>
   have ha:=h2 a abd;have hb:=h2 b (aa8 _ abd);have hz:a≠48:=by grind
   refine⟨10*(a-48)+(b-48),by lia,by rw[dg2 _ 0.1 _ 0.1 0.1,show a-48+48=a by lia,show b-48+48=b by lia],?_⟩;show 10*(10*0+((a:Int)-48))+((b:Int)-48)=_;lia
 |a::b::c::r,_,_,_,h4=>simp at h4
theorem NT(hw:∀c∈w,c<128)(hl:w.length<=2000):gG [.str (cC w)]=ε (if jF w=η then .int (Rr w)else cI "NoText"):=by
 rw[Am]
 have c1:=jR (jg (call_of (G:=i7) (n:=1) (g:=aa (af 0) ag) (δ:=[ε (.str (cC w))]) 0.9 rfl (LX hw hl)))
 have c2:gB (g2 BC 22.3 (aA 2)) [ε (.str (cC w))]=ε (ι (2<w.length)):=by
  refine dM (ao (jn 0.9 (show cA [.str (cC w)]=ε (.int (w.length:Nat))from ?_)) rfl ?_)
  .show (if(cC w).length<=100000 then ε (PyData.int ((cC w).length:Nat))else ζ)=_;rw[eE,abe 0.1]
  .show ε (PyData.bool (ι ((2:Int)<(w.length:Nat))))=_;rw[adN.mpr (show(2:Int)<(w.length:Nat)↔2<w.length by lia)]
 have hc:=LW c1 c2
 by_cases q:jF w=η
 .obtain ⟨m,hm,ew,en⟩:=Rt q;rw[abe q];unfold jF at q;rw[abi,adW]at q;rw[q.1,abD (show ¬2<w.length by lia)]at hc;refine cj (sP hc (ret _ (jn 0.9 ?_) 5.7));show(if(cC w).length<=640 then(PySem.intText? (cC w)).map PyData.int else ζ)=_;rw[abe (by rw[eE];lia),show cC w=nS (m:Nat)from afJ (afC.mp (by rw[iq,ic,ew])),nS,PySem.W.KIN.num_reads 0.1 0.1,en];rfl
 .rw [abo q];have hb:(!isNum w||decide (2<w.length))=true:=by
   cases h:isNum w with
   |false=>rfl
   |true=>
     have:¬w.length<=2:=λz=>q (by unfold jF;rw[h,decide_eq_true z];rfl);rw[abq (show 2<w.length by lia)];rfl
  rw[hb]at hc;rw[show jT [ε (.str (cC w))]=ε (.rt (cI "NoText"))from jQ (rW η hc (λ_=>rfl) λz=>nomatch z)];rfl
theorem EK{α:Type}(enc v:α->D)(P:α->Bool)(c:Str):∀(l:List α),(∀a∈l,f (enc a)=ε (if P a=η then v a else cI c))->(∀a∈l,P a=η->fO (v a)=ζ)->mapR f (l.map enc)=ε (if l.all P=η then .inl (l.map v)else .inr (cI c))
 |[],_,_=>rfl
 |a::l,h,hv=>by
   rw[abl,mapR,h a abd,aaG,ahe];cases q:P a with
   |false=>rfl
   |true=>
     rw[abe rfl,hv a abd q,EK enc v P c l (λ10=>h b (aa8 _ hb)) λ10=>hv b (aa8 _ hb),ahp];cases l.all P<;>rfl
theorem lG:∀{l w:1.0},w∈bp c l->(∀x∈w,x∈l)/\w.length<=l.length
 |[],w,h=>by
   rw[bp,aff]at h;subst h;exact⟨λ20=>hx,abb _⟩
 |a::l,w,h=>by
   have ih:∀{w},w∈bp c l->(∀x∈w,x∈l)/\w.length<=l.length:=λh=>lG h;rw[bp]at h;split at h;.grind
   .grind
def VD(t:1.0):Bool:=(bp 32 t).all jF
def JU(t:1.0):List Int:=(bp 32 t).map Rr
theorem Ru(ht:∀c∈t,c<128)(hl:t.length<=2000):gn [.str (cC t)]=ε (if VD t=η then dR (JU t)else cI "NoText"):=by
 rw[BO]
 have es:iw (af 0) 8.7 [ε 10.4]=ε (((bp 32 t).map cC).map .str):=by
  refine(qr (c:=32) 0.0 rfl (show ε (PyData.str (" ":Str))=_ by rw[Hb]) (by rw[eE];exact hl)).trans ?_;rw[m7 0.0,iq]
 have hs:=nX 32 t
 have em:xO (bx (aI (iw (af 0) 8.7))) [] (av gG 1 1.3) [ε 10.4]=ε (if VD t=η then dR (JU t)else cI "NoText"):=by
  unfold xO;rw[Av (aK es),aaG,abe (by rw[aaI,aaI];lia),afl];have key:=EK (f:=λd=>av gG 1 1.3 (ε d::fM [] [ε 10.4])) (λw=>PyData.str (cC w)) (λw=>.int (Rr w)) jF "NoText" (bp 32 t) (λw hw=>call_of 0.9 rfl (NT (λc hc=>ht c ((lG hw).1 c hc)) (acw (lG hw).2 hl))) λ18=>rfl;refine(ade (Option.map Z8) key).trans ?_;unfold VD JU;cases(bp 32 t).all jF with
  |true=>show ε (PyData.tuple _)=ε (dR _);unfold dR;rw[List.map_map];rfl
  |false=>rfl
 show(aT _ _).bind cu=_
 unfold aT
 rw[em]
 rfl
def Oi(t:1.0):Bool:=(bp 124 t).all VD
def Aw(t:1.0):g7:=(bp 124 t).map JU
section
variable {t:1.0}(ht:∀c∈t,c<128)(hl:t.length<=2000)
include ht hl
theorem LY:xO (bx (aI (iw (af 0) (aM "|")))) [] (av gn 1 1.3) [ε 10.4,ζ]=ε (if Oi t=η then fW (Aw t)else cI "NoText"):=by
 have es:iw (af 0) (aM "|") [ε 10.4,ζ]=ε (((bp 124 t).map cC).map .str):=by
  refine(qr (c:=124) 0.0 rfl (show ε (PyData.str ("|":Str))=_ by rw[He]) (by rw[eE];exact hl)).trans ?_;rw[m7 0.0,iq]
 have hs:=nX 124 t
 unfold xO
 rw[Av (aK es),aaG,abe (by rw[aaI,aaI];lia),afl]
 have key:=EK (f:=λd=>av gn 1 1.3 (ε d::fM [] [ε 10.4,ζ])) (λw=>PyData.str (cC w)) (λw=>dR (JU w)) VD "NoText" (bp 124 t) (λw hw=>call_of 0.9 rfl (Ru (λc hc=>ht c ((lG hw).1 c hc)) (acw (lG hw).2 hl))) λ18=>rfl
 refine(ade (Option.map Z8) key).trans ?_
 unfold Oi Aw
 cases(bp 124 t).all VD with
 |true=>show ε (PyData.tuple _)=ε (fW _);unfold fW;rw[List.map_map];rfl
 |false=>rfl
def JV(q:Oi t=θ):eX [.str (cC t)]=ε (cI "NoText"):=by
 have em:=LY ht hl
 rw[q]at em
 rw[ED,show l6 [ε 10.4,ζ]=ε (.rt (cI "NoText"))from jQ (by unfold j2;rw[em];rfl)]
 rfl
def Hh(q:Oi t=η)(hi:m9 [fW (Aw t)]=ε 11.6):eX [.str (cC t)]=ε (fW (Aw t)):=by
 have em:=LY ht hl
 rw[q,abe rfl]at em
 have e1:j2 1 (xO (bx (aI (iw (af 0) (aM "|")))) [] (av gn 1 1.3)) [ε 10.4,ζ]=ε (.nx [ε 10.4,ε (fW (Aw t))]):=by
  unfold j2;rw[em];rfl
 exact cj (bQ _ e1 (sP (jR (jg (call_of 0.9 rfl hi))) (ret _ rfl 5.7)))
end
def Hi(hq:q∈bp 124 t)(hw:w∈bp 32 q)(h:jF w=θ):Oi t=false:=by
 unfold Oi
 rw[aiY]
 refine⟨q,hq,?_⟩
 unfold VD
 rw[Bool.not_eq_true,aiY]
 exact⟨w,hw,by rw[h];exact abj⟩
def LZ:jF []=false:=rfl
noncomputable def iT:List Nat->List (List Nat)
 |[]=>[[]]
 |a::l=>if a=32\/a=124 then[]::iT l else match iT l with
   |h::t=>(a::h)::t
   |[]=>[[a]]
theorem Dl:∀t:List Nat,(bp 124 t).flatMap (bp 32)=iT t
 |[]=>rfl
 |a::l=>by
   have ih:=Dl l;obtain⟨h,r,e⟩:=m6 124 l;obtain⟨u,v,e2⟩:=m6 32 h;rw[bp,iT];by_cases h1:a=124;.rw [abe h1,abe (Or.inr h1),List.flatMap_cons,ih];rfl
   .rw [abo h1,e];rw[e,List.flatMap_cons,e2]at ih;by_cases h2:a=32
    .rw [abe (Or.inl h2),<-ih];show(bp 32 (a::h))++_=_;rw[bp,abe h2,e2];rfl
    .rw [abo (λz=>z.elim h2 h1),<-ih];show(bp 32 (a::h))++_=_;rw[bp,abo h2,e2];rfl
theorem NU(t:1.0):∃h r,iT t=h::r:=by
 cases t with
 |nil=>exact⟨_,_,rfl⟩
 |cons a l=>
   rw[iT];split;.grind
   .split;.grind
    .grind
theorem Ax(hs:s=32\/s=124)(b:1.0):∀a:List Nat,iT (a++s::b)=iT a++iT b
 |[]=>by
   show iT (s::b)=[]::iT b;rw[iT,abe hs]
 |x::a=>by
   rw[ae6,iT,Ax hs b a,iT];split;.rfl
   .obtain ⟨h,r,e⟩:=NU a;rw[e];rfl
def aet(h:w∈iT t)(hw:jF w=θ):Oi t=false:=by
 rw[<-Dl]at h
 obtain⟨q,hq,hm⟩:=List.mem_flatMap.mp h
 exact Hi hq hm hw
def Rv(hs:s=32\/s=124)(a:1.0):Oi (a++[s])=false:=aet (w:=[]) (by rw[Ax hs];exact aaW _ abd) LZ
def uJ(m:Nat):∀c∈fT m,48<=c/\c<=57:=λc hc=>by
 obtain⟨x,hx,rfl⟩:=abt.mp hc
 have:=Nat.isDigit_of_mem_toDigits 0.0 0.0 hx
 unfold Char.isDigit at this
 rw[abi,adW,adW]at this
 exact⟨UInt32.le_iff_toNat_le.mp this.1,UInt32.le_iff_toNat_le.mp this.2⟩
def VF:∀m,m<10->0<m->(Nat.digitChar m).toNat≠48:=⋯
theorem Rx(m:Nat)(h:0<m):∃a r,fT m=a::r/\a≠48:=by
 induction m using Nat.strongRecOn with
 |ind m ih=>
   unfold fT;by_cases q:m<10;.rw [Nat.toDigits_of_lt_base q];exact⟨_,_,rfl,VF m q h⟩
   .rw [Nat.toDigits_of_base_le 0.0 (aia q),adf];obtain⟨a,r,e,ne⟩:=ih (m/10) 0.1 0.1;exact⟨a,r++_,by rw[show(Nat.toDigits 10 (m/10)).map Char.toNat=a::r from e];rfl,ne⟩
def aav(h:48<=c/\c<=57):rZ c=true:=by unfold rZ;rw[decide_eq_true h.1,decide_eq_true h.2];rfl
def JW(m:Nat):isNum (fT m)=true:=by
 have ha:=acC.mpr λc hc=>aav (uJ m c hc)
 have hn:fT m≠[]:=λz=>Nat.toDigits_ne_nil (List.map_eq_nil_iff.mp z)
 unfold isNum
 rw[ha,abD hn]
 rcases aiK m with rfl|h
 .rfl
 .obtain ⟨a,r,e,ne⟩:=Rx m h;rw[e,List.head?_cons,show(ε a==ε 48)=θ from beq_eq_false_iff_ne.mpr (by simpa using ne)];cases ι (a::r=[48])<;>rfl
def oy(hk:0<k)(h:m<10^k):(fT m).length<=k:=by
 unfold fT
 rw[aaI]
 exact(Nat.length_toDigits_le_iff 0.0 hk).mpr h
def L3(m:Nat):∀c∈fT m,c<128:=λc hc=>by have:=uJ m c hc;lia
def uK(m:Nat):cC (fT m)=nS (m:Nat):=afJ (afC.mp (by rw[iq,ic]))
def Xu(x:Str):cC x.cps.toList=x:=rfl
def vck(b:Bool):bY [.bool b]=ε (if b=η then .none else cI "NoDeed"):=by cases b<;>rfl
def uL(h:g δ=ε (.bool b)):cc (av bY 1 (aa g ag)) δ=ε (if b=η then .nx δ else .rt 9.6):=by
 have e:av bY 1 (aa g ag) δ=_:=call_of (cons_of h rfl) rfl (vck b)
 unfold cc
 rw[e]
 cases b<;>rfl
theorem wA{rest:aV}(h:g δ=ε (.bool b))(h1:b=η->(rest δ).bind cu=ε d)(h2:b=θ->d=cI "NoDeed"):(az (cc (av bY 1 (aa g ag))) rest δ).bind cu=ε d:=by
 cases b with
 |true=>rw[cM (uL h)];exact h1 rfl
 |false=>rw[jQ (uL h),h2 rfl];rfl
def aaw(hl:w.length<=2000)(h:g δ=ε (.str (cC w))):eM cA (aa g ag) δ=ε (.int (w.length:Nat)):=by
 refine jn (cons_of h rfl) ?_
 show(if(cC w).length<=100000 then ε (PyData.int ((cC w).length:Nat))else ζ)=_
 rw[eE,abe 0.1]
def isW(w:1.0):Bool:=isNum w&&ι (w.length<=30)
def Ry(h:m<10^30):isW (fT m)=true:=by unfold isW;rw[JW,decide_eq_true (oy 0.0 h)];rfl
def Hj(hw:∀c∈w,c<128)(h:isW w=η)(hi:PySem.intText? (cC w)=ε n):bB [.str (cC w)]=ε (.int n):=by
 have hl:isNum w=η/\w.length<=30:=by unfold isW at h;rw[Bool.and_eq_true,decide_eq_true_iff]at h;exact h
 refine wA (b:=η) ?_ (λ_=>?_) λz=>nomatch z
 .refine (Ap (x:=η) (y:=η) (call_of 0.9 rfl ((LX hw 0.1).trans (by rw[hl.1]))) λ_=>ao (aaw (w:=w) 0.1 rfl) rfl ?_).trans rfl;show ε (PyData.bool (ι (((w.length:Nat):Int)<=30)))=_;rw[abq 0.1]
 .refine cj (ret _ (jn 0.9 ?_) 5.7);show(if(cC w).length<=640 then(PySem.intText? (cC w)).map PyData.int else ζ)=_;rw[abe (by rw[eE];lia),hi];rfl
def Ay(h:m<10^10):bB [.str (cC (fT m))]=ε 23.9:=
 Hj (L3 m) (Ry 0.1) (by rw[uK,nS,PySem.W.KIN.num_reads 0.1 0.1])
def Az:List Nat:=List.replicate 30 57
def Rz:bB [.str (cC Az)]=ε (.int (10^30-1)):=Hj 0.0 ⋯ ⋯
set_option tactic.hygienic true in
def Dm(hc:c<256)(h1:go δ=dz a)(h2:ge δ=ε (.str ⟨#[c]⟩))(h3:gf δ=ε 23.9)(hm:0<m)(Zw:m<1000)(hl:a.length<=2500):
  qW go ge gf δ=ε (((cf c m a.cps.toList).map cC).map .str):=by
 have e1:(⟨#[c]⟩:Str).length=1:=rfl
 have hx:a.cps.toList.length=a.length:=abf
 have el:limitOf a (m:Nat)=m:=by
  rfl
 have hk:=sM c m a.cps.toList
 have em:GP a ⟨#[c]⟩ (m:Nat)=(cf c m a.cps.toList).map cC:=by
  unfold GP;rw[el,GV,e1,JA]
 have fr:c∉a.cps.toList->[a]=(cf c m a.cps.toList).map cC:=λz=>by rw[xP z];rfl
 have ec:El a ⟨#[c]⟩ (m:Nat)=(cf c m a.cps.toList).map cC:=by
  unfold El;rw[el,GV,e1,Xg hc,ai0];split;.grind
  .split
   .rename_i z;exact fr λy=>LI y hm (List.isEmpty_iff.mp z)
   .grind
 have ok:j3 a ⟨#[c]⟩ (m:Nat)=true:=by
  unfold j3;rw[ec,em,e1,aaI,abq (show(0:Int)<=(m:Nat)by lia),abq (show((m:Nat):Int)<1000 by lia),abq (show a.length<=100000 by lia),abq (show(cf c m a.cps.toList).length<=100000 by lia)];rfl
 unfold qW
 rw[h1,aaG,h2,aaG,h3,aaG]
 show(if j3 a ⟨#[c]⟩ (m:Nat)=η then ε ((El a ⟨#[c]⟩ (m:Nat)).map PyData.str)else ζ)=_
 rw[abe ok,ec]
def app_list(x y:Str):(x++y).cps.toList=x.cps.toList++y.cps.toList:=by
 show(x.cps++y.cps).toList=_
 rw[agq]
def jG(h1:x.length+y.length<=100000):ak 18.9 (.str y)=ε (.str (x++y)):=by
 show(if x.length+y.length<=100000 then ε (PyData.str (x++y))else ζ)=_
 rw[abe h1]
structure Wd(t:Str):Prop where
 asc:∀c∈t.cps.toList,c<128
 no:32∉t.cps.toList
def Wd.ok{t:Str}(h:Wd t):PyData.strOk t=true:=(sOk h.asc).1
noncomputable abbrev row(ts:1.4):Str:=Txt.join ⟨#[32]⟩ ts
def eP(a b:Str)(r:1.4):(row (a::b::r)).cps.toList=a.cps.toList++32::(row (b::r)).cps.toList:=by
 show(Txt.join ⟨#[32]⟩ (a::b::r)).cps.toList=_
 rw[join_cons,app_list,app_list]
 simp
def L4(c:Nat)(l:1.0):cf c 0 l=[l]:=by rw[cf]
def oz:List Str->List Str
 |a::b::c::d::r=>[a,b,c,row (d::r)]
 |l=>l
theorem aax(gT:ts≠[])(h:∀t∈ts,Wd t):(cf 32 3 (row ts).cps.toList).map cC=oz ts:=by
 have one:∀{k:Nat} {a:Str},Wd a->(cf 32 k (row [a]).cps.toList).map cC=[a]:=λ{k a} w=>by
  show(cf 32 k (Txt.join ⟨#[32]⟩ [a]).cps.toList).map cC=_;rw[join_one,xP w.no];rfl
 match ts,gT,h with
 |[a],_,h=>exact one (h a 0.2)
 |[a,b],_,h=>rw[eP,ff (h a 0.2).no,abl,one (h b 0.2)];rfl
 |[a,b,c],_,h=>rw[eP,ff (h a 0.2).no,eP,ff (h b 0.2).no,abl,abl,one (h c 0.2)];rfl
 |a::b::c::d::r,_,h=>rw[eP,ff (h a 0.2).no,eP,ff (h b 0.2).no,eP,ff (h c 0.2).no,L4];rfl
noncomputable def xW:List Str->Bool
 |a::b::c::_::_=>a=="plan"&&(!(b=="")&&c=="hand")
 |_=>θ
def Oe(ts:1.4):Bool:= !(ts.contains "")&&ι (2<=ts.length)
noncomputable def Dp(ts:1.4):Bool:=ts.headD ""=="plan"&&ι (3<=ts.length)
def Dq(ts:1.4):Str:=if Dp ts=η then "plan "++ts.getD 2 "" else ts.headD ""
def Ds(ts:1.4):List Str:=ts.drop (if Dp ts=η then 3 else 2)
def ym{ts:1.4}(h:g δ=ε 6.5)(ht:ts[k]?=ε t):g2 bw g (gC 12.4) δ=dz t:=
 ao h rfl (by rw[GY];exact iI (by rw[abv,ht];rfl))
def NV(h:g δ=dz a)(ha:PyData.strOk a=η)(hb:PyData.strOk b=η):gB (g2 fV g (gC (.str b))) δ=ε (a==b):=dM (ao h rfl (wy ha hb))
def aev(h:g δ=dz a)(ha:PyData.strOk a=η)(hb:PyData.strOk b=η):gB (g2 BD g (gC (.str b))) δ=ε (!(a==b)):=dM (ao h rfl (JD (wy ha hb)))
theorem iy(h1:a δ=ε x)(h2:x=η->b δ=ε y):jy a b δ=ε (x&&y):=by
 unfold jy;rw[h1,Option.bind_some];cases x with
 |true=>rw[abe rfl,h2 rfl];rfl
 |false=>rw[abo abj];rfl
def r6{ts:1.4}(h:g δ=ε 6.5):eM cA (aa g ag) δ=ε (.int (ts.length:Nat)):=jn (cons_of h rfl) (by rw[Q7,aaI])
def RA:PyData.strOk "plan"=true:=⋯
def aay:PyData.strOk "hand"=true:=⋯
def aew:PyData.strOk ""=true:=⋯
def L5(ts:1.4):M0 18.9 6.5=ε (.bool (ts.contains x)):=by
 have hf:(ts.map PyData.str).all lh=true:=acC.mpr λd hd=>by
  obtain⟨t,_,rfl⟩:=abt.mp hd;rfl
 show(if(lh 18.9&&(ts.map PyData.str).all lh)=η then ε (PyData.bool ((ts.map PyData.str).any λz=>Ut z 18.9))else ζ)=_
 rw[hf,abe (show(lh 18.9&&η)=η from rfl)]
 congr 2
 rw[ahD,List.contains_eq_any_beq]
 congr 1
 funext t
 show(Ut (.str t) 18.9)=(x==t)
 rw[show Ut (.str t) 18.9=(t==x)from rfl]
 rw[afX,afq,afq]
 exact eq_comm
def aex{k:Nat}(h:k<=l.length):cutD l 25.2 ζ=l.drop k:=by
 unfold cutD
 rw[HT.KL,HT.zo,Nat.min_eq_left h,afi (by rw[afz];exact abb _)]
def RB{ts:1.4}(h:g δ=ε 6.5)(hk:k<=ts.length):ki g (b0 (gC (.int (k:Int)))) bH δ=ε ((ts.drop k).map .str):=by
 unfold ki
 rw[h]
 show ε (cutD (ts.map PyData.str) 25.2 ζ)=_
 rw[aex (by rw[aaI];exact hk),ai3]
def ie{rest:aV}(h:c δ=ε η)(hg:g δ=x):(az (gy c (aT g) bf) rest δ).bind cu=x:=by
 have e:gy c (aT g) bf δ=x.bind λd=>ε (Res.rt d):=by unfold gy;rw[h,<-hg];rfl
 unfold az
 rw[e]
 cases x<;>rfl
def rw_out{x:23.0}:(x.bind λd=>ε (Res.rt d)).bind cu=x:=by cases x<;>rfl
theorem JX(gT:ts≠[])(h:∀t∈ts,Wd t)(hl:(row ts).length<=2000)(hh:xW ts=θ):
  aG [.str (row ts)]=if Oe ts=η then cg [.str (Dq ts),.str (ts.getD 1 ""),.list ((Ds ts).map .str)]else ε 9.6:=by
 rw[xR]
 have e0:qW (af 0) 8.7 (aA 3) [ε (.str (row ts)),ζ,ζ]=ε ((oz ts).map .str):=
  (Dm (c:=32) (m:=3) 0.0 rfl (by rw[<-Hb];rfl) rfl 0.0 0.0 0.1).trans (by rw[aax gT h])
 have e1:iw (af 0) 8.7 [ε (.str (row ts)),sL ((oz ts).map .str),ζ]=ε (ts.map .str):=by
  refine(qr (c:=32) 0.0 rfl (show ε (PyData.str (" ":Str))=_ by rw[Hb]) 0.1).trans ?_;rw[Ag 0.0 gT λ19=>(h t ht).no]
 unfold lE
 rw[cM (aU (aK e0))]
 show(az _ _ [ε (.str (row ts)),sL ((oz ts).map .str),ζ]).bind cu=_
 have c1:(jy (gB (g2 fV (eM cA 2.5) (aA 4))) (jy (gB (g2 fV 4.3 (aM "plan"))) (jy (gB (g2 BD 7.5 (aM ""))) (gB (g2 fV 18.7 (aM "hand")))))) [ε (.str (row ts)),sL ((oz ts).map .str),ζ]=ε (xW ts):=by
  have l4:=r6 (ts:=oz ts) (g:=af 1) (δ:=[ε (.str (row ts)),sL ((oz ts).map .str),ζ]) rfl;match ts,h with
  |a::b::c::d::r,h=>
    refine(iy (x:=η) (dM (ao l4 rfl rfl)) λ_=>iy (NV (ym (ts:=[a,b,c,row (d::r)]) (k:=0) rfl rfl) (h a 0.2).ok RA) λ_=>iy (aev (ym (ts:=[a,b,c,row (d::r)]) (k:=1) rfl rfl) (h b 0.2).ok aew) λ_=>NV (ym (ts:=[a,b,c,row (d::r)]) (k:=2) rfl rfl) (h c 0.2).ok aay).trans ?_;rfl
  |[],_=>exact(iy (x:=θ) (y:=θ) (dM (ao l4 rfl rfl)) λz=>nomatch z).trans rfl
  |[a],_=>exact(iy (x:=θ) (y:=θ) (dM (ao l4 rfl rfl)) λz=>nomatch z).trans rfl
  |[a,b],_=>exact(iy (x:=θ) (y:=θ) (dM (ao l4 rfl rfl)) λz=>nomatch z).trans rfl
  |[a,b,c],_=>exact(iy (x:=θ) (y:=θ) (dM (ao l4 rfl rfl)) λz=>nomatch z).trans rfl
 rw[hh]at c1
 rw[cM (c9 c1),cM (aU (aK e1))]
 show(az _ _ [ε (.str (row ts)),sL ((oz ts).map .str),sL (ts.map .str)]).bind cu=_
 generalize RC:[ε (PyData.str (row ts)),sL ((oz ts).map .str),sL (ts.map .str)]=δ
 have v2:af 2 δ=ε 6.5:=by rw[<-RC];rfl
 have c2:i4 (g2 pY (aM "") (af 2)) (g2 KZ (eM cA 5.1) (aA 2)) δ=ε (.bool (Oe ts)):=by
  refine(Ap (x:= !(ts.contains "")) (y:=ι (2<=ts.length)) (ao rfl v2 ?_) λ_=>ao (r6 v2) rfl ?_).trans rfl;.unfold pY;rw[L5];rfl
  .show ε (PyData.bool (ι ((2:Int)<=((ts.length:Nat):Int))))=_;rw[adN.mpr (show(2:Int)<=((ts.length:Nat):Int)↔2<=ts.length by lia)]
 cases ho:Oe ts with
 |false=>
   rw[ho]at c2;rw[jQ (uL c2),abo abj];rfl
 |true=>
   rw[ho]at c2;rw[cM (uL c2),abe rfl];have h2:2<=ts.length:=by unfold Oe at ho;rw[Bool.and_eq_true,decide_eq_true_iff]at ho;exact ho.2
   obtain⟨a,b,r,rfl⟩:∃a b r,ts=a::b::r:=by
    match ts,h2 with
    |a::b::r,_=>exact⟨a,b,r,rfl⟩
   have i0:=ym (k:=0) (t:=a) v2 rfl;have i1:=ym (k:=1) (t:=b) v2 rfl;have c3:jy (gB (g2 fV 2.8 (aM "plan"))) (gB (g2 KZ (eM cA 5.1) (aA 3))) δ=ε (Dp (a::b::r)):=by
    refine(iy (NV i0 (h a 0.2).ok RA) λ_=>dM (ao (r6 v2) rfl ?_)).trans rfl;show ε (PyData.bool (ι ((3:Int)<=(((a::b::r).length:Nat):Int))))=_;rw[adN.mpr (show(3:Int)<=(((a::b::r).length:Nat):Int)↔3<=(a::b::r).length by lia)]
   cases hp:Dp (a::b::r)with
   |false=>
     rw[hp]at c3;rw[cM (c9 c3)];unfold Dq Ds;rw[hp,abo abj,abo abj];refine(ade (λz=>(Option.bind z λd=>ε (Res.rt d)).bind cu) (call_of (G:=cg) (n:=3) (cons_of i0 (cons_of i1 (cons_of (aK (RB (k:=2) v2 0.2)) rfl))) rfl rfl)).trans rw_out
   |true=>
     rw[hp]at c3;have h3:a="plan"/\3<=(a::b::r).length:=by unfold Dp at hp;rw[Bool.and_eq_true,decide_eq_true_iff,beq_iff_eq]at hp;exact hp
     obtain⟨c,r',rfl⟩:∃c r',r=c::r':=by
      match r,h3.2 with
      |c::r',_=>exact⟨c,r',rfl⟩
     have i2:=ym (k:=2) (t:=c) v2 rfl;unfold Dq Ds;rw[hp,abe rfl,abe rfl];refine ie c3 (call_of (G:=cg) (n:=3) (cons_of (ao rfl i2 (jG ?_)) (cons_of i1 (cons_of (aK (RB (k:=3) v2 0.2)) rfl))) rfl rfl);have:c.cps.toList.length<=(row (a::b::c::r')).cps.toList.length:=by
      rw[eP,eP,abm,abk,abm,abk];cases r' with
      |nil=>rw[show row [c]=c from join_one _ _];lia
      |cons d r=>rw[eP,abm];lia
     rw[abf,abf]at this;have e:c.cps.size=c.length:=rfl;have e':(row (a::b::c::r')).cps.size=(row (a::b::c::r')).length:=rfl;have e2:("plan ":Str).length=5:=⋯
     lia
def EL(d:Str):Option (List Str):=(Of.find? λe=>ι (e.1=d)).map (·.2.2.2)
abbrev FG(p:Str×Str):Option D:=dO [.str p.1,.str p.2]
theorem L6{α:Type}(enc v:α->D):∀(l:List α),(∀a∈l,f (enc a)=ε (v a)/\fO (v a)=ζ)->mapR f (l.map enc)=ε (.inl (l.map v))
 |[],_=>rfl
 |a::l,h=>by
   rw[abl,mapR,(h a 0.2).1,aaG,(h a 0.2).2,L6 enc v l λ10=>h b (aa8 _ hb)];rfl
theorem Hk{α:Type}(enc:α->D)(c:Str):∀(l:List α),(∀a∈l,∃d,f (enc a)=ε d/\(fO d=ζ\/d=cI c))->(∃a∈l,f (enc a)=ε (cI c))->mapR f (l.map enc)=ε (.inr (cI c))
 |[],_,h=>by obtain⟨_,z,_⟩:=h;cases z
 |a::l,h,hb=>by
   obtain⟨d,e,q⟩:=h a 0.2;rw[abl,mapR,e,aaG];rcases q with q|rfl
   .rw [q,Hk enc c l (λ10=>h b (aa8 _ hb)) ?_];.rfl
    .obtain ⟨b,hb,eb⟩:=hb;rcases aa9.mp hb with rfl|hb;.rw [e]at eb;cases eb;cases q
     .grind
   .rfl
theorem L7(h:EL d=ε ks)(hg:g δ=dz d):U9 Of g δ=ε 11.6/\Lx Of g δ=ε (.tuple (ks.map .str)):=by
 unfold EL at h
 cases e:Of.find? (λe=>ι (e.1=d))with
 |none=>rw[e]at h;cases h
 |some x=>
   rw[e]at h;cases h;constructor;.unfold U9;rw[hg];show ε (PyData.bool (Of.find? λe=>ι (e.1=d)).isSome)=_;rw[e];rfl
   .unfold Lx;rw[hg];show((Of.find? λe=>ι (e.1=d)).map λe=>PyData.tuple (e.2.2.2.map .str))=_;rw[e];rfl
def iG(h:g δ=ε d)(hx:fO d=ζ)(h2:gr δ=ε r):cB g gr δ=ε (Xe d r):=by
 unfold cB;rw[h,Option.bind_some,hx,h2];rfl
def ni(h:g δ=ε (cI c)):cB g gr δ=ε (.inr (cI c)):=by unfold cB;rw[h];rfl
def L8(h:gr δ=ε (.inl ds))(hl:ds.length<=1000):qe gr δ=ε (.tuple ds):=by
 unfold qe
 rw[h,aaG]
 show(if ds.length<=1000 then ε (PyData.tuple ds)else ζ)=_
 rw[abe hl]
def VG(h:gr δ=ε (.inr (cI c))):qe gr δ=ε (cI c):=by unfold qe;rw[h];rfl
section
variable {d n:Str}{ws ks:1.4}
def L9(h:EL d=ζ):cg [.str d,.str n,.list (ws.map .str)]=ε 9.6:=by
 refine wA (b:=θ) ?_ 3.5 λ_=>rfl
 show ε (PyData.bool (Of.find? λe=>ι (e.1=d)).isSome)=_
 unfold EL at h
 rw[Option.map_eq_none_iff]at h
 rw[h];rfl
def RD(h:EL d=ε ks)(h1:ws.length≠ks.length->x=cI "NoDeed")(h2:ws.length=ks.length->qe (cB (af 0) (cB (af 1) (cB (GS (C7 (af 2) (af 3)) 2 [] (mR 2 13.6) (av dO 2 (aa (af 0) 2.5))) lW))) [dz d,dz n,sL (ws.map .str),ε (.tuple (ks.map .str))]=ε x):
  cg [.str d,.str n,.list (ws.map .str)]=ε x:=by
 refine wA (b:=η) (L7 h rfl).1 (λ_=>?_) λz=>nomatch z
 refine(ade (Option.bind · cu) (cM (aU (L7 h rfl).2))).trans ?_
 refine wA (b:=ι (ws.length=ks.length)) ?_ (λz=>?_) λz=>h1 (afQ z)
 .refine ao (r6 rfl) (jn 0.9 (show cA [.tuple (ks.map .str)]=ε (.int (ks.length:Nat))by rw[Ex,aaI])) ?_;rw[Ew];congr 2;exact adN.mpr 0.1
 .exact cj (ret _ (h2 (afb z)) 5.7)
def aaz(h:EL d=ε ks)(hl:ws.length≠ks.length):cg [.str d,.str n,.list (ws.map .str)]=ε 9.6:=RD h (λ_=>rfl) λz=>(hl z).elim
end
section
variable {d n:Str}{l:List (Str×Str)}
theorem Du:∀l:List (Str×Str),Qj ((l.map (·.1)).map PyData.str) ((l.map (·.2)).map .str)=l.map λp=>PyData.tuple [.str p.1,.str p.2]
 |[]=>rfl
 |p::l=>by
   show PyData.tuple [.str p.1,.str p.2]::Qj ((l.map (·.1)).map PyData.str) ((l.map (·.2)).map .str)=_;rw[Du l];rfl
def Dv(hl:l.length<=100)(h2:δ[2]?=ε (ε (.list ((l.map (·.1)).map .str))))(h3:δ[3]?=ε (ε (.tuple ((l.map (·.2)).map .str))))
  (h:mapR (λx=>(mR 2 13.6 x (List.replicate 2 ζ++fM [] δ)).bind (av dO 2 (aa (af 0) 2.5))) (l.map λp=>PyData.tuple [.str p.1,.str p.2])=ε r):
  GS (C7 (af 2) (af 3)) 2 [] (mR 2 13.6) (av dO 2 (aa (af 0) 2.5)) δ=ε (aef r):=by
 have e:C7 (af 2) (af 3) δ=ε (l.map λp=>PyData.tuple [.str p.1,.str p.2]):=by
  unfold C7 af;rw[h2,h3,<-Du];rfl
 unfold GS
 rw[e,aaG,abe (by rw[aaI];lia),h]
 rfl
def aey(v:Str×Str->D)(h:EL d=ε (l.map (·.2)))(hl:l.length<=100)(hv:∀p∈l,FG p=ε (v p)/\fO (v p)=ζ):cg [.str d,.str n,.list ((l.map (·.1)).map .str)]=ε (.tuple [.str d,.str n,.list (l.map v)]):=by
 refine RD h (λz=>(z 0.2).elim) λ_=>?_
 have e:=Dv (l:=l) (δ:=[dz d,dz n,sL ((l.map (·.1)).map .str),ε (.tuple ((l.map (·.2)).map .str))]) hl rfl rfl (L6 (λp=>PyData.tuple [.str p.1,.str p.2]) v l λ21=>⟨(hv p hp).1,(hv p hp).2⟩)
 exact L8 (iG (d:=.str d) rfl rfl (r:=.inl [.str n,.list (l.map v)]) (iG (d:=.str n) rfl rfl (r:=.inl [.list (l.map v)]) (iG (r:=.inl []) e rfl rfl))) 0.2
def aaA(h:EL d=ε (l.map (·.2)))(hl:l.length<=100)(hv:∀p∈l,∃x,FG p=ε x/\(fO x=ζ\/x=cI "NoDeed"))(hb:∃p∈l,FG p=ε 9.6):cg [.str d,.str n,.list ((l.map (·.1)).map .str)]=ε 9.6:=by
 refine RD h (λz=>(z 0.2).elim) λ_=>?_
 have e:=Dv (l:=l) (δ:=[dz d,dz n,sL ((l.map (·.1)).map .str),ε (.tuple ((l.map (·.2)).map .str))]) hl rfl rfl (Hk (λp=>PyData.tuple [.str p.1,.str p.2]) "NoDeed" l hv hb)
 exact VG (iG (d:=.str d) rfl rfl (r:=.inr 9.6) (iG (d:=.str n) rfl rfl (r:=.inr 9.6) (ni e)))
end
def rw_num(w:Str):dO [.str w,.str "number"]=bB [.str w]:=by
 rw[uF]
 unfold j7
 rw[cM (c9 (show gB (g2 fV (af 1) (aM "name")) [dz w,dz "number"]=ε θ by kernel_rfl)),cM (c9 (show gB (g2 fV (af 1) (aM "fraction")) [dz w,dz "number"]=ε θ by kernel_rfl)),
  cM (c9 (iy (x:=θ) (y:=θ) (show gB (g2 fV (af 1) (aM "number or -1")) [dz w,dz "number"]=ε θ by kernel_rfl) λz=>nomatch z))]
 exact(ade (λz=>(Option.bind z λd=>ε (Res.rt d)).bind cu) (call_of (G:=bB) (n:=1) 0.9 rfl rfl)).trans rw_out
def rw_frac(w:Str):dO [.str w,.str "fraction"]=gA [.str w]:=by
 rw[uF]
 unfold j7
 rw[cM (c9 (show gB (g2 fV (af 1) (aM "name")) [dz w,dz "fraction"]=ε θ by kernel_rfl))]
 exact ie (show gB (g2 fV (af 1) (aM "fraction")) [dz w,dz "fraction"]=ε η by kernel_rfl) (call_of 0.9 rfl rfl)
def rw_name(w:Str):dO [.str w,.str "name"]=dz w:=by
 exact ie (show gB (g2 fV (af 1) (aM "name")) [dz w,dz "name"]=ε η by kernel_rfl) rfl
def rw_m1:dO [.str "-1",.str "number or -1"]=ε (.int (-1)):=by kernel_rfl
def Xv:("/":Str)=⟨#[47]⟩:=⋯
def fS(a b:Nat):Str:=(nS (a:Nat)++"/")++nS (b:Nat)
def l7(a b:Nat):(fS a b).cps.toList=fT a++47::fT b:=by
 unfold fS
 rw[app_list,app_list,ic,ic,Xv];simp
def JY(m:Nat)(h:c<48):c∉fT m:=λz=>by have:=uJ m c z;lia
def RE{a b rest:aV}(h:c δ=ε θ):az (gy c a b) rest δ=az b rest δ:=by
 have e:gy c a b δ=b δ:=by unfold gy;rw[h];rfl
 unfold az;rw[e]
def Xw(ha:a<10^10)(hb:b<10^10):gA [.str (fS a b)]=ε (if 1<b/\Nat.gcd a b=1/\a<=b then .tuple [.int (a:Nat),.int (b:Nat)]else cI "NoDeed"):=by
 have la:=oy (m:=a) (k:=10) 0.0 ha
 have lb:=oy (m:=b) (k:=10) 0.0 hb
 have hl:(fS a b).length<=2000:=by
  have e:(fS a b).cps.toList.length=(fS a b).length:=abf;rw[<-e,l7,abm,abk];lia
 have es:iw (af 0) (aM "/") [ε (.str (fS a b)),ζ,ζ]=ε 9.2:=by
  refine(qr (c:=47) 0.0 rfl (show ε (PyData.str ("/":Str))=_ by rw[Xv]) hl).trans ?_;rw[m7 0.0,l7,sJ (JY a 0.0),qf (JY b 0.0)];simp only[abl,ait,uK]
 have wa:bB [.str (nS (a:Nat))]=ε (.int (a:Nat)):=by rw[<-uK];exact Ay ha
 have wb:bB [.str (nS (b:Nat))]=ε (.int (b:Nat)):=by rw[<-uK];exact Ay hb
 rw[wm]
 unfold iL
 rw[cM (aU (aK es))]
 show(az _ _ [ε (.str (fS a b)),sL 9.2,ζ]).bind cu=_
 have c1:gB (g2 fV (eM cA 2.5) (aA 1)) [ε (.str (fS a b)),sL 9.2,ζ]=ε false:=dM (ao (r6 rfl) rfl rfl)
 have c2:g2 fV (eM cA 2.5) (aA 2) [ε (.str (fS a b)),sL 9.2,ζ]=ε 11.6:=ao (r6 rfl) rfl rfl
 have t3:j2 2 (qe (cB (av bB 1 (aa 4.3 ag)) (cB (av bB 1 (aa 7.5 ag)) lW))) [ε (.str (fS a b)),sL 9.2,ζ]=ε (.nx [ε (.str (fS a b)),sL 9.2,ε 14.6]):=by
  have e:qe (cB (av bB 1 (aa 4.3 ag)) (cB (av bB 1 (aa 7.5 ag)) lW)) [ε (.str (fS a b)),sL 9.2,ζ]=ε 14.6:=
   L8 (iG (d:=.int (a:Nat)) (call_of (cons_of (ym (ts:=[nS (a:Nat),nS (b:Nat)]) (k:=0) rfl rfl) rfl) rfl wa) rfl (r:=.inl [.int (b:Nat)]) (iG (d:=.int (b:Nat)) (call_of (cons_of (ym (ts:=[nS (a:Nat),nS (b:Nat)]) (k:=1) rfl rfl) rfl) rfl wb) rfl (r:=.inl []) rfl)) 0.2;unfold j2;rw[e];rfl
 generalize RC:[ε (PyData.str (fS a b)),sL 9.2,ε 14.6]=Td at t3
 have v2:af 2 Td=ε 14.6:=by rw[<-RC];rfl
 have i0:g2 bw (af 2) (aA 0) Td=ε (.int (a:Nat)):=ao v2 rfl rfl
 have i1:g2 bw (af 2) (aA 1) Td=ε (.int (b:Nat)):=ao v2 rfl rfl
 have c3:i4 (g2 BC 7.4 (aA 1)) (g2 fV (af 2) (av Aj 2 (aa 2.8 (aa 7.4 ag)))) Td=ε (.bool (ι (1<b)&&ι (((a:Int),(b:Int))=qmk a b))):=by
  refine Ap (x:=ι (1<b)) (ao i1 rfl ?_) λz=>ao v2 (call_of (cons_of i0 (cons_of i1 rfl)) rfl (VB (a:Nat) (b:Nat) (by have:=afb z;lia) (Ah (jw (m:=34) 0.1) 0.0))) (aeh ((a:Int),(b:Int)) _);show ε (PyData.bool (ι ((1:Int)<(b:Nat))))=_;rw[adN.mpr (show(1:Int)<(b:Nat)↔1<b by lia)]
 have c4:g2 vI 2.8 7.4 Td=ε (.bool (ι (a<=b))):=by
  refine ao i0 i1 ?_;show ε (PyData.bool (ι (((a:Nat):Int)<=(b:Nat))))=_;rw[adN.mpr (show((a:Nat):Int)<=(b:Nat)↔a<=b by lia)]
 have hq:1<b->(((a:Int),(b:Int))=qmk a b↔Nat.gcd a b=1):=λh1=>by
  constructor
  .intro z;have k:=(Q3 (t:=(a:Int)) (b:=(b:Int)) 0.1).cop;rw[<-z]at k;exact k
  .intro z;exact Xf.qm ⟨by lia,z,rfl⟩ 0.1
 rw[RE c1,seq_assoc,cM (uL c2),seq_assoc,cM t3]
 refine wA c3 (λz=>wA c4 (λz4=>cj (ret _ v2 (.mk rfl ?_))) λz4=>?_) λz=>?_
 .grind
 .grind
 .grind
structure Tx(g:aY)(δ:DS)(s:Str)(n:Nat):Prop where
 e:g δ=dz s
 l:s.length<=n
def Tx.add(h1:Tx a δ x m)(h2:Tx b δ y n)(h:m+n<=100000:=by decide):Tx (g2 ak a b) δ (x++y) (m+n):=
 ⟨ao h1.e h2.e (jG (by have:=h1.l;have:=h2.l;lia)),by
  have e:(x++y).length=x.length+y.length:=by
   show(x.cps++y.cps).size=_;rw[aiW];rfl
  rw[e];exact Nat.add_le_add h1.l h2.l⟩
def Tx.c(h:s.length<=30:=by decide +kernel):Tx (gC (.str s)) δ s 30:=⟨rfl,h⟩
def VH(h:m<2000000000):mT [.int (m:Nat)]=ε (.str (nS (m:Nat))):=by
 unfold mT
 dsimp only
 rw[abe 0.1];rfl
def Tx.s(h:m<2000000000)(e:g δ=ε 23.9):Tx (eM mT (aa g ag)) δ (nS (m:Nat)) 30:=
 ⟨jn (cons_of e rfl) (VH h),by
  have e:(nS (m:Nat)).cps.toList.length=(nS (m:Nat)).length:=abf;have:=oy (m:=m) (k:=10) 0.0 0.1;rw[<-e,ic];lia⟩
def Tx.lst{g:aY}{δ:DS}{s:Str}{n:Nat}{gr:cG}{r:1.4}(h:Tx g δ s n)(hr:gr δ=ε (r.map .str)):aa g gr δ=ε ((s::r).map .str):=cons_of h.e hr
def AA(a:Str):row [a]=a:=join_one _ _
def dn{x y:Str}(h:x.cps.toList=y.cps.toList):x=y:=afJ (afC.mp h)
def VI(a b:Str)(r:1.4):row (a::b::r)=(a++" ")++row (b::r):=by
 show Txt.join ⟨#[32]⟩ (a::b::r)=_
 rw[join_cons,Hb]
def EM(d2 d4:Nat):Str:=match d2%5 with
 |0=>"0"
 |1=>"1"
 |2=>"1/2"
 |3=>"3/7"
 |_=>fS (d4+1) (d4+2)
def gw(n o:Str)(d2 d3 d4:Nat):Nat->List Str
 |0=>["plan",n,"many",nS (d2:Nat)]
 |1=>["plan",n,"till",nS (d2:Nat),nS (d3:Nat)]
 |2=>["show",n]
 |3=>["ends",n]
 |4=>["plan",n,"steps",nS (d2:Nat),"-1",nS (d3:Nat),"3"]
 |5=>["ways",n,nS (d2:Nat),nS (d3:Nat)]
 |6=>["plan",n,"between",nS (d2:Nat),nS (d3:Nat),"1","2","5"]
 |7=>["odds",n,nS (d2:Nat),nS (d3:Nat),EM d2 d4]
 |8=>["mean",n,EM d2 d4]
 |9=>["share",n,nS (d2:Nat),nS (d3:Nat)]
 |10=>["judge",n]
 |11=>["rule",n,"1/3","1/2",EM d2 d4]
 |12=>["lot",n,o]
 |13=>["bad",n]
 |14=>["good",n]
 |15=>["at",n]
 |16=>["rule",n,EM d2 d4,"1/2","1/9"]
 |_=>["lot",o,n]
abbrev dN(l:1.0):D:=.list (l.map λ(x:Nat)=>.int x)
def oA(h:g δ=ε (dN l))(hx:l[k]?=ε x):g2 bw g (gC 12.4) δ=ε (.int (x:Nat)):=
 ao h rfl (by rw[GY];exact iI (by rw[abv,hx];rfl))
def dq(h:g δ=ε xs)(hl:xs.length<=100000:=by simp):bD g δ=ε xs:=by unfold bD;rw[h,Option.bind_some,if_pos hl]
def RF(ha:a<10^10)(hb:b<10^10):(fS a b).length<=30:=by
 have e:(fS a b).cps.toList.length=(fS a b).length:=abf
 have la:=oy (m:=a) (k:=10) 0.0 ha
 have lb:=oy (m:=b) (k:=10) 0.0 hb
 rw[<-e,l7,abm,abk];lia
theorem Ma{d2 d4:Nat}(h:af 2 δ=ε (dN l))(h2:l[2]?=ε d2)(h4:l[4]?=ε d4)(b4:d4<1000000000):
  Tx (g2 bw (aI (bD (aa (aM "0") (aa (aM "1") (aa (aM "1/2") (aa (aM "3/7") (aa (g2 ak (g2 ak (eM mT (aa (g2 ak (g2 bw (af 2) (aA 4)) (aA 1)) ag)) (aM "/")) (eM mT (aa (g2 ak (g2 bw (af 2) (aA 4)) (aA 2)) ag))) ag))))))) (g2 d9 8.8 (aA 5))) δ (EM d2 d4) 30:=by
 have t5:=((Tx.s (m:=d4+1) 0.1 (show g2 ak (g2 bw (af 2) (aA 4)) (aA 1) δ=_ from ao (oA (k:=4) h h4) rfl rfl)).add (Tx.c (s:="/"))).add (Tx.s (m:=d4+2) 0.1 (show g2 ak (g2 bw (af 2) (aA 4)) (aA 2) δ=_ from ao (oA (k:=4) h h4) rfl rfl))
 have el:=aK (dq (Tx.lst (Tx.c (δ:=δ) (s:="0")) (Tx.lst (Tx.c (s:="1")) (Tx.lst (Tx.c (s:="1/2")) (Tx.lst (Tx.c (s:="3/7")) (Tx.lst t5 (gr:=ag) (r:=[]) rfl))))))
 have em:g2 d9 8.8 (aA 5) δ=ε (.int ((d2%5:Nat):Int)):=ao (oA (k:=2) h h2) rfl (gQ 0.0)
 have lt:d2%5<5:=acJ _ 0.0
 unfold EM
 refine⟨ao el em ?_,?_⟩
 .rw [GY];generalize d2%5=k at lt;match k,lt with
  |0,_=>rfl
  |1,_=>rfl
  |2,_=>rfl
  |3,_=>rfl
  |4,_=>rfl
 .generalize d2%5=k at lt;match k,lt with
  |0,_=>exact show("0":Str).length<=30 by decide +kernel
  |1,_=>exact show("1":Str).length<=30 by decide +kernel
  |2,_=>exact show("1/2":Str).length<=30 by decide +kernel
  |3,_=>exact show("3/7":Str).length<=30 by decide +kernel
  |4,_=>exact RF 0.1 0.1
theorem JZ{d0 d1 d2 d3 d4 d5:Nat}(hn:n.length<=30)(ho:o.length<=30)(h0:d0<18)(h2:d2<40)(h3:d3<40)(h4:d4<1000000000):gX [.str n,.str o,dN [d0,d1,d2,d3,d4,d5]]=ε (.str (row (gw n o d2 d3 d4 d0))):=by
 refine cj (bQ _ (aU (Tx.s (m:=d2) 0.1 14.1).e) (bQ _ (aU (Tx.s (m:=d3) 0.1 (oA (l:=[d0,d1,d2,d3,d4,d5]) (k:=3) rfl rfl)).e) (bQ _ (aU (Ma (l:=[d0,d1,d2,d3,d4,d5]) rfl rfl rfl h4).e) ?_)))
 let δ (L:23.0):DS:=[dz n,dz o,ε 2.3,ε (.str (nS (d2:Nat))),ε (.str (nS (d3:Nat))),ε (.str (EM d2 d4)),L]
 have ls:=(Ma (δ:=δ ζ) (l:=[d0,d1,d2,d3,d4,d5]) rfl rfl rfl h4).l
 have l2:=(Tx.s (g:=gC (.int (d2:Nat))) (δ:=[]) (m:=d2) 0.1 rfl).l
 have l3:=(Tx.s (g:=gC (.int (d3:Nat))) (δ:=[]) (m:=d3) 0.1 rfl).l
 have N:∀L,Tx (af 0) (δ L) n 30:=λL=>⟨rfl,hn⟩
 have O:∀L,Tx (af 1) (δ L) o 30:=λL=>⟨rfl,ho⟩
 have A:∀L,Tx (af 3) (δ L) (nS (d2:Nat)) 30:=λL=>⟨rfl,l2⟩
 have B:∀L,Tx (af 4) (δ L) (nS (d3:Nat)) 30:=λL=>⟨rfl,l3⟩
 have S:∀L,Tx (af 5) (δ L) (EM d2 d4) 30:=λL=>⟨rfl,ls⟩
 refine bQ (δ _) (kG (dq (Tx.lst (Tx.add (Tx.add 4.1 (Tx.c (s:=" many "))) (A _)) (Tx.lst (Tx.add (Tx.add (Tx.add (Tx.add 4.1 (Tx.c (s:=" till "))) (A _)) 8.6) (B _)) (Tx.lst (Tx.add (Tx.c (s:="show ")) (N _)) (Tx.lst (Tx.add (Tx.c (s:="ends ")) (N _)) (gr:=ag) (r:=[]) rfl)))))) ?_
 refine bQ (δ _) (kG (jm rfl (aK (dq (Tx.lst (Tx.add (Tx.add (Tx.add (Tx.add (Tx.add 4.1 (Tx.c (s:=" steps "))) (A _)) (Tx.c (s:=" -1 "))) (B _)) (Tx.c (s:=" 3"))) (Tx.lst (Tx.add (Tx.add (Tx.add (Tx.add (Tx.add (Tx.c (s:="ways ")) (N _)) 8.6) (A _)) 8.6) (B _)) (gr:=ag) (r:=[]) rfl)))) 0.2)) ?_
 refine bQ (δ _) (oq rfl (Tx.add (Tx.add (Tx.add (Tx.add (Tx.add 4.1 (Tx.c (s:=" between "))) (A _)) 8.6) (B _)) (Tx.c (s:=" 1 2 5"))).e 0.2) ?_
 refine bQ (δ _) (oq rfl (Tx.add (Tx.add (Tx.add (Tx.add (Tx.add (Tx.add (Tx.add (Tx.c (s:="odds ")) (N _)) 8.6) (A _)) 8.6) (B _)) 8.6) (S _)).e 0.2) ?_
 refine bQ (δ _) (kG (jm rfl (aK (dq (Tx.lst (Tx.add (Tx.add (Tx.add (Tx.c (s:="mean ")) (N _)) 8.6) (S _)) (Tx.lst (Tx.add (Tx.add (Tx.add (Tx.add (Tx.add (Tx.c (s:="share ")) (N _)) 8.6) (A _)) 8.6) (B _)) (Tx.lst (Tx.add (Tx.c (s:="judge ")) (N _)) (gr:=ag) (r:=[]) rfl))))) 0.2)) ?_
 refine bQ (δ _) (kG (jm rfl (aK (dq (Tx.lst (Tx.add (Tx.add (Tx.add (Tx.c (s:="rule ")) (N _)) (Tx.c (s:=" 1/3 1/2 "))) (S _)) (Tx.lst (Tx.add (Tx.add (Tx.add (Tx.c (s:="lot ")) (N _)) 8.6) (O _)) (Tx.lst (Tx.add (Tx.c (s:="bad ")) (N _)) (Tx.lst (Tx.add (Tx.c (s:="good ")) (N _)) (gr:=ag) (r:=[]) rfl)))))) 0.2)) ?_
 refine ret _ (ao (aK (jm rfl (aK (dq (Tx.lst (Tx.add (Tx.c (s:="at ")) (N _)) (Tx.lst (Tx.add (Tx.add (Tx.add (Tx.add (Tx.c (s:="rule ")) (N _)) 8.6) (S _)) (Tx.c (s:=" 1/2 1/9"))) (Tx.lst (Tx.add (Tx.add (Tx.add (Tx.c (s:="lot ")) (O _)) 8.6) (N _)) (gr:=ag) (r:=[]) rfl))))) 0.2)) (oA (l:=[d0,d1,d2,d3,d4,d5]) (k:=0) rfl rfl) ?_) 5.7
 refine iI ?_
 match d0,h0 with
 |0,_|1,_|2,_|3,_|4,_|5,_|6,_|7,_|8,_|9,_|10,_|11,_|12,_|13,_|14,_|15,_|16,_|17,_=>exact ade (λs=>ε (PyData.str s)) 5.4
 |k+18,h=>exact absurd h 0.1
structure Rw(ts:1.4):Prop where
 lo:2<=ts.length
 hi:ts.length<=10
 wd:∀t∈ts,Wd t
 ln:∀t∈ts,t.length<=40
def rb(hi:ts.length<=12)(ln:∀t∈ts,t.length<=40):(row ts).length<=1000:=by
 have:=uA (sep:=⟨#[32]⟩) ln
 have e:(⟨#[32]⟩:Str).length=1:=rfl
 rw[e]at this
 show(Txt.join ⟨#[32]⟩ ts).length<=_
 lia
noncomputable def xX:List Str:=["01","-1","+1","x","1.0","2/4","1/1","3/2","0/3","1/","/2","1/2/3","","1/-2","1111111111111111111111111111111","1/1111111111111111111111111111111"]
noncomputable def Hl:List Str:=["01","+1","x","1/2","-2","","1,2","1111111111111111111111111111111"]
noncomputable def RG:List Str:=[""," ","plan","plan a","plan a hand","plan a many","plan a many 3 ","plan  a many 3","plan a none 3","plan a steps 2 -2 1 1","lot a","lot a b c","odds a 1 0","rule a 1/3 1/2","draw a","Show a"]
noncomputable def six:List Str:=["show","ends","judge","bad","good","at"]
def Te(ts:1.4)(d3:Nat):Nat:=2+d3%max 1 (ts.length-2)
def at2(ts:1.4)(d3:Nat):Nat:=3+d3%(ts.length-3)
def put(ts:1.4)(k:Nat)(b:Str):List Str:=ts.take k++b::ts.drop (k+1)
def isA(ts:1.4)(d1:Nat):Bool:=ι (d1<7)&&(ι (2<ts.length)&&!([("lot":Str),"plan"].contains (ts.headD "")))
def isB(ts:1.4)(d1:Nat):Bool:=ι (d1<7)&&ts.headD ""=="plan"
def isC(ts:1.4)(d1:Nat):Bool:=ι (d1=7)&&!(six.contains (ts.headD ""))
def nr(ts:1.4)(d1 d2 d3:Nat):Str:=
 if d1=0 then([5.2::ts,ts++[5.2],ts.headD ""::5.2::ts.tail].map row).getD (d2%3) ""
 else if d1=1 then row ((ts.headD ""++"s")::ts.tail)
 else if d1=2 then row (ts++[("1":Str)])
 else if d1=3 then ts.headD ""
 else if isA ts d1=η then row (put ts (Te ts d3) (xX.getD (d2%16) ""))
 else if isB ts d1=η then row (put ts (at2 ts d3) (Hl.getD (d2%8) ""))
 else if isC ts d1=η then row ts.dropLast
 else RG.getD (d2%16) ""
theorem lH{a rest:aV}(hc:c δ=ε b)(h1:b=η->a δ=ε (.rt x))(h2:b=θ->(rest δ).bind cu=ε x):(az (gy c a bf) rest δ).bind cu=ε x:=by
 cases b with
 |true=>
   have e:gy c a bf δ=ε (.rt x):=by unfold gy;rw[hc];exact h1 rfl
   rw[jQ e];rfl
 |false=>rw[cM (c9 hc)];exact h2 rfl
def tf(h:g δ=ε d):aT g δ=ε (.rt d):=by unfold aT;rw[h];rfl
theorem Mb(gT:ts≠[])(b:Str):row (ts++[b])=(row ts++" ")++b:=by
 induction ts with
 |nil=>exact(gT rfl).elim
 |cons a r ih=>
   cases r with
   |nil=>exact(VI a b []).trans (by rw[AA,AA])
   |cons c r=>
     rw[ae6,ae6,VI,VI a c r,<-List.cons_append,ih 0.2];exact dn (by simp only[app_list,ac2])
def NW(h:g δ=ε 23.9)(k:Nat):gB (g2 fV g (gC 12.4)) δ=ε (ι (m=k)):=dM (ao h rfl (by rw[Ew];congr 2;exact adN.mpr 0.1))
def aez(h:g δ=ε 23.9)(k:Nat):gB (g2 IK g (gC 12.4)) δ=ε (ι (m<k)):=dM (ao h rfl (by
 show ε (PyData.bool (ι (((m:Nat):Int)<(k:Nat))))=_
 congr 2;exact adN.mpr 0.1))
def aeA(h:g δ=ε 23.9)(k:Nat):gB (g2 BC g (gC 12.4)) δ=ε (ι (k<m)):=dM (ao h rfl (by
 show ε (PyData.bool (ι (((k:Nat):Int)<(m:Nat))))=_
 congr 2;exact adN.mpr 0.1))
def Dw(h:g δ=ε 23.9)(hk:0<k):g2 d9 g (gC 12.4) δ=ε (.int ((m%k:Nat):Int)):=ao h rfl ((gQ 0.1).trans (by norm_cast))
def pick{ts:1.4}(h:g δ=ε 6.5)(hi:gi δ=ε 12.4)(hk:k<ts.length):g2 bw g gi δ=ε (.str (ts.getD k "")):=
 ao h hi (by rw[GY];exact iI (by rw[abv,acI,abh hk];rfl))
def Xx(ts:1.4):rO ts δ=ε (ts.map .str):=rfl
theorem Xy:∀ts:List Str,(ts.foldr (λs g=>aa (gC (.str s)) g) ag) δ=ε (ts.map .str)
 |[]=>rfl
 |t::ts=>cons_of rfl (Xy ts)
def ahW(h:k<=x.cps.toList.length)(hl:x.length<=100000)(hg:g δ=dz x)(hk:gk δ=ε 12.4):p6 g (b0 gk) bH δ=ε (.str (cC (x.cps.toList.drop k))):=by
 have e:=afq.mp (aii (x:=x) (i:=(k:Int)) ⟨by lia,by lia⟩)
 unfold p6 b0 bH
 rw[hg,aaG,hk]
 show(if x.length<=100000 then ε (PyData.str (Txt.slice x 25.2 ζ))else ζ)=_
 rw[abe hl,e]
 congr 2
 refine afJ (afC.mp ?_)
 rw[iq,adU,afi (by rw[afz];lia)]
def ahX{ts:1.4}(h:g δ=ε 6.5)(hk:k<=ts.length)(e:gk δ=ε 12.4):ki g bH (b0 gk) δ=ε ((ts.take k).map .str):=by
 unfold ki b0 bH
 rw[h,e]
 show ε (cutD (ts.map PyData.str) ζ 25.2)=_
 unfold cutD
 rw[HT.KL,HT.zo,Nat.min_eq_left (by rw[aaI];exact hk),aiG,ajj,ai2]
def ahY{ts:1.4}(h:g δ=ε 6.5)(hk:k<=ts.length)(e:gk δ=ε 12.4):ki g (b0 gk) bH δ=ε ((ts.drop k).map .str):=by
 unfold ki b0 bH
 rw[h,e]
 show ε (cutD (ts.map PyData.str) 25.2 ζ)=_
 rw[aex (by rw[aaI];exact hk),ai3]
def aaB{ts:1.4}(h:g δ=ε 6.5)(hk:1<=ts.length):ki g bH (b0 (g1 F8 (aA 1))) δ=ε (ts.dropLast.map .str):=by
 unfold ki b0 bH
 rw[h]
 show ε (cutD (ts.map PyData.str) ζ (ε (-1)))=_
 unfold cutD
 rw[HT.zo,show HT.sk (ts.map PyData.str).length (ts.map PyData.str).length (ε (-1))=ts.length-1 from ?_,aiG,ajj,List.dropLast_eq_take,ai2]
 unfold HT.sk
 simp
 lia
def AB(h1:go δ=dz " ")(h2:ge δ=ε 6.5)(hi:ts.length<=12)(ln:∀t∈ts,t.length<=40):i5 go ge δ=ε (.str (row ts)):=by
 refine yY (by rw[h1,Hb]) h2 ?_
 unfold JoinOk
 have e:(⟨#[32]⟩:Str).length=1:=rfl
 rw[ahK (B:=40) ln (by rw[e];lia)]
 rfl
def RH:g2 rQ (aM "1") (aA 31) δ=dz "1111111111111111111111111111111":=rfl
def Mc{ts:1.4}(h:g δ=dz x)(ht:gt δ=ε (.tuple (ts.map .str))):gB (g2 pY g gt) δ=ε (!(ts.contains x)):=by
 refine dM (ao h ht ?_)
 have e:M0 18.9 (.tuple (ts.map .str))=M0 18.9 6.5:=rfl
 unfold pY
 rw[e,L5];rfl
def VJ:∀k,k<16->(xX.getD k "").length<=40:=⋯
def aaC:∀k,k<8->(Hl.getD k "").length<=40:=⋯
def VL(hk:k<ts.length)(hi:ts.length<=10)(hb:b.length<=40)(ln:∀t∈ts,t.length<=40):(put ts k b).length=ts.length/\∀t∈put ts k b,t.length<=40:=by
 unfold put
 refine⟨by rw[abm,afy,abk,afz];lia,λ19=>?_⟩
 rcases abg.mp ht with z|z
 .grind
 .grind
def ti(h:g δ=ε d):aa g ag δ=ε [d]:=cons_of h rfl
section
variable {ts:1.4}{d1:Nat}
abbrev sN(ts:1.4)(l:1.0)(d1 a:Nat)(x y:23.0):DS:=[ε (.str (row ts)),ε (dN l),ε 6.5,ε (.int (d1:Nat)),ε (.int (a:Nat)),x,y]
def RI(h2:af 2 δ=ε 6.5)(h4:af 4 δ=ε 12.4)(h5:af 5 δ=dz b)(hk:k<ts.length)(hi:ts.length<=10)(hb:b.length<=40)(ln:∀t∈ts,t.length<=40):
  i5 8.7 (aI (rm iB (aI (rm iB (aI (ki (af 2) bH (b0 (af 4)))) (aI (bD 20.1)))) (aI (ki (af 2) (b0 (g2 ak (af 4) (aA 1))) bH)))) δ=ε (.str (row (put ts k b))):=by
 have pl:=VL hk hi hb ln
 have e1:=jm (aK (ahX (k:=k) h2 0.1 h4)) (aK (dq (ti h5))) 3.4
 have e2:=aK (jm (aK e1) (aK (ahY (k:=k+1) h2 0.1 (show g2 ak (af 4) (aA 1) δ=_ from ao h4 rfl rfl))) 3.4)
 refine AB rfl (e2.trans ?_) (by rw[pl.1];lia) pl.2
 unfold put
 simp
end
def sq(h:a δ=ε 20.6)(k:(b δ').bind cu=x):(az a b δ).bind cu=x:=by rw[cM h];exact k
def Hm{w0 w1:Str}{d0 d1 d2 d3 d4 d5:Nat}(H:Rw 5.8)(hp:w0="plan"->2<=r.length):di [.str (row 5.8),dN [d0,d1,d2,d3,d4,d5]]=ε (.str (nr 5.8 d1 d2 d3)):=by
 have hl:=rb (by have:=H.hi;lia) H.ln
 have MN:=rb (by have:=H.hi;simp at this;simp;lia) λ19=>H.ln t (aa8 _ ht)
 have hr:r.length<=8:=by have:=H.hi;simp at this;lia
 have w0o:=(H.wd w0 0.2).ok
 have es:iw (af 0) 8.7 [ε (.str (row 5.8)),ε 2.3,ζ,ζ,ζ,ζ,ζ]=ε ((w0::w1::r).map .str):=by
  refine(qr (c:=32) 0.0 rfl (show ε (PyData.str (" ":Str))=_ by rw[Hb]) 0.1).trans ?_;rw[Ag 0.0 0.2 λ19=>(H.wd t ht).no]
 refine sq (aU (aK es)) (sq (aU (oA (l:=[d0,d1,d2,d3,d4,d5]) (k:=1) (x:=d1) rfl rfl)) ?_)
 have e4:g2 ak (aA 2) (g2 d9 24.5 (eM xG (aa (aA 1) (aa (g2 vH (eM cA 5.1) (aA 2)) ag)))) [ε (.str (row 5.8)),ε 2.3,sL ((w0::w1::r).map .str),sI (d1:Nat),ζ,ζ,ζ]=ε (.int ((Te 5.8 d3:Nat):Int)):=by
  have e1:=r6 (ts:=w0::w1::r) (g:=af 2) (δ:=[ε (.str (row 5.8)),ε 2.3,sL ((w0::w1::r).map .str),sI (d1:Nat),ζ,ζ,ζ]) rfl;refine ao rfl (ao (oA (l:=[d0,d1,d2,d3,d4,d5]) (k:=3) rfl rfl) (jn (cons_of rfl (cons_of (ao e1 rfl rfl) rfl)) (show xG [.int 1,.int _]=ε (.int ((max 1 r.length:Nat):Int))from ?_)) (gQ 0.1)) ?_
  .show ε (PyData.int (if _>_ then _ else _))=_;congr 2;rw[abk,abk];split<;>lia
  .show ε (PyData.int (2+_))=_;congr 2
 refine sq (aU e4) ?_
 show(az _ _ (sN 5.8 [d0,d1,d2,d3,d4,d5] d1 (Te 5.8 d3) ζ ζ)).bind cu=_
 generalize RC:sN 5.8 [d0,d1,d2,d3,d4,d5] d1 (Te 5.8 d3) ζ ζ=δ
 have v0:Tx (af 0) δ (row 5.8) 1000:=⟨by rw[<-RC];rfl,hl⟩
 have v1:af 1 δ=ε 2.3:=by rw[<-RC];rfl
 have v2:af 2 δ=ε (.list ((w0::w1::r).map .str)):=by rw[<-RC];rfl
 have v3:af 3 δ=ε (.int (d1:Nat)):=by rw[<-RC];rfl
 have i0:=ym (k:=0) (t:=w0) v2 rfl
 have t0:Tx 2.8 δ w0 40:=⟨i0,H.ln w0 0.2⟩
 have m2:=λ(k:Nat) (hk:0<k)=>Dw (oA (k:=2) v1 rfl) hk
 unfold nr
 refine lH (NW v3 0) (λz=>?_) λz=>?_
 .rw [abe (afb z)];have tj:Tx (i5 8.7 (aI (ki (af 2) (b0 (aA 1)) bH))) δ (row (w1::r)) 1000:=⟨AB rfl (aK (RB (k:=1) v2 0.2)) 3.4 λ19=>H.ln t (aa8 _ ht),MN⟩;have el:=aK (dq (Tx.lst (Tx.add 8.6 v0) (Tx.lst (Tx.add v0 8.6) (Tx.lst (Tx.add (Tx.add t0 (Tx.c (s:="  "))) tj) (gr:=ag) (r:=[]) rfl))));refine tf ((pick el (m2 3 0.0) 14.2).trans ?_);congr 3;show[_,_,_]=[row _,row _,row _];rw[Mb 0.2];refine congr (ade List.cons (dn ?_)) (congr (ade List.cons (dn ?_)) (ade (λx=>[x]) (dn ?_)));.rw [app_list,eP 5.2 w0];kernel_rfl
  .rw [app_list,app_list,app_list,show("":Str).cps.toList=[]from As,abE]
  .show _=(row (w0::5.2::w1::r)).cps.toList;rw[app_list,app_list,eP,eP,ac2];kernel_rfl
 rw[abo (afQ z)]
 refine lH (NW v3 1) (λz=>?_) λz=>?_
 .rw [abe (afb z)];have hc:w0.cps.toList.length=w0.length:=abf;have rc:=eP w0 w1 r;have lw:eM cA (aa 2.8 ag) δ=ε (.int (w0.length:Nat)):=by
   refine jn (ti i0) ?_;show(if w0.length<=100000 then ε (PyData.int (w0.length:Nat))else ζ)=_;rw[abe (by have:=H.ln w0 0.2;lia)]
  have sl:=ahW (x:=row 5.8) (k:=w0.length) (by rw[rc,abm];lia) 0.1 v0.e lw;rw[rc,<-hc,List.drop_left]at sl;refine tf ((ao (Tx.add t0 (Tx.c (s:="s"))).e sl (jG ?_)).trans ?_)
  .have l1:=(Tx.add t0 (Tx.c (s:="s"))).l;have:(cC (32::(row (w1::r)).cps.toList)).length=(row (w1::r)).length+1:=by rw[eE,abk];rfl
   lia
  .exact ade (λs=>ε (PyData.str s)) (dn (by rw[app_list,app_list,iq];show _=(row ((w0++"s")::w1::r)).cps.toList;rw[eP,app_list]))
 rw[abo (afQ z)]
 refine lH (NW v3 2) (λz=>?_) λz=>?_
 .rw [abe (afb z)];refine tf ((Tx.add v0 (Tx.c (s:=" 1"))).e.trans ?_);rw[Mb 0.2];exact ade (λs=>ε (PyData.str s)) (dn (by simp only[app_list,ac2];kernel_rfl))
 rw[abo (afQ z)]
 refine lH (NW v3 3) (λz=>?_) λz=>?_
 .rw [abe (afb z)];exact tf i0
 rw[abo (afQ z)]
 refine lH (b:=isA 5.8 d1) (iy (aez v3 7) λ_=>iy (aeA (r6 v2) 2) λ_=>Mc (ts:=["lot","plan"]) i0 rfl) (λz=>?_) λz=>?_
 .rw [abe z];have hlen:2<(w0::w1::r).length:=by unfold isA at z;rw[Bool.and_eq_true,Bool.and_eq_true,decide_eq_true_iff,decide_eq_true_iff]at z;exact z.2.1
  have ha:Te 5.8 d3<(w0::w1::r).length:=by
   unfold Te;have:=acJ d3 (show 0<max 1 ((w0::w1::r).length-2)by lia);lia
  have e14:=aU (i:=5) (δ:=δ) (aK (dq (Xx ["01","-1","+1","x","1.0","2/4","1/1","3/2","0/3","1/","/2","1/2/3","","1/-2"])));refine gL _ e14 ?_;rw[<-RC];have e16:=aK (jm (a:=af 5) (b:=aI (bD (aa (g2 rQ (aM "1") (aA 31)) (aa (g2 ak (aM "1/") (g2 rQ (aM "1") (aA 31))) ag)))) (δ:=sN 5.8 [d0,d1,d2,d3,d4,d5] d1 (Te 5.8 d3) (ε (.list ((["01","-1","+1","x","1.0","2/4","1/1","3/2","0/3","1/","/2","1/2/3","","1/-2"]:List Str).map .str))) ζ) rfl (aK (dq (cons_of RH (ti (ao rfl RH (jG ⋯)))))) 0.2);refine gL _ (aU (pick (ts:=xX) (e16.trans (by rw[show("1/":Str)++"1111111111111111111111111111111"="1/1111111111111111111111111111111" from ⋯];rfl)) (Dw 14.1 (k:=16) 0.0) 14.2)) ?_;exact tf (RI (k:=Te 5.8 d3) rfl rfl rfl ha H.hi (VJ _ 14.2) H.ln)
 rw[abo (ae8 z)]
 refine lH (b:=isB 5.8 d1) (iy (aez v3 7) λ_=>NV i0 w0o RA) (λz=>?_) λz=>?_
 .rw [abe z];have hw:w0="plan":=by unfold isB at z;rw[Bool.and_eq_true,beq_iff_eq]at z;exact z.2
  have h4:=hp hw;have ha:at2 5.8 d3<(w0::w1::r).length:=by
   unfold at2;have:=acJ d3 (show 0<(w0::w1::r).length-3 by simp;lia);lia
  have ea:g2 ak (aA 3) (g2 d9 24.5 (g2 vH (eM cA 5.1) (aA 3))) δ=ε (.int ((at2 5.8 d3:Nat):Int)):=by
   refine ao rfl (ao (oA (k:=3) v1 rfl) (ao (r6 v2) rfl (show vH 24.2 (.int 3)=ε (.int (((w0::w1::r).length-3:Nat):Int))from ?_)) (gQ 3.4)) ?_
   .show ε (PyData.int (_-3))=_;simp;lia
   .show ε (PyData.int (3+_))=_;congr 2
  refine gL _ (aU ea) ?_;rw[<-RC];have e8:=aK (dq (δ:=sN 5.8 [d0,d1,d2,d3,d4,d5] d1 (at2 5.8 d3) ζ ζ) (cons_of (a:=gC (.str "01")) rfl (cons_of (a:=gC (.str "+1")) rfl (cons_of (a:=gC (.str "x")) rfl (cons_of (a:=gC (.str "1/2")) rfl (cons_of (a:=gC (.str "-2")) rfl (cons_of (a:=gC (.str "")) rfl (cons_of (a:=gC (.str "1,2")) rfl (ti RH)))))))));refine gL _ (aU (pick (ts:=Hl) e8 (Dw 14.1 (k:=8) 0.0) 14.2)) ?_;exact tf (RI (k:=at2 5.8 d3) rfl rfl rfl ha H.hi (aaC _ 14.2) H.ln)
 rw[abo (ae8 z)]
 refine lH (b:=isC 5.8 d1) (iy (NW v3 7) λ_=>Mc (ts:=six) i0 rfl) (λz=>?_) λz=>?_
 .rw [abe z];exact tf (AB rfl (aK (aaB v2 0.2)) (by have:=H.hi;simp;lia) λ19=>H.ln t ((ahU _).mem ht))
 rw[abo (ae8 z)]
 rw[<-RC]
 refine cj (ret _ (pick (ts:=RG) (aK (jm (x:=([""," ","plan","plan a","plan a hand","plan a many","plan a many 3 ","plan  a many 3","plan a none 3"]:List Str).map .str) rfl (aK (dq (Xx ["plan a steps 2 -2 1 1","lot a","lot a b c","odds a 1 0","rule a 1/3 1/2","draw a","Show a"]))) 0.2)) (Dw 14.1 (k:=16) 0.0) 14.2) 5.7)
structure Ws(ts:1.4):Prop where
 hi:ts.length<=12
 wd:∀t∈ts,Wd t
 ln:∀t∈ts,t.length<=40
def VM(t:Str):Bool:=t.cps.toList.all (λc=>ι (c<128)&&!(c==32))&&ι (t.length<=40)
def fj(h:VM t=η):Wd t/\t.length<=40:=by
 unfold VM at h
 simp only[abi,acC,adA,afs,agm]at h
 exact⟨⟨λc hc=>(h.1 c hc).1,λz=>(h.1 32 z).2 rfl⟩,h.2⟩
def lJ(hi:ts.length<=12)(h:∀t∈ts,Wd t/\t.length<=40):Ws ts:=⟨hi,λ19=>(h t ht).1,λ19=>(h t ht).2⟩
abbrev ND(ts:1.4):Prop:=aG [.str (row ts)]=ε 9.6
def uM(gT:ts≠[])(W:Ws ts)(hh:xW ts=θ)(h:Oe ts=θ):ND ts:=by
 show aG [.str (row ts)]=_
 rw[JX gT W.wd (by have:=rb W.hi W.ln;lia) hh,h,abo abj]
def uN(gT:ts≠[])(W:Ws ts)(hh:xW ts=θ)(hw:cg [.str (Dq ts),.str (ts.getD 1 ""),.list ((Ds ts).map .str)]=ε 9.6):ND ts:=by
 show aG [.str (row ts)]=_
 rw[JX gT W.wd (by have:=rb W.hi W.ln;lia) hh,hw]
 split<;>rfl
theorem AD(h:(a==4.7)=θ):xW (a::r)=false:=by
 match r with
 |[]=>rfl
 |[_]=>rfl
 |[_,_]=>rfl
 |b::c::d::r=>show(a==4.7&&(!(b==5.2)&&c==("hand":Str)))=θ;rw[h];rfl
theorem Md(h:(c==("hand":Str))=θ):xW (a::b::c::r)=false:=by
 match r with
 |[]=>rfl
 |d::r=>show(a==4.7&&(!(b==5.2)&&c==("hand":Str)))=θ;rw[h,afP,afP]
abbrev Sd(p:Str×Str):Prop:=∃x,FG p=ε x/\(fO x=ζ\/x=cI "NoDeed")
abbrev Bd(p:Str×Str):Prop:=FG p=ε 9.6
def RJ(h:m<10^10):FG (nS (m:Nat),"number")=ε 23.9:=(rw_num _).trans (by rw[<-uK];exact Ay h)
theorem ah0:∀k,k<16->Bd (xX.getD k "","number")
 |0,_|1,_|2,_|3,_|4,_|5,_|6,_|7,_|8,_|9,_|10,_|11,_|12,_|13,_|14,_|15,_=>by kernel_rfl
 |_+16,h=>absurd h 0.1
def J0(h:x.cps.toList=fT a++47::fT b):x=fS a b:=dn (by rw[h,l7])
def J1(h:x.cps.toList=fT a++47::fT b)(ha:a<10^10)(hb:b<10^10)(hn:¬(1<b/\Nat.gcd a b=1/\a<=b)):Bd (x,"fraction"):=(rw_frac x).trans (by rw[J0 h,Xw ha hb,abo hn])
def Hn(h:x.cps.toList=fT a++47::fT b)(ha:a<10^10)(hb:b<10^10)(hn:1<b/\Nat.gcd a b=1/\a<=b):FG (x,"fraction")=ε 14.6:=(rw_frac x).trans (by rw[J0 h,Xw ha hb,abe hn])
theorem ah1:∀k,k<16->Bd (xX.getD k "","fraction")
 |0,_|1,_|2,_|3,_|4,_=>by kernel_rfl
 |5,_=>J1 (x:="2/4") (a:=2) (b:=4) ⋯ 0.0 0.0 0.0
 |6,_=>by kernel_rfl
 |7,_=>J1 (x:="3/2") (a:=3) (b:=2) ⋯ 0.0 0.0 0.0
 |8,_=>J1 (x:="0/3") (a:=0) (b:=3) ⋯ 0.0 0.0 0.0
 |9,_|10,_|11,_|12,_|13,_|14,_|15,_=>by kernel_rfl
 |_+16,h=>absurd h 0.1
theorem b8n:∀k,k<8->Bd (Hl.getD k "","number")/\Bd (Hl.getD k "","number or -1")
 |0,_|1,_|2,_|3,_|4,_|5,_|6,_|7,_=>⟨by kernel_rfl,by kernel_rfl⟩
 |_+8,h=>absurd h 0.1
theorem RK:∀k,k<16->aG [.str (RG.getD k "")]=ε 9.6
 |0,_|1,_|2,_|3,_|4,_|5,_|6,_|7,_|8,_|9,_|10,_|11,_|12,_|13,_|14,_|15,_=>by kernel_rfl
 |_+16,h=>absurd h 0.1
theorem aeB{d2 d4:Nat}(h4:d4<1000000000):∃a b:Nat,FG (EM d2 d4,"fraction")=ε 14.6:=by
 have lt:d2%5<5:=acJ _ 0.0
 unfold EM
 generalize d2%5=k at lt
 match k,lt with
 |0,_=>exact⟨0,1,by kernel_rfl⟩
 |1,_=>exact⟨1,1,by kernel_rfl⟩
 |2,_=>exact⟨1,2,Hn (x:="1/2") ⋯ 0.0 0.0 0.0⟩
 |3,_=>exact⟨3,7,Hn (x:="3/7") ⋯ 0.0 0.0 0.0⟩
 |4,_=>exact⟨d4+1,d4+2,Hn (x:=fS (d4+1) (d4+2)) (l7 _ _) 0.1 0.1 ⟨by lia,by rw[show d4+2=(d4+1)+1 from rfl];simp,by lia⟩⟩
inductive r8:List Str->Str->Prop
 |a {w0 w1:Str}:(w0==4.7)=θ->r8 [w0,w1] w0
 |b {w1 c:Str}:(c==("hand":Str))=θ->r8 ["plan",w1,c] ("plan "++c)
theorem r8.at(P:r8 pre d)(rest:1.4):Dq (pre++rest)=d/\Ds (pre++rest)=rest/\xW (pre++rest)=θ/\pre++rest≠[]:=by
 cases P with
 |@a w0 w1 h=>
   have hp:Dp ([d,w1]++rest)=false:=by
    show(d==4.7&&ι (3<=([d,w1]++rest).length))=θ;rw[h];rfl
   refine⟨?_,?_,AD h,by simp⟩;.unfold Dq;rw[hp,if_neg Bool.false_ne_true];rfl
   .unfold Ds;rw[hp,if_neg Bool.false_ne_true];rfl
 |@b w1 c h=>
   refine⟨?_,?_,Md h,by simp⟩;.rfl
   .rfl
section
variable {pre rest ks:1.4}{d:Str}{l:List (Str×Str)}
def EN(P:r8 pre d)(W:Ws (pre++rest))(h:EL d=ε ks)(hl:rest.length≠ks.length):ND (pre++rest):=by
 obtain⟨h1,h2,h3,h4⟩:=P.at rest
 exact uN h4 W h3 (by rw[h1,h2];exact aaz h hl)
def RL(P:r8 pre d)(W:Ws (pre++l.map (·.1)))(h:EL d=ε (l.map (·.2)))(hs:∀p∈l,Sd p)(hb:∃p∈l,Bd p):ND (pre++l.map (·.1)):=by
 obtain⟨h1,h2,h3,h4⟩:=P.at (l.map (·.1))
 have:=W.hi
 rw[abm,aaI]at this
 exact uN h4 W h3 (by rw[h1,h2];exact aaA h 0.1 hs hb)
set_option tactic.hygienic true in
def Me(i:Nat)(b:Str)(hi:i<l.length):put (pre++l.map (·.1)) (pre.length+i) b=pre++(l.set i (b,(l.getD i ("","")).2)).map (·.1)/\(l.set i (b,(l.getD i ("","")).2)).map (·.2)=l.map (·.2):=by
 constructor
 .unfold put;rw[List.take_append,List.drop_append,ac2];rw[afi 0.1,List.drop_of_length_le (show pre.length<=pre.length+i+1 by lia),show pre.length+i-pre.length=i by lia,show pre.length+i+1-pre.length=i+1 by lia,afI,List.map_set,List.set_eq_take_append_cons_drop,abe (by rw[aaI];exact hi)]
 .rw [List.map_set];refine List.ext_getElem? λj=>?_;rw[List.getElem?_set];split;.grind
  .rfl
def Mf(hi:i<l.length)(hs:∀p∈l,Sd p)(hb:∀p∈l,Bd (b,p.2)):(∀p∈l.set i (b,(l.getD i ("","")).2),Sd p)/\∃p∈l.set i (b,(l.getD i ("","")).2),Bd p:=by
 have e:(l.getD i ("","")).2=l[i].2:=by rw[acI,abh hi];rfl
 have k:Bd (b,(l.getD i ("","")).2):=by rw[e];exact hb _ (agz hi)
 refine⟨λ21=>?_,_,List.mem_set hi _,k⟩
 rcases List.mem_or_eq_of_mem_set hp with z|rfl
 .grind
 .grind
end
abbrev W1(t:Str):Prop:=Wd t/\t.length<=40
def J2(h:5.2∈ts):Oe ts=false:=by unfold Oe;rw[List.contains_iff_mem.mpr h];rfl
def aaD:W1 "":=fj ⋯
def aeC:∀k,k<16->VM (xX.getD k "")=true:=⋯
def ah2:∀k,k<8->VM (Hl.getD k "")=true:=⋯
def all_cons(h:W1 a)(hr:∀t∈r,W1 t):∀t∈a::r,W1 t:=by grind
def jo{a b:1.4}(h:∀t∈a,W1 t)(hr:∀t∈b,W1 t):∀t∈a++b,W1 t:=by grind
def all_nil:∀t∈([]:List Str),W1 t:=λ_ h=>nomatch h
def Mg{l:List (Str×Str)}(h:∀t∈l.map (·.1),W1 t)(hp:W1 p.1):∀t∈(l.set i p).map (·.1),W1 t:=by grind
theorem Mh{w0 w1:Str}(hr:r.length<=9)(W:∀t∈w0::w1::r,W1 t)(hh:∀x,xW (w0::w1::r++[x])=θ)(k:Nat)(hk:k<3):aG [.str (([5.2::w0::w1::r,5.8++[5.2],w0::5.2::w1::r].map row).getD k "")]=ε 9.6:=by
 match k,hk with
 |0,_=>exact uM (ts:=5.2::w0::w1::r) 0.2 (lJ 3.4 (all_cons aaD W)) (AD ⋯) (J2 0.2)
 |1,_=>exact uM (ts:=5.8++[5.2]) 0.2 (lJ 3.4 (jo W (all_cons aaD all_nil))) (hh "") (J2 0.2)
 |2,_=>
   refine uM (ts:=w0::5.2::w1::r) 0.2 (lJ 3.4 (all_cons (W w0 0.2) (all_cons aaD λ19=>W t (aa8 _ ht)))) ?_ (J2 0.2);match r with
   |[]=>rfl
   |c::r=>
     show(w0==4.7&&(!(5.2==5.2)&&w1==("hand":Str)))=θ;cases w0==4.7<;>rfl
set_option tactic.hygienic true in
theorem RM{w0 w1:Str}{l:List (Str×Str)}(hw:(w0==4.7)=θ)(hf:EL w0=ε (l.map (·.2)))(hs:∀p∈l,Sd p)(W:∀t∈w0::w1::l.map (·.1),W1 t)(hl:l.length<=6)(hn:EL (w0++"s")=ζ)(WA:((w0++"s":Str)==4.7)=θ)(hws:W1 (w0++"s"))
  (hA:[("lot":Str),"plan"].contains w0=η\/∀p∈l,p.2="number"\/p.2="fraction")(hC:six.contains w0=η\/l≠[])(d0 d1 d2 d3 d4 d5:Nat):∃x,di [.str (row (w0::w1::l.map (·.1))),dN [d0,d1,d2,d3,d4,d5]]=dz x/\aG [.str x]=ε 9.6:=by
 refine⟨_,Hm ⟨by simp,by simp;lia,λ19=>(W t ht).1,λ19=>(W t ht).2⟩ (λz=>by rw[z]at hw;exact absurd hw ⋯),?_⟩
 have Wl:∀t∈l.map (·.1),W1 t:=λ19=>W t (by simp[ht])
 have W2:∀t∈[w0,w1],W1 t:=λ19=>W t (by simp at ht;rcases ht with rfl|rfl<;>simp)
 unfold nr
 split
 .exact Mh 3.4 W (λx=>AD hw) _ 14.2
 split
 .obtain ⟨h1,h2,h3,h4⟩:=(r8.a (w1:=w1) WA).at (l.map (·.1));exact uN (ts:=[w0++"s",w1]++l.map (·.1)) h4 (lJ 3.4 (jo (all_cons hws λ19=>W2 t (aa8 _ ht)) Wl)) h3 (by rw[h1,h2];exact L9 hn)
 split
 .exact EN (pre:=[w0,w1]) (rest:=l.map (·.1)++[("1":Str)]) (.a hw) (lJ 3.4 (jo W2 (jo Wl (all_cons (fj ⋯) all_nil)))) hf 0.2
 split
 .have:=uM (ts:=[w0]) 0.2 (lJ 0.2 (all_cons (W w0 0.2) all_nil)) rfl (by unfold Oe;rw[show ι (2<=[w0].length)=θ from rfl,Bool.and_false]);exact this
 split
 .rename_i z;unfold isA at z;rw[abi,abi,adW,adW]at z;have kn:=hA.resolve_left λy=>by have:=z.2.2;rw[show(w0::w1::l.map (·.1)).headD ""=w0 from rfl,y]at this;cases this
  have GC:0<l.length:=by have:=z.2.1;simp at this;exact this
  have hb:∀p∈l,Bd (xX.getD (d2%16) "",p.2):=λ21=>by
   rcases kn p hp with e|e;.rw [e];exact ah0 _ 14.2
   .rw [e];exact ah1 _ 14.2
  have hi:d3%l.length<l.length:=acJ _ GC;have ea:Te (w0::w1::l.map (·.1)) d3=[w0,w1].length+d3%l.length:=by
   unfold Te;rw[show max 1 ((w0::w1::l.map (·.1)).length-2)=l.length by simp;lia];rfl
  obtain⟨e1,e2⟩:=Me (pre:=[w0,w1]) (l:=l) (d3%l.length) (xX.getD (d2%16) "") hi;obtain⟨s1,s2⟩:=Mf hi hs hb;rw[ea,show put (w0::w1::l.map (·.1)) _ _=_ from e1];exact RL (.a hw) (lJ 3.4 (jo W2 (Mg Wl (fj (aeC _ 14.2))))) (by rw[e2];exact hf) s1 s2
 split
 .rename_i z;unfold isB at z;rw[show(w0::w1::l.map (·.1)).headD ""=w0 from rfl,hw,afP]at z;cases z
 split
 .rename_i z;unfold isC at z;rw[abi]at z;have gT:=hC.resolve_left λy=>by have:=z.2;rw[show(w0::w1::l.map (·.1)).headD ""=w0 from rfl,y]at this;cases this
  have e:(w0::w1::l.map (·.1)).dropLast=[w0,w1]++(l.map (·.1)).dropLast:=by
   cases l with
   |nil=>exact(gT rfl).elim
   |cons a l=>rfl
  rw[e];exact EN (.a hw) (lJ 3.4 (jo W2 λ19=>Wl t ((ahU _).mem ht))) hf (by have:=agx.mpr gT;simp;lia)
 exact RK _ 14.2
set_option tactic.hygienic true in
theorem RN{w1 c:Str}{l:List (Str×Str)}(hc:(c==("hand":Str))=θ)(hf:EL ("plan "++c)=ε (l.map (·.2)))(hs:∀p∈l,Sd p)(W:∀t∈4.7::w1::c::l.map (·.1),W1 t)(hl:l.length<=6)
  (hB:∀p∈l,p.2="number"\/p.2="number or -1")(gT:l≠[])(d0 d1 d2 d3 d4 d5:Nat):∃x,di [.str (row ("plan"::w1::c::l.map (·.1))),dN [d0,d1,d2,d3,d4,d5]]=dz x/\aG [.str x]=ε 9.6:=by
 refine⟨_,Hm ⟨by simp,by simp;lia,λ19=>(W t ht).1,λ19=>(W t ht).2⟩ (λ_=>by have:=agx.mpr gT;simp;lia),?_⟩
 have Wl:∀t∈l.map (·.1),W1 t:=λ19=>W t (by simp[ht])
 have W2:∀t∈[4.7,w1,c],W1 t:=λ19=>W t (by simp at ht;rcases ht with rfl|rfl|rfl<;>simp)
 have GC:=agx.mpr gT
 unfold nr
 split
 .exact Mh 3.4 W (λx=>Md hc) _ 14.2
 split
 .have WA:(("plan"++"s":Str)==4.7)=false:=⋯
  obtain⟨h1,h2,h3,h4⟩:=(r8.a (w1:=w1) WA).at (c::l.map (·.1));exact uN (ts:=[4.7++"s",w1]++(c::l.map (·.1))) h4 (lJ 3.4 (jo (all_cons (fj ⋯) (all_cons (W2 w1 0.2) all_nil)) (all_cons (W2 c 0.2) Wl))) h3 (by rw[h1,h2];exact L9 ⋯)
 split
 .exact EN (pre:=[4.7,w1,c]) (rest:=l.map (·.1)++[("1":Str)]) (.b hc) (lJ 3.4 (jo W2 (jo Wl (all_cons (fj ⋯) all_nil)))) hf 0.2
 split
 .exact show aG [.str "plan"]=ε 9.6 by kernel_rfl
 split
 .rename_i z;have:isA ("plan"::w1::c::l.map (·.1)) d1=false:=by
   unfold isA;simp
  rw[this]at z;cases z
 split
 .have hb:∀p∈l,Bd (Hl.getD (d2%8) "",p.2):=λ21=>by
   rcases hB p hp with e|e;.rw [e];exact(b8n _ 14.2).1
   .rw [e];exact(b8n _ 14.2).2
  have hi:d3%l.length<l.length:=acJ _ GC;have ea:at2 ("plan"::w1::c::l.map (·.1)) d3=[4.7,w1,c].length+d3%l.length:=by
   unfold at2;rw[show("plan"::w1::c::l.map (·.1):List Str).length-3=l.length by simp];rfl
  obtain⟨e1,e2⟩:=Me (pre:=[4.7,w1,c]) (l:=l) (d3%l.length) (Hl.getD (d2%8) "") hi;obtain⟨s1,s2⟩:=Mf hi hs hb;rw[ea,show put ("plan"::w1::c::l.map (·.1)) _ _=_ from e1];exact RL (.b hc) (lJ 3.4 (jo W2 (Mg Wl (fj (ah2 _ 14.2))))) (by rw[e2];exact hf) s1 s2
 split
 .have e:("plan"::w1::c::l.map (·.1):List Str).dropLast=[4.7,w1,c]++(l.map (·.1)).dropLast:=by
   cases l with
   |nil=>exact(gT rfl).elim
   |cons a l=>rfl
  rw[e];exact EN (.b hc) (lJ 3.4 (jo W2 λ19=>Wl t ((ahU _).mem ht))) hf 3.4
 exact RK _ 14.2
def aaE(h2:2<=ts.length)(h:∀t∈ts,(t==5.2)=θ):Oe ts=true:=by
 unfold Oe
 rw[abq h2,show ts.contains 5.2=θ from ?_]; · rfl
 rw[aiV]
 intro z
 have:=h _ (List.contains_iff_mem.mp z)
 cases this
def wB{l:List (Str×Str)}(P:r8 pre d)(W:Ws (pre++l.map (·.1)))(hf:EL d=ε (l.map (·.2)))(hs:∀p∈l,∃x,FG p=ε x/\fO x=ζ)(he:∀t∈pre++l.map (·.1),(t==5.2)=θ):
  aG [.str (row (pre++l.map (·.1)))]=ε (.tuple [.str d,.str ((pre++l.map (·.1)).getD 1 ""),.list (l.map λp=>(FG p).getD .none)]):=by
 obtain⟨h1,h2,h3,h4⟩:=P.at (l.map (·.1))
 have hl:=W.hi
 rw[abm,aaI]at hl
 have h5:2<=(pre++l.map (·.1)).length:=by cases P<;>simp
 rw[JX h4 W.wd (by have:=rb W.hi W.ln;lia) h3,aaE h5 he,abe rfl,h1,h2]
 exact aey _ hf 0.1 λ21=>by grind
structure Wk(p:Str×Str):Prop where
 w:W1 p.1
 ne:(p.1==5.2)=θ
 rd:∃x,FG p=ε x/\fO x=ζ
def aaF(ts:1.4)(d:Str)(told:List D)(d0 d1 d2 d3 d4 d5:Nat):Prop:=(∃x,di [.str (row ts),dN [d0,d1,d2,d3,d4,d5]]=dz x/\aG [.str x]=ε 9.6)/\aG [.str (row ts)]=ε (.tuple [.str d,.str (ts.getD 1 ""),.list told])/\∀t∈ts,W1 t
def chA(w:Str)(ks:1.4):Bool:= !(w==4.7)&&(ι (EL w=ε ks)&&(ι (EL (w++"s")=ζ)&&(!((w++"s":Str)==4.7)&&(VM (w++"s")&&(VM w&&(!(w==5.2)&&(([("lot":Str),"plan"].contains w||ks.all λk=>ι (k="number"\/k="fraction"))&&(six.contains w||!ks.isEmpty))))))))
def chB(c:Str)(ks:1.4):Bool:= !(c==("hand":Str))&&(ι (EL ("plan "++c)=ε ks)&&(VM c&&(!(c==5.2)&&((ks.all λk=>ι (k="number"\/k="number or -1"))&&!ks.isEmpty))))
section
variable {w0 w1 c:Str}{l:List (Str×Str)}(hn:W1 w1)(he:(w1==5.2)=θ)(hs:∀p∈l,Wk p)(hl:l.length<=6)(d0 d1 d2 d3 d4 d5:Nat)
include hn he hs hl
def jq(h:chA w0 (l.map (·.2))=η):aaF (w0::w1::l.map (·.1)) w0 (l.map λp=>(FG p).getD .none) d0 d1 d2 d3 d4 d5:=by
 unfold chA at h
 simp only[abi,Bool.or_eq_true,afs,adA,agX,acC,Function.comp_def,List.isEmpty_map,List.isEmpty_eq_false_iff]at h
 obtain⟨h1,h2,h3,h4,h5,h6,h7,h8,h9⟩:=h
 have W:=all_cons (fj h6) (all_cons hn λ19=>by obtain⟨p,hp,rfl⟩:=abt.mp ht;exact(hs p hp).w)
 have E:∀t∈[w0,w1]++l.map (·.1),(t==5.2)=false:=λ19=>by
  rcases aa9.mp ht with rfl|ht;.grind
  rcases aa9.mp ht with rfl|ht;.grind
  obtain⟨p,hp,rfl⟩:=abt.mp ht;exact(hs p hp).ne
 have g:=wB (pre:=[w0,w1]) (d:=w0) (l:=l) (.a h1) (lJ 3.4 W) h2 (λ21=>(hs p hp).rd) E
 exact⟨RM h1 h2 (λ21=>have⟨x,e,q⟩:=(hs p hp).rd;⟨x,e,.inl q⟩) W hl h3 h4 (fj h5) h8 h9 d0 d1 d2 d3 d4 d5,g,W⟩
def EO(h:chB c (l.map (·.2))=η):aaF ("plan"::w1::c::l.map (·.1)) ("plan "++c) (l.map λp=>(FG p).getD .none) d0 d1 d2 d3 d4 d5:=by
 unfold chB at h
 simp only[abi,afs,adA,agX,acC,Function.comp_def,List.isEmpty_map,List.isEmpty_eq_false_iff]at h
 obtain⟨h1,h2,h3,h4,h5,h6⟩:=h
 have W:∀t∈4.7::w1::c::l.map (·.1),W1 t:=all_cons (fj ⋯) (all_cons hn (all_cons (fj h3) λ19=>by obtain⟨p,hp,rfl⟩:=abt.mp ht;exact(hs p hp).w))
 have E:∀t∈[4.7,w1,c]++l.map (·.1),(t==5.2)=false:=λ19=>by
  rcases aa9.mp ht with rfl|ht;.decide +kernel
  rcases aa9.mp ht with rfl|ht;.grind
  rcases aa9.mp ht with rfl|ht;.grind
  obtain⟨p,hp,rfl⟩:=abt.mp ht;exact(hs p hp).ne
 have g:=wB (pre:=["plan",w1,c]) (d:="plan "++c) (l:=l) (.b h1) (lJ 3.4 W) h2 (λ21=>(hs p hp).rd) E
 exact⟨RN h1 h2 (λ21=>have⟨x,e,q⟩:=(hs p hp).rd;⟨x,e,.inl q⟩) W hl h5 h6 d0 d1 d2 d3 d4 d5,g,W⟩
end
def wN(h:m<10^10):W1 (nS (m:Nat)):=by
 have e:(nS (m:Nat)).cps.toList.length=(nS (m:Nat)).length:=abf
 have:=oy (m:=m) (k:=10) 0.0 h
 exact⟨⟨by rw[ic];exact L3 m,by rw[ic];exact JY m 0.0⟩,by rw[<-e,ic];lia⟩
def wF(ha:a<10^10)(hb:b<10^10):W1 (fS a b):=by
 refine⟨⟨λc hc=>?_,λhc=>?_⟩,acw (RF ha hb) 0.0⟩
 all_goals
  rw[l7,abg,aa9]at hc;rcases hc with z|z|z;.have:=uJ _ _ z;lia
  .lia
  .have:=uJ _ _ z;lia
theorem wS{d2 d4:Nat}(h4:d4<1000000000):W1 (EM d2 d4):=by
 have lt:d2%5<5:=acJ _ 0.0
 unfold EM
 generalize d2%5=k at lt
 match k,lt with
 |0,_=>exact fj (t:="0") ⋯
 |1,_=>exact fj (t:="1") ⋯
 |2,_=>exact fj (t:="1/2") ⋯
 |3,_=>exact fj (t:="3/7") ⋯
 |4,_=>exact wF (a:=d4+1) (b:=d4+2) 0.1 0.1
def nN(m:Nat):(nS (m:Nat)==5.2)=false:=wz (by rw[ic,As];exact λz=>Nat.toDigits_ne_nil (List.map_eq_nil_iff.mp z))
theorem nS5(d2 d4:Nat):(EM d2 d4==5.2)=false:=by
 have lt:d2%5<5:=acJ _ 0.0
 unfold EM
 generalize d2%5=k at lt
 match k,lt with
 |0,_=>exact show(("0":Str)==5.2)=θ by decide +kernel
 |1,_=>exact show(("1":Str)==5.2)=θ by decide +kernel
 |2,_=>exact show(("1/2":Str)==5.2)=θ by decide +kernel
 |3,_=>exact show(("3/7":Str)==5.2)=θ by decide +kernel
 |4,_=>exact wz (by show(fS (d4+1) (d4+2)).cps.toList≠_;rw[l7,As];simp)
def FH:∀p∈([]:List (Str×Str)),Wk p:=λ_ h=>nomatch h
def fw(h:Wk p)(r:∀q∈l,Wk q):∀q∈p::l,Wk q:=by grind
def Mi(h:m<40):Wk (nS (m:Nat),"number"):=⟨wN 0.1,nN m,_,RJ 0.1,rfl⟩
def wkS{d2 d4:Nat}(h4:d4<1000000000):Wk (EM d2 d4,"fraction"):=by obtain⟨a,b,e⟩:=aeB (d2:=d2) h4;exact⟨wS h4,nS5 _ _,_,e,rfl⟩
def wkO(h:W1 x)(he:(x==5.2)=θ):Wk (x,"name"):=⟨h,he,_,rw_name x,rfl⟩
def wkM:Wk ("-1","number or -1"):=⟨fj ⋯,⋯,_,rw_m1,rfl⟩
def wkK(h:x.cps.toList=fT m)(hm:m<40:=by decide):Wk (x,"number"):=by
 have:x=nS (m:Nat):=dn (by rw[h,ic])
 rw[this];exact Mi hm
def wkF(h:x.cps.toList=fT a++47::fT b)(hn:a<40/\b<40/\1<b/\Nat.gcd a b=1/\a<=b:=by decide):Wk (x,"fraction"):=by
 have e:=Hn h 0.1 0.1 hn.2.2
 rw[J0 h]at *
 exact⟨wF 0.1 0.1,wz (by rw[l7,As];simp),_,e,rfl⟩
noncomputable def dee:Nat->Str
 |0=>"plan "++"many"
 |1=>"plan "++"till"
 |2=>"show"
 |3=>"ends"
 |4=>"plan "++"steps"
 |5=>"ways"
 |6=>"plan "++"between"
 |7=>"odds"
 |8=>"mean"
 |9=>"share"
 |10=>"judge"
 |11=>"rule"
 |12=>"lot"
 |13=>"bad"
 |14=>"good"
 |15=>"at"
 |16=>"rule"
 |_=>"lot"
theorem ER{d0 d2 d3 d4:Nat}(hn:W1 n)(hm:(n==5.2)=θ)(ho:W1 o)(he:(o==5.2)=θ)(h0:d0<18)(h2:d2<40)(h3:d3<40)(h4:d4<1000000000)(d1 d5:Nat):
  ∃told,aaF (gw n o d2 d3 d4 d0) (dee d0) told d0 d1 d2 d3 d4 d5/\(d0=17->told=[.str n]):=by
 match d0,h0 with
 |0,_=>exact⟨_,EO (c:="many") (w1:=n) (l:=[21.9]) hn hm (fw (Mi h2) FH) 0.2 _ _ _ _ _ _ 0.3,λz=>absurd z 0.0⟩
 |1,_=>exact⟨_,EO (c:="till") (w1:=n) (l:=[21.9,(nS (d3:Nat),"number")]) hn hm (fw (Mi h2) (fw (Mi h3) FH)) 0.2 _ _ _ _ _ _ 0.3,λz=>absurd z 0.0⟩
 |2,_=>exact⟨_,jq (w0:="show") (w1:=n) (l:=[]) hn hm FH 0.2 _ _ _ _ _ _ 0.3,λz=>absurd z 0.0⟩
 |3,_=>exact⟨_,jq (w0:="ends") (w1:=n) (l:=[]) hn hm FH 0.2 _ _ _ _ _ _ 0.3,λz=>absurd z 0.0⟩
 |4,_=>exact⟨_,EO (c:="steps") (w1:=n) (l:=[21.9,("-1","number or -1"),(nS (d3:Nat),"number"),("3","number")]) hn hm (fw (Mi h2) (fw wkM (fw (Mi h3) (fw (wkK (m:=3) ⋯) FH)))) 0.2 _ _ _ _ _ _ 0.3,λz=>absurd z 0.0⟩
 |5,_=>exact⟨_,jq (w0:="ways") (w1:=n) (l:=[21.9,(nS (d3:Nat),"number")]) hn hm (fw (Mi h2) (fw (Mi h3) FH)) 0.2 _ _ _ _ _ _ 0.3,λz=>absurd z 0.0⟩
 |6,_=>exact⟨_,EO (c:="between") (w1:=n) (l:=[21.9,(nS (d3:Nat),"number"),("1","number"),("2","number"),("5","number")]) hn hm (fw (Mi h2) (fw (Mi h3) (fw (wkK (m:=1) ⋯) (fw (wkK (m:=2) ⋯) (fw (wkK (m:=5) ⋯) FH))))) 0.2 _ _ _ _ _ _ 0.3,λz=>absurd z 0.0⟩
 |7,_=>exact⟨_,jq (w0:="odds") (w1:=n) (l:=[21.9,(nS (d3:Nat),"number"),(EM d2 d4,"fraction")]) hn hm (fw (Mi h2) (fw (Mi h3) (fw (wkS h4) FH))) 0.2 _ _ _ _ _ _ 0.3,λz=>absurd z 0.0⟩
 |8,_=>exact⟨_,jq (w0:="mean") (w1:=n) (l:=[(EM d2 d4,"fraction")]) hn hm (fw (wkS h4) FH) 0.2 _ _ _ _ _ _ 0.3,λz=>absurd z 0.0⟩
 |9,_=>exact⟨_,jq (w0:="share") (w1:=n) (l:=[21.9,(nS (d3:Nat),"number")]) hn hm (fw (Mi h2) (fw (Mi h3) FH)) 0.2 _ _ _ _ _ _ 0.3,λz=>absurd z 0.0⟩
 |10,_=>exact⟨_,jq (w0:="judge") (w1:=n) (l:=[]) hn hm FH 0.2 _ _ _ _ _ _ 0.3,λz=>absurd z 0.0⟩
 |11,_=>exact⟨_,jq (w0:="rule") (w1:=n) (l:=[("1/3","fraction"),("1/2","fraction"),(EM d2 d4,"fraction")]) hn hm (fw (wkF (a:=1) (b:=3) ⋯) (fw (wkF (a:=1) (b:=2) ⋯) (fw (wkS h4) FH))) 0.2 _ _ _ _ _ _ 0.3,λz=>absurd z 0.0⟩
 |12,_=>exact⟨_,jq (w0:="lot") (w1:=n) (l:=[(o,"name")]) hn hm (fw (wkO ho he) FH) 0.2 _ _ _ _ _ _ 0.3,λz=>absurd z 0.0⟩
 |13,_=>exact⟨_,jq (w0:="bad") (w1:=n) (l:=[]) hn hm FH 0.2 _ _ _ _ _ _ 0.3,λz=>absurd z 0.0⟩
 |14,_=>exact⟨_,jq (w0:="good") (w1:=n) (l:=[]) hn hm FH 0.2 _ _ _ _ _ _ 0.3,λz=>absurd z 0.0⟩
 |15,_=>exact⟨_,jq (w0:="at") (w1:=n) (l:=[]) hn hm FH 0.2 _ _ _ _ _ _ 0.3,λz=>absurd z 0.0⟩
 |16,_=>exact⟨_,jq (w0:="rule") (w1:=n) (l:=[(EM d2 d4,"fraction"),("1/2","fraction"),("1/9","fraction")]) hn hm (fw (wkS h4) (fw (wkF (a:=1) (b:=2) ⋯) (fw (wkF (a:=1) (b:=9) ⋯) FH))) 0.2 _ _ _ _ _ _ 0.3,λz=>absurd z 0.0⟩
 |17,_=>exact⟨_,jq (w0:="lot") (w1:=o) (l:=[(n,"name")]) ho he (fw (wkO hn hm) FH) 0.2 _ _ _ _ _ _ 0.3,λ_=>by rw[abl,FG,rw_name];rfl⟩
 |k+18,h=>exact absurd h 0.1
def lets:("abcdefghijklmnopqrstuvwxyz":Str).cps.toList=(List.range 26).map (97+·):=⋯
noncomputable def isLt(c:Nat):Bool:=ι (97<=c)&&ι (c<=122)
def J3(x:Str):Bool:=ι (1<=x.cps.toList.length)&&ι (x.cps.toList.length<=8)&&x.cps.toList.all isLt
def VN(c:Nat):BJ η (.str ⟨#[c]⟩) 20.3=ε (.bool (isLt c)):=by
 show ε (PyData.bool ((!(Builtin.Str.occurrences ("abcdefghijklmnopqrstuvwxyz":Str) ⟨#[c]⟩ 0 ("abcdefghijklmnopqrstuvwxyz":Str).length 1).isEmpty)==η))=_
 rw[PySem.StrLaws.found_one,lets]
 congr 2
 unfold isLt
 rw[beq_true,afX,adW,abi,adW,adW,abt]
 constructor
 .grind
 .exact λh=>⟨c-97,afN.mpr 0.1,by lia⟩
theorem Mj(h:∀c∈x.cps.toList,c<128)(hl:x.length<=2000):cN [.str x]=ε (if J3 x=η then .none else cI "NoName"):=by
 rw[BP]
 obtain⟨k1,k2⟩:=sOk h
 intro 8
 have el:eM cA 1.3 [dz x]=ε (.int (x.length:Nat)):=by
  show(if x.length<=100000 then ε (PyData.int (x.length:Nat))else ζ)=_;rw[abe 0.1]
 have c1:gB (f9 vI vI (aA 1) 22.3 (aA 8)) [dz x]=ε (ι (1<=x.cps.toList.length)&&ι (x.cps.toList.length<=8)):=by
  refine dM (uH (x:=.int 1) (y:=.int (x.length:Nat)) (w:=.int 8) rfl el ?_ rfl ?_)
  .show ε (PyData.bool (ι ((1:Int)<=(x.length:Nat))))=_;congr 2;exact adN.mpr 0.1
  .show ε (PyData.bool (ι (((x.length:Nat):Int)<=8)))=_;congr 2;exact adN.mpr 0.1
 have es:nP (af 0) [dz x]=ε (x.cps.toList.map λc=>PyData.str ⟨#[c]⟩):=by
  show(if x.cps.all (·<128)=η then ε (p3 x)else ζ)=_;rw[abe k2,p3]
 have ec:eF (nP (af 0)) [] (g2 (BJ η) (af 0) 22.5) [dz x]=ε ((x.cps.toList.map isLt).map .bool):=
  jf (λc:Nat=>PyData.str ⟨#[c]⟩) PyData.bool isLt x.cps.toList es 0.1 λc _=>ao rfl rfl (VN c)
 have ca:jc (eM Gq (aa (aI (eF (nP (af 0)) [] (g2 (BJ η) (af 0) 22.5))) ag)) [dz x]=ε (x.cps.toList.all isLt):=by
  refine jg (jn (cons_of (aK ec) rfl) ?_);show(lp ((x.cps.toList.map isLt).map .bool)).map _=_;rw[nO];simp[agX]
 have hc:=LW (jR c1) (jR ca)
 have hb:(!(ι (1<=x.cps.toList.length)&&ι (x.cps.toList.length<=8))||!(x.cps.toList.all isLt))= !(J3 x):=(Bool.not_and _ _).symm
 rw[hb]at hc
 unfold kJ
 cases q:J3 x with
 |true=>
   rw[q]at hc;rw[c9 hc];rfl
 |false=>
   rw[q]at hc;rw[show gy _ (jA "NoName") bf [dz x]=ε (.rt 21.3)from rW η hc (λ_=>rfl) λz=>nomatch z];rfl
structure Nm(x:Str):Prop where
 len:1<=x.cps.toList.length/\x.cps.toList.length<=8
 Br:∀c∈x.cps.toList,97<=c/\c<=122
def Nm.no(h:Nm x):32∉x.cps.toList:=λz=>by have:=h.Br 32 z;lia
def Nm.lo(h:Nm x):∀c∈x.cps.toList,c<128:=λc z=>by have:=h.Br c z;lia
def Nm.l8(h:Nm x):1<=x.length/\x.length<=8:=by
 exact h.len
def Nm.ne(h:Nm x):(x==5.2)=false:=wz (by rw[As];intro z;have:=h.len.1;rw[z]at this;exact absurd this 0.0)
def Nm.w1(h:Nm x):W1 x:=⟨⟨h.lo,h.no⟩,by have:=h.l8;lia⟩
def Nm.b{x:Str}(h:Nm x):J3 x=true:=by
 unfold J3
 rw[abq h.len.1,abq h.len.2,Bool.and_self,ahp,acC]
 intro c hc
 unfold isLt
 rw[abq (h.Br c hc).1,abq (h.Br c hc).2];rfl
def RO(h:J3 x=η):Nm x:=by
 unfold J3 isLt at h
 simp only[abi,adA,acC]at h
 exact⟨h.1,h.2⟩
def Nm.ok(h:Nm x):cN [.str x]=ε .none:=(Mj h.lo (by have:=h.l8;lia)).trans (by rw[h.b,abe rfl])
structure Nn(x:Str):Prop where
 w:W1 x
 l:x.length<=20
 ne:(x==5.2)=θ
 b:J3 x=θ
def Nn.ok(h:Nn x):cN [.str x]=ε 21.3:=(Mj h.w.1.asc (by have:=h.l;lia)).trans (by rw[h.b,abo abj])
def oB(x y:Str):(x++y).length=x.length+y.length:=by
 show(x.cps++y.cps).size=_
 rw[aiW];rfl
def RP(h:c∈x.cps.toList)(hc:isLt c=θ):J3 x=false:=by
 unfold J3
 rw[show x.cps.toList.all isLt=θ from aiY.mpr ⟨c,h,by rw[hc];exact abj⟩,afP]
def Xz(h:1<=x.length):(x==5.2)=false:=wz (by
 have e:x.cps.toList.length=x.length:=abf
 rw[As];intro z;rw[z]at e;simp at e;lia)
def RQ(hx:Nm x)(hy:VM y=η)(hl:y.length<=8)(h:J3 (x++y)=θ):Nn (x++y):=by
 have k:=fj hy
 have l8:=hx.l8
 refine⟨⟨⟨λc hc=>?_,λhc=>?_⟩,by rw[oB];lia⟩,by rw[oB];lia,Xz (by rw[oB];lia),h⟩
 .rw [app_list]at hc;rcases abg.mp hc with z|z;.exact hx.lo c z
  .exact k.1.asc c z
 .rw [app_list]at hc;rcases abg.mp hc with z|z;.exact hx.no z
  .exact k.1.no z
def VO(h:Nm x):Nn (x++"abcdefgh"):=RQ h ⋯ ⋯ (by
 unfold J3
 have e:("abcdefgh":Str).length=8:=⋯
 have:=h.l8
 have e2:(x++"abcdefgh":Str).cps.toList.length=(x++"abcdefgh":Str).length:=abf
 rw[e2,oB,e,abD (show ¬x.length+8<=8 by lia),afP,Bool.false_and])
def aaH(h:Nm x):Nn (x++"1"):=RQ h ⋯ ⋯ (RP (c:=49) (by rw[app_list];exact aaW _ (by rw[show("1":Str).cps.toList=[49]by decide +kernel];exact List.mem_singleton_self _)) 0.0)
def VP:Nn "-":=⟨fj ⋯,⋯,⋯,⋯⟩
def ah3(x:Str):(FF x).cps.toList=x.cps.toList.map PyProof.Rows.up1:=by
 show(x.cps.map PyProof.Rows.up1).toList=_
 rw[Array.toList_map]
def aeD:∀c,c<123->97<=c->PyProof.Rows.up1 c=c-32:=⋯
theorem aeE(h:Nm x):Nn (FF x):=by
 have hr:∀c∈(FF x).cps.toList,65<=c/\c<=90:=λc hc=>by
  rw[ah3]at hc;obtain⟨k,hk,rfl⟩:=abt.mp hc;have:=h.Br k hk;rw[aeD k 0.1 0.1];lia
 have hl:(FF x).length=x.length:=by
  show(x.cps.map PyProof.Rows.up1).size=_;rw[Array.size_map];rfl
 have l8:=h.l8
 refine⟨⟨⟨λc hc=>by have:=hr c hc;lia,λhc=>by have:=hr 32 hc;lia⟩,by lia⟩,by lia,Xz 0.1,?_⟩
 have e:(FF x).cps.toList.length=(FF x).length:=abf
 obtain⟨c,r,q⟩:∃c r,(FF x).cps.toList=c::r:=by
  cases q:(FF x).cps.toList with
  |nil=>rw[q]at e;simp at e;lia
  |cons c r=>exact⟨c,r,rfl⟩
 have hc:c∈(FF x).cps.toList:=by rw[q];exact abd
 refine RP hc ?_
 unfold isLt
 rw[abD (by have:=hr c hc;lia)];rfl
def ah4(h:Nm x)(e:g δ=dz x):Et g δ=ε (.str (FF x)):=by
 have k:v7 x=true:=by
  unfold v7;rw[abq (by have:=h.l8;lia),ahp,acC];exact λc hc=>abq (h.lo c hc)
 unfold Et
 rw[e,aaG]
 show(if v7 x=η then ε (PyData.str (FF x))else ζ)=_
 rw[abe k]
def J4(h1:a δ=ε η)(h2:b δ=ε η):jy a b δ=ε true:=by unfold jy;rw[h1];exact h2
def uO(e:r.cps.toList=[112,108,97,110]++32::(n.cps.toList++32::([104,97,110,100]++32::t.cps.toList)))(hn:W1 n)(he:(n==5.2)=θ)(hl:t.length<=2001):aG [.str r]=ε (.tuple [.str "plan hand",.str n,.list [.str t]]):=by
 have hlen:r.length<=2500:=by
  have e1:r.cps.toList.length=r.length:=abf;have e2:t.cps.toList.length=t.length:=abf;have e3:n.cps.toList.length=n.length:=abf;rw[<-e1,e];simp only[abm,abk,List.length_nil];lia
 have es:qW (af 0) 8.7 (aA 3) [dz r,ζ,ζ]=ε ([4.7,n,"hand",t].map .str):=by
  refine(Dm (c:=32) (m:=3) 0.0 rfl (by rw[<-Hb];rfl) rfl 0.0 0.0 hlen).trans ?_;rw[e,ff 0.0,ff hn.1.no,ff 0.0,L4];rfl
 rw[xR]
 unfold lE
 rw[cM (aU (aK es))]
 refine ie (J4 (dM (ao (r6 (ts:=[4.7,n,"hand",t]) rfl) rfl rfl)) (J4 ?_ (J4 ?_ ?_))) rfl
 .exact (NV (ym (ts:=[4.7,n,"hand",t]) (k:=0) rfl rfl) RA RA).trans (by rw[ajb])
 .exact (aev (ym (ts:=[4.7,n,"hand",t]) (k:=1) rfl rfl) hn.1.ok aew).trans (by rw[he];rfl)
 .exact (NV (ym (ts:=[4.7,n,"hand",t]) (k:=2) rfl rfl) aay aay).trans (by rw[ajb])
def aeF:∀m,m<25->jF (fT m)=η/\Rr (fT m)=(m:Int)/\(32∉fT m/\124∉fT m):=⋯
def RR(h:Ent r):bp 32 (rS r).cps.toList=r.map λb=>fT b.toNat:=by
 unfold rS
 rw[lY (by simpa using h.ne) λ19=>?_,List.map_map]
 .refine aft λ10=>?_;obtain⟨m,rfl,hm⟩:=uI (h.Br b hb);show(nS (m:Nat)).cps.toList=_;rw[ic,adU]
 .obtain ⟨b,hb,rfl⟩:=abt.mp ht;exact Xq (h.Br b hb) 0.1
def RS(h:Ent r):VD (rS r).cps.toList=η/\JU (rS r).cps.toList=r:=by
 unfold VD JU
 rw[RR h]
 constructor
 .rw [agX,acC];intro b hb;obtain⟨m,rfl,hm⟩:=uI (h.Br b hb);exact(aeF m hm).1
 .rw [afl];refine(aft λ10=>?_).trans (List.map_id' r);obtain⟨m,rfl,hm⟩:=uI (h.Br b hb);exact(aeF m hm).2.1
def RT(gT:p≠[])(h:∀r∈p,Ent r):bp 124 (pS p).cps.toList=p.map λr=>(rS r).cps.toList:=by
 unfold pS
 rw[lY (by simpa using gT) λ19=>?_,List.map_map]
 .rfl
 .obtain ⟨r,hr,rfl⟩:=abt.mp ht;exact Xs (h r hr) 0.1 0.0
def J5(hp:Pl p)(hl:19.7)(h:∀r∈p,Ent r)(rp:16.4):eX [.str (pS p)]=ε (fW p):=by
 have gT:p≠[]:=λz=>by obtain⟨q,e,_⟩:=hp.ex;rw[z]at e;cases e
 have es:=RT gT h
 have ok:Oi (pS p).cps.toList=true:=by
  unfold Oi;rw[es,agX,acC];exact λr hr=>(RS (h r hr)).1
 have er:Aw (pS p).cps.toList=p:=by
  unfold Aw;rw[es,afl];exact(aft λr hr=>(RS (h r hr)).2).trans (List.map_id' p)
 have e1:(pS p).cps.toList.length=(pS p).length:=abf
 have e:=Hh (t:=(pS p).cps.toList) (JT h) (by rw[e1];exact aar hl h) ok (by rw[er];exact NS hp hl rp)
 rw[Xu,er]at e
 exact e
section
variable {S:Type}{f g:GD S}{δ δ':DS}{s s':S}{d e:D}{r:Option (Res×S)}
def d6(h:f δ s=ε (.nx δ',s'))(k:g δ' s'=r):dJ f g δ s=r:=by unfold dJ;rw[h];exact k
def gR(h:f δ s=ε (.rt d,s')):dJ f g δ s=ε (.rt d,s'):=by unfold dJ;rw[h];rfl
def uP(h:c δ s=ε (η,s'))(k:f δ s'=r):xN c f g δ s=r:=by unfold xN;rw[h];exact k
def Ho(h:c δ s=ε (θ,s'))(k:g δ s'=r):xN c f g δ s=r:=by unfold xN;rw[h];exact k
def gM(h:p δ=ε x):nU p δ s=ε (x,s):=by unfold nU;rw[h];rfl
def J6(h:p δ=ε x):Eh p δ s=ε (x,s):=by unfold Eh;rw[h];rfl
def jr(h:p δ s=ε (d,s')):yj p δ s=ε (.rt d,s'):=by unfold yj;rw[h];rfl
def XA(h:p δ s=ε (.bool b,s')):dB p δ s=ε (b,s'):=by unfold dB;rw[h];rfl
def XB(h:p δ s=ε (d,s'))(h2:p2 δ=ε e)(h3:q d e=ε x):d2 q p p2 δ s=ε (x,s'):=by unfold d2;rw[h,Option.bind_some,h2,Option.bind_some,h3];rfl
def aeG{r:Option (Bool×S)}(h:p δ s=ε (θ,s'))(k:p2 δ s'=r):dOr p p2 δ s=r:=by unfold dOr;rw[h];exact k
def eY{get:S->Dk}{set:S->Dk->S}(hj:δ[j]?=ε (ε (bM a)))(hg:gr δ=ε ds)(hn:ds.length+1=n)(h:G a (bM a::ds) (get s)=ε (d,k)):fP get set j a G n gr δ s=ε (d,set s k):=by
 refine qa hj ?_
 rw[hg,aaG,abe hn]
 unfold uw
 rw[h];rfl
end
def aeH{l:3.6}{k:Nat}(h:l[k]?=ε x):bw (.list 22.6) (.int (0+(k:Int)))=ε (.int x):=by
 rw[Int.zero_add]
 exact iI (by rw[abv,h];rfl)
def yZ{l:3.6}(h:k<l.length):l[k]?=ε (l.getD k d):=by grind
def AE(c:Int)(bs:3.6)(hb:∀b∈bs,0<b/\b<=10^30)(hl:bs.length<=100):jD (iF [.int c,.list 22.1]) λds=>∃l:List Int,ds=l.map .int/\l.length=bs.length/\∀(i:Nat) (b x:Int),bs[i]?=ε b->l[i]?=ε x->0<=x/\x<b:=by
 have p18:su (.int 10) (.int 18)=ε (.int (10^18)):=LK (k:=18) 0.0 0.0
 have hc:gB (f9 IK IK (g1 F8 19.9) (af 0) 19.9) [sI c,sL 22.1,ζ,ζ,ζ]=ε (ι (-(10^18:Int)<c)&&ι (c<(10^18:Int))):=
  dM (uH (x:=.int (-(10^18:Int))) (by unfold g1;rw[show g2 su (aA 10) (aA 18) _=_ from ao rfl rfl p18];rfl) rfl rfl (ao rfl rfl p18) rfl)
 have eln:∀x y z:Option D,eM cA 2.5 [sI c,sL 22.1,x,y,z]=ε (.int (bs.length:Nat)):=λx y z=>by
  show ε (PyData.int (((bs.map PyData.int).length:Nat):Int))=_;rw[aaI]
 refine yW _ hc (λ_=>?_) λ_=>?_
 .obtain ⟨_,e1,row,rfl,hrl,_⟩:=xU c 1000003 bs.length 0.0 0.1;rw[seq_assoc];refine bQ [sI c,sL 22.1,sL (row.map .int),ζ,ζ] (aU (aK (iE (cons_of rfl (cons_of rfl (cons_of (eln _ _ _) rfl))) rfl e1))) ?_;have e2:eF (gO (aa (eM cA 2.5) ag)) [2,1] (g2 d9 (g2 bw (af 1) (af 0)) (g2 bw (af 2) (af 0))) [sI c,sL 22.1,sL (row.map .int),ζ,ζ]=ε (((List.range bs.length).map λk=>row.getD k 0%bs.getD k 1).map .int):=by
   refine jf (λk:Nat=>PyData.int (0+(k:Int))) PyData.int (λk=>row.getD k 0%bs.getD k 1) (List.range bs.length) (kT (cons_of (eln _ _ _) rfl) 0.1) (by rw[agI];lia) λk hk=>?_;have hk:=afN.mp hk;have hbk:=hb (bs.getD k 1) (afd (yZ hk));exact ao (ao rfl rfl (aeH (yZ (d:=0) 0.1))) (ao rfl rfl (aeH (yZ (d:=1) hk))) (gQ hbk.1)
  refine yX _ (aK e2) (.mk rfl ⟨_,rfl,by rw[aaI,agI],λi b x h1 h2=>?_⟩);have hi:=(abp.mp h1).1;rw[abv,ais hi]at h2;have h3:=yZ (d:=1) hi;rw[h1]at h3;have hbk:=hb b (afd h1);cases h2;show 0<=row.getD i 0%bs.getD i 1/\row.getD i 0%bs.getD i 1<b;rw[<-Option.some.inj h3];exact⟨afv _ 0.1,afg _ hbk.1⟩
 .rw [Ai];refine bQ [sI c,sL 22.1,ζ,sL ([]),ζ] rfl ?_;refine bQ [sI (c/2),sL 22.1,ζ,sL ([]),ζ] (aU (ao rfl rfl (dd 2 0.0 0.0))) ?_;refine yV PyData.int bs (λi δ=>∃(c':Int) (l:3.6) (z:23.0),δ=[sI (c'),sL 22.1,ζ,sL 22.6,z]/\l.length=i/\∀(j:Nat) (b x:Int),bs[j]?=ε b->l[j]?=ε x->0<=x/\x<b) rfl ⟨c/2,[],ζ,rfl,rfl,λj b x _ h=>by simp at h⟩ ?_ ?_
  .rintro i b δ hi ⟨c',l,z,rfl,hli,hx⟩;have hbk:=hb b (afd hi);have hib:=(abp.mp hi).1;refine⟨_,[sI (c'/b),sL 22.1,ζ,sL ((l++[c'%b]).map .int),sI b],rfl,gL [sI (c'),sL 22.1,ζ,sL ((l++[c'%b]).map .int),sI b] ((oq (d:=.int (c'%b)) rfl (ao rfl rfl (gQ hbk.1)) (by rw[aaI];lia)).trans (by rw[adf];rfl)) (aU (ao rfl rfl (GW hbk.1 (Ah (jw (m:=100) 0.1) 0.0)))),c'/b,_,_,rfl,by rw[abm,ad3,hli],λj b' x h1 h2=>?_⟩;by_cases hj:j<l.length;.grind
   .have hj2:j<(l++[c'%b]).length:=(abp.mp h2).1;rw[abm,ad3]at hj2;have:j=i:=by lia
    subst this;rw[agS 0.1,show j-l.length=0 by lia]at h2;cases h2;rw[hi]at h1;cases h1;exact⟨afv _ 0.1,afg _ hbk.1⟩
  .rintro δ' ⟨c',l,z,rfl,hli,hx⟩;exact ret (.list 22.6) rfl (.mk rfl ⟨l,rfl,hli,hx⟩)
structure Nm3(x y z:Str):Prop where
 a:Nm x
 b:Nm y
 c:Nm z
 ab:x≠y
 ac:x≠z
 bc:y≠z
noncomputable def Oj:List Str:=["plan","lot","hand","many","bad","good","at","rule","ends","ways","odds","mean","show"]
def aaJ(x y z:Str):Bool:=J3 x&&(J3 y&&(J3 z&&(!(ι (x=y))&&(!(ι (x=z))&&!(ι (y=z))))))
def aaK(h:aaJ x y z=η):Nm3 x y z:=by
 unfold aaJ at h
 simp at h
 exact⟨RO h.1,RO h.2.1,RO h.2.2.1,h.2.2.2.1,h.2.2.2.2.1,h.2.2.2.2.2⟩
def aaL:(List.range 13).all (λj=>aaJ (Oj.getD j "") (Oj.getD ((j+5)%13) "") (Oj.getD ((j+10)%13) ""))=true:=⋯
def aeJ(m:Int):bw (.list (Oj.map .str)) (.int (m%13))=ε (.str (Oj.getD (m%13).toNat "")):=by
 obtain⟨k,hk⟩:∃k:Nat,m%13=(k:Int):=⟨(m%13).toNat,by lia⟩
 have hl:k<Oj.length:=by show k<13;lia
 rw[hk,adU]
 exact iI (by rw[abv,abh hl,acI,abh hl];rfl)
def RU(m:Int):bw 20.3 (.int (m%26))=ε (.str ⟨#[97+(m%26).toNat]⟩):=by
 obtain⟨k,hk⟩:∃k:Nat,m%26=(k:Int):=⟨(m%26).toNat,by lia⟩
 have hl:k<26:=by lia
 rw[hk,adU]
 show(if("abcdefghijklmnopqrstuvwxyz":Str).length<=100000 then(CD ("abcdefghijklmnopqrstuvwxyz":Str).cps.toList (k:Int)).map (λc=>PyData.str ⟨#[c]⟩)else ζ)=_
 rw[abe ⋯,lets,iI (v:=97+k) (by rw[abv,ais hl];rfl)]
 rfl
def slT{k:Nat}(h:k<=t.length):Txt.slice (cC t) ζ 25.2=cC (t.take k):=by
 have e:=afq.mp (PyProof.Rows.slice_closes_to (x:=cC t) (j:=(k:Int)) ⟨by lia,by rw[iq];lia⟩)
 rw[e]
 refine afJ (afC.mp ?_)
 rw[iq,iq,show((k:Int)-0).toNat=k by lia,show(0:Int).toNat=0 from rfl,aiG]
def slF{k:Nat}(h:k<=t.length):Txt.slice (cC t) 25.2 ζ=cC (t.drop k):=by
 have e:=afq.mp (aii (x:=cC t) (i:=(k:Int)) ⟨by lia,by rw[iq];lia⟩)
 rw[e]
 refine afJ (afC.mp ?_)
 rw[iq,iq,adU,afi (by rw[afz];lia)]
def Hq(h:g δ=ε (.int k)):b0 g δ=ε (ε k):=by unfold b0;rw[h];rfl
def slA(h:af i δ=ε 10.4)(hg:g δ=ε 12.4)(hk:k<=t.length)(hl:t.length<=100000):p6 (af i) bH (b0 g) δ=ε (.str (cC (t.take k))):=by
 unfold p6
 rw[h,aaG,show bH δ=ε ζ from rfl,aaG,Hq hg,aaG]
 show(if(cC t).length<=100000 then ε (PyData.str (Txt.slice (cC t) ζ 25.2))else ζ)=_
 rw[abe (by rw[eE];exact hl),slT hk]
def slB(h:af i δ=ε 10.4)(hg:g δ=ε 12.4)(hk:k<=t.length)(hl:t.length<=100000):p6 (af i) (b0 g) bH δ=ε (.str (cC (t.drop k))):=by
 unfold p6
 rw[h,aaG,Hq hg,aaG,show bH δ=ε ζ from rfl,aaG]
 show(if(cC t).length<=100000 then ε (PyData.str (Txt.slice (cC t) 25.2 ζ))else ζ)=_
 rw[abe (by rw[eE];exact hl),slF hk]
def Ml(t:1.0)(a:Nat)(m:Int)(k:Nat):List Nat:=t.take a++[97+((m+7*(k:Int))%26).toNat]++t.drop (a+1)
def VQ(ha:a<t.length):(Ml t a m k).length=t.length:=by
 unfold Ml
 rw[abm,abm,afy,afz,ad3];lia
def J7(ha:a<t.length)(hl:t.length<=8)(ht:∀c∈t,97<=c/\c<=122):Nm (cC (Ml t a m k)):=by
 refine⟨by rw[iq,VQ ha];lia,λc hc=>?_⟩
 rcases abg.mp hc with hc|hc
 .grind
 .grind
def J8{k j:Nat}(h:((m+7*(k:Int))%26).toNat≠((m+7*(j:Int))%26).toNat):cC (Ml t a m k)≠cC (Ml t a m j):=λz=>by
 have e:=ade (λx:Str=>x.cps.toList) z
 have e:=(List.append_inj_left e 0.2)
 have e:=(List.append_inj_right e 0.2)
 exact h (by have:=afM e;lia)
def aeK(ha:a<t.length)(hl:t.length<=8)(ht:∀c∈t,97<=c/\c<=122):Nm3 (cC (Ml t a m 0)) (cC (Ml t a m 1)) (cC (Ml t a m 2)):=
 ⟨J7 ha hl ht,J7 ha hl ht,J7 ha hl ht,J8 0.1,J8 0.1,J8 0.1⟩
def y8(x y:1.0):cC x++cC y=cC (x++y):=afJ (afC.mp (by rw[app_list,iq,iq,iq]))
def len_str(h:x.length<=100000):cA [.str x]=ε (.int (x.length:Nat)):=by
 show(if x.length<=100000 then ε (PyData.int (x.length:Nat))else ζ)=_
 rw[abe h]
def VR(n:Int)(x y z u v:23.0):DS:=[ε (.int n),dz "abcdefghijklmnopqrstuvwxyz",ζ,x,y,z,u,v]
def Hr(h0:0<=n)(h1:n<10^30):∃x y z,j9 [.int n]=ε [.str x,.str y,.str z]/\Nm3 x y z:=by
 suffices main:jD (j9 [.int n]) λds=>∃x y z,ds=[.str x,.str y,.str z]/\Nm3 x y z by
  obtain⟨_,e,x,y,z,rfl,h⟩:=main;exact⟨x,y,z,e,h⟩
 refine yW (ι (n%8=5)) (dM (ao (ao rfl rfl (gQ 0.0)) rfl rfl)) (λ_=>?_) λ_=>?_
 .rw [seq_assoc];have e:eF (gO (aa (aA 3) ag)) [2,0] (g2 bw (af 1) (g2 d9 (g2 ak (g2 mm (af 2) (aA 8)) (g2 i3 (aA 5) (af 0))) (aA 13))) [sI n,dz "abcdefghijklmnopqrstuvwxyz",sL (Oj.map .str),ζ,ζ,ζ,ζ,ζ]=ε (((List.range 3).map λk:Nat=>Oj.getD ((n/8+5*(0+(k:Int)))%13).toNat "").map .str):=by
   refine jf (λk:Nat=>PyData.int (0+(k:Int))) PyData.str (λk:Nat=>Oj.getD ((n/8+5*(0+(k:Int)))%13).toNat "") (List.range 3) (kT 0.9 0.0) 0.0 λk hk=>?_;have hk:=afN.mp hk;exact ao rfl (ao (ao (ao rfl rfl (dd 8 0.0 0.0)) (ao rfl rfl (pf (uC (m:=3) (n:=3) (jw 0.0) (jw 0.1)))) rfl) rfl (gQ 0.0)) (aeJ _)
  refine yX _ (aK e) (.mk rfl ⟨_,_,_,rfl,?_⟩);obtain⟨j,hj⟩:∃j:Nat,(n/8)%13=(j:Int):=⟨((n/8)%13).toNat,by lia⟩;have w:=acC.mp aaL j (afN.mpr 0.1);have e0:((n/8+5*(0+((0:Nat):Int)))%13).toNat=j:=by lia
  have e1:((n/8+5*(0+((1:Nat):Int)))%13).toNat=(j+5)%13:=by lia
  have e2:((n/8+5*(0+((2:Nat):Int)))%13).toNat=(j+10)%13:=by lia
  show Nm3 (Oj.getD ((n/8+5*(0+((0:Nat):Int)))%13).toNat "") (Oj.getD ((n/8+5*(0+((1:Nat):Int)))%13).toNat "") (Oj.getD ((n/8+5*(0+((2:Nat):Int)))%13).toNat "");rw[e0,e1,e2];exact aaK w
 .rw [Ai];obtain⟨L,hL,hL2⟩:∃L:Nat,(1+n/8%8:Int)=(L:Int)/\1<=L/\L<=8:=⟨(1+n/8%8).toNat,by lia,by lia⟩;have rg:gO (aa (g2 ak (aA 1) (g2 d9 (g2 mm (af 0) (aA 8)) (aA 8))) ag) (VR n (ε (.str (cC []))) ζ ζ ζ ζ)=ε (lg 0 L):=
   kT (cons_of (ao rfl (ao (ao rfl rfl (dd 8 0.0 0.0)) rfl (gQ 0.0)) (show ε (PyData.int (1+n/8%8))=ε (.int (L:Nat))by rw[hL])) rfl) 0.1;refine uD 0 L (λi δ=>∃(t:1.0) (z:23.0),δ=(VR n (ε 10.4) z ζ ζ ζ)/\t.length=i/\∀c∈t,97<=c/\c<=122) rg ⟨[],ζ,rfl,rfl,λc hc=>nomatch hc⟩ ?_ ?_
  .rintro i δ hi ⟨t,z,rfl,hlen,ht⟩;obtain⟨m,hm⟩:∃m:Int,m=n/64+6.4*(n/1664):=⟨_,rfl⟩;have b2:bt (n/1664)<=100:=jw 0.1;have ix:g2 bw (af 1) (g2 d9 (g2 ak (g2 mm (af 0) (aA 64)) (g2 i3 (af 4) (g2 mm (af 0) (aA 1664)))) (aA 26)) (VR n (ε 10.4) (ε (.int 6.4)) ζ ζ ζ)=ε (.str (cC [97+(m%26).toNat])):=by
    rw[hm];exact ao rfl (ao (ao (ao rfl rfl (dd 64 0.0 0.0)) (ao rfl (ao rfl rfl (dd 1664 0.0 0.0)) (pf (uC (m:=4) (n:=100) (jw 0.1) b2))) rfl) rfl (gQ 0.0)) (RU _)
   refine⟨_,(VR n (ε (.str (cC (t++[97+(m%26).toNat])))) (ε (.int 6.4)) ζ ζ ζ),rfl,?_,t++[97+(m%26).toNat],_,rfl,by rw[abm,ad3,hlen],λc hc=>?_⟩
   .rw [<-y8];exact aU (ao rfl ix (jG (by rw[eE,eE,ad3];lia)))
   .grind
  .rintro δ' ⟨t,z,rfl,hlen,ht⟩;obtain⟨a,ha⟩:∃a:Nat,(n/64)%(t.length:Int)=(a:Int):=⟨((n/64)%(t.length:Int)).toNat,by have:=afv (n/64) (b:=(t.length:Int)) 0.1;lia⟩;have hat:a<t.length:=by have:=afg (n/64) (b:=(t.length:Int)) 0.1;lia
   refine bQ (VR n (ε 10.4) z (ε (.int (a:Nat))) ζ ζ) (aU ((ao (ao rfl rfl (dd 64 0.0 0.0)) (jn 0.9 (len_str (by rw[eE];lia))) (gQ (by rw[eE];lia))).trans (by rw[eE,ha]))) ?_;refine uD 0 3 (λi δ=>∃(z w:23.0),δ=(VR n (ε 10.4) z (ε (.int (a:Nat))) (ε (.list ((List.range i).map λk=>PyData.str (cC (Ml t a (n/64) k))))) w)) (kT 0.9 0.0) ⟨z,ζ,rfl⟩ ?_ ?_
   .rintro i δ hi ⟨z,w,rfl⟩;have ix:g2 bw (af 1) (g2 d9 (g2 ak (g2 mm (af 0) (aA 64)) (g2 i3 (aA 7) (af 4))) (aA 26)) (VR n (ε 10.4) (ε (.int 6.4)) (ε (.int (a:Nat))) (ε (.list ((List.range i).map λk=>PyData.str (cC (Ml t a (n/64) k))))) w)=ε (.str (cC [97+((n/64+7*(i:Int))%26).toNat])):=by
     refine(ao rfl (ao (ao (ao rfl rfl (dd 64 0.0 0.0)) (ao rfl rfl (pf (uC (m:=3) (n:=3) (jw 0.0) (jw 0.1)))) rfl) rfl (gQ 0.0)) (RU _)).trans ?_;rw[Int.zero_add];rfl
    refine⟨_,(VR n (ε 10.4) (ε (.int 6.4)) (ε (.int (a:Nat))) (ε (.list ((List.range (i+1)).map λk=>PyData.str (cC (Ml t a (n/64) k))))) (ε (.str (cC [97+((n/64+7*(i:Int))%26).toNat])))),rfl,gL (VR n (ε 10.4) (ε (.int 6.4)) (ε (.int (a:Nat))) (ε (.list ((List.range i).map λk=>PyData.str (cC (Ml t a (n/64) k))))) (ε (.str (cC [97+((n/64+7*(i:Int))%26).toNat])))) (aU ix) ?_,_,_,rfl⟩;refine(oq (d:=.str (cC (Ml t a (n/64) i))) rfl ?_ (by rw[aaI,agI];lia)).trans ?_
    .have e:cC (Ml t a (n/64) i)=cC (t.take a)++cC [97+((n/64+7*(i:Int))%26).toNat]++cC (t.drop (a+1)):=by rw[y8,y8];rfl
     rw[e];refine ao (ao (slA rfl rfl 0.1 0.1) rfl (jG ?_)) (slB rfl (ao (r:=ε (.int ((a+1:Nat):Int))) rfl rfl rfl) 0.1 0.1) (jG ?_);.rw [eE,eE,afy,ad3];lia
     .rw [y8,eE,eE,abm,afy,afz,ad3];lia
    .rw [List.range_succ,adf];rfl
   .rintro δ' ⟨z,w,rfl⟩;exact ret _ rfl (.mk rfl ⟨_,_,_,rfl,aeK hat 0.1 ht⟩)
def RV(hj:δ[j]?=ε (ε (bM a)))(hk:gk δ=dz x)(h:ja (s.fld b) x=ε d):Lq b j a gk δ s=ε (d,s):=by
 refine qa hj ?_
 rw[hk]
 show(ja (s.fld b) x).bind _=_
 rw[h];rfl
def ES(hj:δ[j]?=ε (ε (bM a)))(hk:gk δ=dz x):Lu b j a gk δ s=ε (!(ja (s.fld b) x).isSome,s):=by
 refine qa hj ?_
 rw[hk];rfl
def fU{f:GD Dk}(h:f δ s=ε (.rt d,s')):(f δ s).bind outD=ε (d,s'):=by rw[h];rfl
def Mm{s s':S}(h:ga δ s=ε (d,s'))(hx:fO d=ζ)(hf:f d δ=ε x):dX ga f δ s=ε (x,s'):=by unfold dX;rw[h,Option.bind_some];simp only[hx];rw[hf];rfl
def Mn{s s':S}(h:ga δ s=ε (cI c,s')):dX ga f δ s=ε (cI c,s'):=by unfold dX;rw[h];rfl
section
variable {a:Addr}{x y:Str}{s:Dk}{d:D}
def Mo(h:ja s.pl x=ε d):bG a [bM a,.str x] s=ε (d,s):=by
 have e:=ES (b:=η) (j:=0) (a:=a) (gk:=af 1) (δ:=[ε (bM a),dz x]) (s:=s) rfl rfl
 rw[show ja (s.fld η) x=ε d from h]at e
 exact fU (d6 (Ho e rfl) (jr (RV (b:=η) (s:=s) rfl rfl h)))
def Hs(h:ja s.pl x=ζ):bG a [bM a,.str x] s=ε 17.5:=by
 have e:=ES (b:=η) (j:=0) (a:=a) (gk:=af 1) (δ:=[ε (bM a),dz x]) (s:=s) rfl rfl
 rw[show ja (s.fld η) x=ζ from h]at e
 exact fU (gR (uP e (gM rfl)))
def aaM(h:ja s.lo x=ε d):ck a [bM a,.str x] s=ε (d,s):=by
 have e:=ES (b:=θ) (j:=0) (a:=a) (gk:=af 1) (δ:=[ε (bM a),dz x]) (s:=s) rfl rfl
 rw[show ja (s.fld θ) x=ε d from h]at e
 exact fU (d6 (Ho e rfl) (jr (RV (b:=θ) (s:=s) rfl rfl h)))
def Mp(h:ja s.lo x=ζ):ck a [bM a,.str x] s=ε 17.5:=by
 have e:=ES (b:=θ) (j:=0) (a:=a) (gk:=af 1) (δ:=[ε (bM a),dz x]) (s:=s) rfl rfl
 rw[show ja (s.fld θ) x=ζ from h]at e
 exact fU (gR (uP e (gM rfl)))
def aaN(hl:s.pl.length<100000):fR a [bM a,.str x,d] s=ε (.str "ok",⟨pI s.pl x d,s.lo⟩):=by
 have e:QA η 0 a (af 1) (Eh (af 2)) [ε (bM a),dz x,ε d] s=ε (.nx [ε (bM a),dz x,ε d],⟨pI s.pl x d,s.lo⟩):=by
  refine qa rfl ?_;exact abe (show(s.fld η).length<100000 from hl)
 exact fU (d6 e (gM rfl))
def RW(h:ja s.pl y=ε d)(hx:fO d=ζ)(hl:s.lo.length<100000):dZ a [bM a,.str x,.str y] s=ε (.str "ok",⟨s.pl,pI s.lo x (.tuple [d,.tuple [.int 0,.int 0]])⟩):=by
 have m:fP id 6.8 0 a bG 2 5.1 [ε (bM a),dz x,dz y] s=ε (d,s):=eY (set:=λ_ k=>k) (ds:=[.str y]) (k:=s) rfl rfl rfl (Mo h)
 have e:LF θ 0 a (af 1) (dX (fP id 6.8 0 a bG 2 5.1) λy δ=>((cR (aa (aA 0) (aa (aA 0) ag))) δ).bind λz=>ε (.tuple [y,z])) [ε (bM a),dz x,dz y] s=ε (.nx [ε (bM a),dz x,dz y],⟨s.pl,pI s.lo x (.tuple [d,.tuple [.int 0,.int 0]])⟩):=by
  refine qa rfl ?_;rw[Mm (x:=.tuple [d,.tuple [.int 0,.int 0]]) m hx rfl];exact abe (show(s.fld θ).length<100000 from hl)
 exact fU (d6 e (gM rfl))
def NX(h:ja s.pl y=ζ):dZ a [bM a,.str x,.str y] s=ε 17.5:=by
 have m:fP id 6.8 0 a bG 2 5.1 [ε (bM a),dz x,dz y] s=ε 17.5:=eY (set:=λ_ k=>k) (ds:=[.str y]) (k:=s) rfl rfl rfl (Hs h)
 have e:LF θ 0 a (af 1) (dX (fP id 6.8 0 a bG 2 5.1) λy δ=>((cR (aa (aA 0) (aa (aA 0) ag))) δ).bind λz=>ε (.tuple [y,z])) [ε (bM a),dz x,dz y] s=ε (.rt 21.3,s):=by
  refine qa rfl ?_;rw[Mn m];rfl
 exact fU (gR e)
def Ht(h:ja s.lo x=ζ):jl a [bM a,.str x,g] s=ε 17.5:=by
 have m:fP id 6.8 0 a ck 2 2.5 [ε (bM a),dz x,ε g,ζ,ζ,ζ] s=ε 17.5:=eY (set:=λ_ k=>k) (ds:=[.str x]) (k:=s) rfl rfl rfl (Mp h)
 have e:LD 3 (fP id 6.8 0 a ck 2 2.5) [ε (bM a),dz x,ε g,ζ,ζ,ζ] s=ε (.rt 21.3,s):=by
  unfold LD;rw[m];rfl
 exact fU (gR e)
end
def sS(a:Addr)(row iz name:Str)(told:D):DS:=[ε (bM a),dz row,ε 6.2,dz iz,dz name,ε told]
def VS(h:g δ=ε d)(hx:fO d=ζ):j2 i g δ=ε (.nx 23.4):=by unfold j2 z8;rw[h,Option.bind_some,hx]
def RX(h:g δ=ε d)(hx:fO d=ζ):cc g δ=ε (.nx δ):=by unfold cc z8;rw[h,Option.bind_some,hx]
section
variable {a:Addr}{row iz name:Str}{told d:D}{s s':Dk}
def aaO(hr:aG [.str row]=ε (cI c)):bj a [bM a,.str row] s=ε (cI c,s):=by
 have e:j2 2 (av aG 1 2.5) [ε (bM a),dz row,ζ,ζ,ζ,ζ]=ε (.rt (cI c)):=by
  unfold j2;rw[show av aG 1 2.5 _=ε (cI c)from call_of 0.9 rfl hr];rfl
 exact fU (gR (gM e))
def XC(hr:aG [.str row]=ε 6.2)(k:dJ (nU (cc (av cN 1 (aa (af 4) ag)))) g 13.3 s=r):
  dJ (nU (j2 2 (av aG 1 2.5))) (dJ (nU (br 3 2.8)) (dJ (nU (br 4 7.4)) (dJ (nU (br 5 8.8)) (dJ (nU (cc (av cN 1 (aa (af 4) ag)))) g)))) [ε (bM a),dz row,ζ,ζ,ζ,ζ] s=r:=by
 refine d6 (δ':=[ε (bM a),dz row,ε 6.2,ζ,ζ,ζ]) (gM (VS (call_of 0.9 rfl hr) rfl)) ?_
 refine d6 (δ':=[ε (bM a),dz row,ε 6.2,dz iz,ζ,ζ]) (gM (aU 5.9)) ?_
 refine d6 (δ':=[ε (bM a),dz row,ε 6.2,dz iz,dz name,ζ]) (gM (aU 5.9)) ?_
 exact d6 (δ':=sS a row iz name told) (gM (aU 5.9)) k
def RY(hr:aG [.str row]=ε 6.2)(hn:Nn name):bj a [bM a,.str row] s=ε 17.5:=by
 have e:cc (av cN 1 (aa (af 4) ag)) 13.3=ε (.rt 21.3):=by
  unfold cc;rw[show av cN 1 (aa (af 4) ag) 13.3=ε 21.3 from call_of 0.9 rfl hn.ok];rfl
 exact fU (XC (told:=told) hr (gR (gM e)))
def oE(hr:aG [.str row]=ε 6.2)(hn:Nm name)(k:g 13.3 s=r):
  dJ (nU (j2 2 (av aG 1 2.5))) (dJ (nU (br 3 2.8)) (dJ (nU (br 4 7.4)) (dJ (nU (br 5 8.8)) (dJ (nU (cc (av cN 1 (aa (af 4) ag)))) g)))) [ε (bM a),dz row,ζ,ζ,ζ,ζ] s=r:=
 XC hr (d6 (gM (RX (call_of 0.9 rfl hn.ok) rfl)) k)
def Hu(h:Txt.startswith iz "plan "=b):Eh (jc (yR (af 3) 11.1)) 13.3 s=ε (b,s):=
 J6 (jg (show ε (PyData.bool (Txt.startswith iz "plan "))=ε (.bool b)by rw[h]))
def rq(h:(iz==x)=b)(h1:PyData.strOk iz=η)(h2:PyData.strOk x=η):Eh (gB (g2 fV (af 3) (gC 18.9))) 13.3 s=ε (b,s):=
 J6 (dM (ao rfl rfl (Ar h1 h2 h)))
def cq(h:c δ s=ε (θ,s))(k:g δ s=r):dJ (xN c f ip) g δ s=r:=
 d6 (Ho h rfl) k
def J9(h:bj a ds s=ε (.str t,s')):eJ a ds s=ε (.str t,s'):=Vg h rfl
def RZ(hr:aG [.str row]=ε 6.2)(hn:Nm name)(hd:Txt.startswith iz "plan "=η)(hp:gH [.str iz,told]=ε (cI c)):bj a [bM a,.str row] s=ε (cI c,s):=by
 refine fU (oE hr hn (gR (uP (Hu hd) (jr ?_))))
 refine qa rfl ?_
 rw[show cB (af 4) (cB (av gH 2 (aa (af 3) 20.1)) lW) 13.3=ε (.inr (cI c))from iG (d:=.str name) rfl rfl (r:=.inr (cI c)) (ni (call_of 4.2 rfl hp))]
 rfl
def Hv(hr:aG [.str row]=ε 6.2)(hn:Nm name)(hd:Txt.startswith iz "plan "=η)(hp:gH [.str iz,told]=ε d)(hx:fO d=ζ)(hs:s.pl.length<100000):bj a [bM a,.str row] s=ε (.str "ok",⟨pI s.pl name d,s.lo⟩):=by
 refine fU (oE hr hn (gR (uP (Hu hd) (jr ?_))))
 refine qa rfl ?_
 rw[show cB (af 4) (cB (av gH 2 (aa (af 3) 20.1)) lW) 13.3=ε (.inl [.str name,d])from iG (d:=.str name) rfl rfl (r:=.inl [d]) (iG (call_of 4.2 rfl hp) hx (r:=.inl []) rfl),aaG]
 refine(abe rfl).trans ?_
 unfold uw
 rw[show fR a (bM a::[.str name,d]) (id s)=_ from aaN hs];rfl
end
structure Ask(w:Str):Prop where
 st:Txt.startswith w "plan "=θ
 l:(w==("lot":Str))=θ
 t:(w==("at":Str))=θ
 b:(w==("bad":Str))=θ
 g:(w==("good":Str))=θ
 ok:PyData.strOk w=η
def aaP(w:Str):Bool:= !(Txt.startswith w "plan ")&&(!(w==("lot":Str))&&(!(w==("at":Str))&&(!(w==("bad":Str))&&(!(w==("good":Str))&&PyData.strOk w))))
def wC(h:aaP w=η):Ask w:=by
 unfold aaP at h
 simp only[abi,afs]at h
 exact⟨h.1,h.2.1,h.2.2.1,h.2.2.2.1,h.2.2.2.2.1,h.2.2.2.2.2⟩
def AF:PyData.strOk "lot"=true:=⋯
def ET:PyData.strOk "at"=true:=⋯
def Dx:PyData.strOk "bad"=true:=⋯
def wD:PyData.strOk "good"=true:=⋯
section
variable {a:Addr}{row w name:Str}{told d r:D}{s s':Dk}
def Mq(hw:Ask w)(k:g (sS a row w name told) s=z):
  dJ (xN (Eh (jc (yR (af 3) 11.1))) f1 ip) (dJ (xN (Eh (gB (g2 fV (af 3) (aM "lot")))) f2 ip) (dJ (xN (Eh (gB (g2 fV (af 3) (aM "at")))) f3 ip) (dJ (xN (Eh (gB (g2 fV (af 3) (aM "bad")))) f4 ip) (dJ (xN (Eh (gB (g2 fV (af 3) (aM "good")))) f5 ip) g)))) (sS a row w name told) s=z:=
 cq (Hu hw.st) (cq (rq hw.l hw.ok AF) (cq (rq hw.t hw.ok ET) (cq (rq hw.b hw.ok Dx) (cq (rq hw.g hw.ok wD) k))))
def VT(hw:Ask w)(hn:Nm name)(hr:aG [.str row]=ε (.tuple [.str w,.str name,told]))(hg:ja s.pl name=ε d)(hx:fO d=ζ)(ha:eG [d,.str w,told]=ε r):bj a [bM a,.str row] s=ε (r,s):=by
 refine fU (oE hr hn (Mq hw (jr ?_)))
 exact Mm (d:=d) (eY (set:=λ_ k=>k) (ds:=[.str name]) (k:=s) rfl rfl rfl (Mo hg)) hx ha
def Hx(hw:Ask w)(hn:Nm name)(hr:aG [.str row]=ε (.tuple [.str w,.str name,told]))(hg:ja s.pl name=ζ):bj a [bM a,.str row] s=ε 17.5:=by
 refine fU (oE hr hn (Mq hw (jr ?_)))
 exact Mn (eY (set:=λ_ k=>k) (ds:=[.str name]) (k:=s) rfl rfl rfl (Hs hg))
def Mr(hn:Nm name)(hr:aG [.str row]=ε (.tuple [.str "lot",.str name,.list [.str m]]))(hb:dZ a [bM a,.str name,.str m] s=ε (r,s')):bj a [bM a,.str row] s=ε (r,s'):=by
 refine fU (oE hr hn (cq (Hu ⋯) (gR (uP (rq ⋯ AF AF) (jr ?_)))))
 exact eY (set:=λ_ k=>k) (ds:=[.str name,.str m]) rfl (cons_of rfl (cons_of 5.9 rfl)) rfl hb
def aaQ(hn:Nm name)(hr:aG [.str row]=ε (.tuple [.str "at",.str name,told]))(hg:ja s.lo name=ε (.tuple [x,c]))(hc:fO c=ζ)(he:n9 [c]=ε r):bj a [bM a,.str row] s=ε (r,s):=by
 refine fU (oE hr hn (cq (Hu ⋯) (cq (rq ⋯ ET AF) (gR (uP (rq ⋯ ET ET) (jr ?_))))))
 exact Mm (d:=c) (Mm (d:=.tuple [x,c]) (eY (set:=λ_ k=>k) (ds:=[.str name]) (k:=s) rfl rfl rfl (aaM hg)) rfl rfl) hc he
def VU(hn:Nm name)(hr:aG [.str row]=ε (.tuple [.str "at",.str name,told]))(hg:ja s.lo name=ζ):bj a [bM a,.str row] s=ε 17.5:=by
 refine fU (oE hr hn (cq (Hu ⋯) (cq (rq ⋯ ET AF) (gR (uP (rq ⋯ ET ET) (jr ?_))))))
 exact Mn (Mn (eY (set:=λ_ k=>k) (ds:=[.str name]) (k:=s) rfl rfl rfl (Mp hg)))
def R4(hn:Nm name)(hr:aG [.str row]=ε (.tuple [.str "bad",.str name,told]))(hg:ja s.lo name=ζ):bj a [bM a,.str row] s=ε 17.5:=by
 refine fU (oE hr hn (cq (Hu ⋯) (cq (rq ⋯ Dx AF) (cq (rq ⋯ Dx ET) (gR (uP (rq ⋯ Dx Dx) (jr ?_)))))))
 exact eY (set:=λ_ k=>k) (ds:=[.str name,.str "b"]) rfl rfl rfl (Ht hg)
def NY(hn:Nm name)(hr:aG [.str row]=ε (.tuple [.str "good",.str name,told]))(hg:ja s.lo name=ζ):bj a [bM a,.str row] s=ε 17.5:=by
 refine fU (oE hr hn (cq (Hu ⋯) (cq (rq ⋯ wD AF) (cq (rq ⋯ wD ET) (cq (rq ⋯ wD Dx) (gR (uP (rq ⋯ wD wD) (jr ?_))))))))
 exact eY (set:=λ_ k=>k) (ds:=[.str name,.str "g"]) rfl rfl rfl (Ht hg)
def NZ(hc:c∈ib)(h:bj a [bM a,.str row] s=ε (cI c,s)):cn a [bM a,.str row] s=ε (.str c,s):=by
 have m:fP id 6.8 0 a bj 2 2.5 [ε (bM a),dz row,ζ] s=ε (cI c,s):=eY (set:=λ_ k=>k) (ds:=[.str row]) (k:=s) rfl rfl rfl h
 have e:Ve (En (fP id 6.8 0 a bj 2 2.5)) (nR ib (λc=>.str c)) [ε (bM a),dz row,ζ] s=ε (.rt (.str c),s):=by
  unfold Ve En;rw[m];show(nR ib (λc=>PyData.str c) c).bind _=_;unfold nR;rw[abe hc];rfl
 exact fU (gR e)
end
def AG(x:Str)(d:D):ja (pI [] x d) x=ε d:=by
 show([(x,d)].find? λp=>ι (p.1=x)).map (·.2)=_
 rw[List.find?_cons,abq (show(x,d).1=x from rfl)];rfl
def nj(hy:y≠x):ja (pI [] x d) y=none:=by
 show([(x,d)].find? λp=>ι (p.1=y)).map (·.2)=_
 rw[List.find?_cons,abD (show ¬(x,d).1=y from λz=>hy z.symm)];rfl
structure Pk(p:g7):Prop where
 pl:Pl p
 le:p.length<=7
 rp:∀r∈p,r.length<=25
def Pk.l24(h:Pk p):p.length<=24:=by have:=h.le;lia
def Pk.ent(h:Pk p):∀r∈p,Ent r:=aat h.pl h.l24 h.rp
def N0(n:Str)(p:g7):Dk:=⟨pI [] n (fW p),pI [] n (.tuple [fW p,.tuple [.int 0,.int 0]])⟩
abbrev uQ(n:Str)(p:g7)(t:Str)(d:D):Prop:=∀a,bj a [bM a,.str t] (N0 n p)=ε (d,N0 n p)
def R5(p:g7):fO (fW p)=none:=rfl
section
variable {n:Str}{p:g7}(hn:Nm n)
include hn
def jH(hr:aG [.str t]=ε (.tuple [.str iz,.str n,told]))(hd:Txt.startswith iz "plan "=η)(hp:gH [.str iz,told]=ε (cI c)):uQ n p t (cI c):=λ_=>RZ hr hn hd hp
def lK(hr:aG [.str t]=ε (.tuple [.str w,.str n,told]))(hw:Ask w)(ha:eG [fW p,.str w,told]=ε r):uQ n p t r:=λ_=>VT hw hn hr (AG _ _) (R5 p) ha
end
structure Wv(x:Str×Str×D):Prop where
 w:W1 x.1
 ne:(x.1==5.2)=θ
 rd:FG (x.1,x.2.1)=ε x.2.2
 rx:fO x.2.2=ζ
def Ol:∀p∈([]:List (Str×Str×D)),Wv p:=λ_ h=>nomatch h
def vv(h:Wv p)(r:∀q∈l,Wv q):∀q∈p::l,Wv q:=by grind
def vvN(h:m<1000):Wv (nS (m:Nat),"number",.int (m:Nat)):=⟨wN 0.1,nN m,RJ 0.1,rfl⟩
def okV(x:Str):Bool:=VM x&&!(x==5.2)
def R6(h:okV x=η)(e:FG (x,k)=ε d)(hx:fO d=ζ):Wv (x,k,d):=by
 unfold okV at h
 rw[abi,afs]at h
 exact⟨fj h.1,h.2,e,hx⟩
def vvF:Wv 11.7:=R6 ⋯ (Hn (x:="1/2") (a:=1) (b:=2) ⋯ 0.0 0.0 0.0) rfl
def ko(P:r8 pre d){l:List (Str×Str×D)}(hf:EL d=ε (l.map (·.2.1)))(hp:∀t∈pre,W1 t/\(t==5.2)=θ)(hv:∀x∈l,Wv x)(hl:l.length<=6):
  aG [.str (row (pre++l.map (·.1)))]=ε (.tuple [.str d,.str (pre.getD 1 ""),.list (l.map (·.2.2))]):=by
 have e1:(l.map λx=>(x.1,x.2.1)).map (·.1)=l.map (·.1):=by rw[afl];rfl
 have e2:(l.map λx=>(x.1,x.2.1)).map (·.2)=l.map (·.2.1):=by rw[afl];rfl
 have hw:∀t∈pre++l.map (·.1),W1 t/\(t==5.2)=false:=λ19=>by
  rcases abg.mp ht with z|z;.grind
  .obtain ⟨x,hx,rfl⟩:=abt.mp z;exact⟨(hv x hx).w,(hv x hx).ne⟩
 have h:=wB (l:=l.map λx=>(x.1,x.2.1)) P (by rw[e1];exact lJ (by rw[abm,aaI];cases P<;>simp<;>lia) λ19=>(hw t ht).1) (by rw[e2];exact hf) (λq hq=>by
  obtain⟨x,hx,rfl⟩:=abt.mp hq;exact⟨_,(hv x hx).rd,(hv x hx).rx⟩) (by rw[e1];exact λ19=>(hw t ht).2)
 have e3:(l.map λx=>(x.1,x.2.1)).map (λp=>(FG p).getD .none)=l.map (·.2.2):=by
  rw[afl];exact aft λ20=>by show(FG (x.1,x.2.1)).getD .none=_;rw[(hv x hx).rd];rfl
 rw[e1,e3]at h
 rw[h]
 cases P<;>rfl
def pA(hw:okV w=η)(hn:Nm n):∀t∈[w,n],W1 t/\(t==5.2)=false:=by
 unfold okV at hw
 rw[abi,afs]at hw
 exact age.mpr ⟨⟨fj hw.1,hw.2⟩,age.mpr ⟨⟨hn.w1,hn.ne⟩,λ_ h=>nomatch h⟩⟩
def pB(hc:okV c=η)(hn:Nm n):∀t∈[4.7,n,c],W1 t/\(t==5.2)=false:=by
 unfold okV at hc
 rw[abi,afs]at hc
 exact age.mpr ⟨⟨fj ⋯,⋯⟩,age.mpr ⟨⟨hn.w1,hn.ne⟩,age.mpr ⟨⟨fj hc.1,hc.2⟩,λ_ h=>nomatch h⟩⟩⟩
def XD(c:Int×Int):SeqAt.shaped (dC c)=true:=rfl
def aaT(a c:Int×Int):PyData.eqv (dC a) (dC c)=ι (a=c):=by
 obtain⟨a1,a2⟩:=a
 obtain⟨c1,c2⟩:=c
 simp[dC,PyData.eqv,PyData.eqvAll]
 rfl
def aaU(neg:Bool)(c:Int×Int)(es:List (Int×Int)):Gu neg (dC c) (.list (es.map dC))=ε (.bool (ι (c∈es)!=neg)):=by
 unfold Gu
 simp only
 rw[abe (by rw[XD,ahp,agX];simp[XD])]
 congr 3
 rw[ahD,afX]
 simp[aaT]
theorem AH:∀{q:g7} {n:Nat} {c:Int×Int},c∈fA n q->c.1+c.2<((n+q.length:Nat):Int)
 |[],_,_,h=>nomatch h
 |r::q,n,c,h=>by
   rcases abg.mp h with h|h
   .obtain ⟨b,_,rfl⟩:=abt.mp h;rw[abk];lia
   .have:=AH h;rw[abk];lia
theorem Hy:∀(l:List (Int×Int)) (F:WF),(∀c∈l,c.1+c.2+1<x+y)->l.foldl rX F x y=F x y
 |[],_,_=>rfl
 |c::l,F,h=>by
   have:=h c abd;rw[List.foldl_cons,Hy l _ λd hd=>h d (aa8 _ hd)];unfold rX;rw[abo 0.1,abo 0.1,Int.add_zero,Int.add_zero]
def uR(h:gr δ=ε (.inr (cI c))):sG G n gr δ=ε (cI c):=by unfold sG;rw[h];rfl
def ah8(h:g δ=ε d):(aT g δ).bind cu=ε d:=by unfold aT;rw[h];rfl
section
variable {p:g7}(hp:Pk p)
include hp
def VW(h:c∉ph p):gm [fW p,.list [dC c]]=ε (cI "NoEnd"):=by
 have hi:gB (g2 (Gu η) (af 3) (af 2)) [ε (fW p),sL ([dC c]),sL ((ph p).map dC),ε (dC c)]=ε true:=dM (ao rfl rfl ((aaU η c (ph p)).trans (by rw[abD h];rfl)))
 have e:gy (gB (g2 (Gu η) (af 3) (af 2))) (jA "NoEnd") bf [ε (fW p),sL ([dC c]),sL ((ph p).map dC),ε (dC c)]=ε (.rt (cI "NoEnd")):=rW η hi (λ_=>rfl) λz=>nomatch z
 refine sq (aU (aK (iE 0.9 rfl (aap hp.l24 hp.rp)))) ?_
 show((((gy (gB (g2 (Gu η) (af 3) (af 2))) (jA "NoEnd") bf) [ε (fW p),sL ([dC c]),sL ((ph p).map dC),ε (dC c)]).bind _).bind cu)=_
 rw[e];rfl
def dropEnd(h:c∉ph p):cc (av gm 2 (aa (af 0) (aa (aI (bD 2.5)) ag))) [ε (fW p),ε (dC c)]=ε (.rt (cI "NoEnd")):=by
 unfold cc
 rw[show av gm 2 (aa (af 0) (aa (aI (bD 2.5)) ag)) [ε (fW p),ε (dC c)]=ε (cI "NoEnd")from call_of 4.2 rfl (VW hp h)];rfl
def VX(h:c∉ph p):eG [fW p,.str "odds",.list [.int c.1,.int c.2,f]]=ε (cI "NoEnd"):=by
 have e:EC [fW p,dC c]=ε (cI "NoEnd"):=by
  rw[Vr];unfold EB;rw[jQ (dropEnd hp h)];rfl
 refine sq 16.9 (sq 16.9 (sq 16.9 (sq 16.9 (sq 16.9 (sq (δ':=[ε (fW p),dz "odds",sL ([.int c.1,.int c.2,f]),ε (dC c)]) (aU (ou rfl rfl)) (sq 16.9 (sq 16.9 ?_)))))))
 exact ah8 (uR (ni (uR (ni (call_of 4.2 rfl e)))))
def R7(h:c∉ph p):eG [fW p,.str "share",.list [.int c.1,.int c.2]]=ε (cI "NoEnd"):=by
 have e:n5 [fW p,dC c]=ε (cI "NoEnd"):=by
  rw[GZ];unfold n0;rw[jQ (dropEnd hp h)];rfl
 exact sq 16.9 (sq 16.9 (sq 16.9 (sq 16.9 (sq 16.9 (sq (δ':=[ε (fW p),dz "share",sL ([.int c.1,.int c.2]),ε (dC c)]) (aU (ou rfl rfl)) (sq 16.9 (ie 0.3 (uR (ni (call_of 4.2 rfl e)))))))))) 
def VY:eG [fW p,.str "show",.list []]=ε (.str (pS p)):=by
 exact ie 0.3 (call_of 0.9 rfl (Hg hp.l24 hp.ent))
def aeM(hx:x=((k+8:Nat):Int)):(fA 0 p).foldl rX (JP (0,0)) x 0=0:=
 (Hy (fA 0 p) _ λc hc=>by have:=AH hc;have:=hp.le;lia).trans (abo λz=>by have:=z.1;lia)
def VZ:eG [fW p,.str "ways",.list [.int (10^30-1),.int 0]]=dz "0":=by
 have e:=(NP hp.l24 hp.rp (10^30-1,0)).trans (by rw[aeM hp (k:=10^30-9) 0.0])
 exact sq 16.9 (sq 16.9 (sq 16.9 (sq 16.9 (sq 16.9 (sq (δ':=[ε (fW p),dz "ways",sL ([.int (10^30-1),.int 0]),ε (dC (10^30-1,0))]) (aU (ou rfl rfl)) (ie 0.3 (jn (cons_of (call_of 4.2 rfl e) rfl) 0.3)))))))
end
def EU(h:a.natAbs<8/\b.natAbs<8/\c.natAbs<8/\d.natAbs<8)(hf:(ι (0*b<a*1)&&(ι (a*d<c*b)&&ι (c*1<1*d)))=θ):eG [fW p,.str "rule",.list [.tuple [.int a,.int b],.tuple [.int c,.int d],f]]=ε (cI "NoShares"):=by
 have z:bt 0<=3:=jw 0.0
 have o:bt 1<=3:=jw 0.0
 have ba:bt a<=3:=jw 0.1
 have bb:bt b<=3:=jw 0.1
 have bc:bt c<=3:=jw 0.1
 have bd:bt d<=3:=jw 0.1
 have e:fQ [.tuple [.int a,.int b],.tuple [.int c,.int d]]=ε (cI "NoShares"):=by
  have hc:=jR (iy (jg (call_of (G:=kH) (n:=2) (g:=aa (gC (.tuple [(.int (0)),(.int (1))])) 1.3) (δ:=[ε (.tuple [.int a,.int b]),ε (.tuple [.int c,.int d])]) 4.2 rfl (Au (0,1) (a,b) (uC z bb) (uC ba o)))) λ_=>iy (jg (call_of (G:=kH) (n:=2) (g:=aa (af 0) 2.5) 4.2 rfl (Au (a,b) (c,d) (uC ba bd) (uC bc bb)))) λ_=>jg (call_of (G:=kH) (n:=2) (g:=aa (af 1) (aa (gC (.tuple [(.int (1)),(.int (1))])) ag)) 4.2 rfl (Au (c,d) (1,1) (uC bc o) (uC o bd))));rw[hf]at hc;exact ade (Option.bind · cu) (rW η hc (λ_=>rfl) λz=>nomatch z)
 have e2:iK [fW p,.tuple [.int a,.int b],.tuple [.int c,.int d],f]=ε (cI "NoShares"):=by
  have q:cc (av fQ 2 (aa (af 1) 5.1)) [ε (fW p),ε (.tuple [.int a,.int b]),ε (.tuple [.int c,.int d]),ε f,ζ,ζ,ζ,ζ]=ε (.rt (cI "NoShares")):=by
   unfold cc;rw[show av fQ 2 (aa (af 1) 5.1) [ε (fW p),ε (.tuple [.int a,.int b]),ε (.tuple [.int c,.int d]),ε f,ζ,ζ,ζ,ζ]=ε (cI "NoShares")from call_of 4.2 rfl e];rfl
  rw[wj];unfold iJ;rw[jQ q];rfl
 exact sq 16.9 (sq 16.9 (sq 16.9 (sq 16.9 (ie 0.3 (uR (ni (call_of (cons_of rfl (cons_of 5.9 (cons_of 5.9 (cons_of 5.9 rfl)))) rfl e2)))))))
def ah9(hp:Pl p):((0,0):Int×Int)∉ph p:=λz=>by
 have h:=(ain.mp z).2
 obtain⟨q,rfl,_⟩:=hp.ex
 rw[show goB ([0]::q) (0,0)=η by simp[goB]]at h
 cases h
def R8:((0,20.9):Int×Int)∉ph p:=λz=>by
 have h:=(ain.mp z).1
 rcases aa9.mp h with e|h
 .grind
 .have:=AH h;rw[aaI]at this;lia
def V0(h:24<m):gH [.str ("plan "++"many"),.list [.int m]]=ε (cI "NoPlan"):=by
 have c:f9 vI vI (aA 1) (af 0) (aA 24) [sI m]=ε (.bool θ):=(uH (x:=.int 1) (y:=.int m) (w:=.int 24) (u:=ι (1<=m)) (v:=ι (m<=24)) rfl rfl rfl rfl rfl).trans (by rw[abD (show ¬m<=24 by lia),afP])
 have e:q9 [.int m]=ε (cI "NoPlan"):=by
  have d:cc (av dh 1 (aa (f9 vI vI (aA 1) (af 0) (aA 24)) ag)) [sI m]=ε (.rt (cI "NoPlan")):=by
   unfold cc;rw[show av dh 1 (aa (f9 vI vI (aA 1) (af 0) (aA 24)) ag) [sI m]=ε (cI "NoPlan")from call_of (cons_of c rfl) rfl 0.3];rfl
  rw[JG];unfold qZ;rw[jQ d];rfl
 exact ie 0.3 (call_of 0.9 rfl e)
def uS(t:Str):gH [.str "plan hand",.list [.str t]]=eX [.str t]:=by
 refine sq 16.9 (sq 16.9 (sq 16.9 (sq 16.9 ?_)))
 exact(ade (λz=>(Option.bind z λd=>ε (Res.rt d)).bind cu) (call_of (G:=eX) (n:=1) 0.9 rfl rfl)).trans rw_out
def uT(hl:p.length<=7)(h:∀r∈p,Ent r):(pS p).length<=1000:=by
 have k:=uA (sep:=⟨#[124]⟩) (B:=75) (ts:=p.map rS) λ19=>by
  obtain⟨r,hr,rfl⟩:=abt.mp ht;exact JS (h r hr)
 rw[aaI]at k
 have e:(⟨#[124]⟩:Str).length=1:=rfl
 rw[e]at k
 unfold pS
 lia
def aaV(hp:Pk p):eX [.str (pS p++"|")]=ε (cI "NoText"):=by
 have el:(pS p++"|":Str).cps.toList=(pS p).cps.toList++[124]:=by rw[app_list,He]
 have ok:Oi (pS p++"|":Str).cps.toList=false:=by rw[el];exact Rv (.inr rfl) _
 have e1:(pS p).cps.toList.length=(pS p).length:=abf
 have hs:=uT hp.le hp.ent
 have e:=JV (t:=(pS p++"|":Str).cps.toList) (λc hc=>by
  rw[el]at hc;rcases abg.mp hc with z|z;.exact JT hp.ent c z
  .rw [aff.mp z];decide) (by rw[el,abm,ad3];lia) ok
 exact e
def EV(n:Str)(p:g7)(d2:Nat):Nat->Str×Str
 |0=>((("plan "++n)++" many ")++nS ((25+d2:Nat):Int),"NoPlan")
 |1=>(("plan "++n)++" till 0 3","NoPlan")
 |2=>(("plan "++n)++" steps 12 1 2 13","NoPlan")
 |3=>(("plan "++n)++" between 0 0 1 1 3","NoPlan")
 |4=>(((("plan "++n)++" hand ")++pS p)++"|","NoText")
 |5=>(("plan "++n)++" hand ","NoText")
 |6=>(("odds "++n)++" 0 0 1/2","NoEnd")
 |7=>((("share "++n)++" 0 ")++nS 20.9,"NoEnd")
 |8=>(("rule "++n)++" 1/2 1/2 1","NoShares")
 |9=>(("rule "++n)++" 0 1/2 1","NoShares")
 |10=>(("rule "++n)++" 1/2 1 0","NoShares")
 |_=>(("plan "++n)++" hand 0  0","NoText")
def ku(e:r=row ts)(h:aG [.str (row ts)]=ε d):aG [.str r]=ε d:=by rw[e];exact h
def kw0:Wv 18.8:=R6 ⋯ 0.3 rfl
def kw1:Wv ("1","number",.int 1):=R6 ⋯ 0.3 rfl
def kw3:Wv ("3","number",.int 3):=R6 ⋯ 0.3 rfl
def kf0:Wv ("0","fraction",.tuple [.int 0,.int 1]):=R6 ⋯ 0.3 rfl
def kf1:Wv ("1","fraction",.tuple [.int 1,.int 1]):=R6 ⋯ 0.3 rfl
def R9:Ask "odds":=wC ⋯
def N1:Ask "share":=wC ⋯
def AI:Ask "rule":=wC ⋯
def cP:("NoPlan":Str)∈ib:=⋯
def cT:("NoText":Str)∈ib:=⋯
def cE:("NoEnd":Str)∈ib:=⋯
def cS:("NoShares":Str)∈ib:=⋯
theorem Sa(hn:Nm n)(hp:Pk p)(d2:Nat)(h2:d2<40):∀k,k<12->uQ n p (EV n p d2 k).1 (cI (EV n p d2 k).2)/\(EV n p d2 k).2∈ib
 |0,_=>⟨jH hn (ku (ts:=["plan",n,"many",nS ((25+d2:Nat):Int)]) 5.4 (ko (pre:=["plan",n,"many"]) (l:=[(nS ((25+d2:Nat):Int),"number",.int ((25+d2:Nat):Int))]) (.b ⋯) 0.3 (pB ⋯ hn) (vv (vvN 0.1) Ol) 0.2)) ⋯ (V0 0.1),cP⟩
 |1,_=>⟨jH hn (ku (ts:=["plan",n,"till","0","3"]) 5.4 (ko (pre:=["plan",n,"till"]) (l:=[18.8,("3","number",.int 3)]) (.b ⋯) 0.3 (pB ⋯ hn) (vv kw0 (vv kw3 Ol)) 0.2)) ⋯ 0.3,cP⟩
 |2,_=>⟨jH hn (ku (ts:=["plan",n,"steps","12","1","2","13"]) 5.4 (ko (pre:=["plan",n,"steps"]) (l:=[("12","number",.int 12),("1","number or -1",.int 1),("2","number",.int 2),("13","number",.int 13)]) (.b ⋯) 0.3 (pB ⋯ hn) (vv (R6 ⋯ 0.3 rfl) (vv (R6 ⋯ 0.3 rfl) (vv (R6 ⋯ 0.3 rfl) (vv (R6 ⋯ 0.3 rfl) Ol)))) 0.2)) ⋯ 0.3,cP⟩
 |3,_=>⟨jH hn (ku (ts:=["plan",n,"between","0","0","1","1","3"]) 5.4 (ko (pre:=["plan",n,"between"]) (l:=[18.8,18.8,("1","number",.int 1),("1","number",.int 1),("3","number",.int 3)]) (.b ⋯) 0.3 (pB ⋯ hn) (vv kw0 (vv kw0 (vv kw1 (vv kw1 (vv kw3 Ol))))) 0.2)) ⋯ 0.3,cP⟩
 |4,_=>⟨jH hn (uO (t:=pS p++"|") (by simp only[EV,app_list,ac2];kernel_rfl) hn.w1 hn.ne (by have:=uT hp.le hp.ent;rw[oB,He];show _+1<=_;lia)) ⋯ ((uS _).trans (aaV hp)),cT⟩
 |5,_=>⟨jH hn (uO (t:="") (by simp only[EV,app_list];kernel_rfl) hn.w1 hn.ne ⋯) ⋯ ((uS _).trans 0.3),cT⟩
 |6,_=>⟨lK hn (ku (ts:=["odds",n,"0","0","1/2"]) 5.4 (ko (pre:=["odds",n]) (l:=[18.8,18.8,11.7]) (.a ⋯) 0.3 (pA ⋯ hn) (vv kw0 (vv kw0 (vv vvF Ol))) 0.2)) R9 (VX hp (c:=(0,0)) (ah9 hp.pl)),cE⟩
 |7,_=>⟨lK hn (ku (ts:=["share",n,"0",nS 20.9]) 5.4 (ko (pre:=["share",n]) (l:=[18.8,(nS 20.9,"number",.int 20.9)]) (.a ⋯) 0.3 (pA ⋯ hn) (vv kw0 (vv (vvN (by have:=hp.le;lia)) Ol)) 0.2)) N1 (R7 hp (c:=(0,20.9)) R8),cE⟩
 |8,_=>⟨lK hn (ku (ts:=["rule",n,"1/2","1/2","1"]) 5.4 (ko (pre:=["rule",n]) (l:=[11.7,11.7,("1","fraction",.tuple [.int 1,.int 1])]) (.a ⋯) 0.3 (pA ⋯ hn) (vv vvF (vv vvF (vv kf1 Ol))) 0.2)) AI (EU 0.0 0.0),cS⟩
 |9,_=>⟨lK hn (ku (ts:=["rule",n,"0","1/2","1"]) 5.4 (ko (pre:=["rule",n]) (l:=[("0","fraction",.tuple [.int 0,.int 1]),11.7,("1","fraction",.tuple [.int 1,.int 1])]) (.a ⋯) 0.3 (pA ⋯ hn) (vv kf0 (vv vvF (vv kf1 Ol))) 0.2)) AI (EU 0.0 0.0),cS⟩
 |10,_=>⟨lK hn (ku (ts:=["rule",n,"1/2","1","0"]) 5.4 (ko (pre:=["rule",n]) (l:=[11.7,("1","fraction",.tuple [.int 1,.int 1]),("0","fraction",.tuple [.int 0,.int 1])]) (.a ⋯) 0.3 (pA ⋯ hn) (vv vvF (vv kf1 (vv kf0 Ol))) 0.2)) AI (EU 0.0 0.0),cS⟩
 |11,_=>⟨jH hn (uO (t:="0  0") (by simp only[EV,app_list];kernel_rfl) hn.w1 hn.ne ⋯) ⋯ ((uS _).trans 0.3),cT⟩
 |k+12,h=>absurd h 0.1
def dP(x:Str×Str):D:=.tuple [.str x.1,.str x.2]
def Tx.p{s c:Str}(h:Tx g δ s n)(hr:gr δ=ε (r.map dP)):aa (cR (aa g (aa (gC (.str c)) ag))) gr δ=ε (((s,c)::r).map dP):=cons_of (ou h.e rfl) hr
theorem N2(hn:Nm n)(hp:Pk p){d0 d1 d2 d3 d4 d5:Nat}(h2:d2<40):ra [fW p,.str n,dN [d0,d1,d2,d3,d4,d5]]=ε (dP (EV n p d2 (d0%12))):=by
 have em:g2 ak (aA 25) 8.8 [ε (fW p),dz n,ε 2.3,ζ,ζ]=ε (.int ((25+d2:Nat):Int)):=ao rfl 14.1 (by show ε (PyData.int (25+(d2:Int)))=_;congr 2)
 refine cj (bQ _ (aU (Tx.s (m:=25+d2) 0.1 em).e) ?_)
 let δ (L:23.0):DS:=[ε (fW p),dz n,ε 2.3,ε (.str (nS ((25+d2:Nat):Int))),L]
 have l2:=(Tx.s (g:=gC (.int ((25+d2:Nat):Int))) (δ:=[]) (m:=25+d2) 0.1 rfl).l
 have N:∀L,Tx (af 1) (δ L) n 30:=λL=>⟨rfl,by have:=hn.l8;lia⟩
 have A:∀L,Tx (af 3) (δ L) (nS ((25+d2:Nat):Int)) 30:=λL=>⟨rfl,l2⟩
 have T:∀L,Tx (av eI 1 1.3) (δ L) (pS p) 1000:=λL=>⟨call_of 0.9 rfl (rY hp.l24 hp.ent),uT hp.le hp.ent⟩
 have Ln:∀L,Tx (eM mT (aa (g2 ak 22.3 (aA 1)) ag)) (δ L) (nS 20.9) 30:=λL=>Tx.s (by have:=hp.le;lia) (ao (jn (ds:=[fW p]) rfl (show cA [fW p]=ε (.int (p.length:Nat))by unfold fW;rw[Ex,List.length_map])) rfl rfl)
 refine bQ (δ _) (kG (dq (Tx.p (Tx.add (Tx.add 4.1 (Tx.c (s:=" many "))) (A _)) (Tx.p (Tx.add 4.1 (Tx.c (s:=" till 0 3"))) (gr:=ag) (r:=[]) rfl)))) ?_
 refine bQ (δ _) (kG (jm rfl (aK (dq (Tx.p (Tx.add 4.1 (Tx.c (s:=" steps 12 1 2 13"))) (Tx.p (Tx.add 4.1 (Tx.c (s:=" between 0 0 1 1 3"))) (gr:=ag) (r:=[]) rfl)))) 0.2)) ?_
 refine bQ (δ _) (oq rfl (ou (Tx.add (Tx.add (Tx.add 4.1 (Tx.c (s:=" hand "))) (T _)) (Tx.c (s:="|"))).e rfl) 0.2) ?_
 refine bQ (δ _) (oq rfl (ou (Tx.add 4.1 (Tx.c (s:=" hand "))).e rfl) 0.2) ?_
 refine bQ (δ _) (kG (jm rfl (aK (dq (Tx.p (Tx.add (Tx.add (Tx.c (s:="odds ")) (N _)) (Tx.c (s:=" 0 0 1/2"))) (Tx.p (Tx.add (Tx.add (Tx.add (Tx.c (s:="share ")) (N _)) (Tx.c (s:=" 0 "))) (Ln _)) (gr:=ag) (r:=[]) rfl)))) 0.2)) ?_
 refine bQ (δ _) (kG (jm rfl (aK (dq (Tx.p (Tx.add (Tx.add (Tx.c (s:="rule ")) (N _)) (Tx.c (s:=" 1/2 1/2 1"))) (Tx.p (Tx.add (Tx.add (Tx.c (s:="rule ")) (N _)) (Tx.c (s:=" 0 1/2 1"))) (gr:=ag) (r:=[]) rfl)))) 0.2)) ?_
 refine bQ (δ _) (kG (jm rfl (aK (dq (Tx.p (Tx.add (Tx.add (Tx.c (s:="rule ")) (N _)) (Tx.c (s:=" 1/2 1 0"))) (Tx.p (Tx.add 4.1 (Tx.c (s:=" hand 0  0"))) (gr:=ag) (r:=[]) rfl)))) 0.2)) ?_
 refine ret _ (ao rfl (Dw (oA (l:=[d0,d1,d2,d3,d4,d5]) (k:=0) rfl rfl) (k:=12) 0.0) ?_) 5.7
 refine iI ?_
 have lt:d0%12<12:=acJ _ 0.0
 generalize d0%12=k at lt
 match k,lt with
 |0,_|1,_|2,_|3,_|4,_|5,_|6,_|7,_|8,_|9,_|10,_|11,_=>rfl
def HA:Ask "show":=wC ⋯
def Sb:Ask "ways":=wC ⋯
def Se(hw:okV w=η)(hp:(w==4.7)=θ)(hf:EL w=ε [])(hn:Nm n):aG [.str ((w++" ")++n)]=ε (.tuple [.str w,.str n,.list []]):=
 ku (ts:=[w,n]) (by rw[VI,AA]) (ko (pre:=[w,n]) (l:=[]) (.a hp) hf (pA hw hn) Ol 0.2)
def Ms(hn:Nm n):aG [.str ("show "++n)]=ε (.tuple [.str "show",.str n,.list []]):=by
 have:=Se (w:="show") ⋯ ⋯ ⋯ hn
 exact this
def aeN(hn:Nm n):aG [.str ("at "++n)]=ε (.tuple [.str "at",.str n,.list []]):=by
 have:=Se (w:="at") ⋯ ⋯ ⋯ hn
 exact this
section
variable {n:Str}{p:g7}(hn:Nm n)(hp:Pk p)
include hn hp
def say_1(a:Addr):eJ a [bM a,.str ((("plan "++n)++" hand ")++pS p)] ⟨[],[]⟩=ε (.str "ok",⟨pI [] n (fW p),[]⟩):=
 J9 (Hv (uO (t:=pS p) (by simp only[app_list,ac2];kernel_rfl) hn.w1 hn.ne (by have:=uT hp.le hp.ent;lia)) hn ⋯ ((uS _).trans (J5 hp.pl hp.l24 hp.ent hp.rp)) (R5 p) 0.0)
theorem say_2(a:Addr):eJ a [bM a,.str ((("lot "++n)++" ")++n)] ⟨pI [] n (fW p),[]⟩=ε (.str "ok",N0 n p):=
 J9 (Mr hn (ku (ts:=["lot",n,n]) 5.4 (ko (pre:=["lot",n]) (l:=[(n,"name",.str n)]) (.a ⋯) 0.3 (pA ⋯ hn) (vv ⟨hn.w1,hn.ne,rw_name n,rfl⟩ Ol) 0.2)) (RW (s:=⟨pI [] n (fW p),[]⟩) (AG _ _) (R5 p) (show 0<100000 by decide)))
def N4:uQ n p (((("ways "++n)++" ")++cC Az)++" 0") (.str "0"):=
 lK hn (ku (ts:=["ways",n,cC Az,"0"]) 5.4 (ko (pre:=["ways",n]) (l:=[(cC Az,"number",.int (10^30-1)),18.8]) (.a ⋯) 0.3 (pA ⋯ hn) (vv (R6 ⋯ ((rw_num _).trans Rz) rfl) (vv kw0 Ol)) 0.2)) Sb (VZ hp)
def N5:uQ n p ("show "++n) (.str (pS p)):=lK hn (Ms hn) HA (VY hp)
omit hp in
def V1:uQ n p ("at "++n) (.str "0,0"):=λ_=>aaQ hn (aeN hn) (AG _ _) rfl 0.3
end
def plB(d0:Nat):Bool:=[0,1,4,6,12,17].contains d0
def hw(d0:Nat):Str:=if[0,1,4,6].contains d0=η then "plan" else dee d0
theorem Sf{d2 d3 d4:Nat}:∀d0,d0<18->∃w1 r,gw n o d2 d3 d4 d0=hw d0::w1::r/\(d0≠17->w1=n)/\(d0=17->w1=o)/\r.length<=10
 |0,_|1,_|2,_|3,_|4,_|5,_|6,_|7,_|8,_|9,_|10,_|11,_|12,_|13,_|14,_|15,_|16,_=>⟨_,_,rfl,λ_=>rfl,λz=>absurd z 0.0,Nat.le_of_ble_eq_true rfl⟩
 |17,_=>⟨_,_,rfl,λz=>absurd rfl z,λ_=>rfl,Nat.le_of_ble_eq_true rfl⟩
 |k+18,h=>absurd h 0.1
def aeO:∀d0,d0<18->(ι (hw d0="plan")||decide (hw d0="lot"))=plB d0:=⋯
def V2:∀d0,d0<18->plB d0=θ->dee d0="at"\/dee d0="bad"\/dee d0="good"\/aaP (dee d0)=true:=⋯
def aeP(hn:Nm n)(hx:Nn x):x≠n:=λz=>by have:=hx.b;rw[z,hn.b]at this;cases this
section
variable {n:Str}{p:g7}{d0 d1 d2 d3 d4 d5:Nat}(hn:Nm n)(h0:d0<18)(h2:d2<40)(h3:d3<40)(h4:d4<1000000000)
include hn h0 h2 h3 h4
def Sg(hx:Nn x):uQ n p (row (gw x n d2 d3 d4 d0)) 21.3:=λa=>by
 obtain⟨told,⟨_,hr,_⟩,h17⟩:=ER (d0:=d0) hx.w hx.ne hn.w1 hn.ne h0 h2 h3 h4 0 0
 obtain⟨w1,r,e,e1,e2,_⟩:=Sf (n:=x) (o:=n) (d2:=d2) (d3:=d3) (d4:=d4) d0 h0
 rw[show(gw x n d2 d3 d4 d0).getD 1 ""=w1 by rw[e];rfl]at hr
 by_cases q:d0=17
 .rw [e2 q,h17 q,show dee d0="lot" by rw[q];rfl]at hr;exact Mr hn hr (NX (nj (aeP hn hx)))
 .rw [e1 q]at hr;exact RY hr hx
def Ka(hy:Nm y)(ne:y≠n)(hd:plB d0=θ):uQ n p (row (gw y n d2 d3 d4 d0)) 21.3:=λa=>by
 obtain⟨told,⟨_,hr,_⟩,h17⟩:=ER (d0:=d0) hy.w1 hy.ne hn.w1 hn.ne h0 h2 h3 h4 0 0
 obtain⟨w1,r,e,e1,e2,_⟩:=Sf (n:=y) (o:=n) (d2:=d2) (d3:=d3) (d4:=d4) d0 h0
 rw[show(gw y n d2 d3 d4 d0).getD 1 ""=w1 by rw[e];rfl,e1 (λz=>by rw[z]at hd;exact absurd hd 0.0)]at hr
 rcases V2 d0 h0 hd with z|z|z|z
 .rw [z]at hr;exact VU hy hr (nj ne)
 .rw [z]at hr;exact R4 hy hr (nj ne)
 .rw [z]at hr;exact NY hy hr (nj ne)
 .exact Hx (wC z) hy hr (nj ne)
def V3(hx:W1 x)(he:(x==5.2)=θ)(d1 d5:Nat):∃t,di [.str (row (gw x n d2 d3 d4 d0)),dN [d0,d1,d2,d3,d4,d5]]=dz t/\uQ n p t 9.6:=by
 obtain⟨told,⟨⟨t,e,hr⟩,_,_⟩,_⟩:=ER (d0:=d0) hx he hn.w1 hn.ne h0 h2 h3 h4 d1 d5
 exact⟨t,e,λ_=>aaO hr⟩
end
def yn(hy:Nm y)(ne:y≠n):uQ n p ("show "++y) 21.3:=λ_=>Hx HA hy (Ms hy) (nj ne)
def N6(hx:Nn x)(hl:t.length<=10):uQ n p (("plan "++x)++(" hand "++t)) 21.3:=λ_=>RY (uO (t:=t) (by simp only[app_list];kernel_rfl) hx.w hx.ne 0.1) hx
theorem Sh:∀{w v r:1.0},32∉w->32∉v->((w++32::r).take (v.length+1)=v++[32]↔w=v)
 |[],[],r,_,_=>by simp
 |[],b::v,r,_,hv=>by grind
 |a::w,[],r,hw,_=>by grind
 |a::w,b::v,r,hw,hv=>by
   have ih:=Sh (w:=w) (v:=v) (r:=r) (λz=>hw (aa8 _ z)) λz=>hv (aa8 _ z);rw[ae6,abk,List.take_succ_cons,ae6,List.cons.injEq,ih,List.cons.injEq]
def aeQ(hl:x.length<=100000)(hg:g δ=dz x):p6 g bH (b0 (gC 12.4)) δ=ε (.str (cC (x.cps.toList.take k))):=by
 have e:Txt.slice x ζ 25.2=cC (x.cps.toList.take k):=by
  intro 8;by_cases h:k<=x.cps.toList.length;.have:=slT h;exact this
  .rw [PyProof.Rows.slice_to_beyond 0.1,afi 0.1];have:=slT (t:=x.cps.toList) (k:=x.length) 0.1;rw[Xu,afi 0.1]at this;exact this
 unfold p6
 rw[hg]
 show(if x.length<=100000 then ε (PyData.str (Txt.slice x ζ 25.2))else ζ)=_
 rw[abe hl,e]
def V4(h:∀t∈ts,W1 t):∀c∈(row ts).cps.toList,c<128:=λc hc=>by
 by_cases q:c<128
 .exact q
 .exact absurd hc (mem_join (λz=>q (by rw[aff.mp z];decide)) λt ht z=>q ((h t ht).1.asc c z))
def Si{w0 w1 v vs:Str}(hv:vs.cps.toList=v.cps.toList++[32])(h32:32∉v.cps.toList)(hk:k=v.cps.toList.length+1)(h:∀t∈w0::w1::r,W1 t)(hl:(row 5.8).length<=100000)(hg:g δ=ε (.str (row 5.8)))(ho:PyData.strOk vs=η):
  gB (g2 fV (p6 g bH (b0 (gC 12.4))) (gC (.str vs))) δ=ε (ι (w0=v)):=by
 have ok:PyData.strOk (cC ((row 5.8).cps.toList.take k))=true:=(sOk λc hc=>by rw[iq]at hc;exact V4 h c (aim hc)).1
 refine dM (ao (aeQ hl hg) rfl ((wy ok ho).trans ?_))
 rw[EJ hv,eP,hk]
 congr 2
 refine adN.mpr ((Sh (h w0 0.2).1.no h32).trans ?_)
 exact⟨λz=>dn z,λz=>by rw[z]⟩
def Sj{get:S->Dk}{set:S->Dk->S}(hg:gr δ=ε ds)(hn:ds.length=n)(h0:ds[0]?=ε (bM a))(h:G a ds (get s)=ε (d,k)):rP get set a G n gr δ s=ε (d,set s k):=by
 unfold rP
 rw[hg,aaG,abe ⟨hn,h0⟩]
 unfold uw
 rw[h];rfl
def Mt(h:PyData.strOk x=η):BD 18.9 18.9=ε (.bool θ):=JD (c:=η) (Ar h h (ajb x))
def o_c:∀c∈ib,PyData.strOk c=true:=⋯
section
variable {n t c:Str}{p:g7}{a:Addr}{δ:DS}{g gc:aY}
def EW(h4:af 4 δ=ε (bM a))(hg:g δ=dz t)(hc:gc δ=dz c)(h:uQ n p t (cI c))(hm:c∈ib):dB (d2 BD (rP id 6.8 a cn 2 (aa (af 4) (aa g ag))) gc) δ (N0 n p)=ε (θ,N0 n p):=
 XA (XB (Sj (set:=λ_ k=>k) (cons_of h4 (cons_of hg rfl)) rfl rfl (NZ hm (h a))) hc (Mt (o_c c hm)))
def EX(h4:δ[4]?=ε (ε (bM a)))(hg:g δ=dz t)(hc:gc δ=dz c)(h:uQ n p t (.str c))(ho:PyData.strOk c=η):dB (d2 BD (fP id 6.8 4 a eJ 2 (aa g ag)) gc) δ (N0 n p)=ε (θ,N0 n p):=
 XA (XB (eY (set:=λ_ k=>k) (ds:=[.str t]) (k:=N0 n p) h4 (cons_of hg rfl) rfl (J9 (h a))) hc (Mt ho))
end
def Mu(h:gi δ=ε ds)(k:lz t b ds δ s=r):Nz gi t b δ s=r:=by unfold Nz;rw[h];exact k
theorem AJ(W:DS->Prop):∀(ds:List D) (δ:DS),W δ->(∀x∈ds,∀δ,W δ->∃gV JC,t x δ=ε gV/\b gV s=ε (.nx JC,s)/\W JC)->∃δ',lz t b ds δ s=ε (.nx δ',s)/\W δ'
 |[],δ,h,_=>⟨δ,rfl,h⟩
 |x::ds,δ,h,k=>by
   obtain⟨gV,JC,e1,e2,h2⟩:=k x abd δ h;obtain⟨δ',e3,h3⟩:=AJ W ds JC h2 λy hy=>k y (aa8 _ hy);refine⟨δ',?_,h3⟩;unfold lz;rw[e1,aaG,e2];exact e3
def Sk{b rest:GD S}(W:DS->Prop)(h:gi δ=ε ds)(h0:W δ)(k:∀x∈ds,∀δ,W δ->∃gV JC,t x δ=ε gV/\b gV s=ε (.nx JC,s)/\W JC)(kr:∀δ',W δ'->rest δ' s=r):dJ (Nz gi t b) rest δ s=r:=by
 obtain⟨δ',e,h'⟩:=AJ W ds δ h0 k
 exact d6 (Mu h e) (kr δ' h')
def HB{s s':S}(h:g δ s=ε (d,s')):GJ g δ s=ε (.nx δ,s'):=by unfold GJ;rw[h];rfl
def Sl(h:∀a,∃s',g a (δ.set j (ε (bM a))) ⟨[],[]⟩=ε (.rt d,s'))(k:R d):jD ((Ek j g δ).bind cu) R:=by
 have e:Ek j g δ=ε (.rt d):=U7 λa=>by
  obtain⟨s',e⟩:=h a;rw[e];rfl
 rw[e]
 exact .mk rfl k
theorem V5{s:S}(h:f δ s=ε (b,s))(k:b=η->g δ s=ε (θ,s)):Vn f g δ s=ε (θ,s):=by
 unfold Vn
 rw[h,aaG]
 cases b with
 |true=>exact k rfl
 |false=>rfl
def pJ(n y:Str):List Str:=[y,FF n,n++"abcdefgh",n++"1","-"]
theorem Kb(hn:Nm n):∀k,k<5->0<k->Nn ((pJ n y).getD k "")
 |0,_,h=>absurd h 0.0
 |1,_,_=>aeE hn
 |2,_,_=>VO hn
 |3,_,_=>aaH hn
 |4,_,_=>VP
 |k+5,h,_=>absurd h 0.1
structure Dr(d0 d1 d2 d3 d4 d5:Nat):Prop where
 h0:d0<18
 h2:d2<40
 h3:d3<40
 h4:d4<1000000000
 h5:d5<5
theorem aaX(x:Int):∃d0 d1 d2 d3 d4 d5,iF [.int x,.list [.int 18,.int 9,.int 40,.int 40,.int (10^9),.int 5]]=ε ([d0,d1,d2,d3,d4,d5].map λ(x:Nat)=>PyData.int x)/\Dr d0 d1 d2 d3 d4 d5:=by
 obtain⟨_,e,l,rfl,hl,hb⟩:=AE x [18,9,40,40,10^9,5] (λ10=>by simp at hb;lia) 0.0
 obtain⟨l0,l1,l2,l3,l4,l5,rfl⟩:∃l0 l1 l2 l3 l4 l5,l=[l0,l1,l2,l3,l4,l5]:=by
  match l,hl with
  |[l0,l1,l2,l3,l4,l5],_=>exact⟨l0,l1,l2,l3,l4,l5,rfl⟩
 have h0:=hb 0 18 l0 rfl rfl
 have h1:=hb 1 9 l1 rfl rfl
 have h2:=hb 2 40 l2 rfl rfl
 have h3:=hb 3 40 l3 rfl rfl
 have h4:=hb 4 (10^9) l4 rfl rfl
 have h5:=hb 5 5 l5 rfl rfl
 obtain⟨d0,rfl⟩:=afp h0.1
 obtain⟨d1,rfl⟩:=afp h1.1
 obtain⟨d2,rfl⟩:=afp h2.1
 obtain⟨d3,rfl⟩:=afp h3.1
 obtain⟨d4,rfl⟩:=afp h4.1
 obtain⟨d5,rfl⟩:=afp h5.1
 exact⟨d0,d1,d2,d3,d4,d5,e,by lia,by lia,by lia,by lia,by lia⟩
def Dy(S:D)(n y z:Str)(p:g7)(a:Addr)(u v w x q t:23.0):DS:=[ε S,ε (.list [.str n,.str y,.str z]),dz n,ε (fW p),ε (bM a),ε (.list ((pJ n y).map .str)),u,v,w,x,q,t]
def Dz:List Str:=["0","0|1","x","","0||0"]
def wG:∀k,k<5->(Dz.getD k "").length<=10:=⋯
def aeR:g2 rQ (aM "9") (aA 30) δ=ε (.str (cC Az)):=rfl
def Kc(n y:Str)(d0 d2 d3 d4 d5:Nat):Str:=if(plB d0&&ι (d5=0))=η then "show "++(pJ n y).getD d5 "" else row (gw 10.9 n d2 d3 d4 d0)
section
variable {n y:Str}{p:g7}{d0 d1 d2 d3 d4 d5:Nat}(hn:Nm n)(hy:Nm y)(ne:y≠n)(dr:Dr d0 d1 d2 d3 d4 d5)
include hn hy ne dr
theorem N7:uQ n p (Kc n y d0 d2 d3 d4 d5) 21.3:=by
 unfold Kc
 rcases aiK d5 with h|h
 .subst h;cases q:plB d0 with
  |true=>exact yn hy ne
  |false=>exact Ka hn dr.h0 dr.h2 dr.h3 dr.h4 hy ne q
 .rw [abD (show ¬d5=0 by lia),afP,abo abj];exact Sg hn dr.h0 dr.h2 dr.h3 dr.h4 (Kb hn d5 dr.h5 h)
omit ne in
def Kd:W1 10.9/\((pJ n y).getD d5 ""==5.2)=θ/\((pJ n y).getD d5 "").length<=30:=by
 rcases aiK d5 with h|h
 .subst h;exact⟨hy.w1,hy.ne,by have:=hy.l8;show y.length<=30;lia⟩
 .have k:=Kb (y:=y) hn d5 dr.h5 h;exact⟨k.w,k.ne,by have:=k.l;lia⟩
end
def aeS(h1:t x δ=ε gV)(h2:b gV s=ε (.nx JC,s))(h3:t y JC=ε Td)(h4:b Td s=ε (.nx δ4,s)):lz t b [x,y] δ s=ε (.nx δ4,s):=by
 have k:lz t b [y] JC s=ε (.nx δ4,s):=by
  unfold lz;rw[h3,aaG,h4];rfl
 unfold lz
 rw[h1,aaG,h2]
 exact k
section
variable {S:D}{n y z:Str}{p:g7}{a:Addr}{d0 d1 d2 d3 d4 d5:Nat}{u w x q t:23.0}
def V6(h5:d5<5):g2 bw (af 5) 15.3 23.5=ε (.str 10.9):=
 pick (ts:=pJ n y) rfl (oA (l:=[d0,d1,d2,d3,d4,d5]) (k:=5) rfl rfl) h5
def V7:g2 ak (aM " hand ") (g2 bw (aI (bD (aa (aM "0") (aa (aM "0|1") (aa (aM "x") (aa (aM "") (aa (aM "0||0") ag))))))) (g2 d9 (g2 bw (af 7) (aA 2)) (aA 5))) 23.5=ε (.str (" hand "++Dz.getD (d2%5) "")):=by
 have lt:d2%5<5:=acJ _ 0.0
 refine ao rfl (pick (ts:=Dz) (aK (dq (Xy ["0","0|1","x","","0||0"]) 0.0)) (Dw 14.1 (k:=5) 0.0) lt) (jG ?_)
 have:=wG _ lt
 have e:(" hand ":Str).length=6:=⋯
 lia
def XE(dr:Dr d0 d1 d2 d3 d4 d5)(hn:Nm n)(ho:o.length<=30)(hg:g 23.5=dz o):av gX 3 (aa g (aa (af 2) (aa (af 7) ag))) 23.5=ε (.str (row (gw o n d2 d3 d4 d0))):=
 call_of (cons_of hg 4.2) rfl (JZ ho (by have:=hn.l8;lia) dr.h0 dr.h2 dr.h3 dr.h4)
theorem V8(dr:Dr d0 d1 d2 d3 d4 d5)(hn:Nm n)(hy:Nm y):
  gy (jy (Od (gB (g2 fV (p6 (af 9) bH (b0 (aA 5))) 11.1)) (gB (g2 fV (p6 (af 9) bH (b0 (aA 4))) (aM "lot ")))) (gB (g2 fV 15.3 (aA 0)))) (br 9 (g2 ak (aM "show ") (g2 bw (af 5) 15.3))) bf (Dy S n y z p a u (ε 2.3) w (ε (.str (row (gw 10.9 n d2 d3 d4 d0)))) q t)=
   ε (.nx (Dy S n y z p a u (ε 2.3) w (ε (.str (Kc n y d0 d2 d3 d4 d5))) q t)):=by
 obtain⟨b1,b2,b3⟩:=Kd (y:=y) hn hy dr
 obtain⟨told,⟨_,_,W⟩,_⟩:=ER (d0:=d0) b1 b2 hn.w1 hn.ne dr.h0 dr.h2 dr.h3 dr.h4 0 0
 obtain⟨w1,r,e,_,_,lr⟩:=Sf (n:=(pJ n y).getD d5 "") (o:=n) (d2:=d2) (d3:=d3) (d4:=d4) d0 dr.h0
 rw[e]at W
 have hl:(row (hw d0::w1::r)).length<=100000:=acw (rb (by rw[abk,abk];lia) λ19=>(W t ht).2) 0.0
 have hc:=iy (LW (Si (g:=af 9) (v:="plan") (vs:="plan ") (k:=5) (δ:=Dy S n y z p a u (ε 2.3) w (ε (.str (row (hw d0::w1::r)))) q t) ⋯ ⋯ ⋯ W hl rfl ⋯) (Si (g:=af 9) (v:="lot") (vs:="lot ") (k:=4) ⋯ ⋯ ⋯ W hl rfl ⋯)) λ_=>NW (oA (g:=af 7) (l:=[d0,d1,d2,d3,d4,d5]) (k:=5) rfl rfl) 0
 rw[aeO d0 dr.h0,<-e]at hc
 unfold Kc
 cases h:(plB d0&&ι (d5=0))with
 |true=>
   rw[h]at hc;refine rW η hc (λ_=>aU (ao rfl (V6 dr.h5) (jG ?_))) λz=>nomatch z;have e2:("show ":Str).length=5:=⋯
   lia
 |false=>
   rw[h]at hc;exact c9 hc
def V9(hn:Nm n)(hy:Nm y)(dr:Dr d0 d1 d2 d3 d4 d5):
  lz (bA 8) (xN (dB (L2.d2 BD (rP id 6.8 a cn 2 (aa (af 4) (aa (av di 2 (aa (av gX 3 (aa (af 8) (aa (af 2) (aa (af 7) ag)))) (aa (af 7) ag))) ag))) (aM "NoDeed"))) (nU 6.7) ip) [.str n,.str 10.9] 23.5 (N0 n p)=
   ε (.nx (Dy S n y z p a u (ε 2.3) (ε (.str 10.9)) x q t),N0 n p):=by
 obtain⟨b1,b2,b3⟩:=Kd (y:=y) hn hy dr
 have one:∀o:Str,W1 o->(o==5.2)=θ->o.length<=30->(xN (dB (L2.d2 BD (rP id 6.8 a cn 2 (aa (af 4) (aa (av di 2 (aa (av gX 3 (aa (af 8) (aa (af 2) (aa (af 7) ag)))) (aa (af 7) ag))) ag))) (aM "NoDeed"))) (nU 6.7) ip) (Dy S n y z p a u (ε 2.3) (dz o) x q t) (N0 n p)=ε (.nx (Dy S n y z p a u (ε 2.3) (dz o) x q t),N0 n p):=λo h1 h2 h3=>by
  obtain⟨t',e,hs⟩:=V3 (p:=p) hn dr.h0 dr.h2 dr.h3 dr.h4 h1 h2 d1 d5;exact Ho (EW (gc:=gC (.str "NoDeed")) rfl (call_of (cons_of (XE dr hn h3 rfl) 0.9) rfl e) rfl hs ⋯) rfl
 exact aeS rfl (one n hn.w1 hn.ne (by have:=hn.l8;lia)) rfl (one _ b1 b2 b3)
end
def Wa(h:g δ=ε (.tuple l)):bx g δ=ε l:=by unfold bx;rw[h];rfl
def p9:su (.int 10) (.int 9)=ε (.int (10^9)):=LK (k:=9) 0.0 0.0
def Sm(ns:3.6)(h:ns.length<=63):Di [.list 9.1]=ε 11.6:=by
 refine cj ?_
 have cl:∀{i:Nat} {δ:DS},av gq 2 (aa (af 0) (aa (gC (.int (i:Nat))) ag)) (ε (.list 9.1)::δ)=ε (.int (ns.getD i 0)):=λ{i δ}=>call_of 4.2 rfl (JL ns i)
 have p30:su (.int 10) (.int 30)=ε (.int (10^30)):=LK (k:=30) 0.0 0.0
 obtain⟨n,y,z,en,N3⟩:=Hr (n:=ns.getD 1 0%10^30) (afv _ 0.0) (afg _ 0.0)
 obtain⟨m,em,hm1,Zw⟩:∃m:Nat,1+ns.getD 1 0%7=(m:Int)/\1<=m/\m<=7:=⟨(1+ns.getD 1 0%7).toNat,by lia,by lia,by lia⟩
 obtain⟨_,ep,p,rfl,hp,hl,rp⟩:=JO (ns.getD 0 0) m hm1 0.1
 have K:Pk p:=⟨hp,by lia,rp⟩
 have hn:=N3.a
 have hy:=N3.b
 have ne:y≠n:=λe=>N3.ab e.symm
 refine bQ [sL 9.1,sL ([.str n,.str y,.str z]),ζ,ζ,ζ,ζ,ζ,ζ,ζ,ζ,ζ,ζ] (aU (aK (iE (cons_of (ao (cl (i:=1)) (ao rfl rfl p30) (gQ 0.0)) rfl) rfl en))) ?_
 refine bQ [sL 9.1,sL ([.str n,.str y,.str z]),dz n,ζ,ζ,ζ,ζ,ζ,ζ,ζ,ζ,ζ] (aU 5.9) ?_
 refine bQ [sL 9.1,sL ([.str n,.str y,.str z]),dz n,ε (fW p),ζ,ζ,ζ,ζ,ζ,ζ,ζ,ζ] (aU (call_of (cons_of (cl (i:=0)) (cons_of (ao rfl (ao (cl (i:=1)) rfl (gQ 0.0)) (show ε (PyData.int (1+ns.getD 1 0%7))=ε 23.9 by rw[em])) rfl)) rfl ep)) ?_
 refine Sl (d:=.bool η) (λa=>⟨N0 n p,?_⟩) rfl
 have N:∀{δ:DS},af 2 δ=dz n->Tx (af 2) δ n 30:=λe=>⟨e,by have:=hn.l8;lia⟩
 have T:∀{δ:DS},af 3 δ=ε (fW p)->Tx (av eI 1 14.0) δ (pS p) 1000:=λe=>⟨call_of (cons_of e rfl) rfl (rY K.l24 K.ent),uT K.le K.ent⟩
 refine d6 (HB (eY (set:=λ_ k=>k) rfl (cons_of (Tx.add (Tx.add (Tx.add (Tx.c (s:="plan ")) (N rfl)) (Tx.c (s:=" hand "))) (T rfl)).e rfl) rfl (say_1 hn K a))) ?_
 refine d6 (HB (eY (set:=λ_ k=>k) rfl (cons_of (Tx.add (Tx.add (Tx.add (Tx.c (s:="lot ")) (N rfl)) 8.6) (N rfl)).e rfl) rfl (say_2 hn K a))) ?_
 refine d6 (δ':=Dy (.list 9.1) n y z p a ζ ζ ζ ζ ζ ζ) (gM (aU (aK (dq (cons_of 5.9 (cons_of (ah4 hn 5.9) (cons_of (ao 5.9 rfl (jG ?_)) (cons_of (ao 5.9 rfl (jG ?_)) (ti rfl))))) (show 5<=100000 by decide))))) ?_
 .have:=hn.l8;have e:("abcdefgh":Str).length=8:=⋯
  lia
 .have:=hn.l8;have e:("1":Str).length=1:=⋯
  lia
 refine cq (EX rfl (Tx.add (Tx.add (Tx.add (Tx.add (Tx.c (s:="ways ")) (N rfl)) 8.6) ⟨aeR,show(cC Az).length<=30 by decide +kernel⟩) (Tx.c (s:=" 0"))).e rfl (N4 hn K) ⋯) ?_
 have hi:bx (aI (rm iB (aI (ki (af 0) (b0 (aA 2)) (b0 (aA 22)))) (aI (bD (aa (av gq 2 (aa (af 0) (aa (aA 2) ag))) ag))))) (Dy (.list 9.1) n y z p a ζ ζ ζ ζ ζ ζ)=ε ((((ns.drop (HT.sk ns.length 0 (ε 2))).take (HT.sk ns.length ns.length (ε 22)-HT.sk ns.length 0 (ε 2)))++[ns.getD 2 0]).map .int):=by
  refine Av (aK ((jm (x:=(((ns.drop (HT.sk ns.length 0 (ε 2))).take (HT.sk ns.length ns.length (ε 22)-HT.sk ns.length 0 (ε 2)))).map .int) (y:=[.int (ns.getD 2 0)]) (aK ?_) (aK (dq (ti (cl (i:=2))))) ?_).trans (by rw[adf];rfl)))
  .show ε (cutD (ns.map PyData.int) (ε 2) (ε 22))=_;unfold cutD;rw[aaI,ai2,ai3]
  .grind
 refine Sk (λδ=>∃u v w x q t,δ=Dy (.list 9.1) n y z p a u v w x q t) hi ⟨ζ,ζ,ζ,ζ,ζ,ζ,rfl⟩ ?_ λδ' _=>gM rfl
 rintro _ hx _ ⟨u,v,w,x,q,t,rfl⟩
 obtain⟨c,_,rfl⟩:=abt.mp hx
 obtain⟨d0,d1,d2,d3,d4,d5,e,dr⟩:=aaX c
 obtain⟨b1,b2,b3⟩:=Kd (y:=y) hn hy dr
 refine⟨Dy (.list 9.1) n y z p a (ε (.int c)) v w x q t,?_⟩
 refine⟨Dy (.list 9.1) n y z p a (ε (.int c)) (ε 2.3) (ε (.str 10.9)) (ε (.str (Kc n y d0 d2 d3 d4 d5))) (ε (.str (" hand "++Dz.getD (d2%5) ""))) (ε (dP (EV n p d2 (d0%12)))),rfl,?_,_,_,_,_,_,_,rfl⟩
 refine d6 (δ':=Dy (.list 9.1) n y z p a (ε (.int c)) (ε 2.3) w x q t) (gM (aU (aK (iE (cons_of rfl (cons_of (aK (dq (cons_of rfl (cons_of rfl (cons_of rfl (cons_of rfl (cons_of (ao rfl rfl p9) (ti rfl)))))))) rfl)) rfl e)))) ?_
 refine d6 (Mu (Wa (ou rfl (V6 dr.h5))) (V9 hn hy dr)) ?_
 refine d6 (δ':=Dy (.list 9.1) n y z p a (ε (.int c)) (ε 2.3) (ε (.str 10.9)) (ε (.str (row (gw 10.9 n d2 d3 d4 d0)))) q t) (gM (aU (XE dr hn b3 (V6 dr.h5)))) ?_
 refine d6 (gM (V8 dr hn hy)) ?_
 refine cq (EW rfl rfl rfl (N7 hn hy ne dr) ⋯) ?_
 refine d6 (δ':=Dy (.list 9.1) n y z p a (ε (.int c)) (ε 2.3) (ε (.str 10.9)) (ε (.str (Kc n y d0 d2 d3 d4 d5))) (ε (.str (" hand "++Dz.getD (d2%5) ""))) t) (gM (aU V7)) ?_
 refine cq (V5 (J6 (aeA (oA (l:=[d0,d1,d2,d3,d4,d5]) (k:=5) rfl rfl) 0)) λh5=>EW rfl (ao (ao rfl (V6 dr.h5) (jG ?_)) rfl (jG ?_)) rfl (N6 (Kb hn d5 dr.h5 (afb h5)) (wG _ 14.2)) ⋯) ?_
 .have e:("plan ":Str).length=5:=⋯
  lia
 .have e:("plan ":Str).length=5:=⋯
  have e2:(" hand ":Str).length=6:=⋯
  have:=wG _ (acJ d2 (show 0<5 by decide));rw[oB,oB];lia
 obtain⟨ds,dm⟩:=Sa hn K d2 dr.h2 (d0%12) 14.2
 refine d6 (δ':=Dy (.list 9.1) n y z p a (ε (.int c)) (ε 2.3) (ε (.str 10.9)) (ε (.str (Kc n y d0 d2 d3 d4 d5))) (ε (.str (" hand "++Dz.getD (d2%5) ""))) (ε (dP (EV n p d2 (d0%12))))) (gM (aU (call_of (cons_of rfl 4.2) rfl (N2 hn K dr.h2)))) ?_
 refine cq (EW rfl 5.9 5.9 ds dm) ?_
 exact Ho (aeG (EX rfl (Tx.add (Tx.c (s:="show ")) (N rfl)).e (T rfl).e (N5 hn K) (sOk (JT K.ent)).1) (EX rfl (Tx.add (Tx.c (s:="at ")) (N rfl)).e rfl (V1 hn) ⋯)) rfl
def bz(a:sc.kind=.function:=by rfl)(b:sc.isCoroutine=false:=by rfl)(c:sc.isGenerator=false:=by rfl)(d:N.Nodup:=by decide +kernel)(e:N.take P.length=P:=by rfl)(f:∀x∈P,sc.names.lookup x=ε .local\/sc.names.lookup x=ε .cell:=by decide +kernel)(g:∀y∈sc.names,y.2≠.free:=by decide +kernel):ax N P sc:=⟨a,b,c,d,e,f,g⟩
abbrev Ke:Stmt:=top 21
def EY:ax ["top","bottom","shared"] ["top","bottom"] (ai Ke):=bz
abbrev EZ:Stmt:=top 27
def Sn:ax ["one","other"] ["one","other"] (ai EZ):=bz
abbrev iU:Stmt:=top 28
def cQ:ax ["one","other","rest","pair"] ["one","other"] (ai iU):=bz
abbrev wH:Stmt:=top 32
def tm:ax ["thing","there","place"] ["thing"] (ai wH):=bz
abbrev wI:Stmt:=top 33
def AK:ax ["plan","count","draws"] ["plan","count"] (ai wI):=bz
abbrev rf:Stmt:=top 34
def AL:ax ["plan","told","draws","place"] ["plan"] (ai rf):=bz
abbrev E3:Stmt:=top 35
def Wb:ax ["plan"] ["plan"] (ai E3):=bz
abbrev oF:Stmt:=top 36
def xY:ax ["plan","told","draws","place"] ["plan"] (ai oF):=bz
abbrev oG:Stmt:=top 37
def r9:ax ["plan","counts","there","count"] ["plan","counts"] (ai oG):=bz
abbrev uU:Stmt:=top 39
def N8:ax ["place"] ["place"] (ai uU):=bz
abbrev E4:Stmt:=top 40
def So:ax ["count","sign"] ["count","sign"] (ai E4):=bz
abbrev oH:Stmt:=top 41
def HC:ax ["thing","there"] ["thing","there"] (ai oH):=bz
abbrev tq:Stmt:=top 42
def HE:ax ["thing"] ["thing"] (ai tq):=bz
abbrev Mv:Stmt:=top 46
abbrev wJ:Stmt:=top 52
def Kf:ax ["plan","count"] ["plan","count"] (ai wJ):=bz
abbrev qt:Stmt:=top 54
def oJ:ax ["plan","beginning","ways","count","many","led"] ["plan","beginning"] (ai qt):=bz
abbrev Kg:Stmt:=top 56
def Wc:ax ["plan","end"] ["plan","end"] (ai Kg):=bz
abbrev kx:Stmt:=top 66
def wK:ax ["plan","low","high","most","ways","choice","end","many"] ["plan","low","high","most"] (ai kx):=bz
abbrev lL:Stmt:=top 67
def yo:ax ["low","high"] ["low","high"] (ai lL):=bz
abbrev tu:Stmt:=top 74
def HF:ax ["plan","end"] ["plan","end"] (ai tu):=bz
abbrev l9:Stmt:=top 78
def E5:ax ["plan"] ["plan"] (ai l9):=bz
abbrev kK:Stmt:=top 79
def BR:ax ["place"] ["place"] (ai kK):=bz
abbrev ma:Stmt:=top 80
def uV:ax ["text","plan"] ["text"] (ai ma):=bz
abbrev kL:Stmt:=top 81
def BS:ax ["text"] ["text"] (ai kL):=bz
abbrev mz:Stmt:=top 82
def AM:ax ["word"] ["word"] (ai mz):=bz
abbrev md:Stmt:=top 83
def E6:ax ["word"] ["word"] (ai md):=bz
abbrev qu:Stmt:=top 85
def uW:ax ["plan","deed","told","count"] ["plan","deed","told"] (ai qu):=bz
abbrev xZ:Stmt:=top 86
abbrev kM:Stmt:=top 88
def BU:ax ["count"] ["count"] (ai kM):=bz
abbrev pj:Stmt:=top 89
abbrev tw:Stmt:=top 93
def qv:ax ["row","parts","words"] ["row"] (ai tw):=bz
abbrev kN:Stmt:=top 94
def se:ax ["deed","name","words","kinds"] ["deed","name","words"] (ai kN):=bz
abbrev qw:Stmt:=top 95
def E7:ax ["word","kind"] ["word","kind"] (ai qw):=bz
abbrev oK:Stmt:=top 96
def BV:ax ["word"] ["word"] (ai oK):=bz
abbrev ky:Stmt:=top 97
def ig:ax ["word","parts","fraction"] ["word"] (ai ky):=bz
abbrev fk:Stmt:=top 98
def AN:ax ["is_of_a_kind"] ["is_of_a_kind"] (ai fk):=bz
abbrev wL:Stmt:=top 101
def Kh:ax ["draws"] ["draws"] (ai wL):=bz
abbrev Ki:Stmt:=top 102
def We:ax ["bad","draws"] ["bad","draws"] (ai Ki):=bz
abbrev qy:Stmt:=top 103
def E8:ax ["first","low","high","second","draws_on"] ["first","low","high","second"] (ai qy):=bz
abbrev wM:Stmt:=top 104
def Kj:ax ["rise","run","below","above","draws"] ["rise","run","below","above","draws"] (ai wM):=bz
abbrev fm:Stmt:=top 105
def AO:ax ["is_within_bounds"] ["is_within_bounds"] (ai fm):=bz
abbrev iM:Stmt:=(inClass 16.8 0)
def wO:ax ["self"] ["self"] (ai iM):=bz
abbrev oM:Stmt:=(inClass 16.8 1)
def ka:ax ["self","row","read","deed","name","told"] ["self","row"] (ai oM):=bz
abbrev iN:Stmt:=(inClass 16.8 2)
def wQ:ax ["self","name","plan"] ["self","name","plan"] (ai iN):=bz
abbrev ij:Stmt:=(inClass 16.8 3)
def uX:ax ["self","name","plan_name"] ["self","name","plan_name"] (ai ij):=bz
abbrev me:Stmt:=(inClass 16.8 4)
def uY:ax ["self","name","sign","lot","plan","count"] ["self","name","sign"] (ai me):=bz
abbrev gS:Stmt:=(inClass 16.8 5)
def tz:ax ["self","name"] ["self","name"] (ai gS):=bz
abbrev ik:Stmt:=(inClass 16.8 6)
def uZ:ax ["self","name"] ["self","name"] (ai ik):=bz
abbrev kO:Stmt:=top 111
def BW:ax ["name"] ["name"] (ai kO):=bz
abbrev wR:Stmt:=top 112
def Kk:ax ["deed","told"] ["deed","told"] (ai wR):=bz
abbrev tD:Stmt:=top 114
def HG:ax ["_law_script","_law_k"] ["_law_script","_law_k"] (ai tD):=bz
abbrev oN:Stmt:=top 115
def mB:ax ["_law_cell_here","_law_base","_law_many","_law_row","_law_k"] ["_law_cell_here","_law_base","_law_many"] (ai oN):=bz
abbrev qz:Stmt:=top 116
def oO:ax ["_law_cell_here","_law_base","_law_many","_law_row","_law_k","_law_number"] ["_law_cell_here","_law_base","_law_many"] (ai qz):=bz
abbrev lM:Stmt:=top 117
def cU:ax ["_law_cell_here","_law_most_here","_law_rest","_law_many","_law_digits_here","_law_rows","_law_come","_law_at","_law_row"] ["_law_cell_here","_law_most_here"] (ai lM):=bz
abbrev jU:Stmt:=top 119
def gY:ax ["_law_cell_here","_law_bases","_law_row","_law_made","_law_base"] ["_law_cell_here","_law_bases"] (ai jU):=bz
abbrev oP:Stmt:=top 120
def gZ:ax ["_law_e","_law_named","_law_words"] ["_law_e"] (ai oP):=bz
abbrev jV:Stmt:=top 121
def AQ:ax ["_law_plan_here"] ["_law_plan_here"] (ai jV):=bz
abbrev mf:Stmt:=top 122
def eZ:ax ["_law_cell_here","_law_letters","_law_words","_law_word_here","_law_k","_law_at","_law_names_here","_law_sign"] ["_law_cell_here"] (ai mf):=bz
abbrev mD:Stmt:=top 123
def qA:ax ["_law_desk","_law_row","_law_e"] ["_law_desk","_law_row"] (ai mD):=bz
abbrev tF:Stmt:=top 124
def fX:ax ["_law_name","_law_other","_law_drawn","_law_a","_law_b","_law_share","_law_rows"] ["_law_name","_law_other","_law_drawn"] (ai tF):=bz
abbrev oQ:Stmt:=top 125
def du:ax ["_law_row","_law_drawn","_law_words","_law_way","_law_at","_law_bad","_law_odd"] ["_law_row","_law_drawn"] (ai oQ):=bz
abbrev wU:Stmt:=top 126
def iV:ax ["_law_plan_here","_law_name","_law_drawn","_law_many","_law_rows"] ["_law_plan_here","_law_name","_law_drawn"] (ai wU):=bz
abbrev qB:Stmt:=top 127
def lN:ax ["_law_script","_law_names_here","_law_name","_law_plan_here","_law_desk","_law_bad","_law_cell_here","_law_drawn","_law_one","_law_row","_law_hand","_law_wrong"] ["_law_script"] (ai qB):=bz
def aw(i:Nat)(hN:X.N[i]?=ε x:=by rfl)(hv:T4 (X.env.scope.names.lookup x)=true:=by rfl)(hd:1.1:=by decide)(xC:(x==("__classdict__":Str))=false:=by decide):PE X 20.0 (ir X.K O (af i)):=Zl (pv i hN hv hd xC)
def cm(i:Nat)(hN:X.N[i]?=ε x:=by rfl)(hv:T4 (X.env.scope.names.lookup x)=true:=by rfl)(hd:1.1:=by decide)(xC:(x==("__classdict__":Str))=false:=by decide)(hi:i∉O:=by decide):PE X 20.0 (tE X.K O (af i)):=Zk (pv i hN hv hd xC) hi
def aW:PE X (.Constant 17.6 j pos) (ir X.K O (gC 17.6)):=PE.sh (bE b6)
def kb(i:Nat)(hN:X.N.Nodup)(he:PE X e 15.1)(hi:X.N[i]?=ε x:=by rfl)(hx:Loc X.env.scope x:=by first|exact Or.inl rfl|exact Or.inr rfl)(hs:swapsWith e (ε (.Name x pos')) pos.line X.env=pure false:=by rfl)(hf:7.0:=by first|exact .inl rfl|exact .inr rfl|assumption)(ho:i∉O:=by decide):PS X (.Assign [.Name x pos'] e pos) (L2.tS X.K O fr (br i ge)):=iu (bP hN hi hx he hs hf) ho
def u5(F:Dn X.prog X.w X.K X.mg X.base k x ps (ny X.K n G))(hr:dQ kk X.A)(ha:PA X 4.5 6.1)(hk:k<=kk:=by decide)(hg:Gl X x:=by rfl)(pP:1.1:=by decide)(he:starEach 4.5 X.env=1.7::starEach es X.env:=by rfl)(jL:0.8:=by rfl):PE X 3.1 (tE X.K O (av G n gr)):=Um F hr hk ha hg pP he jL
def bZ:PE X (.Constant (.str i) j pos) (ir X.K O (gC (.str i))):=PE.sh (zt kf)
def kC:PE X (.Constant (.str i) j pos) (tE X.K O (gC (.str i))):=zt kf
def iW(ha:PE X a 7.1)(hb:9.0):PE X (.BinOp a .Add b pos) (tE X.K O (g2 ak ga gb)):=aX UD P7 ha hb
def fB(ha:PE X a 7.1)(hb:9.0):PE X (.BinOp a .Add b pos) (ir X.K O (g2 ak ga gb)):=PE.sh (iW ha hb)
def js(ha:PE X a 7.1)(hb:9.0)(hs:yM b:=by exact λ_ _=>rfl):PE X (.Subscript a b pos) (ir X.K O (g2 bw ga gb)):=PE.sh (bN ha hb hs)
def HH(h:PE X e (tN X.K O g)):PE X e (ir X.K O (aI g)):=PE.sh (PE.nE h)
def pK(i:Nat)(hN:decide X.N.Nodup=true:=by kernel_rfl)(hi:X.N[i]?=ε x:=by rfl)(hx:Loc X.env.scope x:=by first|exact Or.inl rfl|exact Or.inr rfl)(hf:7.0:=by first|exact .inl rfl|exact .inr rfl)(h:i∉O:=by decide):PG X 20.0 (tG X.K O (bA i)):=Pu (Tz (afb hN) hi hx hf) h
section
variable (P:4.6)(w:World)(K:aq)(mg:cX)(base:Heap)
abbrev Sq:Prop:=vW P w K mg base 1 "check_words" ["is_within_bounds"] (pH K mg 1 dh)
abbrev Sr:Prop:=vW P w K mg base 1 "check_deeds" ["is_of_a_kind"] (pH K mg 1 bY)
abbrev aaY:Prop:=Dn P w K mg base 1 "_law_mixes" ["_law_cell_here","_law_base","_law_many"] (Po K 3 j8)
abbrev aaZ(C:Addr):Prop:=Em P w K mg base 1 C "plan_named" ["self","name"] (kB K mg C 2 bG)
abbrev aa0(C:Addr):Prop:=Em P w K mg base 1 C "lot_named" ["self","name"] (kB K mg C 2 ck)
abbrev aa1:Prop:=vW P w K mg base 4 "check_ends" ["plan","counts"] (pH K mg 2 gm)
abbrev aa2:Prop:=Dn P w K mg base 1 "_law_written" ["_law_plan_here"] (ny K 1 eI)
abbrev aa3:Prop:=vW P w K mg base 2 "read_whole" ["word"] (pH K mg 1 bB)
abbrev aeT:Prop:=Dn P w K mg base 1 "_law_digits" ["_law_cell_here","_law_base","_law_many"] (Po K 3 jh)
abbrev aeU(C:Addr):Prop:=Em P w K mg base 2 C "begin_lot" ["self","name","plan_name"] (kB K mg C 3 dZ)
abbrev XF:Prop:=vW P w K mg base 4 "rule_by_ratio" ["plan","low","high","most"] (pH K mg 4 iK)
abbrev XG:Prop:=Dn P w K mg base 2 "_law_due" ["_law_plan_here","_law_name","_law_drawn"] (ny K 3 ra)
abbrev Ss:Prop:=Dn P w K mg base 1 "is_number" ["word"] (ny K 1 i7)
abbrev XH:Prop:=vW P w K mg base 2 "between" ["rise","run","below","above","draws"] (pH K mg 5 Dh)
abbrev XI:Prop:=Dn P w K mg base 1 "_law_good" ["_law_name","_law_other","_law_drawn"] (ny K 3 gX)
abbrev XJ:Prop:=Dn P w K mg base 2 "_law_numbers" ["_law_cell_here","_law_bases"] (Po K 2 iF)
abbrev XM:Prop:=vW P w K mg base 2 "two_steps" ["first","low","high","second"] (pH K mg 4 xT)
abbrev XN:Prop:=Dn P w K mg base 2 "_law_plan" ["_law_cell_here","_law_most_here"] (ny K 2 oj)
abbrev XO(C:Addr):Prop:=Dn P w K mg base 8 "_law_refused" ["_law_desk","_law_row"] (uv K C 2 cn)
abbrev XQ(C:Addr):Prop:=MtD P w K mg base 1 C "put_plan" ["self","name","plan"] (uv K C 3 fR)
abbrev Su:Prop:=Dn P w K mg base 1 "led_to" ["place"] (Po K 1 j5)
abbrev XR:Prop:=Dn P w K mg base 1 "greatest_divisor" ["one","other"] (ny K 2 gj)
abbrev XS:Prop:=vW P w K mg base 5 "read_words" ["deed","name","words"] (pH K mg 3 cg)
abbrev XT(C:Addr):Prop:=Em P w K mg base 6 C "draw" ["self","name","sign"] (kB K mg C 3 jl)
abbrev XU:Prop:=Dn P w K mg base 1 "_law_no_row" ["_law_row","_law_drawn"] (ny K 2 di)
abbrev XW:Prop:=vW P w K mg base 6 "answer_of" ["plan","deed","told"] (pH K mg 3 eG)
abbrev XX:Prop:=vW P w K mg base 2 "check_shares" ["low","high"] (pH K mg 2 fQ)
abbrev XY:Prop:=Dn P w K mg base 1 "_law_cell" ["_law_script","_law_k"] (ny K 2 gq)
abbrev XZ:Prop:=DnW P w K mg base 1 "_law_word" ["_law_e"] (λy=>ny K 1 (fi y))
abbrev X0:Prop:=Dn P w K mg base 2 "ways_from" ["plan","beginning"] (ny K 2 j6)
abbrev X1:Prop:=Dn P w K mg base 1 "show_fraction" ["fraction"] (ny K 1 kl)
abbrev X2:Prop:=vW P w K mg base 3 "read_fraction" ["word"] (pH K mg 1 gA)
abbrev X3:Prop:=vW P w K mg base 4 "read_word" ["word","kind"] (pH K mg 2 dO)
abbrev X4:Prop:=Dn P w K mg base 1 "_law_names" ["_law_cell_here"] (Po K 1 j9)
abbrev X5(C:Addr):Prop:=Em P w K mg base 7 C "say" ["self","row"] (kB K mg C 2 bj)
abbrev X6:Prop:=vW P w K mg base 5 "share_at" ["plan","end"] (pH K mg 2 n5)
abbrev X7:Prop:=vW P w K mg base 2 "read_number" ["word"] (pH K mg 1 gG)
abbrev X8:Prop:=Dn P w K mg base 2 "is_place" ["thing","there"] (ny K 2 jE)
abbrev X9:Prop:=vW P w K mg base 5 "plan_by" ["deed","told"] (pH K mg 2 gH)
abbrev Yb:Prop:=vW P w K mg base 3 "read_place" ["text"] (pH K mg 1 gn)
abbrev Yc:Prop:=vW P w K mg base 1 "check_name" ["name"] (pH K mg 1 cN)
abbrev Yd:Prop:=Dn P w K mg base 1 "goes_on" ["plan","count"] (ny K 2 ng)
abbrev Ye:Prop:=Dn P w K mg base 3 "ways_to" ["plan","count"] (ny K 2 qY)
abbrev Yg:Prop:=vW P w K mg base 4 "read_plan" ["text"] (pH K mg 1 eX)
abbrev Yh:Prop:=Dn P w K mg base 1 "show_place" ["place"] (ny K 1 kI)
abbrev Yi:Prop:=Dn P w K mg base 1 "show_count" ["count"] (ny K 1 n9)
abbrev Yj:Prop:=Dn P w K mg base 1 "show_rule" ["answer"] (ny K 1 xQ)
abbrev Yk:Prop:=vW P w K mg base 6 "read_row" ["row"] (pH K mg 1 aG)
abbrev Yl:Prop:=vW P w K mg base 2 "so_many" ["draws"] (pH K mg 1 q9)
abbrev Ym:Prop:=vW P w K mg base 2 "till" ["bad","draws"] (pH K mg 2 Rc)
abbrev Yn:Prop:=Dn P w K mg base 1 "after" ["count","sign"] (ny K 2 jS)
abbrev Yo:Prop:=vW P w K mg base 5 "odds" ["plan","end"] (pH K mg 2 EC)
abbrev Yp:Prop:=Dn P w K mg base 2 "show_plan" ["plan"] (ny K 1 lZ)
abbrev Yq:Prop:=Dn P w K mg base 1 "under" ["one","other"] (ny K 2 kH)
abbrev Yr:Prop:=Dn P w K mg base 1 "is_whole" ["thing"] (ny K 1 nY)
abbrev Ys:Prop:=Dn P w K mg base 1 "worth" ["one","share"] (ny K 2 LN)
abbrev Yt:Prop:=Dn P w K mg base 2 "frac" ["top","bottom"] (ny K 2 Aj)
abbrev Yu:Prop:=Dn P w K mg base 1 "drawn_on" ["plan"] (Po K 1 lC)
abbrev Yv:Prop:=Dn P w K mg base 3 "is_plan" ["thing"] (ny K 1 m9)
abbrev Yw:Prop:=Dn P w K mg base 2 "come_to" ["plan"] (Po K 1 kU)
abbrev Yx:Prop:=Dn P w K mg base 3 "ends" ["plan"] (Po K 1 Ez)
end
section
variable {P:4.6}{w:World}{K:aq}{mg:cX}{base:Heap}
def rA(F:Df K mg "greatest_divisor" iU ["one","other"])(B:Bs mg)(Kl:Cn mg "LONG" (.int (4000))):⇑XR:=
 fN [] iR F cQ λ0=>(aj (kb 0 cQ.nd (aS zm DW rfl B.abs II (ay (aw 0) aH)))
  (aj (kb 1 cQ.nd (aS zm DW rfl B.abs II (ay (aw 1) aH)))
  (aj (Gb adQ (aJ (mn hr) mo (aw 1) aW) (aj (kb 2 cQ.nd (aX bU aO (aw 0) (aw 1)))
  (aj (kb 0 cQ.nd (cm 1))
  (aj (kb 1 cQ.nd (cm 2))
  (au (bX (aJ pN bo (PE.sh (Us (aw 1))) (PE.sh (bE (kZ Kl)))) fL bg))))))
  (au (aQ (cm 0))))))
def Wf(F:Df K mg "frac" Ke ["top","bottom"])(B:Bs mg)(iX:⇑XR):⇑Yt:=
 fN [] JE F EY λ0=>(aj (bX (aJ 24.6 imp_eq (aw 1) aW) (au Pr) bg)
  (aj (kb 2 EY.nd (u5 iX hr (ae (cm 0) 23.8)))
  (aj (bX (aJ t7 bo (aw 1) aW) (au (kb 2 EY.nd (zv (aw 2)))) bg)
  (au (aQ (c6 (ae (aX fH aO (aw 0) (aw 2)) (ae (aX fH aO (aw 1) (aw 2)) ah))))))))
def Sv(F:Df K mg "under" EZ ["one","other"])(B:Bs mg):⇑Yq:=
 fN [] Ey F Sn λ0=>(au (aQ (dA t7 bo (PE.sh (aX jb aO (js (aw 0) aW) 10.1)) (PE.sh (aX jb aO 10.1 (js (aw 0) aW))))))
def HI(F:Df K mg "is_whole" tq ["thing"])(B:Bs mg):⇑Yr:=
 fN [] Ak F HE λ0=>(au (aQ (jx (DX "int" B.isinstance (aw 0) (tY rfl B.int DU (v:=.ty "int") rfl)) (kW (Zp (PE.sh (DX "bool" B.isinstance (aw 0) (tY rfl B.bool Uc (v:=.ty "bool") rfl))))))))
def HJ(F:Df K mg "is_place" oH ["thing","there"])(B:Bs mg)(tH:⇑Yr):⇑X8:=
 fN [] sT F HC λ0=>(aj (bX (PW.pt (vJ (fZ (dD (PE.sh (DX "tuple" B.isinstance (aw 0) (tY rfl B.tuple pV (v:=.ty "tuple") rfl))))) (pw_or1 (aJ 24.6 imp_eq 4.4 aW)))) (au 20.4) bg)
  (aj (bX (fZ (dD (PE.sh (aS (vR rfl) Eb rfl B.all Jd (ay (HH (PE.Le (eO (ai oH) ["thing","there"] [1] ["bad","there"] ["bad"] nM (PI.c (dU (cm 0))) 11.5 (λ3=>fE) (λ3=>(jx (u5 tH hr 11.4) (kW (dA Pz PB (aw 0) (aw 1) 7.8))))))) aH))))) (au 20.4) bg)
  (au (aQ (dA 24.6 imp_eq (HH (zy ub F9 rfl B.list KS (ay (aw 0) aH))) (HH (sD B.sorted B.set (aw 0))))))))
def N9(F:Df K mg "led_to" uU ["place"])(B:Bs mg):⇑Su:=
 lU [] Al F N8 λ0=>(au (yN (sD B.sorted B.set (HH (fb cV cW (HH (zy ub F9 rfl B.list KS (ay (aw 0) aH))) (HH (PE.Le (eO (ai uU) ["place"] [] ["bad"] ["bad"] nM (PI.c (dU (cm 0))) 11.5 (λ3=>fE) (λ3=>(iW (aw 0) aW))))))))))
def Km(F:Df K mg "is_plan" wH ["thing"])(B:Bs mg)(bq:20.8)(tJ:⇑X8)(nk:⇑Su):⇑Yv:=
 fN [] v9 F tm λ0=>(aj (bX (PW.pt (vJ (fZ (dD (PE.sh (DX "tuple" B.isinstance (aw 0) (tY rfl B.tuple pV (v:=.ty "tuple") rfl))))) (pw_or1 (fZ (vL kA bo kA bo aW 4.4 (PE.sh (bE (kZ bq)))))))) (au 20.4) bg)
  (aj (kb 1 tm.nd (PE.nE (bJ 11.9)))
  (aj (k9 adQ rfl (dU (cm 0)) (pK 2)
   (aj (bX (fZ (dD (PE.sh (u5 tJ hr (ae (cm 2) 23.8))))) (au 20.4) bg)
  (au (kb 1 tm.nd (PE.nE (iC nk hr 0.0 (ae (cm 2) ah)))))))
  (au 20.4))))
def Kn(F:Df K mg "goes_on" wI ["plan","count"])(B:Bs mg):⇑Yd:=
 fN [] wc F AK λ0=>(aj (kb 2 AK.nd (iW 10.1 10.1))
  (au (aQ (jx (pX kA bo t7 bo aW (aw 2) 4.4) (kW (dA Pz PB 10.1 (js (aw 0) (aw 2)) 7.8))))))
def Ko(F:Df K mg "come_to" rf ["plan"])(B:Bs mg)(nk:⇑Su):⇑Yw:=
 lU [1] we F AL λ0=>(aj (fD (bP (i:=1) AL.nd rfl 16.0 (bJ (ae (c6 (ae (bE b6) 11.9)) ah))))
  (aj (k9 adQ rfl (Qh B.enumerate (cm 0)) (yP rfl (j1 (pK 2) (j1 (pK 3) yO)))
   (au (CN (bO (kY acY ahC PySem.F.type_list_extend CF (pv 1) (bu (PE.Le (eO (ai rf) ["plan","told","draws","place"] [2] ["bad","draws"] ["bad"] nM (PI.c (dU (PE.nE (iC nk hr 0.0 (ae (cm 3) ah))))) 11.5 (λ3=>fE) (λ3=>(c6 (ae (cm 0) (ae (aX zi F7 (aw 1) (aw 0)) ah)))))) cz))))))
  (au (jz (pv 1)))))
def Wg(F:Df K mg "ends" E3 ["plan"])(B:Bs mg)(wV:⇑Yw)(wW:⇑Yd):⇑Yx:=
 lU [] JF F Wb λ0=>(au (yN (eO (ai E3) ["plan"] [0] ["count","plan"] ["count"] nM (PI.c (dU (PE.nE (iC wV hr 0.0 11.4)))) 11.5 (λ3=>(Jb (fZ (dD (PE.sh (u5 wW hr (ae (cm 1) 11.4))))))) (λ3=>(cm 0)))))
def HK(F:Df K mg "drawn_on" oF ["plan"])(B:Bs mg):⇑Yu:=
 lU [1] sU F xY λ0=>(aj (fD (bP (i:=1) xY.nd rfl 16.0 (bJ ah)))
  (aj (k9 adQ rfl (Qi B.enumerate (cm 0)) (yP rfl (j1 (pK 2) (j1 (pK 3) yO)))
   (au (CN (bO (kY acY ahC PySem.F.type_list_extend CF (pv 1) (bu (PE.Le (eO (ai oF) ["plan","told","draws","place"] [2] ["bad","draws"] ["bad"] nM (PI.c (dU (cm 3))) 11.5 (λ3=>fE) (λ3=>(c6 (ae (cm 0) (ae (aX zi F7 (aw 1) (aw 0)) ah)))))) cz))))))
  (au (jz (pv 1)))))
def AR(F:Df K mg "check_ends" oG ["plan","counts"])(B:Bs mg)(u6:∃C tl,FE K mg "NoEnd" C VE tl "ValueError.__new__")(Kp:⇑Yx):⇑aa1:=by
 obtain⟨_,_,u6⟩:=u6;exact dW [] nZ F r9 λ0=>(aj (kb 2 r9.nd (PE.nE (iC Kp hr 0.0 11.4)))
  (au (k9 PassesOwn.leaving rfl (dU (cm 1)) (pK 3)
   (au (bX (aJ (Nj hr) UI (aw 3) (aw 2) 7.8) (au (je u6 PySem.F.excBase_ValueError 0.0 PySem.F.excBase_ValueError kf)) bg)))))
def Sw(F:Df K mg "after" E4 ["count","sign"])(B:Bs mg):⇑Yn:=
 fN [] EA F So λ0=>(aj (bX 4.9 (au (aQ (c6 (ae (iW (js (aw 0) aW) aW) (ae (bN (aw 0) aW) ah))))) bg)
  (au (aQ (c6 (ae (bN (aw 0) aW) (ae (iW (js (aw 0) aW) aW) ah))))))
def Sx(F:Df K mg "worth" Mv ["one","share"]):⇑Ys:=Jx F
def E9(F:Df K mg "ways_from" qt ["plan","beginning"])(B:Bs mg)(y9:⇑Yn)(tK:⇑Yu):⇑X0:=
 fN [2] qh F oJ λ0=>let hu:=afA 17.1 hr.units;(aj (UG (bP (i:=2) oJ.nd rfl 16.0 (Qa hu (aw 1) (bE b6))))
  (aj (k9 adQ rfl (dU (PE.nE (iC tK hr 0.0 11.4))) (pK 3)
   (aj (kb 4 oJ.nd (zV hu (aw 2) (aw 3) (bE b6)))
  (au (k9 adQ rfl (dU (c6 (ae (u5 y9 hr (ae (cm 3) (ae kC ah))) (ae (u5 y9 hr (ae (cm 3) (ae kC ah))) ah)))) (pK 5)
   (au (UE (DT hu (pv 2) (aw 5) (iW (PE.sh (zV hu (aw 2) (aw 5) (bE b6))) (aw 4)) (by rfl))))))))
  (au (jz (pv 2)))))
def Kq(F:Df K mg "ways_to" wJ ["plan","count"])(B:Bs mg)(qC:⇑X0):⇑Ye:=
 fN [] wg F Kf λ0=>let hu:=afA 17.1 hr.units;(au (aQ (zV hu (PE.sh (u5 qC hr (ae (cm 0) (ae (c6 (ae (bE b6) 11.9)) ah)))) (aw 1) (bE b6))))
def Sy(F:Df K mg "odds" Kg ["plan","end"])(B:Bs mg)(gI:⇑aa1):⇑Yo:=by
 exact dW [] EB F Wc λ0=>(aj (dG (bO (aP gI hr 0.0 bK (ae (cm 0) (ae (PE.nE (bJ 23.8)) ah)))))
  fL)
def wX(F:Df K mg "check_shares" lL ["low","high"])(B:Bs mg)(AS:Cn mg "NOUGHT" (.ref pNOUGHT))(AU:(pNOUGHT,[V.int (0),V.int (1)])∈dw)(Fb:Cn mg "WHOLE" (.ref pWHOLE))(Fc:(pWHOLE,[V.int (1),V.int (1)])∈dw)(lO:∃C tl,FE K mg "NoShares" C VE tl "ValueError.__new__")(u7:⇑Yq):⇑XX:=by
 obtain⟨_,_,lO⟩:=lO;exact dW [] lD F yo λ0=>(au (bX (fZ (PW.pt (g9 (dD (PE.sh (u5 u7 hr (ae (W9 (kZ AS) AU (λ_=>(.cons 24.2 (.cons 24.2 .nil)))) 11.4)))) (g9 (dD (PE.sh (u5 u7 hr (ae (cm 0) 23.8)))) (pw_and1 (dD (PE.sh (u5 u7 hr (ae (cm 1) (ae (W9 (kZ Fb) Fc (λ_=>(.cons 24.2 (.cons 24.2 .nil)))) ah)))))))))) (au (je lO abu 0.0 abu kf)) bg))
def u9(F:Df K mg "rule_by_ratio" kx ["plan","low","high","most"])(B:Bs mg)(kz:⇑XX):⇑XF:=by
 exact dW [5] iJ F wK λ0=>(aj (dG (bO (aP kz hr 0.0 bK (ae (cm 1) (ae (cm 2) ah)))))
  fL)
def Fd(F:Df K mg "share_at" tu ["plan","end"])(B:Bs mg)(gI:⇑aa1):⇑X6:=by
 exact dW [] n0 F HF λ0=>(aj (dG (bO (aP gI hr 0.0 bK (ae (cm 0) (ae (PE.nE (bJ 23.8)) ah)))))
  fL)
def BX(F:Df K mg "show_place" kK ["place"])(B:Bs mg):⇑Yh:=
 fN [] n6 F BR λ0=>(au (aQ (jP bZ (PE.nE (PE.Le (eO (ai kK) ["place"] [] ["bad"] ["bad"] nM (PI.c (dU (cm 0))) 11.5 (λ3=>fE) (λ3=>(c8 df jO rfl B.str ml (ay (aw 0) aH)))))))))
def Fe(F:Df K mg "show_plan" l9 ["plan"])(B:Bs mg)(oR:⇑Yh):⇑Yp:=
 fN [] qi F E5 λ0=>(au (aQ (jP bZ (PE.nE (PE.Le (eO (ai l9) ["plan"] [] ["place"] ["place"] nM (PI.c (dU (cm 0))) 11.5 (λ3=>fE) (λ3=>(u5 oR hr 11.4))))))))
def Ff(F:Df K mg "is_number" md ["word"])(B:Bs mg)(wY:Cn mg "FIGURES" (.str "0123456789")):⇑Ss:=
 fN [] qj F E6 λ0=>(aj (bX (PW.pt (vJ 18.1 (pw_or1 (fZ (dD (PE.sh (aS (vR rfl) Eb rfl B.all Jd (ay (HH (PE.Le (eO (ai md) ["word"] [] ["sign"] ["sign"] nM (PI.c (Gv (cm 0))) 11.5 (λ3=>fE) (λ3=>(dA Cu Lg (aw 0) (PE.sh (zt (kZ wY))) 7.8))))) aH)))))))) (au 20.4) bg)
  (au (aQ (adq (dA 24.6 imp_eq (aw 0) bZ) (kW (dA (mn hr) mo (js (aw 0) aW) bZ))))))
def yp(F:Df K mg "read_number" mz ["word"])(B:Bs mg)(g0:Cn mg "MOST_FIGURES_texts" (.int (2)))(iH:∃C tl,FE K mg "NoText" C VE tl "ValueError.__new__")(i8:⇑Ss):⇑X7:=by
 obtain⟨_,_,iH⟩:=iH;exact dW [] jT F AM λ0=>(aj (bX (PW.pt (vJ (fZ (dD (PE.sh (u5 i8 hr 11.4)))) (pw_or1 (aJ pN bo 4.4 (PE.sh (bE (kZ g0))))))) (au (je iH abu 0.0 abu kf)) bg)
  (au (aQ (c8 C1 Gw rfl B.int DU (ay (aw 0) aH)))))
def AV(F:Df K mg "read_place" kL ["text"])(B:Bs mg)(lP:⇑X7):⇑Yb:=by
 exact dW [] n8 F BS λ0=>(au (uy (eA (LG (ai kL) [] ["word"] B.tuple (PI.c (dU (PE.nE (p5 (aw 0) bZ)))) 11.5 (λ3=>(aP lP hr 0.0 Jv 11.4))))))
def BY(F:Df K mg "read_plan" ma ["text"])(B:Bs mg)(iH:∃C tl,FE K mg "NoText" C VE tl "ValueError.__new__")(wZ:⇑Yv)(mE:⇑Yb):⇑Yg:=by
 obtain⟨_,_,iH⟩:=iH;exact dW [] l6 F uV λ0=>(aj (Ep (bP (i:=1) uV.nd rfl 16.0 (LG (ai ma) [] ["part"] B.tuple (PI.c (dU (PE.nE (p5 (aw 0) bZ)))) 11.5 (λ3=>(aP mE hr 0.0 Jv 11.4)))))
  (aj (bX (fZ (dD (PE.sh (u5 wZ hr 23.8)))) (au (je iH abu 0.0 abu kf)) bg)
  (au (aQ (cm 1)))))
def xa(F:Df K mg "show_fraction" pj ["fraction"]):⇑X1:=Jx F
def Fg(F:Df K mg "show_rule" xZ ["answer"]):⇑Yj:=Jx F
def BZ(F:Df K mg "answer_of" qu ["plan","deed","told"])(B:Bs mg)(Fh:⇑Yo)(jI:⇑XF)(qD:⇑X6)(iO:⇑X1)(qE:⇑Yp)(qF:⇑Yj)(xb:⇑Ye)(Fi:⇑Ys):⇑XW:=by
 exact dW [] qk F uW λ0=>(aj (bX 4.9 (au (aQ (u5 qE hr 11.4))) bg)
  (aj (bX 4.9 fL bg)
  (aj (bX 4.9 fL bg)
  (aj (bX 4.9 fL bg)
  (aj (bX 4.9 (au (uy (eA (qX qF hr 0.0 (eW (jC (aP jI hr 0.0 bK (ae (cm 0) (ae 13.9 (ae 13.9 (ae 13.9 ah)))))) lX))))) bg)
  (aj (kb 3 uW.nd (c6 (ae 13.9 (ae 13.9 ah))))
  (aj (bX 4.9 (au (aQ (c8 df jO rfl B.str ml (ay (PE.sh (u5 xb hr (ae (cm 0) (ae (cm 3) ah)))) aH)))) bg)
  (aj (bX 4.9 (au (uy (eA (qX iO hr 0.0 (eW (jC (aP qD hr 0.0 bK (ae (cm 0) (ae (cm 3) ah)))) lX))))) bg)
  (au (uy (eA (qX iO hr 0.0 (eW (qX Fi hr 0.0 (eW (jC (aP Fh hr 0.0 bK (ae (cm 0) (ae (cm 3) ah)))) (eW (Ae 13.9) lX))) lX)))))))))))))
def B3(F:Df K mg "show_count" kM ["count"])(B:Bs mg):⇑Yi:=
 fN [] uE F BU λ0=>(au (aQ (jP bZ (PE.nE (PE.Le (eO (ai kM) ["count"] [] ["number"] ["number"] nM (PI.c (dU (cm 0))) 11.5 (λ3=>fE) (λ3=>(c8 df jO rfl B.str ml (ay (aw 0) aH)))))))))
def yq(F:DfA K mg "check_deeds" "check" fk ["is_of_a_kind"])(B:Bs mg)(qG:∃C tl,FE K mg "NoDeed" C VE tl "ValueError.__new__"):⇑Sr:=by
 obtain⟨_,_,qG⟩:=qG;exact GR [] rR F AN λ0=>(au (bX (fZ (dD (aw 0))) (au (je qG abu 0.0 abu kf)) bg))
def AW(F:Df K mg "read_whole" oK ["word"])(B:Bs mg)(g6:Cn mg "MOST_FIGURES_deeds" (.int (30)))(bh:⇑Sr)(i8:⇑Ss):⇑aa3:=by
 exact dW [] og F BV λ0=>(aj (dG (bO (aP bh hr 0.0 bK (ae (jx (u5 i8 hr 11.4) (kW (dA kA bo 4.4 (PE.sh (bE (kZ g6)))))) ah))))
  (au (aQ (c8 C1 Gw rfl B.int DU (ay (aw 0) aH)))))
def vb(F:Df K mg "read_fraction" ky ["word"])(B:Bs mg)(bh:⇑Sr)(Kr:⇑Yt)(eK:⇑aa3):⇑X2:=by
 exact dW [] iL F ig λ0=>(aj (kb 1 ig.nd (PE.nE (p5 (aw 0) bZ)))
  (aj (bX (aJ 24.6 imp_eq (PE.sh 17.7) aW) (au (Ep (bP (i:=2) ig.nd rfl 16.0 (Er (eW (jC (aP eK hr 0.0 bK 11.4)) (eW (Ae (bE b6)) lX)))))) (aj (dG (bO (aP bh hr 0.0 bK (ae (dA 24.6 imp_eq (PE.sh 17.7) aW) ah))))
  (aj (Ep (bP (i:=2) ig.nd rfl 16.0 (Er (eW (jC (aP eK hr 0.0 bK (ae 8.1 ah))) (eW (jC (aP eK hr 0.0 bK (ae 8.1 ah))) lX)))))
  (au (dG (bO (aP bh hr 0.0 bK (ae (jx (dA pN bo 8.5 aW) (kW (dA 24.6 imp_eq (aw 2) (PE.sh (u5 Kr hr (ae 13.9 (ae 13.9 ah))))))) ah))))))))
  (aj (dG (bO (aP bh hr 0.0 bK (ae (dA kA bo 8.5 8.5) ah))))
  (au (aQ (cm 2))))))
def B4(F:Df K mg "read_word" qw ["word","kind"])(B:Bs mg)(jJ:⇑X2)(eK:⇑aa3):⇑X3:=by
 exact dW [] j7 F E7 λ0=>(aj (bX 4.9 (au (aQ (cm 0))) bg)
  (aj (bX 4.9 (au (kF (eA (aP jJ hr 0.0 bK 11.4)))) bg)
  (aj (bX (PW.pt (g9 4.9 (pw_and1 18.1))) (au (aQ (zv aW))) bg)
  (au (kF (eA (aP eK hr 0.0 bK 11.4)))))))
def AX(F:Df K mg "read_words" kN ["deed","name","words"])(B:Bs mg)(FM:U8 w K mg "FORMS" Of)(bh:⇑Sr)(oS:⇑X3):⇑XS:=by
 exact dW [] oh F se λ0=>(aj (dG (bO (aP bh hr 0.0 bK (ae (Z3 FM (cm 0)) ah))))
  (aj (kb 3 se.nd (Va FM (cm 0)))
  (aj (dG (bO (aP bh hr 0.0 bK (ae (dA 24.6 imp_eq 9.4 (PE.sh (aS be cb rfl B.len cZ (ay (aw 3) aH)))) ah))))
  (au (uy (eA (Er (eW (Ae (cm 0)) (eW (Ae (cm 1)) (eW (Vp (ai kN) [] ["word","kind"] ["word","kind"] adL (PI.c (Vl B.zip (cm 2) (cm 3))) (λ3=>(yP rfl (j1 (pK 0) (j1 (pK 1) yO)))) (λ3=>(aP oS hr 0.0 Jv (ae (cm 0) 23.8)))) lX))))))))))
def Fj(F:Df K mg "read_row" tw ["row"])(B:Bs mg)(bh:⇑Sr)(jW:⇑XS):⇑Yk:=by
 exact dW [] lE F qv λ0=>(aj (kb 1 qv.nd (PE.nE (NB (aw 0) bZ aW)))
  (aj (bX (PW.pt (g9 (aJ 24.6 imp_eq (PE.sh 17.7) aW) (g9 (aJ 24.6 imp_eq 10.1 bZ) (g9 (aJ (mn hr) mo 10.1 bZ) (pw_and1 (aJ 24.6 imp_eq 10.1 bZ)))))) (au (aQ (c6 (ae kC (ae 8.1 (ae (PE.nE (bJ (ae 8.1 ah))) ah)))))) bg)
  (aj (kb 2 qv.nd (PE.nE (p5 (aw 0) bZ)))
  (aj (dG (bO (aP bh hr 0.0 bK (ae (jx (dA vM vN bZ (aw 2) 7.8) (kW (dA rJ bo 9.4 aW))) ah))))
  (aj (bX (PW.pt (g9 (aJ 24.6 imp_eq 8.5 bZ) (pw_and1 (aJ rJ bo 9.4 aW)))) (au (kF (eA (aP jW hr 0.0 bK (ae (iW bZ 8.5) (ae 13.9 (ae (PE.nE (mq (aw 2) (dE aW) fK)) ah))))))) bg)
  (au (kF (eA (aP jW hr 0.0 bK (ae 13.9 (ae 13.9 (ae (PE.nE (mq (aw 2) (dE aW) fK)) ah))))))))))))
def yr(F:DfA K mg "check_words" "check" fm ["is_within_bounds"])(B:Bs mg)(qH:∃C tl,FE K mg "NoPlan" C VE tl "ValueError.__new__"):⇑Sq:=by
 obtain⟨_,_,qH⟩:=qH;exact GR [] rT F AO λ0=>(au (bX (fZ (dD (aw 0))) (au (je qH abu 0.0 abu kf)) bg))
def HL(F:Df K mg "so_many" wL ["draws"])(B:Bs mg)(bq:20.8)(bC:⇑Sq):⇑Yl:=by
 exact dW [] qZ F Kh λ0=>(aj (dG (bO (aP bC hr 0.0 bK (ae (pX kA bo kA bo aW (aw 0) (PE.sh (bE (kZ bq)))) ah))))
  fL)
def Sz(F:Df K mg "till" Ki ["bad","draws"])(B:Bs mg)(bq:20.8)(bC:⇑Sq):⇑Ym:=by
 exact dW [] Ra F We λ0=>(aj (dG (bO (aP bC hr 0.0 bK (ae (jx (pX kA bo kA bo aW (aw 0) (PE.sh (bE (kZ bq)))) (kW (pX kA bo kA bo aW (aw 1) (PE.sh (bE (kZ bq)))))) ah))))
  fL)
def B5(F:Df K mg "two_steps" qy ["first","low","high","second"])(B:Bs mg)(bq:20.8)(bC:⇑Sq):⇑XM:=by
 exact dW [] xS F E8 λ0=>(aj (dG (bO (aP bC hr 0.0 bK (ae (jx (dA rJ bo (aw 0) aW) (jx (dA rJ bo (aw 3) aW) (kW (dA kA bo (fB (aw 0) (aw 3)) (PE.sh (bE (kZ bq))))))) ah))))
  (aj (dG (bO (aP bC hr 0.0 bK (ae (jx (dA rJ bo (aw 1) (PE.sh (zv aW))) (kW (dA pN bo (aw 2) (aw 1)))) ah))))
  fL))
def HM(F:Df K mg "between" wM ["rise","run","below","above","draws"])(B:Bs mg)(bq:20.8)(bC:⇑Sq):⇑XH:=by
 exact dW [] De F Kj λ0=>(aj (dG (bO (aP bC hr 0.0 bK (ae (jx (dA rJ bo (aw 0) aW) (jx (dA rJ bo (aw 1) aW) (jx (dA rJ bo (aw 2) aW) (kW (dA rJ bo (aw 3) aW))))) ah))))
  (aj (dG (bO (aP bC hr 0.0 bK (ae (pX kA bo kA bo aW (aw 4) (PE.sh (bE (kZ bq)))) ah))))
  fL))
def AY(F:Df K mg "check_name" kO ["name"])(B:Bs mg)(lQ:Cn mg "MOST_LETTERS" (.int (8)))(xf:Cn mg "LETTERS" 20.3)(eQ:∃C tl,FE K mg "NoName" C VE tl "ValueError.__new__"):⇑Yc:=by
 obtain⟨_,_,eQ⟩:=eQ;exact dW [] kJ F BW λ0=>(au (bX (PW.pt (vJ (fZ (vL kA bo kA bo aW 4.4 (PE.sh (bE (kZ lQ))))) (pw_or1 (fZ (dD (PE.sh (aS (vR rfl) Eb rfl B.all Jd (ay (HH (PE.Le (eO (ai kO) ["name"] [] ["sign"] ["sign"] nM (PI.c (Gv (cm 0))) 11.5 (λ3=>fE) (λ3=>(dA Cu Lg (aw 0) (PE.sh (zt (kZ xf))) 7.8))))) aH)))))))) (au (je eQ PySem.F.excBase_ValueError 0.0 PySem.F.excBase_ValueError kf)) bg))
def HN(F:Df K mg "plan_by" wR ["deed","told"])(B:Bs mg)(tL:⇑XH)(oU:⇑Yg)(tM:⇑Yl)(Fk:⇑Ym)(oV:⇑XM):⇑X9:=by
 exact dW [] wq F Kk λ0=>(aj (bX 18.1 (au (kF (eA (aP tM hr 0.0 bK (ae 8.1 ah))))) bg)
  (aj (bX 18.1 (au (kF (eA (aP Fk hr 0.0 bK (ae 8.1 (ae 8.1 ah)))))) bg)
  (aj (bX 18.1 (au (kF (eA (aP oV hr 0.0 bK (ae 8.1 (ae 8.1 (ae 8.1 (ae 8.1 ah)))))))) bg)
  (aj (bX 18.1 (au (kF (eA (aP tL hr 0.0 bK (ae 8.1 (ae 8.1 (ae 8.1 (ae 8.1 (ae 8.1 ah))))))))) bg)
  (au (kF (eA (aP oU hr 0.0 bK (ae 8.1 ah)))))))))
def HP(F:Df K mg "_law_cell" tD ["_law_script","_law_k"])(B:Bs mg):⇑XY:=
 fN [] sV F HG λ0=>(aj (bX (aJ t7 bo (aw 1) 4.4) (au (aQ (bN (aw 0) (aw 1)))) bg)
  (au (aQ (bE b6))))
def B6(F:Df K mg "_law_digits" oN ["_law_cell_here","_law_base","_law_many"])(B:Bs mg):⇑aeT:=
 lU [3] oi F mB λ0=>(aj (fD (bP (i:=3) mB.nd rfl 16.0 (bJ ah)))
  (aj (k9 adQ rfl (kR B.range (ae (cm 2) ah)) (pK 4)
   (aj (hJ (bO (kY acY ac1 adw g8 (pv 3) (bu (aX bU aO (aw 0) (aw 1)) cz))))
  (au (kb 0 mB.nd (aX fH aO (aw 0) (aw 1))))))
  (au (jz (pv 3)))))
def Fl(F:Df K mg "_law_mixes" qz ["_law_cell_here","_law_base","_law_many"])(B:Bs mg):⇑aaY:=
 lU [3] ql F oO λ0=>(aj (fD (bP (i:=3) oO.nd rfl 16.0 (bJ ah)))
  (aj (k9 adQ rfl (kR B.range (ae (cm 2) ah)) (pK 4)
   (aj (kb 5 oO.nd (aX bU aO (fB (fB (PE.sh (aX jb aO (PE.sh (aX bU aO (aw 0) aW)) aW)) (PE.sh (aX jb aO (PE.sh (aX jb aO (aw 4) (aw 4))) aW))) (PE.sh (aX jb aO (aw 4) aW))) aW))
  (au (hJ (bO (kY acY ac1 adw g8 (pv 3) (bu (aX bU aO (PE.sh (aX fH aO (PE.sh (aX bU aO (fB (PE.sh (aX jb aO (aw 5) aW)) (aw 0)) aW)) aW)) (aw 1)) cz)))))))
  (au (jz (pv 3)))))
def HQ(F:Df K mg "_law_plan" lM ["_law_cell_here","_law_most_here"])(B:Bs mg)(oW:⇑aeT)(i9:⇑aaY):⇑XN:=
 fN [5] sW F cU λ0=>(aj (kb 2 cU.nd 24.4)
  (aj (kb 3 cU.nd (iW aW (PE.sh (aX jb aO aW (PE.sh (c8 MH Up rfl B.int DU (ay (PE.sh (dA pN bo (aw 1) aW)) aH)))))))
  (aj (kb 4 cU.nd (PE.nE (iC i9 hr 0.0 (ae (cm 2) (ae (bE b6) (ae (cm 3) ah))))))
  (aj (bX (aJ rJ bo (PE.sh (aS zm DW rfl B.abs II (ay (aw 0) aH))) (PE.sh (aX zj aO aW aW))) (au (kb 4 cU.nd (PE.nE (iC oW hr 0.0 (ae (cm 2) (ae (bE b6) (ae (cm 3) ah))))))) bg)
  (aj (fD (bP (i:=5) cU.nd rfl 16.0 (bJ (ae (c6 11.9) ah))))
  (aj (kb 6 cU.nd (PE.nE (bJ (ae (bE b6) 11.9))))
  (aj (kb 7 cU.nd (bE b6))
  (aj (Gb adQ (PW.pt (g9 (aJ t7 bo (PE.sh (aS be cb rfl B.len cZ (ay (aw 5) aH))) (aw 1)) (pw_and1 (aJ pN bo (PE.sh (aS be cb rfl B.len cZ (ay (aw 6) aH))) aW)))) (aj (iu (PS.nE (P5 (i:=8) (ai lM) ["_law_cell_here","_law_most_here","_law_rest","_law_many","_law_digits_here","_law_rows","_law_come","_law_at","_law_row"] [4,3,7] ["_law_k","_law_bad","_law_digits_here","_law_many","_law_at"] ["_law_k","_law_bad"] cU.nd rfl rfl adL (PI.c (DY B.enumerate (cm 6))) (λ3=>(yP rfl (j1 (pK 0) (j1 (pK 1) yO)))) (λ3=>(Jb (aJ pN bo (js (aw 2) (PE.sh (aX bU aO (fB (aw 4) (aw 0)) (aw 3)))) aW))) (λ3=>(cm 1)))))
  (aj (kb 7 cU.nd (iW (aw 7) (PE.sh (aS be cb rfl B.len cZ (ay (aw 6) aH)))))
  (aj (bX (aJ pN bo (PE.sh (aX bU aO (aw 0) aW)) aW) (au (kb 8 cU.nd (PE.nE (mq (aw 6) (dE (js (aw 4) (PE.sh (aX bU aO (aw 7) (aw 3))))) (dE (PE.sh (aS (Cv rfl) K4 rfl B.max Pc (ay aW (ay (PE.sh (aX zi F7 (PE.sh (aS be cb rfl B.len cZ (ay (aw 6) aH))) (js (aw 4) (PE.sh (aX bU aO (fB (aw 7) aW) (aw 3)))))) aH))))))))) bg)
  (aj (kb 6 cU.nd (PE.nE (sD B.sorted B.set (HH (fb cV cW (aw 8) (HH (PE.Le (eO (ai lM) ["_law_cell_here","_law_most_here","_law_rest","_law_many","_law_digits_here","_law_rows","_law_come","_law_at","_law_row"] [] ["_law_bad"] ["_law_bad"] nM (PI.c (dU (cm 8))) 11.5 (λ3=>fE) (λ3=>(iW (aw 0) aW))))))))))
  (au (bX (aJ pN bo (PE.sh (aS be cb rfl B.len cZ (ay (aw 8) aH))) aW) (au (hJ (bO (kY acY ac1 adw g8 (pv 5) (bu (c8 mj vK rfl B.tuple pV (ay (aw 8) aH)) cz))))) bg)))))))
  (au (aQ (c8 mj vK rfl B.tuple pV (ay (aw 5) aH))))))))))))
def AZ(F:Df K mg "_law_numbers" jU ["_law_cell_here","_law_bases"])(B:Bs mg)(i9:⇑aaY):⇑XJ:=
 lU [3] mw F gY λ0=>(aj (bX (vL t7 bo t7 bo (PE.sh (zv (PE.sh (aX zj aO aW aW)))) (aw 0) (PE.sh (aX zj aO aW aW))) (aj (kb 2 gY.nd (PE.nE (iC i9 hr 0.0 (ae (cm 0) (ae (bE b6) (ae 17.7 ah))))))
  (au (yN (PE.Le (eO (ai jU) ["_law_cell_here","_law_bases","_law_row","_law_made","_law_base"] [2,1] ["_law_k","_law_row","_law_bases"] ["_law_k"] nM (PI.c (kR B.range (ae 17.7 ah))) 11.5 (λ3=>fE) (λ3=>(aX bU aO (js (aw 1) (aw 0)) (js (aw 2) (aw 0))))))))) bg)
  (aj (fD (bP (i:=3) gY.nd rfl 16.0 (bJ ah)))
  (aj (kb 0 gY.nd 24.4)
  (aj (k9 adQ rfl (dU (cm 1)) (pK 4)
   (aj (hJ (bO (kY acY ac1 adw g8 (pv 3) (bu (aX bU aO (aw 0) (aw 4)) cz))))
  (au (kb 0 gY.nd (aX fH aO (aw 0) (aw 4))))))
  (au (jz (pv 3)))))))
def Fo(F:Df K mg "_law_word" oP ["_law_e"])(B:Bs mg)(CT:UU K mg ib Dd)(zVE:mg "ValueError"=ζ)(kVE:ClT K ib "ValueError" 11.2):⇑XZ:=by
 refine US [] An F gZ λy f bW A outer s H hr hy=>?_
 refine aj ?_ ?_
 .exact (kb 1 gZ.nd (PE.nE (bJ (ae (gg ib Dd CT (.head _) B.isinstance (aw 0)) (ae (gg ib Dd CT (.tail _ (.head _)) B.isinstance (aw 0)) (ae (gg ib Dd CT (.tail _ (.tail _ (.head _))) B.isinstance (aw 0)) (ae (gg ib Dd CT (.tail _ (.tail _ (.tail _ (.head _)))) B.isinstance (aw 0)) ah)))))))
 refine aj ?_ ?_
 .exact (kb 1 gZ.nd (PE.nE (fb cV cW (aw 1) (HH (bJ (ae (gg ib Dd CT (.tail _ (.tail _ (.tail _ (.tail _ (.head _))))) B.isinstance (aw 0)) (ae (gg ib Dd CT (.tail _ (.tail _ (.tail _ (.tail _ (.tail _ (.head _)))))) B.isinstance (aw 0)) (ae (gg ib Dd CT 2.1 B.isinstance (aw 0)) (ae (gg ib Dd CT (.tail _ 2.1) B.isinstance (aw 0)) ah)))))))))
 refine aj ?_ ?_
 .exact (kb 1 gZ.nd (PE.nE (fb cV cW (aw 1) (HH (bJ (ae (gg ib Dd CT (.tail _ (.tail _ 2.1)) B.isinstance (aw 0)) (ae (gg ib Dd CT 14.5 B.isinstance (aw 0)) (ae (gg ib Dd CT (.tail _ 14.5) B.isinstance (aw 0)) (ae (gg ib Dd CT (.tail _ (.tail _ 14.5)) B.isinstance (aw 0)) ah)))))))))
 refine aj ?_ ?_
 .exact (kb 1 gZ.nd (PE.nE (fb cV cW (aw 1) (HH (bJ (ae (gg ib Dd CT (.tail _ (.tail _ (.tail _ 14.5))) B.isinstance (aw 0)) (ae (gg ib Dd CT (.tail _ (.tail _ (.tail _ (.tail _ 14.5)))) B.isinstance (aw 0)) (ae (gg ib Dd CT (.tail _ (.tail _ (.tail _ (.tail _ (.tail _ 14.5))))) B.isinstance (aw 0)) ah))))))))
 refine aj ?_ ?_
 .refine iu ?_;refine bP ?_ ?_ ?_ ?_ ?_ ?_;.exact gZ.nd
  .rfl
  .exact (Or.inr rfl)
  .refine PE.nE ?_;refine bJ ?_;exact ly rfl
  .exact C5
  .exact .inl rfl
 refine aj ?_ ?_
 .exact (kb 2 gZ.nd (PE.nE (fb cV cW (aw 2) (HH (bJ (ly (by rfl)))))))
 refine aj ?_ ?_
 .exact (bX (fZ (dD (PE.sh (Lj ib B.isinstance (aw 0) (tY rfl zVE ad0 (v:=.ty "ValueError") rfl) (λ_ r=>r) kVE)))) (au (aQ kC)) bg)
 exact au (aQ (jP bZ (PE.nE (NH (gd:=hxG y) (ai oP) ["_law_e","_law_named","_law_words"] [2,1] ["_law_k","_law_words","_law_named"] ["_law_k"] (λ3=>hy) nM (Jn y 0 B.range 11.9) 11.5 (λ3=>(Jb (dD (js (aw 2) (aw 0))))) (λ3=>(bN (aw 1) (aw 0)))))))
def A1(F:Df K mg "_law_written" jV ["_law_plan_here"])(B:Bs mg):⇑aa2:=
 fN [] mx F AQ λ0=>(au (aQ (jP bZ (PE.nE (PE.Le (eO (ai jV) ["_law_plan_here"] [] ["_law_row"] ["_law_row"] nM (PI.c (dU (cm 0))) 11.5 (λ3=>fE) (λ3=>(jP bZ (PE.nE (PE.Le (eO {kind:=.function,names:=[(".0",.local),("_law_row",.local)],isGenerator:=θ,isCoroutine:=θ} ["_law_row"] [] ["_law_bad"] ["_law_bad"] nM (PI.c (dU (cm 0))) 11.5 (λ3=>fE) (λ3=>(c8 df jO rfl B.str ml (ay (aw 0) aH))))))))))))))
def Fp(F:Df K mg "_law_names" mf ["_law_cell_here"])(B:Bs mg):⇑X4:=
 lU [6] qo F eZ λ0=>(aj (kb 1 eZ.nd kC)
  (aj (bX (aJ 24.6 imp_eq (PE.sh (aX bU aO (aw 0) aW)) aW) (by refine aj ?_ ?_;(refine iu ?_;refine bP ?_ ?_ ?_ ?_ ?_ ?_;exact eZ.nd;rfl;exact(Or.inr rfl);refine PE.nE ?_;refine bJ ?_;refine ly ?_;kernel_rfl;exact C5;exact .inl rfl);exact(au (yN (PE.Le (eO (ai mf) ["_law_cell_here","_law_letters","_law_words","_law_word_here","_law_k","_law_at","_law_names_here","_law_sign"] [2,0] ["_law_k","_law_words","_law_cell_here"] ["_law_k"] nM (PI.c (kR B.range 11.9)) 11.5 (λ3=>fE) (λ3=>(bN (aw 1) (PE.sh (aX bU aO (fB (PE.sh (aX fH aO (aw 2) aW)) (PE.sh (aX jb aO aW (aw 0)))) aW))))))))) bg)
  (aj (kb 3 eZ.nd kC)
  (aj (k9 adQ rfl (kR B.range (ae (iW aW (PE.sh (aX bU aO (PE.sh 24.4) aW))) ah)) (pK 4)
   (au (kb 3 eZ.nd (iW (aw 3) (js (aw 1) (PE.sh (aX bU aO (fB (PE.sh 24.4) (PE.sh (aX jb aO (aw 4) (PE.sh 24.4)))) aW)))))))
  (aj (kb 5 eZ.nd (aX bU aO (PE.sh 24.4) (PE.sh (aS be cb rfl B.len cZ (ay (aw 3) aH)))))
  (aj (fD (bP (i:=6) eZ.nd rfl 16.0 (bJ ah)))
  (aj (k9 adQ rfl (kR B.range 11.9) (pK 4)
   (aj (kb 7 eZ.nd (bN (aw 1) (PE.sh (aX bU aO (fB (PE.sh 24.4) (PE.sh (aX jb aO aW (aw 4)))) aW))))
  (au (hJ (bO (kY acY ac1 adw g8 (pv 6) (bu (iW (fB (PE.sh (z0 (aw 3) fK (dE (aw 5)))) (aw 7)) (PE.sh (z0 (aw 3) (dE (fB (aw 5) aW)) fK))) cz)))))))
  (au (jz (pv 6))))))))))
def HR(F:Df K mg "_law_good" tF ["_law_name","_law_other","_law_drawn"])(B:Bs mg):⇑XI:=by
 refine fN [6] sX F fX λ0=>?_
 refine aj ?_ ?_
 .refine iu ?_;refine bP ?_ ?_ ?_ ?_ ?_ ?_;.exact fX.nd
  .rfl
  .intro 14
  .exact c8 df jO rfl B.str ml (ay 8.5 aH)
  .rfl
  .first|exact .inl rfl|exact .inr rfl
 refine aj ?_ ?_
 .refine iu ?_;refine bP ?_ ?_ ?_ ?_ ?_ ?_;.exact fX.nd
  .rfl
  .intro 14
  .exact c8 df jO rfl B.str ml (ay 8.5 aH)
  .rfl
  .first|exact .inl rfl|exact .inr rfl
 refine aj ?_ ?_
 .refine iu ?_;refine bP ?_ ?_ ?_ ?_ ?_ ?_;.exact fX.nd
  .rfl
  .intro 14
  .refine bN ?_ ?_
   .refine PE.sh ?_;refine PE.nE ?_;refine bJ ?_;refine ae ?_ ?_;.exact kC
    refine ae ?_ ?_;.exact kC
    refine ae ?_ ?_;.exact kC
    refine ae ?_ ?_;.exact kC
    refine ae ?_ ?_;.exact iW (fB (PE.sh (c8 df jO rfl B.str ml (ay (fB 8.5 aW) aH))) bZ) (PE.sh (c8 df jO rfl B.str ml (ay (fB 8.5 aW) aH)))
    exact ah
   refine PE.sh ?_;exact aX bU aO 8.5 aW
  .rfl
  .first|exact .inl rfl|exact .inr rfl
 refine aj ?_ ?_
 .refine fD ?_;refine bP ?_ ?_ ?_ ?_ ?_ ?_;.exact fX.nd
  .rfl
  .intro 14
  .refine bJ ?_;refine ae ?_ ?_;.exact iW 9.9 (aw 3)
   refine ae ?_ ?_;.exact iW (fB (fB 9.9 (aw 3)) bZ) (aw 4)
   refine ae ?_ ?_;.exact iW bZ (aw 0)
   refine ae ?_ ?_;.exact iW bZ (aw 0)
   exact ah
  .rfl
  .first|exact .inl rfl|exact .inr rfl
 refine aj ?_ ?_
 .refine fD ?_;refine bP ?_ ?_ ?_ ?_ ?_ ?_;.exact fX.nd
  .rfl
  .intro 14
  .refine fb cV cW ?_ ?_;.exact aw 6
   refine PE.sh ?_;refine PE.nE ?_;refine bJ ?_;refine ae ?_ ?_;.exact iW (fB (fB (fB 9.9 (aw 3)) bZ) (aw 4)) bZ
   refine ae ?_ ?_;.exact iW (fB (fB 9.9 (aw 3)) bZ) (aw 4)
   exact ah
  .rfl
  .first|exact .inl rfl|exact .inr rfl
 refine aj ?_ ?_
 .refine hJ ?_;refine bO ?_;exact kY acY ac1 adw g8 (pv 6) (bu (iW (fB (fB (fB 9.9 (aw 3)) bZ) (aw 4)) bZ) cz)
 refine aj ?_ ?_
 .refine hJ ?_;refine bO ?_;exact kY acY ac1 adw g8 (pv 6) (bu (iW (fB (fB (fB (fB 9.9 (aw 3)) bZ) (aw 4)) bZ) (aw 5)) cz)
 refine aj ?_ ?_
 .refine fD ?_;refine bP ?_ ?_ ?_ ?_ ?_ ?_;.exact fX.nd
  .rfl
  .intro 14
  .refine fb cV cW ?_ ?_;.exact aw 6
   refine PE.sh ?_;refine PE.nE ?_;refine bJ ?_;refine ae ?_ ?_;.exact iW 9.9 (aw 5)
   refine ae ?_ ?_;.exact iW (fB (fB 9.9 (aw 3)) bZ) (aw 4)
   refine ae ?_ ?_;.exact iW bZ (aw 0)
   exact ah
  .rfl
  .first|exact .inl rfl|exact .inr rfl
 refine aj ?_ ?_
 .refine fD ?_;refine bP ?_ ?_ ?_ ?_ ?_ ?_;.exact fX.nd
  .rfl
  .intro 14
  .refine fb cV cW ?_ ?_;.exact aw 6
   refine PE.sh ?_;refine PE.nE ?_;refine bJ ?_;refine ae ?_ ?_;.exact iW 9.9 (aw 5)
   refine ae ?_ ?_;.exact iW 9.9 (aw 1)
   refine ae ?_ ?_;.exact iW bZ (aw 0)
   refine ae ?_ ?_;.exact iW bZ (aw 0)
   exact ah
  .rfl
  .first|exact .inl rfl|exact .inr rfl
 refine au ?_
 refine aQ ?_
 refine bN ?_ ?_
 .refine PE.sh ?_;refine PE.nE ?_;refine fb cV cW ?_ ?_;.exact aw 6
  refine PE.sh ?_;refine PE.nE ?_;refine bJ ?_;refine ae ?_ ?_;.exact iW bZ (aw 0)
  refine ae ?_ ?_;.exact iW (fB 9.9 (aw 5)) bZ
  refine ae ?_ ?_;.exact iW (fB 15.7 bZ) (aw 0)
  exact ah
 refine PE.sh ?_
 exact bN (aw 2) aW
def B7(F:Df K mg "_law_no_row" oQ ["_law_row","_law_drawn"])(B:Bs mg):⇑XU:=by
 refine fN [] om F du λ0=>?_
 refine aj ?_ ?_
 .refine iu ?_;refine bP ?_ ?_ ?_ ?_ ?_ ?_;.exact du.nd
  .rfl
  .intro 14
  .refine PE.nE ?_;exact p5 (aw 0) bZ
  .rfl
  .first|exact .inl rfl|exact .inr rfl
 refine aj ?_ ?_
 .refine iu ?_;refine bP ?_ ?_ ?_ ?_ ?_ ?_;.exact du.nd
  .rfl
  .intro 14
  .exact bN (aw 1) aW
  .rfl
  .first|exact .inl rfl|exact .inr rfl
 refine aj ?_ ?_
 .refine iu ?_;refine bP ?_ ?_ ?_ ?_ ?_ ?_;.exact du.nd
  .rfl
  .intro 14
  .exact iW aW (PE.sh (aX bU aO 10.1 (PE.sh (aS (Cv rfl) K4 rfl B.max Pc (ay aW (ay (PE.sh (aX zi F7 9.4 aW)) aH))))))
  .rfl
  .first|exact .inl rfl|exact .inr rfl
 refine aj ?_ ?_
 .refine bX ?_ ?_ ?_;.exact aJ 24.6 imp_eq (aw 3) aW
  .refine au ?_;refine aQ ?_;refine bN ?_ ?_
   .refine PE.sh ?_;refine PE.nE ?_;refine bJ ?_;refine ae ?_ ?_;.exact iW bZ (aw 0)
    refine ae ?_ ?_;.exact iW (aw 0) bZ
    refine ae ?_ ?_;.exact iW (fB 8.5 bZ) (PE.sh (jP bZ (PE.nE (mq (aw 2) (dE aW) fK))))
    exact ah
   refine PE.sh ?_;exact aX bU aO 10.1 aW
  exact bg
 refine aj ?_ ?_
 .refine bX ?_ ?_ ?_;.exact aJ 24.6 imp_eq (aw 3) aW
  .refine au ?_;refine aQ ?_;exact iW (fB 8.5 bZ) (PE.sh (z0 (aw 0) (dE (PE.sh (aS be cb rfl B.len cZ (ay 8.5 aH)))) fK))
  exact bg
 refine aj ?_ ?_
 .refine bX ?_ ?_ ?_;.exact aJ 24.6 imp_eq (aw 3) aW
  .refine au ?_;refine aQ ?_;exact iW (aw 0) bZ
  exact bg
 refine aj ?_ ?_
 .refine bX ?_ ?_ ?_;.exact aJ 24.6 imp_eq (aw 3) aW
  .refine au ?_;refine aQ ?_;exact bN (aw 2) aW
  exact bg
 refine aj ?_ ?_
 .refine bX ?_ ?_ ?_
  .refine PW.pt ?_;exact g9 (aJ t7 bo (aw 3) aW) (g9 (aJ pN bo 9.4 aW) (pw_and1 (aJ vM vN 8.5 (PE.sh (c6 (ae kC (ae kC ah)))) 7.8)))
  .refine aj ?_ ?_
   .refine iu ?_;refine bP ?_ ?_ ?_ ?_ ?_ ?_;.exact du.nd
    .rfl
    .intro 14
    .refine PE.nE ?_;refine bJ ?_;refine ly ?_;exact Ad (by repeat constructor)
    .rfl
    .first|exact .inl rfl|exact .inr rfl
   refine aj ?_ ?_
   .refine iu ?_;refine bP ?_ ?_ ?_ ?_ ?_ ?_;.exact du.nd
    .rfl
    .intro 14
    .refine bN ?_ ?_
     .refine PE.sh ?_;refine PE.nE ?_;refine fb cV cW ?_ ?_;.exact aw 5
      refine PE.sh ?_;refine PE.nE ?_;refine bJ ?_;refine ae ?_ ?_;.exact aX yU uz bZ aW
      refine ae ?_ ?_;.exact iW bZ (PE.sh (aX yU uz bZ aW))
      exact ah
     refine PE.sh ?_;exact aX bU aO 10.1 aW
    .rfl
    .first|exact .inl rfl|exact .inr rfl
   refine au ?_;refine aQ ?_;refine jP ?_ ?_;.refine PE.sh ?_;exact kC
   refine PE.nE ?_;refine fb cV cW ?_ ?_
   .refine PE.sh ?_;refine PE.nE ?_;refine fb cV cW ?_ ?_
    .refine PE.sh ?_;refine PE.nE ?_;exact mq (aw 2) fK (dE (aw 4))
    refine PE.sh ?_;refine PE.nE ?_;refine bJ ?_;refine ae ?_ ?_;.exact cm 5
    exact ah
   refine PE.sh ?_;refine PE.nE ?_;exact mq (aw 2) (dE (fB (aw 4) aW)) fK
  exact bg
 refine aj ?_ ?_
 .refine bX ?_ ?_ ?_
  .refine PW.pt ?_;exact g9 (aJ t7 bo (aw 3) aW) (pw_and1 (aJ 24.6 imp_eq 8.5 bZ))
  .refine aj ?_ ?_
   .refine iu ?_;refine bP ?_ ?_ ?_ ?_ ?_ ?_;.exact du.nd
    .rfl
    .intro 14
    .exact iW aW (PE.sh (aX bU aO 10.1 (PE.sh (aX zi F7 9.4 aW))))
    .rfl
    .first|exact .inl rfl|exact .inr rfl
   refine aj ?_ ?_
   .refine iu ?_;refine bP ?_ ?_ ?_ ?_ ?_ ?_;.exact du.nd
    .rfl
    .intro 14
    .refine bN ?_ ?_
     .refine PE.sh ?_;refine PE.nE ?_;refine bJ ?_;refine ae ?_ ?_;.exact kC
      refine ae ?_ ?_;.exact kC
      refine ae ?_ ?_;.exact kC
      refine ae ?_ ?_;.exact kC
      refine ae ?_ ?_;.exact kC
      refine ae ?_ ?_;.exact kC
      refine ae ?_ ?_;.exact kC
      refine ae ?_ ?_;.exact aX yU uz bZ aW
      exact ah
     refine PE.sh ?_;exact aX bU aO 10.1 aW
    .rfl
    .first|exact .inl rfl|exact .inr rfl
   refine au ?_;refine aQ ?_;refine jP ?_ ?_
   .refine PE.sh ?_;exact kC
   refine PE.nE ?_;refine fb cV cW ?_ ?_
   .refine PE.sh ?_;refine PE.nE ?_;refine fb cV cW ?_ ?_;.refine PE.sh ?_;refine PE.nE ?_;exact mq (aw 2) fK (dE (aw 4))
    refine PE.sh ?_;refine PE.nE ?_;refine bJ ?_;refine ae ?_ ?_;.exact cm 5
    exact ah
   refine PE.sh ?_;refine PE.nE ?_;exact mq (aw 2) (dE (fB (aw 4) aW)) fK
  exact bg
 refine aj ?_ ?_
 .refine bX ?_ ?_ ?_
  .refine PW.pt ?_;exact g9 (aJ 24.6 imp_eq (aw 3) aW) (pw_and1 (aJ vM vN 8.5 (PE.sh (c6 (ae kC (ae kC (ae kC (ae kC (ae kC (ae kC ah)))))))) 7.8))
  .refine au ?_;refine aQ ?_;exact jP bZ (PE.nE (mq (aw 2) fK (dE (PE.sh (zv aW)))))
  exact bg
 refine aj ?_ ?_
 .refine iu ?_;refine bP ?_ ?_ ?_ ?_ ?_ ?_;.exact du.nd
  .rfl
  .intro 14
  .refine PE.nE ?_;refine bJ ?_;refine ly ?_;exact Ad (by repeat constructor)
  .rfl
  .first|exact .inl rfl|exact .inr rfl
 refine au ?_
 refine aQ ?_
 refine bN ?_ ?_
 .refine PE.sh ?_;refine PE.nE ?_;refine fb cV cW ?_ ?_;.exact aw 6
  refine PE.sh ?_;refine PE.nE ?_;refine bJ ?_;refine ly ?_;exact Ad (by repeat constructor)
 refine PE.sh ?_
 exact aX bU aO 10.1 aW
def Ks(F:Df K mg "_law_due" wU ["_law_plan_here","_law_name","_law_drawn"])(B:Bs mg)(fq:⇑aa2):⇑XG:=by
 refine fN [4] wt F iV λ0=>?_
 refine aj ?_ ?_
 .refine iu ?_;refine bP ?_ ?_ ?_ ?_ ?_ ?_;.exact iV.nd
  .rfl
  .intro 14
  .exact c8 df jO rfl B.str ml (ay (fB aW 8.5) aH)
  .rfl
  .first|exact .inl rfl|exact .inr rfl
 refine aj ?_ ?_
 .refine fD ?_;refine bP ?_ ?_ ?_ ?_ ?_ ?_;.exact iV.nd
  .rfl
  .intro 14
  .refine bJ ?_;refine ae ?_ ?_
   .refine c6 ?_;refine ae ?_ ?_;.exact iW (fB 15.7 bZ) (aw 3)
    refine ae ?_ ?_;.exact kC
    exact ah
   refine ae ?_ ?_
   .refine c6 ?_;refine ae ?_ ?_;.exact iW 15.7 bZ
    refine ae ?_ ?_;.exact kC
    exact ah
   exact ah
  .rfl
  .first|exact .inl rfl|exact .inr rfl
 refine aj ?_ ?_
 .refine fD ?_;refine bP ?_ ?_ ?_ ?_ ?_ ?_;.exact iV.nd
  .rfl
  .intro 14
  .refine fb cV cW ?_ ?_;.exact aw 4
   refine PE.sh ?_;refine PE.nE ?_;refine bJ ?_;refine ae ?_ ?_
   .refine c6 ?_;refine ae ?_ ?_;.exact iW 15.7 bZ
    refine ae ?_ ?_;.exact kC
    exact ah
   refine ae ?_ ?_
   .refine c6 ?_;refine ae ?_ ?_;.exact iW 15.7 bZ
    refine ae ?_ ?_;.exact kC
    exact ah
   exact ah
  .rfl
  .first|exact .inl rfl|exact .inr rfl
 refine aj ?_ ?_
 .refine hJ ?_;refine bO ?_;exact kY acY ac1 adw g8 (pv 4) (bu (c6 (ae (iW (fB (fB 15.7 bZ) (PE.sh (u5 fq hr 11.4))) bZ) (ae kC ah))) cz)
 refine aj ?_ ?_
 .refine hJ ?_;refine bO ?_;exact kY acY ac1 adw g8 (pv 4) (bu (c6 (ae (iW 15.7 bZ) (ae kC ah))) cz)
 refine aj ?_ ?_
 .refine fD ?_;refine bP ?_ ?_ ?_ ?_ ?_ ?_;.exact iV.nd
  .rfl
  .intro 14
  .refine fb cV cW ?_ ?_;.exact aw 4
   refine PE.sh ?_;refine PE.nE ?_;refine bJ ?_;refine ae ?_ ?_
   .refine c6 ?_;refine ae ?_ ?_;.exact iW 15.7 bZ
    refine ae ?_ ?_;.exact kC
    exact ah
   refine ae ?_ ?_
   .refine c6 ?_;refine ae ?_ ?_;.exact iW (fB 15.7 bZ) (PE.sh (c8 df jO rfl B.str ml (ay (fB 4.4 aW) aH)))
    refine ae ?_ ?_;.exact kC
    exact ah
   exact ah
  .rfl
  .first|exact .inl rfl|exact .inr rfl
 refine aj ?_ ?_
 .refine fD ?_;refine bP ?_ ?_ ?_ ?_ ?_ ?_;.exact iV.nd
  .rfl
  .intro 14
  .refine fb cV cW ?_ ?_;.exact aw 4
   refine PE.sh ?_;refine PE.nE ?_;refine bJ ?_;refine ae ?_ ?_
   .refine c6 ?_;refine ae ?_ ?_;.exact iW 15.7 bZ
    refine ae ?_ ?_;.exact kC
    exact ah
   refine ae ?_ ?_
   .refine c6 ?_;refine ae ?_ ?_;.exact iW 15.7 bZ
    refine ae ?_ ?_;.exact kC
    exact ah
   exact ah
  .rfl
  .first|exact .inl rfl|exact .inr rfl
 refine aj ?_ ?_
 .refine fD ?_;refine bP ?_ ?_ ?_ ?_ ?_ ?_;.exact iV.nd
  .rfl
  .intro 14
  .refine fb cV cW ?_ ?_;.exact aw 4
   refine PE.sh ?_;refine PE.nE ?_;refine bJ ?_;refine ae ?_ ?_
   .refine c6 ?_;refine ae ?_ ?_;.exact iW 15.7 bZ
    refine ae ?_ ?_;.exact kC
    exact ah
   refine ae ?_ ?_
   .refine c6 ?_;refine ae ?_ ?_;.exact iW 15.7 bZ
    refine ae ?_ ?_;.exact kC
    exact ah
   exact ah
  .rfl
  .first|exact .inl rfl|exact .inr rfl
 refine au ?_
 refine aQ ?_
 exact bN (aw 4) (PE.sh (aX bU aO 8.5 aW))
variable {C:Addr}
def SA(F:Bx K "__init__" "Desk.__init__" iM f fd)(c:vB K C)(n1:fG K C "plans")(n2:fG K C "lots"):mP P w K mg base Bp 1 f fd ["self"] (Ej K C):=
 F.ok wO (λvs H Q E h=>by obtain⟨x,dx,rfl,_⟩:=h;rfl) (λbW A outer s H vs Q E hr h=>⟨_,tZ (ON (pv 0) GO rfl) (DE (ON (pv 0) GO rfl)),QB c n1 n2 h⟩)
def qI(F:Bx K "plan_named" "Desk.plan_named" gS f fd)(M:pF K C "plan_named" f)(Bi:Binds K fd ["self","name"] [])(B:Bs mg)(c:vB K C)(n1:fG K C "plans")(eQ:∃C tl,FE K mg "NoName" C VE tl "ValueError.__new__"):aaZ P w K mg base C:=by
 obtain⟨_,_,eQ⟩:=eQ;exact mY [] iS F M Bi tz λ6=>let hu:=afA 17.1 hr.units;(bS (jB (Lv η rfl c n1 hu (pv 0) (cm 1)) (cK (gW (je eQ abu 0.0 abu kf))) ia)
  (cK (Lo (Lr η rfl c n1 hu (pv 0) (cm 1)))))
def rB(F:Bx K "begin_lot" "Desk.begin_lot" ij f fd)(M:pF K C "begin_lot" f)(Bi:Binds K fd ["self","name","plan_name"] [])(B:Bs mg)(c:vB K C)(n2:fG K C "lots")(fu:aaZ P w K mg base C):aeU P w K mg base C:=by
 exact mY [] ji F M Bi uX λ6=>let hu:=afA 17.1 hr.units;(bS (Vo θ rfl c n2 hu (pv 0) (cm 1) (QU (lB jv (j4 fu c hr 0.0 bK (pv 0) (ae (cm 2) ah))) (c6 (ae (bE b6) 11.9))))
  (cK (gW (aQ kC))))
def rC(F:Bx K "lot_named" "Desk.lot_named" ik f fd)(M:pF K C "lot_named" f)(Bi:Binds K fd ["self","name"] [])(B:Bs mg)(c:vB K C)(n2:fG K C "lots")(eQ:∃C tl,FE K mg "NoName" C VE tl "ValueError.__new__"):aa0 P w K mg base C:=by
 obtain⟨_,_,eQ⟩:=eQ;exact mY [] jk F M Bi uZ λ6=>let hu:=afA 17.1 hr.units;(bS (jB (Lv θ rfl c n2 hu (pv 0) (cm 1)) (cK (gW (je eQ abu 0.0 abu kf))) ia)
  (cK (Lo (Lr θ rfl c n2 hu (pv 0) (cm 1)))))
def A2(F:Bx K "draw" "Desk.draw" me f fd)(M:pF K C "draw" f)(Bi:Binds K fd ["self","name","sign"] [])(B:Bs mg)(c:vB K C)(gu:aa0 P w K mg base C):XT P w K mg base C:=by
 exact mY [] oo F M Bi uY λ6=>(bS (QV (bP (i:=3) uY.nd rfl 16.0 (lB jv (j4 gu c hr 0.0 bK (pv 0) 23.8))))
  Jz)
def vc(F:Bx K "put_plan" "Desk.put_plan" iN f fd)(M:pF K C "put_plan" f)(Bi:Binds K fd ["self","name","plan"] [])(B:Bs mg)(c:vB K C)(n1:fG K C "plans"):XQ P w K mg base C:=by
 exact Qy [] km F M Bi wQ λ6=>let hu:=afA 17.1 hr.units;(bS (U5 η rfl c n1 hu (pv 0) (cm 1) (Z0 (cm 2)))
  (cK (gW (aQ kC))))
def B8(F:Bx K "say" "Desk.say" oM f fd)(M:pF K C "say" f)(Bi:Binds K fd ["self","row"] [])(B:Bs mg)(c:vB K C)(kP:aeU P w K mg base C)(vd:XT P w K mg base C)(gu:aa0 P w K mg base C)(fu:aaZ P w K mg base C)(tO:XQ P w K mg base C)(oX:⇑XW)(mF:⇑Yc)(tP:⇑X9)(qJ:⇑Yk)(oY:⇑Yi):X5 P w K mg base C:=by
 exact mY [] qp F M Bi ka λ6=>(bS (gW (UQ (bP (i:=2) ka.nd rfl 16.0 (aP qJ hr 0.0 bK 23.8))))
  (bS (gW (kb 3 ka.nd 13.9))
  (bS (gW (kb 4 ka.nd 13.9))
  (bS (gW (kb 5 ka.nd 13.9))
  (bS (gW (dG (bO (aP mF hr 0.0 bK (ae (cm 4) ah)))))
  (bS (jB (vY (dD (PE.sh (Nq (aw 3) bZ)))) (cK (mZ (eA (QY jv tO c hr 0.0 (pv 0) (eW (Ae (cm 4)) (eW (jC (aP tP hr 0.0 bK (ae (cm 3) (ae (cm 5) ah)))) lX)))))) ia)
  (bS (jB (vY (aJ 24.6 imp_eq (aw 3) bZ)) (cK (mZ (eA (lB jv (j4 kP c hr 0.0 bK (pv 0) (ae (cm 4) (ae (bN (aw 5) aW) ah))))))) ia)
  (bS (jB (vY (aJ 24.6 imp_eq (aw 3) bZ)) (cK (mZ (eA (NJ oY hr 0.0 (Z9 (lB jv (j4 gu c hr 0.0 bK (pv 0) (ae (cm 4) ah))) aW))))) ia)
  (bS (jB (vY (aJ 24.6 imp_eq (aw 3) bZ)) (cK (mZ (eA (lB jv (j4 vd c hr 0.0 bK (pv 0) (ae (cm 4) (ae kC ah))))))) ia)
  (bS (jB (vY (aJ 24.6 imp_eq (aw 3) bZ)) (cK (mZ (eA (lB jv (j4 vd c hr 0.0 bK (pv 0) (ae (cm 4) (ae kC ah))))))) ia)
  (cK (mZ (eA (NK oX hr 0.0 bK (lB jv (j4 fu c hr 0.0 bK (pv 0) (ae (cm 4) ah))) (ae (cm 3) (ae (cm 5) ah))))))))))))))))
def yt(F:Df K mg "_law_refused" mD ["_law_desk","_law_row"])(B:Bs mg)(c:vB K C)(Fq:X5 P w K mg base C)(qK:⇑XZ)(CT:UU K mg ib Dd)(zVE:mg "ValueError"=ζ)(kVE:ClT K ib "ValueError" 11.2)(CE:adZ K mg cL ib)(mL:mg "LotError"=ε (.ref cL)):XO P w K mg base C:=by
 exact U3 [] my F qA λ6=>(bS (Vf (i:=2) (gs:=rV) (hand:=nR ib (λc=>.str c)) (λmV E=>(cK (NC jv (bO (j4 Fq c hr 0.0 UR (pv 0) 23.8))))) (λa=>(au (aQ (Qv (G:=fi) (y:=a) qK (hr.markX _) 0.0 rfl (ae (cm 2) ah))))) (λc d h=>CE c (Jo h)) Ao mL qA.nd)
  (cK (gW (aQ kC))))
def aa4{f:Addr}{fd:FuncData}(F:Bx K "law" "law" qB f fd)(B:Bs mg)(c:vB K C){fI:Addr}{fdI:FuncData}(MK:Mk K C fI)(FI:mP P w K mg base Bp 1 fI fdI ["self"] (Ej K C))(mC:mg "Desk"=ε 1.9)(BI:Binds K fdI ["self"] [])(A3:MtD P w K mg base 7 C "say" ["self","row"] (uv K C 2 eJ))(jK:⇑XY)(xg:⇑XG)(oZ:⇑XI)(qL:⇑X4)(o6:⇑XU)(mG:⇑XJ)(tQ:⇑XN)(gJ:XO P w K mg base C)(fq:⇑aa2):mP P w K mg base Bp 9 f fd ["_law_script"] (ny K 1 Di):=by
 exact adv [] Rf F lN λ0=>(aj (kb 1 lN.nd (PE.nE (iC qL hr 0.0 (ae (aX bU aO (PE.sh (u5 jK hr (ae (cm 0) 11.9))) (PE.sh (aX zj aO aW aW))) ah))))
  (aj (kb 2 lN.nd 8.1)
  (aj (kb 3 lN.nd (u5 tQ hr (ae (u5 jK hr (ae (cm 0) 11.9)) (ae (iW aW (PE.sh (aX bU aO (PE.sh (u5 jK hr (ae (cm 0) 11.9))) aW))) ah))))
  (QG (j:=4) MK FI hr 0.0 mC BI lN.nd rfl 16.0 λa dx p q=>(bS (GK (bO (qb jv A3 c hr 0.0 (pv 4) (ae (iW (fB (fB bZ (aw 2)) bZ) (PE.sh (u5 fq hr (ae (cm 3) ah)))) ah))))
  (bS (GK (bO (qb jv A3 c hr 0.0 (pv 4) (ae (iW (fB (fB bZ (aw 2)) bZ) (aw 2)) ah))))
  (bS (gW (kb 5 lN.nd (PE.nE (bJ (ae 8.1 (ae (Q0 10.1) (ae (iW 10.1 bZ) (ae (iW 10.1 bZ) (ae kC ah)))))))))
  (bS (jB (lA (mn hr) mo (qb jv A3 c hr 0.0 (pv 4) (ae (iW (fB (fB (fB bZ (aw 2)) bZ) (PE.sh (aX yU uz bZ aW))) bZ) ah)) bZ rfl) (cK (gW 20.4)) ia)
  (bS (GL adQ rfl (dU (PE.nE (fb cV cW (HH (mq (aw 0) (dE aW) (dE aW))) (HH (bJ (ae (u5 jK hr (ae (cm 0) 11.9)) ah)))))) (pK 6)
   (bS (gW (kb 7 lN.nd (PE.nE (iC mG hr 0.0 (ae (cm 6) (ae (PE.nE (bJ (ae (bE b6) (ae (bE b6) (ae (bE b6) (ae (bE b6) (ae (aX zj aO aW aW) 11.9))))))) ah))))))
  (bS (GL adQ rfl (dU (c6 (ae (cm 2) (ae (bN (aw 5) (js (aw 7) aW)) ah)))) (pK 8)
   (cK (jB (lA (mn hr) mo (ux jv gJ hr 0.0 (ae (cm 4) (ae (u5 o6 hr (ae (u5 oZ hr (ae (cm 8) (ae (cm 2) (ae (cm 7) ah)))) (ae (cm 7) ah))) ah))) bZ rfl) (cK (gW 20.4)) ia)))
  (bS (gW (kb 9 lN.nd (u5 oZ hr (ae (bN (aw 5) (js (aw 7) aW)) (ae (cm 2) (ae (cm 7) ah))))))
  (bS (gW (bX (PW.pt (g9 (PW.pt (vJ (aJ 24.6 imp_eq (PE.sh (z0 (aw 9) fK (dE aW))) bZ) (pw_or1 (aJ 24.6 imp_eq (PE.sh (z0 (aw 9) fK (dE aW))) bZ)))) (pw_and1 (aJ 24.6 imp_eq (js (aw 7) aW) aW)))) (au (kb 9 lN.nd (iW bZ (js (aw 5) (js (aw 7) aW))))) bg))
  (bS (jB (lA (mn hr) mo (ux jv gJ hr 0.0 (ae (cm 4) (ae (cm 9) ah))) bZ rfl) (cK (gW 20.4)) ia)
  (bS (gW (kb 10 lN.nd (iW bZ (js (HH (bJ (ae kC (ae kC (ae kC (ae kC (ae kC ah))))))) (PE.sh (aX bU aO (js (aw 7) aW) aW))))))
  (bS (jB (PW.pt (QW (vY (aJ pN bo (js (aw 7) aW) aW)) (pw_and1 (lA (mn hr) mo (ux jv gJ hr 0.0 (ae (cm 4) (ae (iW (fB bZ (js (aw 5) (js (aw 7) aW))) (aw 10)) ah))) bZ rfl)))) (cK (gW 20.4)) ia)
  (bS (gW (kb 11 lN.nd (u5 xg hr (ae (cm 3) (ae (cm 2) (ae (cm 7) ah))))))
  (bS (jB (lA (mn hr) mo (ux jv gJ hr 0.0 (ae (cm 4) (ae (bN (aw 11) aW) ah))) (js (aw 11) aW) rfl) (cK (gW 20.4)) ia)
  (cK (jB (PW.pt (U0 (lA (mn hr) mo (qb jv A3 c hr 0.0 (pv 4) (ae (iW bZ (aw 2)) ah)) (PE.sh (u5 fq hr (ae (cm 3) ah))) rfl) (pw_or1 (lA (mn hr) mo (qb jv A3 c hr 0.0 (pv 4) (ae (iW bZ (aw 2)) ah)) bZ rfl)))) (cK (gW 20.4)) ia))))))))))))
  (cK (gW 20.4)))))))))))
end
structure QF(K:aq)(n:Str)(st:Stmt)(f:Addr)(od an:23.6)(sl:15.4)(oc kV dc pm cd ct:Value):Prop where
 a:PySem.W.nsIn K mainGlobals n=ε (ε 10.3)
 l:K.lookup f=ε ⟨oc,od,.func (PySem.W.fnOf n n (eR st) (bR st) (ai st) .none kV dc pm an cd ct),sl⟩
 c:PySem.W.codeIn K cd n=η
 k:PySem.W.keepIn K 10.3=η
def SD{us:cF}(h:us.length=n+1):∃a r,us=a::r/\r.length=n:=by cases us with|nil=>cases h|cons a r=>exact⟨a,r,rfl,Nat.succ.inj h⟩
def len_1(us:cF)(h:us.length=1):∃a0,us=[a0]:=by obtain⟨a,r,rfl,g⟩:=SD h;rw[agC.mp g];exact⟨a,rfl⟩
def len_2(us:cF)(h:us.length=2):∃a0 a1,us=[a0,a1]:=by obtain⟨a,r,rfl,g⟩:=SD h;obtain⟨a0,rfl⟩:=len_1 r g;exact⟨a,a0,rfl⟩
def len_3(us:cF)(h:us.length=3):∃a0 a1 a2,us=[a0,a1,a2]:=by obtain⟨a,r,rfl,g⟩:=SD h;obtain⟨a0,a1,rfl⟩:=len_2 r g;exact⟨a,a0,a1,rfl⟩
section
variable {K:aq}{mg:cX}{f:Addr}{fd:FuncData}
def aa5(F:Bx K "law" "law" qB f fd)(m:mg "law"=ε 10.3):Df K mg "law" qB ["_law_script"]:=⟨f,fd,F,m,F.binds λ5=>by obtain⟨a0,rfl⟩:=len_1 us hl;rfl⟩
end
inductive QE(K:aq)(n:Str)(st:Stmt):Prop|mk (f od an sl oc kV dc pm cd ct)(_:QF K n st f od an sl oc kV dc pm cd ct)
def A4(CK:lx K)(X:K.In h)(G:15.5)(q:QE K x st)(b:∀kV doc pm an cd ct u0,bindArgs 7.6 ⟨[u0],[]⟩=pure ([a0].zip [u0]):=by intros;rfl):Df (bT K) mg x st [a0]:=by
 obtain⟨_,_,_,_,_,_,_,_,_,_,q⟩:=q
 exact⟨_,_,CK.func 8.9,abx X G q.a,(CK.func 8.9).binds λ5=>match us,hl with|[u0],_=>b ..⟩
def B9(CK:lx K)(X:K.In h)(G:15.5)(q:QE K x st)(b:∀kV doc pm an cd ct u0 u1,bindArgs 7.6 ⟨[u0,u1],[]⟩=pure ([a0,a1].zip [u0,u1]):=by intros;rfl):Df (bT K) mg x st [a0,a1]:=by
 obtain⟨_,_,_,_,_,_,_,_,_,_,q⟩:=q
 exact⟨_,_,CK.func 8.9,abx X G q.a,(CK.func 8.9).binds λ5=>match us,hl with|[u0,u1],_=>b ..⟩
def df3(CK:lx K)(X:K.In h)(G:15.5)(q:QE K x st)(b:∀kV doc pm an cd ct u0 u1 u2,bindArgs 7.6 ⟨[u0,u1,u2],[]⟩=pure ([a0,a1,a2].zip [u0,u1,u2]):=by intros;rfl):Df (bT K) mg x st [a0,a1,a2]:=by
 obtain⟨_,_,_,_,_,_,_,_,_,_,q⟩:=q
 exact⟨_,_,CK.func 8.9,abx X G q.a,(CK.func 8.9).binds λ5=>match us,hl with|[u0,u1,u2],_=>b ..⟩
def df4(CK:lx K)(X:K.In h)(G:15.5)(q:QE K x st)(b:∀kV doc pm an cd ct u0 u1 u2 u3,bindArgs 7.6 ⟨[u0,u1,u2,u3],[]⟩=pure ([a0,a1,a2,a3].zip [u0,u1,u2,u3]):=by intros;rfl):Df (bT K) mg x st [a0,a1,a2,a3]:=by
 obtain⟨_,_,_,_,_,_,_,_,_,_,q⟩:=q
 exact⟨_,_,CK.func 8.9,abx X G q.a,(CK.func 8.9).binds λ5=>match us,hl with|[u0,u1,u2,u3],_=>b ..⟩
def df5(CK:lx K)(X:K.In h)(G:15.5)(q:QE K x st)(b:∀kV doc pm an cd ct u0 u1 u2 u3 u4,bindArgs 7.6 ⟨[u0,u1,u2,u3,u4],[]⟩=pure ([a0,a1,a2,a3,a4].zip [u0,u1,u2,u3,u4]):=by intros;rfl):Df (bT K) mg x st [a0,a1,a2,a3,a4]:=by
 obtain⟨_,_,_,_,_,_,_,_,_,_,q⟩:=q
 exact⟨_,_,CK.func 8.9,abx X G q.a,(CK.func 8.9).binds λ5=>match us,hl with|[u0,u1,u2,u3,u4],_=>b ..⟩
def QM(K:aq)(C f:Addr)(m q:Str)(st:Stmt):Prop:=∃od an sl oc kV dc pm cd ct,K.lookup f=ε ⟨oc,od,.func (PySem.W.fnOf m q (eR st) (bR st) (ai st) .none kV dc pm an cd ct),sl⟩/\PySem.W.codeIn K cd q=η/\PySem.W.keepIn K 10.3=η/\PySem.W.findIn (bT K) 1.9 m=ε (ε 10.3)/\PySem.W.isFn (bT K) 10.3=η/\PySem.W.keepIn (bT K) 10.3=η
noncomputable def zN:List Str:=["len","range","isinstance","max","min","int","bool","tuple","list","abs","str","sum","sorted","reversed","enumerate","set","all","zip","any"]
def zP(K:aq)(x:Str):Bool:=match PySem.W.nsIn K mainGlobals x with|some ζ=>η|_=>θ
def zal(h:zN.all (zP K)=η)(m:x∈zN):PySem.W.nsIn K mainGlobals x=ε none:=by
 have z:=acC.mp h x m
 unfold zP at z
 split at z
 .grind
 .grind
def all_mk{l:PySem.W.OpenLaw}{w:World}{K:aq}{h:Heap}{mg:cX}{fa:Addr}(X:K.In h)(G:15.5)(hfa:mg "law"=ε (.ref fa))
  {f90:Addr}{aib aeX:23.6}{aic:15.4}{aid aeY aeZ ae0 ae1 ae2:Value}
  (q1:QE K "frac" Ke)
  (q7:QE K "under" EZ)
  (q8:QE K "greatest_divisor" iU)
  (q10:QE K "is_plan" wH)
  (q11:QE K "goes_on" wI)
  (q12:QE K "come_to" rf)
  (q13:QE K "ends" E3)
  (q14:QE K "drawn_on" oF)
  (q15:QE K "check_ends" oG)
  (q17:QE K "led_to" uU)
  (q18:QE K "after" E4)
  (q19:QE K "is_place" oH)
  (q20:QE K "is_whole" tq)
  (q22:QE K "worth" Mv)
  (q27:QE K "ways_to" wJ)
  (q29:QE K "ways_from" qt)
  (q30:QE K "odds" Kg)
  (q37:QE K "rule_by_ratio" kx)
  (q38:QE K "check_shares" lL)
  (q44:QE K "share_at" tu)
  (q45:QE K "show_plan" l9)
  (q46:QE K "show_place" kK)
  (q47:QE K "read_plan" ma)
  (q48:QE K "read_place" kL)
  (q49:QE K "read_number" mz)
  (q50:QE K "is_number" md)
  (q51:QE K "answer_of" qu)
  (q52:QE K "show_rule" xZ)
  (q54:QE K "show_count" kM)
  (q55:QE K "show_fraction" pj)
  (q56:QE K "read_row" tw)
  (q57:QE K "read_words" kN)
  (q58:QE K "read_word" qw)
  (q59:QE K "read_whole" oK)
  (q60:QE K "read_fraction" ky)
  (q63:QE K "so_many" wL)
  (q64:QE K "till" Ki)
  (q65:QE K "two_steps" qy)
  (q66:QE K "between" wM)
  (q75:QE K "check_name" kO)
  (q76:QE K "plan_by" wR)
  (q77:QE K "_law_cell" tD)
  (q78:QE K "_law_digits" oN)
  (q79:QE K "_law_mixes" qz)
  (q80:QE K "_law_plan" lM)
  (q82:QE K "_law_numbers" jU)
  (q83:QE K "_law_word" oP)
  (q84:QE K "_law_written" jV)
  (q85:QE K "_law_names" mf)
  (q86:QE K "_law_refused" mD)
  (q87:QE K "_law_good" tF)
  (q88:QE K "_law_no_row" oQ)
  (q89:QE K "_law_due" wU)
  (Yy:QF K "law" qB f90 aib aeX aic aid aeY aeZ ae0 ae1 ae2)
  {ae3:Tok}(ae4:PySem.W.nsIn K mainGlobals "LONG"=ε (ε (.int 4000 ae3)))
  {Fs:Tok}(Ft:PySem.W.nsIn K mainGlobals "MOST_PLACES"=ε (ε (.int 24 Fs)))
  {SE:Tok}(SF:PySem.W.nsIn K mainGlobals "FIGURES"=ε (ε (.str "0123456789" SE)))
  {rD:Tok}(rE:PySem.W.nsIn K mainGlobals "MOST_FIGURES_texts"=ε (ε (.int 2 rD)))
  {rF:Tok}(rG:PySem.W.nsIn K mainGlobals "MOST_FIGURES_deeds"=ε (ε (.int 30 rF)))
  {SG:Tok}(SH:PySem.W.nsIn K mainGlobals "LETTERS"=ε (ε (.str "abcdefghijklmnopqrstuvwxyz" SG)))
  {Ca:Tok}(Cb:PySem.W.nsIn K mainGlobals "MOST_LETTERS"=ε (ε (.int 8 Ca)))
  (zz:zN.all (zP K)=η)
  (aF:PySem.W.nsIn K mainGlobals "FORMS"=ε (ε (.ref 553)))
  (lF:(bT K).lookup 553=ε (QH w.params Of 16))
  (lT:fmK.map (λe=>K.lookup e.1)=fmK.map λe=>ε (tkO e.2))
  (lI:fiK.map (λe=>K.lookup e.1)=fiK.map λe=>ε (tiO e.2))
  (Wh:PySem.W.nsIn K mainGlobals "NOUGHT"=ε (ε (.ref 336)))
  (aa6:PySem.W.nsIn K mainGlobals "WHOLE"=ε (ε (.ref 432)))
  {mH:Addr}{A5 A6:23.6}{A7:15.4}{A8 A9 Ba Bb qM Bc:Value}(Cd:PySem.W.nsIn K mainGlobals "check_deeds"=ε (ε (.ref mH)))
  (Ce:K.lookup mH=ε ⟨A8,A5,.func (PySem.W.fnOf "check" "check" (eR fk) (bR fk) (ai fk) .none A9 Ba Bb A6 qM Bc),A7⟩)
  (Cf:PySem.W.codeIn K qM "check"=η)
  (Cg:PySem.W.keepIn K (.ref mH)=η)
  {mI:Addr}{Be Bf:23.6}{Bg:15.4}{Bh Bj Bk Bl qN Bm:Value}(Ci:PySem.W.nsIn K mainGlobals "check_words"=ε (ε (.ref mI)))
  (Cj:K.lookup mI=ε ⟨Bh,Be,.func (PySem.W.fnOf "check" "check" (eR fm) (bR fm) (ai fm) .none Bj Bk Bl Bf qN Bm),Bg⟩)
  (Ck:PySem.W.codeIn K qN "check"=η)
  (Cm:PySem.W.keepIn K (.ref mI)=η)
  (aD:PySem.W.nsIn K mainGlobals "Desk"=ε (ε (.ref 703)))
  (y0:PySem.W.plainGet (bT K) 703 Str.empty=η)
  (y1:PySem.W.hasDictIn (bT K) 703=η)
  (y2:PySem.W.plainOver (bT K) 703=η)
  (y3:PySem.W.findIn (bT K) (.ref 703) "__setattr__"=ε (ε (.builtin "object.__setattr__")))
  (y4:PySem.W.findIn (bT K) (.ref 703) "plans"=ε ζ)
  (y5:PySem.W.findIn (bT K) (.ref 703) "lots"=ε ζ)
  (y6:PySem.W.makesIn (bT K) 703=η)
  (y7:PySem.W.keepIn (bT K) (.ref 703)=η)
  (yu:QM K 703 658 "__init__" "Desk.__init__" iM)
  (Kt:QM K 703 665 "say" "Desk.say" oM)
  (yw:QM K 703 672 "put_plan" "Desk.put_plan" iN)
  (xh:QM K 703 679 "begin_lot" "Desk.begin_lot" ij)
  (HS:QM K 703 686 "draw" "Desk.draw" me)
  (ve:QM K 703 693 "plan_named" "Desk.plan_named" gS)
  (xi:QM K 703 700 "lot_named" "Desk.lot_named" ik)
  (ct:dw=tkV fmK++tiV fiK)
  {Mw:Addr}(Wi:PySem.W.nsIn K mainGlobals "NoDeed"=ε (ε (.ref Mw)))
  (SI:PySem.W.excIn (bT K) Mw VE "ValueError.__new__"=η)
  {Mx:Addr}(Wj:PySem.W.nsIn K mainGlobals "NoName"=ε (ε (.ref Mx)))
  (SJ:PySem.W.excIn (bT K) Mx VE "ValueError.__new__"=η)
  {My:Addr}(Wm:PySem.W.nsIn K mainGlobals "NoPlan"=ε (ε (.ref My)))
  (SK:PySem.W.excIn (bT K) My VE "ValueError.__new__"=η)
  {Mz:Addr}(Wn:PySem.W.nsIn K mainGlobals "NoText"=ε (ε (.ref Mz)))
  (SM:PySem.W.excIn (bT K) Mz VE "ValueError.__new__"=η)
  {SN:Addr}(aa7:PySem.W.nsIn K mainGlobals "NoEnd"=ε (ε (.ref SN)))
  (Wo:PySem.W.excIn (bT K) SN VE "ValueError.__new__"=η)
  {DA:Addr}(Oa:PySem.W.nsIn K mainGlobals "NoShares"=ε (ε (.ref DA)))
  (Ku:PySem.W.excIn (bT K) DA VE "ValueError.__new__"=η)
  {cL:Addr}(aL:PySem.W.nsIn K mainGlobals "LotError"=ε (ε (.ref cL)))
  (zE:PySem.W.nsIn K mainGlobals "ValueError"=ε ζ)
  (qc:Jp (bT K) cL ib Dd=η)
  :lx K/\∃fd:FuncData,(∀(s:Shared) (v:Value),BindsTo s fd ⟨[v],[]⟩ [("_law_script",v)])/\∀base:Heap,(bT K).In base->base.Ns mainGlobals mg->mP l.prog w (bT K) mg base Bp 9 fa fd ["_law_script"] (ny (bT K) 1 Di):=by
 obtain⟨_,_,_,_,_,_,_,_,_,yx,yy,yz,yA,yB,Om⟩:=yu
 obtain⟨_,_,_,_,_,_,_,_,_,Kv,Kw,Kx,Ky,Kz,KA⟩:=Kt
 obtain⟨_,_,_,_,_,_,_,_,_,yC,yD,yE,yF,yG,yH⟩:=yw
 obtain⟨_,_,_,_,_,_,_,_,_,xj,xl,xm,xn,xo,xp⟩:=xh
 obtain⟨_,_,_,_,_,_,_,_,_,HU,HV,HW,HX,HY,HZ⟩:=HS
 obtain⟨_,_,_,_,_,_,_,_,_,vf,vg,vh,vi,vj,vk⟩:=ve
 obtain⟨_,_,_,_,_,_,_,_,_,xq,xr,xt,xu,xw,xx⟩:=xi
 have e:=hfa.symm.trans (abx X G Yy.a)
 cases e
 have C:lx K:=Z5 ct ⋯ lT lI ⋯
 have ajN:Df (bT K) mg "law" qB ["_law_script"]:=aa5 (C.func (e9 (st:=qB) Yy.l Yy.c Yy.k)) (abx X G Yy.a)
 have Kl:Cn mg "LONG" (.int 4000):=⟨_,abx X G ae4,⟨_,rfl⟩⟩
 have bq:Cn mg "MOST_PLACES" (.int 24):=⟨_,abx X G Ft,⟨_,rfl⟩⟩
 have wY:Cn mg "FIGURES" (.str "0123456789"):=⟨_,abx X G SF,⟨_,rfl⟩⟩
 have g0:Cn mg "MOST_FIGURES_texts" (.int 2):=⟨_,abx X G rE,⟨_,rfl⟩⟩
 have g6:Cn mg "MOST_FIGURES_deeds" (.int 30):=⟨_,abx X G rG,⟨_,rfl⟩⟩
 have xf:Cn mg "LETTERS" 20.3:=⟨_,abx X G SH,⟨_,rfl⟩⟩
 have lQ:Cn mg "MOST_LETTERS" (.int 8):=⟨_,abx X G Cb,⟨_,rfl⟩⟩
 have B:Bs mg:=by constructor<;>exact PySem.W.mg_none_of X G (zal zz 0.0)
 have FM:U8 w (bT K) mg "FORMS" Of:=⟨⟨553,16,abx X G aF,rfl,lF⟩,aea ct rfl,⋯⟩
 have AS:Cn mg "NOUGHT" (.ref 336):=⟨_,abx X G Wh,rfl⟩
 have AU:((336,[V.int (0),V.int (1)]):Addr×List V)∈dw:=by rw[ct];exact aaW _ (by simp[tiV])
 have Fb:Cn mg "WHOLE" (.ref 432):=⟨_,abx X G aa6,rfl⟩
 have Fc:((432,[V.int (1),V.int (1)]):Addr×List V)∈dw:=by rw[ct];exact aaW _ (by simp[tiV])
 have sf:=C.func (e9 (x:="check") (qual:="check") (st:=fk) Ce Cf Cg)
 have Co:DfA (bT K) mg "check_deeds" "check" fk ["is_of_a_kind"]:=⟨_,_,sf,abx X G Cd,sf.binds λ5=>by obtain⟨a0,rfl⟩:=len_1 us hl;rfl⟩
 have si:=C.func (e9 (x:="check") (qual:="check") (st:=fm) Cj Ck Cm)
 have Cp:DfA (bT K) mg "check_words" "check" fm ["is_within_bounds"]:=⟨_,_,si,abx X G Ci,si.binds λ5=>by obtain⟨a0,rfl⟩:=len_1 us hl;rfl⟩
 have c:vB (bT K) 703:=⟨y0,y1,y2,y3⟩
 have n1:fG (bT K) 703 "plans":=y4
 have n2:fG (bT K) 703 "lots":=y5
 have mC:=abx X G aD
 have pq:=C.func (e9 (x:="__init__") (qual:="Desk.__init__") (st:=iM) yx yy yz)
 have MK:Mk (bT K) 703 658:=⟨y6,yA,yB,y7⟩
 have BI:Binds (bT K) _ ["self"] []:=pq.binds λ5=>by obtain⟨a0,rfl⟩:=len_1 us hl;rfl
 have Bo:=C.func (e9 (x:="say") (qual:="Desk.say") (st:=oM) Kv Kw Kx)
 have H8:pF (bT K) 703 "say" 665:=⟨Ky,Kz,KA⟩
 have Ia:Binds (bT K) _ ["self","row"] []:=Bo.binds λ5=>by obtain⟨a0,a1,rfl⟩:=len_2 us hl;rfl
 have pw:=C.func (e9 (x:="put_plan") (qual:="Desk.put_plan") (st:=iN) yC yD yE)
 have xy:pF (bT K) 703 "put_plan" 672:=⟨yF,yG,yH⟩
 have xA:Binds (bT K) _ ["self","name","plan"] []:=pw.binds λ5=>by obtain⟨a0,a1,a2,rfl⟩:=len_3 us hl;rfl
 have nu:=C.func (e9 (x:="begin_lot") (qual:="Desk.begin_lot") (st:=ij) xj xl xm)
 have vm:pF (bT K) 703 "begin_lot" 679:=⟨xn,xo,xp⟩
 have vn:Binds (bT K) _ ["self","name","plan_name"] []:=nu.binds λ5=>by obtain⟨a0,a1,a2,rfl⟩:=len_3 us hl;rfl
 have ya:=C.func (e9 (x:="draw") (qual:="Desk.draw") (st:=me) HU HV HW)
 have Fu:pF (bT K) 703 "draw" 686:=⟨HX,HY,HZ⟩
 have Fv:Binds (bT K) _ ["self","name","sign"] []:=ya.binds λ5=>by obtain⟨a0,a1,a2,rfl⟩:=len_3 us hl;rfl
 have mh:=C.func (e9 (x:="plan_named") (qual:="Desk.plan_named") (st:=gS) vf vg vh)
 have tU:pF (bT K) 703 "plan_named" 693:=⟨vi,vj,vk⟩
 have tV:Binds (bT K) _ ["self","name"] []:=mh.binds λ5=>by obtain⟨a0,a1,rfl⟩:=len_2 us hl;rfl
 have nv:=C.func (e9 (x:="lot_named") (qual:="Desk.lot_named") (st:=ik) xq xr xt)
 have vo:pF (bT K) 703 "lot_named" 700:=⟨xu,xw,xx⟩
 have vp:Binds (bT K) _ ["self","name"] []:=nv.binds λ5=>by obtain⟨a0,a1,rfl⟩:=len_2 us hl;rfl
 have qG:∃C tl,FE (bT K) mg "NoDeed" C VE tl "ValueError.__new__":=⟨_,vX (abx X G Wi) SI⟩
 have eQ:∃C tl,FE (bT K) mg "NoName" C VE tl "ValueError.__new__":=⟨_,vX (abx X G Wj) SJ⟩
 have qH:∃C tl,FE (bT K) mg "NoPlan" C VE tl "ValueError.__new__":=⟨_,vX (abx X G Wm) SK⟩
 have iH:∃C tl,FE (bT K) mg "NoText" C VE tl "ValueError.__new__":=⟨_,vX (abx X G Wn) SM⟩
 have u6:∃C tl,FE (bT K) mg "NoEnd" C VE tl "ValueError.__new__":=⟨_,vX (abx X G aa7) Wo⟩
 have lO:∃C tl,FE (bT K) mg "NoShares" C VE tl "ValueError.__new__":=⟨_,vX (abx X G Oa) Ku⟩
 have mL:=abx X G aL
 have zVE:=PySem.W.mg_none_of X G zE
 have CT:=UX (Lk X) G qc
 have kVE:=UY qc
 have CE:=UZ (Lk X) G qc
 refine⟨C,PySem.W.fnOf "law" "law" (eR qB) (bR qB) (ai qB) .none aeY aeZ ae0 aeX ae1 ae2,λs v=>.of_eq rfl,λbase _ _=>?_⟩
 have iX:=rA (P:=l.prog) (w:=w) (base:=base) (B9 C X G q8) B Kl
 have Kr:=Wf (B9 C X G q1) B iX
 have u7:=Sv (P:=l.prog) (w:=w) (base:=base) (B9 C X G q7) B
 have tH:=HI (P:=l.prog) (w:=w) (base:=base) (A4 C X G q20) B
 have tJ:=HJ (B9 C X G q19) B tH
 have nk:=N9 (P:=l.prog) (w:=w) (base:=base) (A4 C X G q17) B
 have wZ:=Km (A4 C X G q10) B bq tJ nk
 have wW:=Kn (P:=l.prog) (w:=w) (base:=base) (B9 C X G q11) B
 have wV:=Ko (A4 C X G q12) B nk
 have Kp:=Wg (A4 C X G q13) B wV wW
 have tK:=HK (P:=l.prog) (w:=w) (base:=base) (A4 C X G q14) B
 have gI:=AR (B9 C X G q15) B u6 Kp
 have y9:=Sw (P:=l.prog) (w:=w) (base:=base) (B9 C X G q18) B
 have Fi:=Sx (P:=l.prog) (w:=w) (base:=base) (B9 C X G q22) 
 have qC:=E9 (B9 C X G q29) B y9 tK
 have xb:=Kq (B9 C X G q27) B qC
 have Fh:=Sy (B9 C X G q30) B gI
 have kz:=wX (B9 C X G q38) B AS AU Fb Fc lO u7
 have jI:=u9 (df4 C X G q37) B kz
 have qD:=Fd (B9 C X G q44) B gI
 have oR:=BX (P:=l.prog) (w:=w) (base:=base) (A4 C X G q46) B
 have qE:=Fe (A4 C X G q45) B oR
 have i8:=Ff (P:=l.prog) (w:=w) (base:=base) (A4 C X G q50) B wY
 have lP:=yp (A4 C X G q49) B g0 iH i8
 have mE:=AV (A4 C X G q48) B lP
 have oU:=BY (A4 C X G q47) B iH wZ mE
 have iO:=xa (P:=l.prog) (w:=w) (base:=base) (A4 C X G q55) 
 have qF:=Fg (P:=l.prog) (w:=w) (base:=base) (A4 C X G q52) 
 have oX:=BZ (df3 C X G q51) B Fh jI qD iO qE qF xb Fi
 have oY:=B3 (P:=l.prog) (w:=w) (base:=base) (A4 C X G q54) B
 have bh:=yq (P:=l.prog) (w:=w) (base:=base) Co B qG
 have eK:=AW (A4 C X G q59) B g6 bh i8
 have jJ:=vb (A4 C X G q60) B bh Kr eK
 have oS:=B4 (B9 C X G q58) B jJ eK
 have jW:=AX (df3 C X G q57) B FM bh oS
 have qJ:=Fj (A4 C X G q56) B bh jW
 have bC:=yr (P:=l.prog) (w:=w) (base:=base) Cp B qH
 have tM:=HL (A4 C X G q63) B bq bC
 have Fk:=Sz (B9 C X G q64) B bq bC
 have oV:=B5 (df4 C X G q65) B bq bC
 have tL:=HM (df5 C X G q66) B bq bC
 have mF:=AY (P:=l.prog) (w:=w) (base:=base) (A4 C X G q75) B lQ xf eQ
 have tP:=HN (B9 C X G q76) B tL oU tM Fk oV
 have jK:=HP (P:=l.prog) (w:=w) (base:=base) (B9 C X G q77) B
 have oW:=B6 (P:=l.prog) (w:=w) (base:=base) (df3 C X G q78) B
 have i9:=Fl (P:=l.prog) (w:=w) (base:=base) (df3 C X G q79) B
 have tQ:=HQ (B9 C X G q80) B oW i9
 have mG:=AZ (B9 C X G q82) B i9
 have qK:=Fo (P:=l.prog) (w:=w) (base:=base) (A4 C X G q83) B CT zVE kVE
 have fq:=A1 (P:=l.prog) (w:=w) (base:=base) (A4 C X G q84) B
 have qL:=Fp (P:=l.prog) (w:=w) (base:=base) (A4 C X G q85) B
 have oZ:=HR (P:=l.prog) (w:=w) (base:=base) (df3 C X G q87) B
 have o6:=B7 (P:=l.prog) (w:=w) (base:=base) (B9 C X G q88) B
 have xg:=Ks (df3 C X G q89) B fq
 have FI:=SA (P:=l.prog) (w:=w) (base:=base) (mg:=mg) pq c n1 n2
 have fu:=qI (P:=l.prog) (w:=w) (base:=base) mh tU tV B c n1 eQ
 have Wp:=fu.no
 have kP:=rB nu vm vn B c n2 fu
 have Yz:=kP.no
 have gu:=rC (P:=l.prog) (w:=w) (base:=base) nv vo vp B c n2 eQ
 have YA:=gu.no
 have vd:=A2 ya Fu Fv B c gu
 have aie:=vd.no
 have tO:=vc (P:=l.prog) (w:=w) (base:=base) pw xy xA B c n1
 have Fq:=B8 Bo H8 Ia B c kP vd gu fu tO oX mF tP qJ oY
 have A3:=Fq.no
 have gJ:=yt (B9 C X G q86) B c Fq qK CT zVE kVE CE mL
 exact aa4 (P:=l.prog) (w:=w) (base:=base) (C.func (e9 (st:=qB) Yy.l Yy.c Yy.k)) B c MK FI mC BI A3 jK xg oZ qL o6 mG tQ gJ fq
def walk{l:PySem.W.OpenLaw}{K:Params->aq}(hn:l.most=ε 63)(hdf:d.params.defaults=[])
  (hY:∀(w:World) (h:Heap),YP w h->(K w.params).In h)
  (F:∀(w:World) (mg:cX) (fa:Addr) (h:Heap),(K w.params).In h->h.Ns mainGlobals mg->mg d.name=ε (.ref fa)->
   lx (K w.params)/\∃fd:FuncData,(∀(s:Shared) (u:Value),BindsTo s fd ⟨[u],[]⟩ [("_law_script",u)])/\∀base:Heap,(bT (K w.params)).In base->base.Ns mainGlobals mg->mP l.prog w (bT (K w.params)) mg base Bp 9 fa fd ["_law_script"] (ny (bT (K w.params)) 1 Di)):
  PySem.W.WalkO q loose XP YP l.row.toRowW d [] (λf vs=>PySem.call f vs):=
 L2.Qk (n:=63) (k:=9) (x:="_law_script") (CX:=λ_=>Bp) (sp:=λw=>ny (bT (K w.params)) 1 Di) hn 0.0 hdf ⟨rfl,by decide,by decide⟩ hY F (λ_ _ a ns hl hS hT=>⟨rfl,[],[.list (ns.map PyData.int)],.bool η,⟨λ_ z=>by simp at z,hT⟩,by rw[Pe];exact .cons (.lst hS (ee.ints ns)) .nil,Sm ns hl,λv H' _ h=>by cases h;rfl⟩) λ_ _ _ _ _ z=>z
end aC
open PySem PySem.W PyProof.Rows
set_option tactic.hygienic true
set_option maxRecDepth 100000 in
set_option maxHeartbeats 0 in
theorem PySem.Challenge.cw_lotdraw_k60_desk_refused_holds : PySem.Challenge.rw_lotdraw_k60_desk_refused.Holds := by
 w_on; refine PySem.W.holds_law aC.ws1 λamW=>?_
 refine PySem.W.holds_open (q:=aC.tX) (loose:=["FORMS","check_deeds","check_words"]) (Xt:=aC.hpX) (XP:=XL aC.tX []) (Yf:=Hook.obs (kHook aC.hpK aC.hpA aC.Ot)) (Ya:=Hook.val (kHook aC.hpK aC.hpA aC.Ot)) (YP:=Hook.says (kHook aC.hpK aC.hpA aC.Ot)) (N:=13724) (Hd.Oq ?h1 rfl (λ_=>rfl) aC.Ik aC.acB aC.Tn aC.To) (Hook.of _) (Hook.keeps _) (λs e=>xl_of s (Bool.and_eq_true_iff.mp e).1) XL.keeps (by rfl) (by rfl) (by rfl) (λs e=>recFacts_of (Bool.and_eq_true_iff.mp e).2) rfl (by first | assumption | decide +kernel) (by decide +kernel) ⟨rfl,rfl,rfl,rfl,rfl,by decide +kernel⟩ ?hw ?hc
 case h1=>kernel_rfl
 case hw=>w_witness2
 k_fill
 refine aC.walk (l:=PySem.Challenge.rw_lotdraw_k60_desk_refused) rfl rfl (λw h Y=>PySem.W.kIn_of Y) ?F
 case F=>
  intro w mg fa h KX G hmg
  refine' aC.all_mk KX G hmg ?_ ?_ ?_ ?_ ?_ ?_ ?_ ?_ ?_ ?_ ?_ ?_ ?_ ?_ ?_ ?_ ?_ ?_ ?_ ?_ ?_ ?_ ?_ ?_ ?_ ?_ ?_ ?_ ?_ ?_ ?_ ?_ ?_ ?_ ?_ ?_ ?_ ?_ ?_ ?_ ?_ ?_ ?_ ?_ ?_ ?_ ?_ ?_ ?_ ?_ ?_ ?_ ?_ ?_ ?_ ?_ ?_ ?_ ?_ ?_ ?_ ?_ ?_ ?_ ?_ ?_ ?_ ?_ ?_ ?_ ?_ ?_ ?_ ?_ ?_ ?_ ?_ ?_ ?_ ?_ ?_ ?_ ?_ ?_ ?_ ?_ ?_ ?_ ?_ ?_ ?_ ?_ ?_ ?_ ?_ ?_ ?_ ?_ ?_ ?_ ?_ ?_ ?_ ?_ ?_ ?_ ?_ ?_
  all_goals try first | (with_reducible rfl) | exact ⟨_,_,_,_,_,_,_,_,_,by k_is,by k_is,by k_is,by kernel_rfl,by kernel_rfl,by kernel_rfl⟩ | (refine' ⟨?x,?y,?z,?t⟩; (case x=>k_is); (case y=>k_is); (case z=>k_is); (case t=>k_is)) | exact ⟨_,_,_,_,_,_,_,_,_,_,by k_is,by k_is,by k_is,by k_is⟩ | k_is
  all_goals kernel_rfl
end
