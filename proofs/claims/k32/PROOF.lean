import PyProof.Rows.All
import Wide.All
import OpenK.AllK
import Wide.FinOn
import Lean
import PyProof.EqAt
import PyProof.EqKinds
import PyProof.TupleCall
import PyProof.NeKinds
import PyProof.Rows.Range3
import PyProof.FitsBits
import PyProof.StationsW
import PyProof.NsDelKeeps
import PyProof.Rows.CatchOwn
import KE.KTryMore
import PyProof.ExcArgsOwn
import PyProof.ExcAttrAll.ValueError
import OpenK.KOwn
import PyProof.ZipIter
import PyProof.WalksEnum
import PyProof.EnumMake
import KE.KIntText
import PyProof.Conv_int
import PyProof.StrWalks
import PyProof.StrLawsFirst
import KE.KLam
import KE.KNestM
import KE.KRevIter
import PyProof.ListRange
import PyProof.Rows.SortWalk
import PyProof.Rows.SetFrom
import PyProof.FactsAll.set
import PyProof.Rows.SeqMore
import PyProof.FString
import PySem.Challenge.RW_mendfield_k32_code_by_repeating
open Array renaming append_assoc→qy,length_toList→wm,getElem?_eq_some_iff→Qk,toList_append→ν
open Bool renaming and_eq_true→dB,false_ne_true→eC,or_true→gU,true_and→i8,and_true→jx,false_eq_true→n8,false_and→qA,or_false→wq,eq_iff_iff→wz,not_false→AW,not_true→AX,true_or→AY,false_or→AZ
open Classical renaming byContradiction→Z8
open False renaming elim→eB
open ForInStep renaming yield→ES
open Int renaming toNat_natCast→eD,natAbs_natCast→iH,emod_nonneg→jY,emod_lt_of_pos→jZ,toNat_of_nonneg→qP,natCast_emod→wH,toNat→wI,natCast_mul→E8,natCast_nonneg→Qe,zero_add→Qr,natCast_add→Qu,fdiv_eq_ediv_of_nonneg→Z3
open List renaming replicate→aw,getD_eq_getElem?_getD→aT,getElem?_eq_getElem→aU,range→bo,length_map→bK,getElem?_map→bV,mem_cons→cE,mem_map→cI,length_replicate→cK,mem_append→cO,all_eq_true→cS,map_cons→dh,all_cons→di,size_toArray→dn,mem_range→dz,mem_append_right→dA,map_map→dD,append_assoc→dM,zipWith→dS,length_range→eE,mem_append_left→eJ,getElem_mem→eY,lookup_cons→fg,getElem?_eq_none→fh,length_cons→fP,append_nil→fQ,mem_singleton→fS,mem_cons_of_mem→gz,length_append→gA,length_set→gR,getElem?_replicate→iF,map_append→iG,getElem?_eq_some_iff→i7,set_cons_zero→i9,set_cons_succ→jc,nodup_cons→jU,map_nil→jV,getElem_of_mem→jW,getElem?_range→jX,lookup→kL,not_mem_nil→kO,cons.inj→kP,all_map→kQ,map_replicate→kR,mem_filter→mH,mem_cons_self→mI,length_singleton→mK,perm_append_comm→mL,mem_replicate→mM,getElem?_set_ne→nU,replicate_succ→nX,nil_append→nY,getElem?_mapIdx→oa,map_congr_left→og,of_mem_zip→qE,length_take→qF,getElem?_append_right→qG,mem_of_getElem?→qH,flatten_cons→qJ,foldl_cons→qK,all_nil→qN,getElem_map→qQ,getElem?_append_left→wo,cons_append→wB,length_zipWith→wJ,getElem?_zipWith→wK,getElem?_cons_zero→wL,getElem?_cons_succ→wM,filter_cons_of_neg→wO,filterMap_cons→Ar,getElem?_set_self→As,length_drop→Az,append_eq_nil_iff→AG,take_add_one→AH,map→AJ,mem_or_eq_of_mem_set→AK,ext_getElem→AL,range_succ→AM,filter_cons_of_pos→AQ,length_nil→AU,cons.injEq→AV,count_cons→A6,length→EI,take_length→EX,append_inj→EY,set_set→EZ,take_of_length_le→E1,mem_of_mem_drop→E3,mem_of_mem_take→E4,ext_getElem?→E5,map_zipWith→E6,mem_map_of_mem→E7,map_set→E9,length_zip→Fb,foldl_append→Fc,filter_congr→Fd,contains_iff_mem→Fe,getElem_range→Fg,Sublist.refl→Qm,filter_append→Qn,drop_eq_nil_of_le→Qp,zipWith_map→Qs,sum_cons→Qv,zipWith_cons_cons→Qw,length_filter_le→Qy,map_singleton→Qz,mem_filterMap→Z2,set_eq_of_length_le→ε,eq_nil_iff_forall_not_mem→ζ,filter_eq_self→η,range_succ_eq_map→θ,mem_of_find?_eq_some→ι,getElem?_take→μ,zip_cons_cons→ξ,sublist_cons_self→ο,findIdx_lt_length_of_exists→π,findIdx?_eq_some_iff_getElem→ρ,findIdx?_eq_none_iff→τ,pairwise_iff_getElem→υ,countP_eq_length_filter→χ
open Nat renaming le_refl→bB,lt_of_lt_of_le→cy,ne_of_lt→dQ,le_trans→eA,lt_irrefl→fM,lt_of_le_of_lt→gS,shiftLeft_eq→jw,mul_comm→kM,testBit_xor→kN,xor_zero→nZ,zero_xor→n6,le_of_lt→qw,zero_le→qD,xor_assoc→qL,mul_assoc→qM,mod_lt→qO,two_pow_pos→wt,pow_succ→wu,not_lt→wC,mul_mod→wD,mod_eq_of_lt→wF,mod_add_mod→wG,lt_succ_self→Av,pow_le_pow_right→AB,eq_of_testBit_eq→AD,testBit_zero→AE,xor_self→AF,le_of_succ_le→AN,lt_or_ge→AO,le_of_eq→EH,le_of_not_lt→EL,log2_lt→EM,testBit_lt_two_pow→EN,testBit_succ→EO,strongRecOn→ER,min_self→E2,succ.inj→Fh,one_shiftLeft→Fj,ne_of_gt→Qc,add_comm→Qg,xor_comm→Qh,testBit_and→Qi,add_assoc→Qo,lt_succ_of_lt→Qq,mod_mod→Qt,zero_add→Qx,testBit_eq_decide_div_mod_eq→Z4,shiftLeft_xor_distrib→Z5,mul_lt_mul_right→Z6,testBit_shiftLeft→Z7,shiftRight_eq_div_pow→Z9
open Ne renaming symm→dR
open Option renaming some.inj→cP,getD_none→qI,getD_some→wA,some.injEq→wN,isSome_iff_exists→Aw,map_eq_some_iff→AI,map_some→AR,map_none→AS,isNone→Fl,bind_some→γ
open Or renaming inl→au,inr→bj
open PyProof renaming Rows.callWith_type1→Au
open PySem renaming Heap.lt_size→bF,Value.ref→cu,Heap.get?_push_of_some→eM,PassesOwn.never→fv,Heap.get?_push_size→fO,Str.empty→jT,Str.ofString→kS,Builtin.bitXor→mJ,Value.int→nR,Value.none→nS,Builtin.bitAnd→nV,Heap.get?_update_other→nW,Heap.size_push→qC,Obj.mapSeq→AA,Value.bool→EG,Heap.get?_update_self→EJ,SeqAt.EqAt→EK,Obj.data_mapFields→ET,Value.builtin→EU,Value.type.inj→EV,Builtin.Str.strSliceIndices→EW,NameKind.cell→Ff,Builtin.List.listTooLong→Qf,Obj.isFreed_of_fields→Qj,Heap.MadeExcOf→Ql,Calls.Name_function_global→Z1
open Sum renaming inl→qu,inr→qv
open True renaming intro→qB
set_option Elab.async false
set_option linter.all false
set_option maxRecDepth 100000
local macro_rules | `(tactic| omega)=>`(tactic| lia)
namespace L2
open PySem PySem.Spec PyProof.Rows
noncomputable abbrev Key:=Sum Int Str
noncomputable def QB:Key->Value->Bool
 | .inl k,v=>Value.isInt k v
 | .inr x,v=>Value.isStrOf x v
noncomputable def ω(w:World):Key->Int
 | .inl k=>hashInt k
 | .inr x=>hashStr w x
theorem kT:∀{k:Key} {v:Value},QB k v=true->(∃i t,k=qu i/\v=nR i t)\/(∃x t,k=qv x/\v=Value.str x t)
 | .inl i,v,h=>by
  obtain⟨t,e⟩:=Value.isInt_shape (k:=i) (v:=v) h
  exact .inl ⟨i,t,rfl,e⟩
 | .inr x,v,h=>by
  obtain⟨t,e⟩:=Value.isStrOf_shape (x:=x) (v:=v) h
  exact .inr ⟨x,t,rfl,e⟩
theorem Γ(a b:Int):decide ((qu a:Key)=qu b)=(a==b):=by
 by_cases e:a=b
 ·subst e;simp
 ·have h:¬ (qu a:Key)=qu b:=λq=>e (Sum.inl.inj q)
  rw[decide_eq_false h]
  exact(beq_eq_false_iff_ne.mpr e).symm
theorem Δ(a b:Str):decide ((qv a:Key)=qv b)=decide (a=b):=by
 by_cases e:a=b
 ·subst e;simp
 ·have h:¬ (qv a:Key)=qv b:=λq=>e (Sum.inr.inj q)
  rw[decide_eq_false h,decide_eq_false e]
theorem Θ(a:Int)(b:Str):decide ((qu a:Key)=qv b)=false:=decide_eq_false (λq=>nomatch q)
theorem Λ(a:Str)(b:Int):decide ((qv a:Key)=qu b)=false:=decide_eq_false (λq=>nomatch q)
noncomputable def QC(prog:Program)(w:World):PySem.KeyKind prog w Key where
 is:=QB
 hash:=ω w
 inj:=λv a b ha hb=>by
  rcases kT ha with⟨i,t,rfl,rfl⟩ | ⟨x,t,rfl,rfl⟩
  ·rcases kT hb with⟨j,u,rfl,e⟩ | ⟨y,u,rfl,e⟩
   ·injection e with e1 _;rw[e1]
   ·exact nomatch e
  ·rcases kT hb with⟨j,u,rfl,e⟩ | ⟨y,u,rfl,e⟩
   ·exact nomatch e
   ·injection e with e1 _;rw[e1]
 byValue:=λk v h=>by
  rcases kT h with⟨i,t,rfl,rfl⟩ | ⟨x,t,rfl,rfl⟩<;>rfl
 pyHash:=λhv h=>by
  rcases kT hv with⟨i,t,rfl,rfl⟩ | ⟨x,t,rfl,rfl⟩
  ·exact wpAny_pyHash_int h
  ·exact wpAny_pyHash_str h
 eqBool:=λhu hv h=>by
  rcases kT hu with⟨i,t,rfl,rfl⟩ | ⟨x,t,rfl,rfl⟩
  ·rcases kT hv with⟨j,u,rfl,rfl⟩ | ⟨y,u,rfl,rfl⟩
   ·rw[Γ]at h;exact wpAny_eqBool_int h
   ·rw[Θ]at h;exact SeqAt.EqAt.int_str i t y u _ _ _ _ h
  ·rcases kT hv with⟨j,u,rfl,rfl⟩ | ⟨y,u,rfl,rfl⟩
   ·rw[Λ]at h;exact SeqAt.EqAt.str_int x t j u _ _ _ _ h
   ·rw[Δ]at h;exact wpAny_eqBool_str h
 «strs»:=λk x t v h=>by
  rcases kT h with⟨i,u,rfl,e⟩ | ⟨y,u,rfl,e⟩
  ·exact nomatch e
  ·injection e with e1 _
   subst e1
   cases v<;>rfl
end L2
namespace L2
open PySem PySem.Spec PyProof.Rows
inductive V where
 | aj | bl (b:Bool) | int (i:Int) | str (x:Str) | A8 (b:Array UInt8) | oh (b:UInt64) | ref (a:Addr) | ty (n:String)
 deriving DecidableEq
noncomputable def RelV:V->Value->Prop
 | .aj,u=>u=nS
 | .bl b,u=>u=EG b
 | .int i,u=>∃t,u=nR i t
 | .str x,u=>∃t,u=Value.str x t
 | .A8 b,u=>∃t,u=Value.bytes b t
 | .oh b,u=>∃t,u=Value.float b t
 | .ref a,u=>u=cu a
 | .ty n,u=>u=Value.type n
noncomputable abbrev Vals:List V->List Value->Prop:=Paired RelV
theorem Vals.length{xs:List V}{us:List Value}(r:Vals xs us):xs.length=us.length:=Paired.length r
theorem Vals.get:∀{xs:List V} {us:List Value} {i:Nat} {x:V},Vals xs us->xs[i]?=some x->∃u,us[i]?=some u/\RelV x u
 | _,_,_,_,.nil,e=>by simp at e
 | _,_,0,_,.cons r _,e=>by simp at e;subst e;exact⟨_,rfl,r⟩
 | _,_,i+1,x,.cons _ t,e=>by
  obtain⟨u,h1,h2⟩:=Vals.get (i:=i) (x:=x) t (by simpa using e)
  exact⟨u,by simpa using h1,h2⟩
theorem Vals.set{x:V}{u:Value}(r:RelV x u):∀{xs:List V} {us:List Value} (i:Nat),Vals xs us->Vals (xs.set i x) (us.set i u)
 | _,_,_,.nil=>.nil
 | _,_,0,.cons _ t=>.cons r t
 | _,_,i+1,.cons q t=>.cons q (Vals.set r i t)
theorem Vals.append:∀{xs ys:List V} {us ws:List Value},Vals xs us->Vals ys ws->Vals (xs++ys) (us++ws)
 | _,_,_,_,.nil,s=>s
 | _,_,_,_,.cons r t,s=>.cons r (Vals.append t s)
theorem Vals.take:∀{xs:List V} {us:List Value} (n:Nat),Vals xs us->Vals (xs.take n) (us.take n)
 | _,_,0,_=>.nil
 | _,_,_+1,.nil=>.nil
 | _,_,n+1,.cons r t=>.cons r (Vals.take n t)
theorem Vals.drop:∀{xs:List V} {us:List Value} (n:Nat),Vals xs us->Vals (xs.drop n) (us.drop n)
 | _,_,0,r=>r
 | _,_,_+1,.nil=>.nil
 | _,_,n+1,.cons _ t=>Vals.drop n t
noncomputable def j5:Option V->Option Value->Prop
 | some v,some u=>RelV v u
 | none,none=>True
 | _,_=>False
noncomputable def KV{κ:Type}:List (κ × V)->List (κ × Value)->Prop:=Paired λ(p:κ × V) (q:κ × Value)=>p.1=q.1/\RelV p.2 q.2
noncomputable def kV:Key->V
 | .inl i=>.int i
 | .inr x=>.str x
inductive HO where
 | lst (xs:List V)
 | tup (xs:List V)
 | dK (da:List (Key × V)) | dT (da:List (List Key × V))
 | set (S:Int->Bool) (n:Nat)
 | ins (C dx:Addr) (fs:List (Str × V))
 | own (x:Addr)
 | xd (fs:List (Str × V))
 | met (f x:Addr)
 | wQ (lo hi:Int)
 | bt (o:Obj) (u:HO)
 | cX (ps:Array Value)
 | ext (φ:Heap->Prop)
noncomputable abbrev Hp:=Addr->Option HO
noncomputable def upd(H:Hp)(a:Addr)(o:HO):Hp:=λb=>if b=a then some o else H b
theorem bG{H:Hp}{a:Addr}{o:HO}:upd H a o a=some o:=by unfold upd;rw[if_pos rfl]
theorem aQ{H:Hp}{a b:Addr}{o:HO}(h:b≠a):upd H a o b=H b:=by unfold upd;rw[if_neg h]
theorem dj{H:Hp}{a b:Addr}{o:HO}(h:H a=some o)(h':H b=none):a≠b:=by
 intro e;subst e;rw[h]at h';cases h'
section
variable(P:Program)(w:World)
noncomputable def dq(H:Hp)(h:Heap)(a:Addr):HO->Prop
 | .lst xs=>xs.length<=sizeLine/\∃(its:List Value) (n:Nat),Vals xs its/\h.get? a=some { cls:=.type "list",data:=.seq its.toArray n }
 | .tup xs=>xs.length<=sizeLine/\∃its:List Value,Vals xs its/\IsTup h a its.toArray
 | .dK da=>da.length<=sizeLine/\(a==sysModules)=false/\∃vs,KV da vs/\h.DictOf (QC P w) a vs
 | .dT da=>da.length<=sizeLine/\(a==sysModules)=false/\∃xs:List (List Key × Addr × Value),
   Paired (λ(p:List Key × V) (q:List Key × Addr × Value)=>p.1=q.1/\H q.2.1=some (.tup (p.1.map kV))/\RelV p.2 q.2.2) da xs /\
   ∃o es ep,h.get? a=some o/\o.ExactDict/\o.data=.dict es ep/\es.toList=xs.map (entryOfKey (tupleKind (QC P w)))/\(xs.map (·.1)).Nodup
 | .set S n=>h.SetOf (intKind P w) a S n
 | .ins C dx fs=>H dx=some (.own a)/\fs.length<=1000/\dx≠a/\h.get? a=some (PySem.W.instObj C dx) /\
   ∃mA,h.Ns1 dx mA/\(∀f,j5 (fs.lookup f) (mA f))/\PySem.Within mA (fs.map (·.1))
 | .own _=>∃o,h.get? a=some o
 | .xd fs=>∃mA,h.Ns1 a mA/\∀f,j5 (fs.lookup f) (mA f)
 | .wQ lo hi=>∃t u v,h.get? a=some { cls:=.type "range",data:=.fields #[.int lo t,.int hi u,.int 1 v] }
 | .bt o u=>h.get? a=some o/\dq H h a u
 | .cX ps=>h.get? a=some { cls:=.none,data:=.fields ps }/\TriplesOk ps.toList/\∀pos cv,codeAmong pos ps.toList=some cv->∃c φ,cv=.ref c/\H c=some (.ext φ)/\∀h',φ h'->∃q,h'.CodeRec (.ref c) q
 | .met f x=>h.get? a=some (PySem.W.methodObj (.ref f) (.ref x))
 | .ext φ=>φ h/\(∃o,h.get? a=some o)/\∀h1 h2:Heap,φ h1->(∀b o,(b=a\/H b=some (.own a))->h1.get? b=some o->h2.get? b=some o)->φ h2
noncomputable def cA(H:Hp)(h:Heap):Prop:=∀a o,H a=some o->dq P w H h a o
end
section
variable{P:Program}{w:World}{H H':Hp}{h h':Heap}{a:Addr}{o:HO}
theorem dq.lt(x:dq P w H h a o):a<h.objs.size:=by
 cases o with
 | lst xs=>obtain⟨_,_,_,_,e⟩:=x;exact bF e
 | tup xs=>obtain⟨_,_,_,p⟩:=x;exact p.lt
 | dK da=>obtain⟨_,_,_,_,o,_,_,e,_⟩:=x;exact bF e
 | dT da=>obtain⟨_,_,_,_,o,_,_,e,_⟩:=x;exact bF e
 | set S n=>obtain⟨o,_,_,_,e,_⟩:=x;exact bF e
 | ins C dx fs=>obtain⟨_,_,_,e,_⟩:=x;exact bF e
 | own y=>obtain⟨_,e⟩:=x;exact bF e
 | xd fs=>obtain⟨_,⟨_,_,_,e,_⟩,_⟩:=x;exact bF e
 | wQ lo hi=>obtain⟨_,_,_,e⟩:=x;exact bF e
 | bt ob u=>obtain⟨e,_⟩:=x;exact bF e
 | cX ps=>exact bF (show h.get? a=some _ from x.1)
 | met f y=>exact bF (show h.get? a=some _ from x)
 | ext φ=>obtain⟨_,⟨_,e⟩,_⟩:=x;exact bF e
theorem Paired.Fm{α β:Type}{F G:α->β->Prop}:∀{l₁:List α} {l₂:List β},Paired F l₁ l₂->(∀a b,F a b->G a b)->Paired G l₁ l₂
 | _,_,.nil,_=>.nil
 | _,_,.cons r t,f=>.cons (f _ _ r) (Paired.Fm t f)
theorem dq.gW(x:dq P w H h a o)(k:∀b u,(b=a\/H b=some (.own a))->h.get? b=some u->h'.get? b=some u)
  (ho:∀b,H b=some (.own a)->H' b=some (.own a)) (ht:∀b xs,H b=some (.tup xs)->H' b=some (.tup xs)) (hx:∀b φ,H b=some (.ext φ)->H' b=some (.ext φ)):dq P w H' h' a o:=by
 induction o with
 | lst xs=>obtain⟨z,its,n,r,e⟩:=x;exact⟨z,its,n,r,k _ _ (.inl rfl) e⟩
 | tup xs=>obtain⟨z,its,r,ob,e,c⟩:=x;exact⟨z,its,r,ob,k _ _ (.inl rfl) e,c⟩
 | dK da=>obtain⟨z,y,vs,r,ob,es,ep,e,c⟩:=x;exact⟨z,y,vs,r,ob,es,ep,k _ _ (.inl rfl) e,c⟩
 | dT da =>
  obtain⟨z,y,xs,r,ob,es,ep,e,c⟩:=x
  exact⟨z,y,xs,Paired.Fm r λp q z=>⟨z.1,ht _ _ z.2.1,z.2.2⟩,ob,es,ep,k _ _ (.inl rfl) e,c⟩
 | set S n=>obtain⟨ob,es,ep,t,e,c⟩:=x;exact⟨ob,es,ep,t,k _ _ (.inl rfl) e,c⟩
 | ins C dx fs =>
  obtain⟨d,z,ne,e,mA,⟨od,es,ep,e2,c⟩,r⟩:=x
  exact⟨ho _ d,z,ne,k _ _ (.inl rfl) e,mA,⟨od,es,ep,k _ _ (.inr d) e2,c⟩,r⟩
 | own y=>obtain⟨ob,e⟩:=x;exact⟨ob,k _ _ (.inl rfl) e⟩
 | xd fs=>obtain⟨mA,⟨od,es,ep,e,c⟩,r⟩:=x;exact⟨mA,⟨od,es,ep,k _ _ (.inl rfl) e,c⟩,r⟩
 | wQ lo hi=>obtain⟨t,u,v,e⟩:=x;exact⟨t,u,v,k _ _ (.inl rfl) e⟩
 | bt ob u ih=>obtain⟨e,q⟩:=x;exact⟨k _ _ (.inl rfl) e,ih q⟩
 | cX ps =>
  obtain⟨e,t,c⟩:=x
  refine⟨k a _ (.inl rfl) e,t,λpos cv q=>?_⟩
  obtain⟨d,φ,e1,e2,e3⟩:=c pos cv q
  exact⟨d,φ,e1,hx _ _ e2,e3⟩
 | met f y =>
  have e:h.get? a=some (PySem.W.methodObj (.ref f) (.ref y)):=x
  show h'.get? a=some (PySem.W.methodObj (.ref f) (.ref y))
  exact k a _ (.inl rfl) e
 | ext φ=>obtain⟨p,⟨o,e⟩,st⟩:=x;exact⟨st _ _ p λb o hb q=>k _ _ hb q,⟨o,k _ _ (.inl rfl) e⟩,λh1 h2 p1 kk=>st h1 h2 p1 λb o hb q=>kk b o (hb.imp id (ho b)) q⟩
theorem cA.lt(x:cA P w H h)(e:H a=some o):a<h.objs.size:=(x a o e).lt
theorem cA.fresh(x:cA P w H h)(e:h.objs.size<=a):H a=none:=by
 cases q:H a with
 | none=>rfl
 | some u=>exact absurd (cy (x.lt q) e) (fM _)
theorem cA.kept(x:cA P w H h)(k:∀b u,h.get? b=some u->h'.get? b=some u):cA P w H h':=λa o e =>
 (x a o e).gW (λb u _ q=>k b u q) (λ_ q=>q) (λ_ _ q=>q) λ_ _ q=>q
theorem cA.laid(x:cA P w H h)(k:∀b u,h.get? b=some u->h'.get? b=some u)(hp:h.objs.size<=a)(new:dq P w (upd H a o) h' a o):cA P w (upd H a o) h':=λb u e=>by
 have hn:=x.fresh hp
 by_cases hb:b=a
 ·subst hb;rw[bG]at e;cases e;exact new
 ·rw[aQ hb]at e
  exact(x b u e).gW (λc v _ q=>k c v q) (λc q=>by rw[aQ (dj q hn)];exact q) (λc xs q=>by rw[aQ (dj q hn)];exact q) λc xs q=>by rw[aQ (dj q hn)];exact q
end
noncomputable def Rd(H:Hp)(a:Addr)(u:HO):Prop:=H a=some u\/∃o,H a=some (.bt o u)
theorem Rd.ok{P:Program}{w:World}{H:Hp}{h:Heap}{a:Addr}{u:HO}(r:Rd H a u)(x:cA P w H h):dq P w H h a u:=by
 rcases r with r | ⟨o,r⟩
 ·exact x a u r
 ·obtain⟨_,q⟩:=x a _ r
  exact q
noncomputable def Ba:Option HO->Prop
 | some (.lst _)=>True
 | some (.dK _)=>True
 | some (.dT _)=>True
 | some (.set _ _)=>True
 | some (.ins _ _ _)=>True
 | _=>False
section
variable{P:Program}{w:World}{H:Hp}{h h':Heap}{x e:Addr}{o':HO}
theorem cA.write(ok:cA P w H h)(mu:Ba (H x))(he:e=x\/H e=some (.own x))(k:∀b u,b≠e->h.get? b=some u->h'.get? b=some u)(qR:∃u,h'.get? e=some u)
  (new:dq P w (upd H x o') h' x o'):cA P w (upd H x o') h':=λb u q=>by
 have QD:∀c y,H c=some (.own y)->c≠x:=λc y r z=>by subst z;rw[r]at mu;exact mu
 have Ξ:∀c xs,H c=some (.tup xs)->c≠x:=λc xs r z=>by subst z;rw[r]at mu;exact mu
 by_cases hb:b=x
 ·subst hb;rw[bG]at q;cases q;exact new
 ·rw[aQ hb]at q
  by_cases oi:b=e
  ·have q':H b=some (.own x):=by
    rcases he with z | z
    ·exact absurd (oi.trans z) hb
    ·rw[oi];exact z
   rw[q]at q';cases q'
   obtain⟨v,hv⟩:=qR
   exact⟨v,by rw[oi];exact hv⟩
  ·refine(ok b u q).gW (λc v hc r=>k c v ?_ r) (λc r=>by rw[aQ (QD c b r)];exact r) (λc xs r=>by rw[aQ (Ξ c xs r)];exact r) λc φ r=>by rw[aQ (λz=>by rw[z]at r;rw[r]at mu;exact mu)];exact r
   rcases hc with rfl | hc
   ·exact oi
   ·rintro rfl
    rcases he with z | z
    ·exact QD c b hc z
    ·rw[hc]at z;cases z;exact hb rfl
end
structure Un(fs ex:List Addr)(H H':Hp)(h h':Heap):Prop where
 keep:∀b o,h.get? b=some o->H b=none->b ∉ fs->b ∉ ex->h'.get? b=some o
 slot:∀b o,h.get? b=some o->H b=none->b∈fs->b ∉ ex->∃sl,h'.get? b=some { o with slots:=sl }
 free:∀b o,h.get? b=some o->H b=none->b ∉ ex->H' b=none
 there:∀b o,h.get? b=some o->b ∉ ex->∃o',h'.get? b=some o'
 gB:∀b xs,H b=some (.tup xs)->H' b=some (.tup xs)
 fU:∀b o u,H b=some (.bt o u)->H' b=some (.bt o u)
 fi:∀b ps,H b=some (.cX ps)->∃more,H' b=some (.cX (ps++more))
section
variable{fs fs' ex ex':List Addr}{H H1 H2:Hp}{h h1 h2 h':Heap}{a x e:Addr}{o:HO}
theorem Un.any(u:Un fs ex H H1 h h1){b:Addr}{ob:Obj}(q:h.get? b=some ob)(n:H b=none)(hx:b ∉ ex):∃sl,h1.get? b=some { ob with slots:=sl }:=by
 by_cases hb:b∈fs
 ·exact u.slot b ob q n hb hx
 ·exact⟨ob.slots,u.keep b ob q n hb hx⟩
theorem Un.kept(k:∀b u,h.get? b=some u->h'.get? b=some u):Un fs ex H H h h' :=
 ⟨λb ob q _ _ _=>k b ob q,λb ob q _ _ _=>⟨ob.slots,k b ob q⟩,λ_ _ _ n _=>n,λb ob q _=>⟨ob,k b ob q⟩,λ_ _ q=>q,λ_ _ _ q=>q,λ_ ps q=>⟨#[],by rw[q];simp⟩⟩
theorem Un.refl:Un fs ex H H h h:=Un.kept λ_ _ q=>q
theorem Un.laid(k:∀b u,h.get? b=some u->h'.get? b=some u)(hp:h.objs.size<=a)(hn:H a=none):Un fs ex H (upd H a o) h h' where
 keep:=λb u q _ _ _=>k b u q
 slot:=λb u q _ _ _=>⟨u.slots,k b u q⟩
 free:=λb u q n _=>by rw[aQ (dQ (cy (bF q) hp))];exact n
 there:=λb u q _=>⟨u,k b u q⟩
 gB:=λb xs q=>by rw[aQ (dj q hn)];exact q
 fU:=λb u xs q=>by rw[aQ (dj q hn)];exact q
 fi:=λb ps q=>⟨#[],by rw[aQ (dj q hn),q];simp⟩
theorem Un.write(mu:Ba (H x))(he:e=x\/H e=some (.own x))(k:∀b u,b≠e->h.get? b=some u->h'.get? b=some u)(qR:∃u,h'.get? e=some u):Un fs ex H (upd H x o) h h':=by
 have hx:∀b,H b=none->b≠x:=λb n z=>by subst z;rw[n]at mu;exact mu
 have hb:∀b,H b=none->b≠e:=λb n z=>by
  subst z
  rcases he with r | r
  ·exact hx b n r
  ·rw[n]at r;cases r
 have hm:∀b u,H b=some u->¬ Ba (some u)->b≠x:=λb u q nm z=>by subst z;rw[q]at mu;exact nm mu
 refine⟨λb u q n _ _=>k b u (hb b n) q,λb u q n _ _=>⟨u.slots,k b u (hb b n) q⟩,λb u q n _=>by rw[aQ (hx b n)];exact n,λb u q _=>?_,
  λb xs q=>by rw[aQ (hm b _ q λz=>z)];exact q,λb u xs q=>by rw[aQ (hm b _ q λz=>z)];exact q,λb ps q=>⟨#[],by rw[aQ (hm b _ q λz=>z),q];simp⟩⟩
 by_cases oi:b=e
 ·subst oi;exact qR
 ·exact⟨u,k b u oi q⟩
end
noncomputable def Bb(h:Heap)(H:Hp):List Addr:=(bo h.objs.size).filter λa=>(H a).isSome
noncomputable def j6(h:Heap)(H:Hp):Heap:=PySem.W.hideAll h (Bb h H)
theorem Φ(h:Heap)(H:Hp):(j6 h H).objs.size=h.objs.size:=PySem.W.hideAll_size _ _
theorem Ψ{h:Heap}{H:Hp}{b:Addr}{o:Obj}(e:h.get? b=some o)(n:H b=none):(j6 h H).get? b=some o :=
 PySem.W.hideAll_get _ e λhm=>by
  have q:(H b).isSome=true:=(mH.mp hm).2
  rw[n]at q;simp at q
theorem Ω{h:Heap}{H:Hp}{b:Addr}{o:Obj}(e:(j6 h H).get? b=some o):h.get? b=some o/\H b=none:=by
 have e':h.get? b=some o:=PySem.W.of_hideAll (Bb h H) e
 refine⟨e',?_⟩
 cases q:H b with
 | none=>rfl
 | some x =>
  have hm:b∈Bb h H:=mH.mpr ⟨dz.mpr (bF e'),by simp[q]⟩
  have z:(j6 h H).get? b=none:=PySem.W.hideAll_none (Bb h H) hm
  rw[z]at e;cases e
end L2
namespace L2
open PySem PySem.Spec PyProof.Rows
structure Mod(K:PySem.W.Frag)(mg:Str->Option Value)(base:Heap):Prop where
 j7:K.In base
 glob:base.Ns mainGlobals mg
 blt:∃mb,base.Ns builtinsNs mb/\∀x:Str,x≠"__name__"->mb x=bootBuiltins x
 nolimit:base.NoLimit
structure Cx where
 prog:Program
 w:World
 K:PySem.W.Frag
 mg:Str->Option Value
 base:Heap
 A:Around
 N:List Str
 ck:Shared
 je:Hp
 env:Env
 outer:List Env
 stack:List Env
 ex:List Addr
 fn:Str->Bool
 calm:Bool
 pn:List (Addr × Obj)
 xe:Value->Shared->Prop
noncomputable def de(l:List Env):List Addr:=l.filterMap (·.frame)
noncomputable abbrev Cx.fs(X:Cx):List Addr:=de X.outer
noncomputable def j8(sc:Scope)(x:Str):Prop:=sc.names.lookup x=some .local\/sc.names.lookup x=some .cell\/sc.names.lookup x=some .free
noncomputable def Loc(sc:Scope)(x:Str):Prop:=sc.names.lookup x=some .local\/sc.names.lookup x=some .cell
noncomputable def cS1(env:Env)(h:Heap)(m:Str->Option Value)(x:Str)(u:Value):Prop :=
 (env.kindOf x=some .local/\m x=some u)\/((env.kindOf x=some .cell\/env.kindOf x=some .free)/\∃c,env.cells.lookup x=some c/\h.IsCell c (some u))
structure Cx.Ok(X:Cx):Prop where
 mod:Mod X.K X.mg X.base
 kind:X.env.scope.kind=.function
 glob:X.env.globals=mainGlobals
 blt:X.env.builtins=builtinsNs
 above:X.ck.heap.objs.size<=X.env.locals
 inj:∀x y c,X.env.cells.lookup x=some c->X.env.cells.lookup y=some c->x=y
 has:∀x,(X.env.kindOf x=some .cell\/X.env.kindOf x=some .free)->∃c,X.env.cells.lookup x=some c
 kU:∀x c,X.fn x=true->X.env.cells.lookup x=some c->X.ck.heap.objs.size<=c
 hd:X.calm=true->X.A.handled=none
 frames:X.A.frames=some X.stack
 oj:X.stack=X.outer\/(X.stack=X.env::X.outer/\X.env.frame=some X.env.locals)
 om:∀b∈X.ex,b≠X.env.locals/\∀x c,X.env.cells.lookup x=some c->c≠b
 bs:∀b o,X.base.get? b=some o->X.ck.heap.get? b=some o/\X.je b=none
 gX:X.base.objs.size<=X.ck.heap.objs.size
 mO:∀b o,X.base.get? b=some o->b ∉ X.ex
 mP:∀b∈X.ex,b ∉ X.fs
 eZ:X.ck.heap.FunFrames X.base X.outer
 gY:∀b∈X.fs,X.je b=none
structure Inv(X:Cx)(pins:List (Addr × Obj))(σ:List (Option V))(H:Hp)(s:Shared):Prop where
 ok:X.Ok
 os:s.os=X.ck.os
 bare:AllBare s.gens
 base:Un X.fs X.ex X.je H X.ck.heap s.heap
 loc:∃m,s.heap.Ns X.env.locals m/\∀(i:Nat) (x:Str) (v:V),X.N[i]?=some x->σ[i]?=some (some v)->j8 X.env.scope x->∃u,RelV v u/\cS1 X.env s.heap m x u
 cell:∀x c,X.env.cells.lookup x=some c->∃v,s.heap.IsCell c v
 free:H X.env.locals=none
 eT:∀x c,X.env.cells.lookup x=some c->H c=none
 pin:∀p∈X.pn++pins,s.heap.get? p.1=some p.2/\H p.1=none/\p.1≠X.env.locals/\p.1 ∉ X.fs/\∀v,p.2.data≠.cell v
 aA:cA X.prog X.w H s.heap
 len:σ.length=X.N.length
section
variable{X:Cx}{pins:List (Addr × Obj)}{σ:List (Option V)}{H H':Hp}{s:Shared}{h':Heap}
theorem Cx.Ok.cT1(ok:X.Ok){b:Addr}{o:Obj}(e:X.base.get? b=some o):b ∉ X.fs:=λhb=>by
 have:=(ok.eZ.mem hb).1
 rw[e]at this;cases this
theorem Inv.bs(I:Inv X pins σ H s):∀b o,X.base.get? b=some o->s.heap.get? b=some o/\H b=none:=λb o e =>
 ⟨I.base.keep b o (I.ok.bs b o e).1 (I.ok.bs b o e).2 (I.ok.cT1 e) (I.ok.mO b o e),I.base.free b o (I.ok.bs b o e).1 (I.ok.bs b o e).2 (I.ok.mO b o e)⟩
theorem Inv.bk(I:Inv X pins σ H s):∀b o,X.base.get? b=some o->s.heap.get? b=some o:=λb o e=>(I.bs b o e).1
theorem Inv.mod(I:Inv X pins σ H s):Mod X.K X.mg X.base:=I.ok.mod
theorem Inv.cw(I:Inv X pins σ H s):X.K.In s.heap:=I.ok.mod.j7.keeps I.bk
theorem Inv.lt(I:Inv X pins σ H s):X.env.locals<s.heap.objs.size:=let⟨_,hn,_⟩:=I.loc;hn.lt
theorem Inv.sz(I:Inv X pins σ H s):X.ck.heap.objs.size<=s.heap.objs.size:=eA I.ok.above (qw I.lt)
theorem Inv.QE(I:Inv X pins σ H s){a:Addr}(h:s.heap.objs.size<=a):a ∉ X.fs:=λhb=>by
 obtain⟨_,o,ho,_⟩:=I.ok.eZ.mem hb
 exact absurd (cy (bF ho) (eA I.sz h)) (fM _)
theorem Inv.jf(I:Inv X pins σ H s):∀x c,X.env.cells.lookup x=some c->c≠X.env.locals:=λx c e z=>by
 obtain⟨v,o,ho,hd⟩:=I.cell x c e
 obtain⟨m,⟨o',es,ep,jy,wR,_⟩,_⟩:=I.loc
 rw[z,jy]at ho;cases ho;rw[wR]at hd;cases hd
theorem Inv.eZ(I:Inv X pins σ H s):s.heap.FunFrames X.base X.outer:=by
 have all:∀(l:List Env),(∀b∈de l,b∈X.fs)->X.ck.heap.FunFrames X.base l->s.heap.FunFrames X.base l:=by
  intro l
  induction l with
  | nil=>intro _ _;trivial
  | cons env r ih =>
   intro hs hl
   obtain⟨hk,⟨L,o,hf,hn,ho,hd⟩,hr⟩:=hl
   have hL:L∈X.fs:=hs L (by unfold de;rw[Ar,hf];exact mI)
   obtain⟨sl,e⟩:=I.base.slot L o ho (I.ok.gY L hL) hL λz=>I.ok.mP L z hL
   exact⟨hk,⟨L,_,hf,hn,e,hd⟩,ih (λb hb=>hs b (by unfold de;rw[Ar,hf];exact gz _ hb)) hr⟩
 exact all X.outer (λ_ hb=>hb) I.ok.eZ
theorem Inv.stack(I:Inv X pins σ H s):s.heap.FunFrames X.base X.stack:=by
 rcases I.ok.oj with e | ⟨e,hf⟩
 ·rw[e];exact I.eZ
 ·rw[e]
  obtain⟨m,hn,_⟩:=I.loc
  refine .cons (by rw[I.ok.kind];decide) hf hn ?_ I.eZ
  exact Heap.get?_none_of_le (eA I.ok.gX I.ok.above)
theorem Inv.wU(I:Inv X pins σ H s):∀b∈de X.stack,b∈X.env.locals::X.fs:=λb hb=>by
 rcases I.ok.oj with e | ⟨e,hf⟩
 ·rw[e]at hb;exact gz _ hb
 ·rw[e]at hb
  unfold de at hb
  rw[Ar,hf]at hb
  exact hb
theorem Inv.Bc(I:Inv X pins σ H s):∀b∈de X.stack,H b=none:=λb hb=>by
 rcases cE.mp (I.wU b hb)with e | hb
 ·rw[e];exact I.free
 ·obtain⟨_,o,ho,_⟩:=I.ok.eZ.mem hb
  exact I.base.free b o ho (I.ok.gY b hb) λz=>I.ok.mP b z hb
theorem Inv.step{g':Array GenState}{t':Nat}{d':Drawn}{ch:List Addr}(I:Inv X pins σ H s)
  (j9:∀b∈ch,(b∈X.ex\/X.ck.heap.objs.size<=b)/\b≠X.env.locals/\(∀x c,X.env.cells.lookup x=some c->c≠b)/\∀p∈X.pn++pins,p.1≠b)
  (keep:∀b o,b≠X.env.locals->b ∉ X.fs->b ∉ ch->s.heap.get? b=some o->H b=none->h'.get? b=some o)
  (slot:∀b o,b≠X.env.locals->b∈X.fs->b ∉ ch->s.heap.get? b=some o->H b=none->∃sl,h'.get? b=some { o with slots:=sl }) (free:∀b o,b ∉ ch->s.heap.get? b=some o->H b=none->H' b=none)
  (there:∀b o,b ∉ ch->s.heap.get? b=some o->∃o',h'.get? b=some o')
  (gB:∀b xs,H b=some (.tup xs)->H' b=some (.tup xs)) (fU:∀b o u,H b=some (.bt o u)->H' b=some (.bt o u)) (fi:∀b ps,H b=some (.cX ps)->∃more,H' b=some (.cX (ps++more)))
  (ns:∀m,s.heap.Ns X.env.locals m->h'.Ns X.env.locals m) (aA:cA X.prog X.w H' h') (hg:AllBare g') :
  Inv X pins σ H' { s with heap:=h',gens:=g',drawn:=d',toks:=t' }:=by
 have qS:∀b o,X.ck.heap.get? b=some o->b≠X.env.locals:=λb o e=>dQ (cy (bF e) I.ok.above)
 have qT:∀b o,X.ck.heap.get? b=some o->b ∉ X.ex->b ∉ ch:=λb o e hx hb=>by
  rcases(j9 b hb).1 with z | z
  ·exact hx z
  ·exact absurd (cy (bF e) z) (fM _)
 have cellK:∀x c,X.env.cells.lookup x=some c->∀v,s.heap.IsCell c v->h'.IsCell c v:=λx c e v ⟨o,ho,hd⟩=>by
  have wV:c ∉ ch:=λz=>(j9 c z).2.2.1 x c e rfl
  by_cases hc:c∈X.fs
  ·obtain⟨sl,q⟩:=slot c o (I.jf x c e) hc wV ho (I.eT x c e)
   exact⟨_,q,hd⟩
  ·exact⟨o,keep c o (I.jf x c e) hc wV ho (I.eT x c e),hd⟩
 refine⟨I.ok,I.os,hg,⟨λb o e n hb hx=>?_,λb o e n hb hx=>?_,λb o e n hx=>?_,λb o e hx=>?_,λb xs e=>gB b xs (I.base.gB b xs e),λb o xs e=>fU b o xs (I.base.fU b o xs e),λb ps e=>?_⟩,?_,λx c e=>?_,?_,λx c e=>?_,λp hp=>?_,aA,I.len⟩
 ·exact keep b o (qS b o e) hb (qT b o e hx) (I.base.keep b o e n hb hx) (I.base.free b o e n hx)
 ·obtain⟨sl,e1⟩:=I.base.slot b o e n hb hx
  obtain⟨wW,e2⟩:=slot b _ (qS b o e) hb (qT b o e hx) e1 (I.base.free b o e n hx)
  exact⟨wW,e2⟩
 ·obtain⟨o',e1⟩:=I.base.there b o e hx
  exact free b o' (qT b o e hx) e1 (I.base.free b o e n hx)
 ·obtain⟨o',e1⟩:=I.base.there b o e hx
  exact there b o' (qT b o e hx) e1
 ·obtain⟨m1,e1⟩:=I.base.fi b ps e
  obtain⟨m2,e2⟩:=fi b _ e1
  exact⟨m1++m2,by rw[e2,qy]⟩
 ·obtain⟨m,hn,hl⟩:=I.loc
  refine⟨m,ns m hn,λi x v e1 e2 e3=>?_⟩
  obtain⟨u,r,l⟩:=hl i x v e1 e2 e3
  refine⟨u,r,?_⟩
  rcases l with l | ⟨k,c,e,z⟩
  ·exact .inl l
  ·exact .inr ⟨k,c,e,cellK x c e _ z⟩
 ·obtain⟨v,z⟩:=I.cell x c e
  exact⟨v,cellK x c e v z⟩
 ·obtain⟨m,⟨o,_,_,ho,_⟩,_⟩:=I.loc
  exact free _ o (λz=>(j9 _ z).2.1 rfl) ho I.free
 ·obtain⟨v,o,ho,hd⟩:=I.cell x c e
  exact free c o (λz=>(j9 c z).2.2.1 x c e rfl) ho (I.eT x c e)
 ·obtain⟨e,n,ne,nf,d⟩:=I.pin p hp
  have wV:p.1 ∉ ch:=λz=>(j9 p.1 z).2.2.2 p hp rfl
  exact⟨keep p.1 p.2 ne nf wV e n,free p.1 p.2 wV e n,ne,nf,d⟩
theorem Inv.un{t':Nat}(I:Inv X pins σ H s)(u:Un X.fs [] H H' s.heap h')(aA:cA X.prog X.w H' h'):Inv X pins σ H' { s with heap:=h',toks:=t' }:=by
 obtain⟨m,⟨o,es,ep,ho,r⟩,_⟩:=id I.loc
 obtain⟨sl,hL⟩:=u.any ho I.free (by simp)
 exact I.step (g':=s.gens) (d':=s.drawn) (ch:=[]) (λ_ z=>nomatch z) (λb o _ hb _ e n=>u.keep b o e n hb (by simp)) (λb o _ hb _ e n=>u.slot b o e n hb (by simp)) (λb o _ e n=>u.free b o e n (by simp)) (λb o _ e=>u.there b o e (by simp)) u.gB u.fU u.fi (λm' hm=>by
  obtain⟨o',Fo,Fp,jy,r'⟩:=hm
  rw[ho]at jy;cases jy
  exact⟨_,Fo,Fp,hL,r'⟩) aA I.bare
theorem Inv.call{g':Array GenState}{t':Nat}{d':Drawn}{ch:List Addr}(I:Inv X pins σ H s)(u:Un (de X.stack) ch H H' s.heap h')(aA:cA X.prog X.w H' h')(hg:AllBare g')
  (j9:∀b∈ch,(b∈X.ex\/X.ck.heap.objs.size<=b)/\b≠X.env.locals/\(∀x c,X.env.cells.lookup x=some c->c≠b)/\∀p∈X.pn++pins,p.1≠b) :
  Inv X pins σ H' { s with heap:=h',gens:=g',drawn:=d',toks:=t' }:=by
 obtain⟨m,⟨o,es,ep,ho,r⟩,_⟩:=id I.loc
 obtain⟨sl,hL⟩:=u.any ho I.free λz=>(j9 _ z).2.1 rfl
 exact I.step (ch:=ch) j9 (λb o hL hb hc e n=>u.keep b o e n (λz=>(cE.mp (I.wU b z)).elim hL hb) hc) (λb o _ _ hc e n=>u.any e n hc) (λb o hc e n=>u.free b o e n hc) (λb o hc e=>u.there b o e hc) u.gB u.fU u.fi (λm' hm=>by
  obtain⟨o',Fo,Fp,jy,r'⟩:=hm
  rw[ho]at jy;cases jy
  exact⟨_,Fo,Fp,hL,r'⟩) aA hg
theorem Inv.turned{t':Nat}{it:Addr}(I:Inv X pins σ H s)(k:∀b o,b≠it->s.heap.get? b=some o->h'.get? b=some o)(hn:H it=none)(hL:it≠X.env.locals)
  (h1:it∈X.ex\/X.ck.heap.objs.size<=it) (h2:∀x c,X.env.cells.lookup x=some c->c≠it) (h3:∀p∈X.pn++pins,p.1≠it):Inv X pins σ H { s with heap:=h',toks:=t' }:=by
 have mQ:∀b u,H b=some u->b≠it:=λb u e z=>by rw[z,hn]at e;cases e
 refine I.step (g':=s.gens) (d':=s.drawn) (ch:=[it]) (λb hb=>?_) (λb o _ _ hc e _=>k b o (λz=>hc (by simp[z])) e) (λb o _ _ hc e _=>⟨o.slots,k b o (λz=>hc (by simp[z])) e⟩) (λ_ _ _ _ n=>n)
  (λb o hc e=>⟨o,k b o (λz=>hc (by simp[z])) e⟩) (λ_ _ e=>e) (λ_ _ _ e=>e) (λb ps e=>⟨#[],by rw[e];simp⟩) (λm hm=>?_) (λb u e=>?_) I.bare
 ·have e:b=it:=by simpa using hb
  subst e
  exact⟨h1,hL,h2,h3⟩
 ·obtain⟨o,es,ep,ho,r⟩:=hm
  exact⟨o,es,ep,k _ o (dR hL) ho,r⟩
 ·refine(I.aA b u e).gW (λc v hc q=>k c v ?_ q) (λ_ q=>q) (λ_ _ q=>q) λ_ _ q=>q
  rcases hc with z | z
  ·rw[z];exact mQ b u e
  ·exact mQ c _ z
theorem Inv.tok(I:Inv X pins σ H s)(t:Nat):Inv X pins σ H { s with toks:=t }:=I.un (h':=s.heap) (t':=t) Un.refl I.aA
theorem Inv.kept{t':Nat}(I:Inv X pins σ H s)(k:∀b u,s.heap.get? b=some u->h'.get? b=some u):Inv X pins σ H { s with heap:=h',toks:=t' }:=I.un (Un.kept k) (I.aA.kept k)
theorem Inv.laid{a:Addr}{o:HO}{t':Nat}(I:Inv X pins σ H s)(k:∀b u,s.heap.get? b=some u->h'.get? b=some u)(hp:s.heap.objs.size<=a)(new:dq X.prog X.w (upd H a o) h' a o) :
  Inv X pins σ (upd H a o) { s with heap:=h',toks:=t' }:=I.un (Un.laid k hp (I.aA.fresh hp)) (I.aA.laid k hp new)
theorem Inv.write{x e:Addr}{o:HO}{t':Nat}(I:Inv X pins σ H s)(mu:Ba (H x))(he:e=x\/H e=some (.own x))(k:∀b u,b≠e->s.heap.get? b=some u->h'.get? b=some u)(qR:∃u,h'.get? e=some u)
  (new:dq X.prog X.w (upd H x o) h' x o):Inv X pins σ (upd H x o) { s with heap:=h',toks:=t' }:=I.un (Un.write mu he k qR) (I.aA.write mu he k qR new)
theorem Inv.weak{ay:List (Option V)}(I:Inv X pins σ H s)(hl:ay.length=σ.length)(w:∀(i:Nat) v,ay[i]?=some (some v)->σ[i]?=some (some v)):Inv X pins ay H s :=
 ⟨I.ok,I.os,I.bare,I.base,let⟨m,hn,Fq⟩:=I.loc;⟨m,hn,λi x v e1 e2 e3=>Fq i x v e1 (w i v e2) e3⟩,I.cell,I.free,I.eT,I.pin,I.aA,hl.trans I.len⟩
theorem Inv.QF{qU:List (Addr × Obj)}(I:Inv X pins σ H s)(h:∀p∈qU,s.heap.get? p.1=some p.2/\H p.1=none/\p.1≠X.env.locals/\p.1 ∉ X.fs/\∀v,p.2.data≠.cell v):Inv X qU σ H s :=
 ⟨I.ok,I.os,I.bare,I.base,I.loc,I.cell,I.free,I.eT,λp hp=>(cO.mp hp).elim (λz=>I.pin p (eJ _ z)) (h p),I.aA,I.len⟩
theorem Fs{N:List Str}(hN:N.Nodup){i j:Nat}{x:Str}(a:N[i]?=some x)(b:N[j]?=some x):i=j:=by
 obtain⟨h1,e1⟩:=i7.mp a
 obtain⟨h2,e2⟩:=i7.mp b
 exact(List.getElem_inj hN).mp (e1.trans e2.symm)
theorem b75{M:Model}{A:Around}{E:Value->Shared->Prop}{i:Nat}{x:Str}{v:V}{u:Value}{Q:Unit->Shared->Prop}(I:Inv X pins σ H s)(hN:X.N.Nodup)(hi:X.N[i]?=some x)(hx:Loc X.env.scope x)(r:RelV v u)
  (h:∀s',Inv X pins (σ.set i (some v)) H s'->(∃a,Heap.SameBut a s.heap s'.heap/\(a=X.env.locals\/X.env.cells.lookup x=some a))->Q () s') (hf:X.fn x=true\/X.env.scope.names.lookup x=some .local:=by first | exact .inl rfl | exact .inr rfl | assumption):wpAny M A (storeName X.env x u) Q E s:=by
 obtain⟨m,hn,hl⟩:=id I.loc
 have cT3:(X.env.scope.kind==.class||(X.env.scope.kind==.module&&X.env.locals != X.env.globals))=false:=by rw[I.ok.kind];rfl
 have QG:i<σ.length:=by rw[I.len];exact(i7.mp hi).1
 have jf:=I.jf
 have tracked:∀{a:Addr} {h':Heap},(∃o,s.heap.get? a=some o/\H a=none)->Heap.SameBut a s.heap h'->cA X.prog X.w H h':=λ{a h'} ha hs b ob e=>by
  obtain⟨_,_,QH⟩:=ha
  refine(I.aA b ob e).gW (λc w' hc q=>(hs.2 c ?_).trans q) (λ_ q=>q) (λ_ _ q=>q) λ_ _ q=>q
  rintro rfl
  rcases hc with rfl | hc
  ·rw[QH]at e;cases e
  ·rw[QH]at hc;cases hc
 rcases hx with hk | hk
 ·refine wpAny_storeName_local hk hn (λh' Ft hs=>?_) cT3
  obtain⟨oL,_,_,QI,_⟩:=id hn
  refine h _ ⟨I.ok,I.os,I.bare,⟨λb o e n hb hx=>?_,λb o e n hb hx=>?_,I.base.free,λb o e hx=>?_,I.base.gB,I.base.fU,I.base.fi⟩,⟨_,Ft,λj y v' e1 e2 e3=>?_⟩,λy c e=>?_,I.free,I.eT,λp hp=>?_,tracked ⟨oL,QI,I.free⟩ hs,by simpa using I.len⟩ ⟨_,hs,.inl rfl⟩
  ·exact(hs.2 b (dQ (cy (bF e) I.ok.above))).trans (I.base.keep b o e n hb hx)
  ·obtain⟨sl,e1⟩:=I.base.slot b o e n hb hx
   exact⟨sl,(hs.2 b (dQ (cy (bF e) I.ok.above))).trans e1⟩
  ·obtain⟨o',e1⟩:=I.base.there b o e hx
   exact⟨o',(hs.2 b (dQ (cy (bF e) I.ok.above))).trans e1⟩
  ·by_cases hj:j=i
   ·subst hj
    rw[hi]at e1;cases e1
    rw[As QG]at e2
    cases e2
    exact⟨u,r,.inl ⟨hk,by simp⟩⟩
   ·rw[nU (dR hj)]at e2
    obtain⟨u',r',q⟩:=hl j y v' e1 e2 e3
    refine⟨u',r',?_⟩
    rcases q with⟨k,e⟩ | ⟨k,c,e,z⟩
    ·refine .inl ⟨k,?_⟩
     have:y≠x:=λe=>hj (Fs hN e1 (e ▸ hi))
     simp[this,e]
    ·exact .inr ⟨k,c,e,z.sameBut hs (jf y c e)⟩
  ·obtain⟨w',z⟩:=I.cell y c e
   exact⟨w',z.sameBut hs (jf y c e)⟩
  ·obtain⟨e,n,ne,nf,d⟩:=I.pin p hp
   exact⟨(hs.2 p.1 ne).trans e,n,ne,nf,d⟩
 ·have wX:X.fn x=true:=by
   rcases hf with z | z
   ·exact z
   ·rw[z]at hk;cases hk
  obtain⟨c,hc⟩:=I.ok.has x (.inl hk)
  obtain⟨w',z⟩:=I.cell x c hc
  refine wpAny_storeName_cell I.ok.kind hk hc z (λh' wY hs=>?_)
  obtain⟨oc,gZ,cT4⟩:=id z
  refine h { s with heap:=h' } ⟨I.ok,I.os,I.bare,⟨λb o e n hb hx=>?_,λb o e n hb hx=>?_,I.base.free,λb o e hx=>?_,I.base.gB,I.base.fU,I.base.fi⟩,⟨m,hn.sameBut hs (dR (jf x c hc)),λj y v' e1 e2 e3=>?_⟩,λy c' e=>?_,I.free,I.eT,λp hp=>?_,tracked ⟨oc,gZ,I.eT x c hc⟩ hs,by simpa using I.len⟩ ⟨c,hs,.inr hc⟩
  ·exact(hs.2 b (dQ (cy (bF e) (I.ok.kU x c wX hc)))).trans (I.base.keep b o e n hb hx)
  ·obtain⟨sl,e1⟩:=I.base.slot b o e n hb hx
   exact⟨sl,(hs.2 b (dQ (cy (bF e) (I.ok.kU x c wX hc)))).trans e1⟩
  ·obtain⟨o',e1⟩:=I.base.there b o e hx
   exact⟨o',(hs.2 b (dQ (cy (bF e) (I.ok.kU x c wX hc)))).trans e1⟩
  ·by_cases hj:j=i
   ·subst hj
    rw[hi]at e1;cases e1
    rw[As QG]at e2
    cases e2
    exact⟨u,r,.inr ⟨.inl hk,c,hc,wY⟩⟩
   ·rw[nU (dR hj)]at e2
    obtain⟨u',r',q⟩:=hl j y v' e1 e2 e3
    refine⟨u',r',?_⟩
    rcases q with q | ⟨k,c',e,z'⟩
    ·exact .inl q
    ·refine .inr ⟨k,c',e,z'.sameBut hs ?_⟩
     rintro rfl
     exact hj (Fs hN e1 (I.ok.inj _ _ _ e hc ▸ hi))
  ·by_cases QJ:c'=c
   ·subst QJ;exact⟨_,wY⟩
   ·obtain⟨w2,z2⟩:=I.cell y c' e
    exact⟨w2,z2.sameBut hs QJ⟩
  ·obtain⟨e,n,ne,nf,d⟩:=I.pin p hp
   refine⟨(hs.2 p.1 ?_).trans e,n,ne,nf,d⟩
   intro q
   rw[q,gZ]at e
   have q':oc=p.2:=cP e
   exact d w' (by rw[<-q'];exact cT4)
theorem Bd{M:Model}{A:Around}{E:Value->Shared->Prop}{i:Nat}{x:Str}{v:V}{u:Value}{Q:Unit->Shared->Prop}(I:Inv X pins σ H s)(hN:X.N.Nodup)(hi:X.N[i]?=some x)(hx:Loc X.env.scope x)(r:RelV v u)
  (h:∀s',Inv X pins (σ.set i (some v)) H s'->Q () s') (hf:X.fn x=true\/X.env.scope.names.lookup x=some .local:=by first | exact .inl rfl | exact .inr rfl | assumption):wpAny M A (storeName X.env x u) Q E s :=
 b75 I hN hi hx r (λs' I' _=>h s' I') hf
theorem Inv.QK{s':Shared}{ch:List Addr}(I:Inv X pins σ H s)(ho:s'.os=s.os)(u:Un (de X.stack) ch H H' s.heap s'.heap)(aA:cA X.prog X.w H' s'.heap)(hg:AllBare s'.gens)
  (j9:∀b∈ch,(b∈X.ex\/X.ck.heap.objs.size<=b)/\b≠X.env.locals/\(∀x c,X.env.cells.lookup x=some c->c≠b)/\∀p∈X.pn++pins,p.1≠b):Inv X pins σ H' s':=by
 obtain⟨h',g',d',t',o'⟩:=s'
 have e:o'=s.os:=ho
 subst e
 exact I.call (g':=g') (t':=t') (d':=d') u aA hg j9
end
noncomputable abbrev XK:=Value->Option Addr->Hp->Prop
noncomputable abbrev St:=List (Option V)
noncomputable abbrev VK:=V->Hp->Prop
noncomputable abbrev TE:=St->Hp->VK->Prop
noncomputable abbrev TT:=St->Hp->(Bool->Hp->Prop)->Prop
noncomputable abbrev TA:=St->Hp->(List V->Hp->Prop)->Prop
structure Ends where
 nx:St->Hp->Prop
 rt:VK
 bk:St->Hp->Prop:=λ_ _=>False
 ct:St->Hp->Prop:=λ_ _=>False
noncomputable abbrev TS:=Ends->St->Hp->Prop
noncomputable def EP(X:Cx)(pins:List (Addr × Obj))(σ:St)(Q:VK)(u:Value)(s':Shared):Prop:=∃v H',Inv X pins σ H' s'/\RelV v u/\Q v H'
noncomputable def TP(X:Cx)(pins:List (Addr × Obj))(σ:St)(Q:Bool->Hp->Prop)(b:Bool)(s':Shared):Prop:=∃H',Inv X pins σ H' s'/\Q b H'
noncomputable def AP(X:Cx)(pins:List (Addr × Obj))(σ:St)(Q:List V->Hp->Prop)(us:List Value)(s':Shared):Prop:=∃vs H',Inv X pins σ H' s'/\Vals vs us/\Q vs H'
noncomputable def SP(X:Cx)(pins:List (Addr × Obj))(D:Ends)(f:Flow)(s':Shared):Prop :=
 match f with
 | .next=>∃ay H',Inv X pins ay H' s'/\D.nx ay H'
 | .brk=>∃ay H',Inv X pins ay H' s'/\D.bk ay H'
 | .cont=>∃ay H',Inv X pins ay H' s'/\D.ct ay H'
 | .ret u=>∃v ay H',Inv X pins ay H' s'/\RelV v u/\D.rt v H'
noncomputable def PE(X:Cx)(e:Expr)(t:TE):Prop :=
 ∀(pins:List (Addr × Obj)) (s:Shared) (σ:St) (H:Hp) (Q:VK),Inv X pins σ H s->t σ H Q->wpAny (model X.prog X.w) X.A (eval e X.env) (EP X pins σ Q) X.xe s
noncomputable def PT(X:Cx)(e:Expr)(t:TT):Prop :=
 ∀(pins:List (Addr × Obj)) (s:Shared) (σ:St) (H:Hp) (Q:Bool->Hp->Prop),Inv X pins σ H s->t σ H Q->wpAny (model X.prog X.w) X.A (isTrue e X.env (eval e X.env)) (TP X pins σ Q) X.xe s
noncomputable def PW(X:Cx)(e:Expr)(t:TT):Prop :=
 ∀(whole:Sem Value) (pins:List (Addr × Obj)) (s:Shared) (σ:St) (H:Hp) (Q:Bool->Hp->Prop),Inv X pins σ H s->t σ H Q->wpAny (model X.prog X.w) X.A (isTrue e X.env whole) (TP X pins σ Q) X.xe s
theorem PW.pt{X:Cx}{e:Expr}{t:TT}(h:PW X e t):PT X e t:=h _
noncomputable def PA(X:Cx)(es:List Expr)(t:TA):Prop :=
 ∀(pos:Pos) (pins:List (Addr × Obj)) (s:Shared) (σ:St) (H:Hp) (Q:List V->Hp->Prop),Inv X pins σ H s->t σ H Q->wpAny (model X.prog X.w) X.A (spliced (backTo pos (starEach es X.env))) (AP X pins σ Q) X.xe s
noncomputable def PS(X:Cx)(st:Stmt)(t:TS):Prop :=
 ∀(pins:List (Addr × Obj)) (s:Shared) (σ:St) (H:Hp) (D:Ends),Inv X pins σ H s->t D σ H->wpAny (model X.prog X.w) X.A (exec st X.env) (SP X pins D) X.xe s
noncomputable def PSs(X:Cx)(st:List Stmt)(t:TS):Prop :=
 ∀(pins:List (Addr × Obj)) (s:Shared) (σ:St) (H:Hp) (D:Ends),Inv X pins σ H s->t D σ H->wpAny (model X.prog X.w) X.A (execs st X.env) (SP X pins D) X.xe s
theorem aL{α:Type}{t:Sem α}{Q Q':α->Shared->Prop}{M:Model}{A:Around}{E:Value->Shared->Prop}{s:Shared}(h:wpAny M A t Q E s)(hQ:∀a s,Q a s->Q' a s):wpAny M A t Q' E s:=wpAny_mono h hQ λ_ _ x=>x
end L2
namespace L2
open PySem PySem.Spec PyProof.Rows
section
variable{X:Cx}
noncomputable def QL(i:Nat):TE:=λσ H Q=>∃v,σ[i]?=some (some v)/\Q v H
noncomputable def tC(v:V):TE:=λ_ H Q=>Q v H
theorem oo{i:Nat}{x:Str}{pos:Pos}(hN:X.N[i]?=some x)(hv:j8 X.env.scope x)(hd:(x==("__debug__":Str))=false:=by decide)(cF:(x==("__classdict__":Str))=false:=by decide):PE X (.Name x pos) (QL i):=by
 intro pins s σ H Q I h
 obtain⟨v,e,h⟩:=h
 obtain⟨m,hn,hl⟩:=I.loc
 obtain⟨u,r,l⟩:=hl i x v hN e hv
 have fin:EP X pins σ Q u s:=⟨v,H,I,r,h⟩
 rcases l with⟨hk,hm⟩ | ⟨hk,c,hc,Be⟩
 ·exact wpAny_Name (wpAny_loadName_local I.ok.kind hk hn hm fin) hd
 ·rcases hk with hk | hk
  ·exact wpAny_Name (wpAny_loadName_cell I.ok.kind hk hc Be fin) hd
  ·exact wpAny_Name (wpAny_loadName_free I.ok.kind hk hc Be fin cF) hd
theorem oq{i j pos}:PE X (.Constant (.int i) j pos) (tC (.int i)):=λ_ _ _ H _ I h=>wpAny_Constant_int ⟨.int i,H,I.tok _,⟨_,rfl⟩,h⟩
theorem cM3{b j pos}:PE X (.Constant (.bool b) j pos) (tC (.bl b)):=λ_ _ _ H _ I h=>Constant_bool ⟨.bl b,H,I,rfl,h⟩
theorem cD1{j pos}:PE X (.Constant .none j pos) (tC .aj):=λ_ _ _ H _ I h=>Constant_none ⟨.aj,H,I,rfl,h⟩
theorem cA8{x j pos}:PE X (.Constant (.str x) j pos) (tC (.str x)):=λ_ _ _ H _ I h=>Calls.Constant_str ⟨.str x,H,I.tok _,⟨_,rfl⟩,h⟩
noncomputable def Gl(X:Cx)(x:Str):Prop:=X.env.kindOf x=some .globalImplicit
theorem ot{E:Value->Shared->Prop}{pins:List (Addr × Obj)}{s:Shared}{σ:St}{H:Hp}{x:Str}{u:Value}{pos:Pos}{Q:Value->Shared->Prop}(I:Inv X pins σ H s)(hg:Gl X x)(hm:X.mg x=some u)(h:Q u s)
  (hd:(x==("__debug__":Str))=false:=by decide):wpAny (model X.prog X.w) X.A (eval (.Name x pos) X.env) Q E s :=
 Z1 I.ok.kind hg (Calls.loadGlobal_global (by rw[I.ok.glob];exact I.mod.glob.keeps I.bk) hm h) hd
theorem ou{E:Value->Shared->Prop}{pins:List (Addr × Obj)}{s:Shared}{σ:St}{H:Hp}{x:Str}{u:Value}{pos:Pos}{Q:Value->Shared->Prop}(I:Inv X pins σ H s)(hg:Gl X x)(hm:X.mg x=none)(hv:bootBuiltins x=some u)(h:Q u s)
  (hn:x≠"__name__":=by decide) (hd:(x==("__debug__":Str))=false:=by decide):wpAny (model X.prog X.w) X.A (eval (.Name x pos) X.env) Q E s:=by
 obtain⟨mb,h1,h2⟩:=I.mod.blt
 exact Z1 I.ok.kind hg (Calls.loadGlobal_builtin (by rw[I.ok.glob];exact I.mod.glob.keeps I.bk) hm (by rw[I.ok.blt];exact h1.keeps I.bk) ((h2 x hn).trans hv) h) hd
theorem co8{x:Str}{v:V}{u:Value}{pos:Pos}(hg:Gl X x)(hm:X.mg x=some u)(r:RelV v u)(hd:(x==("__debug__":Str))=false:=by decide):PE X (.Name x pos) (tC v) :=
 λ_ _ _ H _ I h=>ot I hg hm ⟨v,H,I,r,h⟩ hd
theorem cv5{x:Str}{v:V}{u:Value}{pos:Pos}(hg:Gl X x)(hm:X.mg x=none)(hv:bootBuiltins x=some u)(r:RelV v u)(hn:x≠"__name__":=by decide)(hd:(x==("__debug__":Str))=false:=by decide):PE X (.Name x pos) (tC v) :=
 λ_ _ _ H _ I h=>ou I hg hm hv ⟨v,H,I,r,h⟩ hn hd
variable{a b:Expr}{ta tb:TE}{pos:Pos}
noncomputable def tB(t:TE):TT:=λσ H Q=>t σ H λx H1=>∃c,x=.bl c/\Q c H1
theorem Fu{e:Expr}{t:TE}(h:PE X e t)(he:∀whole,isTrue e X.env whole=(do let v<-whole;standAt e.pos;holding [v] (truthy v)):=by intro _;rfl):PT X e (tB t):=by
 intro pins s σ H Q I hw
 refine isTrue_plain (aL (h pins s σ H _ I hw) λv s1 ⟨x,H1,I1,r1,q1⟩=>?_) (he _)
 obtain⟨d,rfl,q⟩:=q1
 cases r1
 exact wpAny_truthy_bool ⟨H1,I1,q⟩
variable{tA Bf:TT}{rest:List Expr}
noncomputable def cQ8(t u:TT):TT:=λσ H Q=>t σ H λc H1=>if c=true then u σ H1 Q else Q false H1
noncomputable def tOr(t u:TT):TT:=λσ H Q=>t σ H λc H1=>if c=true then Q true H1 else u σ H1 Q
noncomputable def cR6(t:TT):TT:=λσ H Q=>t σ H λc H1=>Q (!c) H1
theorem by4(ha:PT X a tA):PW X (.BoolOp .And [a] pos) tA:=by
 intro wh pins s σ H Q I h
 refine isTrue_and (aL (ha pins s σ H Q I h) λc s1 e=>?_)
 cases c with
 | true=>exact isTrue_and_nil e
 | false=>exact e
theorem qV(ha:PT X a tA):PW X (.BoolOp .Or [a] pos) tA:=by
 intro wh pins s σ H Q I h
 refine isTrue_or (aL (ha pins s σ H Q I h) λc s1 e=>?_)
 cases c with
 | false=>exact isTrue_or_nil e
 | true=>exact e
theorem cB5(ha:PT X a tA)(hb:PW X (.BoolOp .And (b::rest) pos) Bf):PW X (.BoolOp .And (a::b::rest) pos) (cQ8 tA Bf):=by
 intro wh pins s σ H Q I h
 refine isTrue_and (aL (ha pins s σ H _ I h) λc s1 ⟨H1,I1,q1⟩=>?_)
 cases c with
 | true=>exact hb wh pins s1 σ H1 Q I1 q1
 | false=>exact⟨H1,I1,q1⟩
theorem QM(ha:PT X a tA)(hb:PW X (.BoolOp .Or (b::rest) pos) Bf):PW X (.BoolOp .Or (a::b::rest) pos) (tOr tA Bf):=by
 intro wh pins s σ H Q I h
 refine isTrue_or (aL (ha pins s σ H _ I h) λc s1 ⟨H1,I1,q1⟩=>?_)
 cases c with
 | true=>exact⟨H1,I1,q1⟩
 | false=>exact hb wh pins s1 σ H1 Q I1 q1
theorem Fv(ha:PT X a tA):PT X (.UnaryOp .Not a pos) (cR6 tA):=by
 intro pins s σ H Q I h
 exact isTrue_not (ha pins s σ H (λc H1=>Q (!c) H1) I h)
noncomputable def cK6(ta tb:TE):TE:=λσ H Q=>ta σ H λx H1=>∃c,x=.bl c/\if c=true then tb σ H1 Q else Q (.bl false) H1
noncomputable def cM1(ta:TE):TE:=λσ H Q=>ta σ H λx H1=>∃c,x=.bl c/\Q (.bl (!c)) H1
theorem qW{op}{t:TE}(h:PE X a t):PE X (.BoolOp op [a] pos) t:=λpins s σ H Q I hw=>BoolOp_one (h pins s σ H Q I hw)
theorem cE2(ha:PE X a ta)(hb:PE X (.BoolOp .And (b::rest) pos) tb):PE X (.BoolOp .And (a::b::rest) pos) (cK6 ta tb):=by
 intro pins s σ H Q I h
 refine BoolOp_and (aL (ha pins s σ H _ I h) λv s1 ⟨x,H1,I1,r1,q1⟩=>?_)
 obtain⟨c,rfl,q1⟩:=q1
 cases r1
 refine wpAny_truthy_bool ?_
 cases c with
 | true=>exact hb pins s1 σ H1 Q I1 q1
 | false=>exact⟨.bl false,H1,I1,rfl,q1⟩
theorem cA3(ha:PE X a ta):PE X (.UnaryOp .Not a pos) (cM1 ta):=by
 intro pins s σ H Q I h
 refine UnaryOp_ (aL (ha pins s σ H _ I h) λv s1 ⟨x,H1,I1,r1,q1⟩=>?_)
 obtain⟨c,rfl,q1⟩:=q1
 cases r1
 exact not_of (wpAny_truthy_bool ⟨.bl (!c),H1,I1,rfl,q1⟩)
noncomputable def tIf(t:TT)(ta tb:TE):TE:=λσ H Q=>t σ H λc H1=>if c=true then ta σ H1 Q else tb σ H1 Q
theorem ch6{c:Expr}(hc:PT X c tA)(ha:PE X a ta)(hb:PE X b tb):PE X (.IfExp c a b pos) (tIf tA ta tb):=by
 intro pins s σ H Q I h
 refine wpAny_IfExp (aL (hc pins s σ H _ I h) λd s1 ⟨H1,I1,q1⟩=>?_)
 cases d with
 | true=>exact ha pins s1 σ H1 Q I1 q1
 | false=>exact hb pins s1 σ H1 Q I1 q1
end
end L2
namespace L2
open PySem PySem.Spec PyProof.Rows
noncomputable def bH(K:PySem.W.Frag)(H:Hp)(a:Addr)(xs:List V):Prop :=
 Rd H a (.lst xs) \/
  ∃(o:Obj) (its:Array Value) (n:Nat),K.lookup a=some o/\o.cls=.type "list"/\o.dict=none/\o.data=.seq its n/\its.size<=sizeLine/\Vals xs its.toList
noncomputable def fV(K:PySem.W.Frag)(H:Hp)(a:Addr)(xs:List V):Prop :=
 Rd H a (.tup xs) \/
  ∃(o:Obj) (its:Array Value) (n:Nat),K.lookup a=some o/\o.cls=.type "tuple"/\o.data=.seq its n/\its.size<=sizeLine/\Vals xs its.toList
noncomputable def cQ1:Value->Option V
 | .none=>some .aj
 | .bool b=>some (.bl b)
 | .int i _=>some (.int i)
 | .str x _=>some (.str x)
 | .bytes b _=>some (.A8 b)
 | .float b _=>some (.oh b)
 | .ref a=>some (.ref a)
 | .type n=>some (.ty n)
 | _=>none
theorem RelV.abs{x:V}{u:Value}(r:RelV x u):cQ1 u=some x:=by
 cases x with
 | aj=>cases r;rfl
 | bl _=>cases r;rfl
 | int _=>obtain⟨t,rfl⟩:=r;rfl
 | str _=>obtain⟨t,rfl⟩:=r;rfl
 | A8 _=>obtain⟨t,rfl⟩:=r;rfl
 | oh _=>obtain⟨t,rfl⟩:=r;rfl
 | ref _=>cases r;rfl
 | ty _=>cases r;rfl
theorem RelV.inj{x y:V}{u:Value}(r:RelV x u)(q:RelV y u):x=y:=cP (r.abs.symm.trans q.abs)
theorem Vals.inj:∀{xs ys:List V} {us:List Value},Vals xs us->Vals ys us->xs=ys
 | _,_,_,.nil,.nil=>rfl
 | _,_,_,.cons r t,.cons r' t'=>by rw[r.inj r',Vals.inj t t']
section
variable{X:Cx}{pins:List (Addr × Obj)}{σ:St}{H:Hp}{s:Shared}{a:Addr}{xs ys:List V}
theorem bH.of{K:PySem.W.Frag}(h:H a=some (.lst xs)):bH K H a xs:=.inl (.inl h)
theorem fV.of{K:PySem.W.Frag}(h:H a=some (.tup xs)):fV K H a xs:=.inl (.inl h)
theorem Inv.list(I:Inv X pins σ H s)(h:bH X.K H a xs):∃its:List Value,Vals xs its/\PlainL s.heap a its.toArray/\xs.length<=sizeLine:=by
 rcases h with h | ⟨o,its,n,hk,hc,hd,hs,hz,r⟩
 ·obtain⟨z,its,n,r,e⟩:=h.ok I.aA
  exact⟨its,r,⟨_,n,e,rfl,rfl,rfl⟩,z⟩
 ·refine⟨its.toList,r,⟨o,n,I.cw a o hk,hc,hd,by simpa using hs⟩,?_⟩
  have e:=r.length
  simp only[wm]at e
  omega
theorem Inv.tuple(I:Inv X pins σ H s)(h:fV X.K H a xs):∃its:List Value,Vals xs its/\IsTup s.heap a its.toArray/\xs.length<=sizeLine:=by
 rcases h with h | ⟨o,its,n,hk,hc,hs,hz,r⟩
 ·obtain⟨z,its,r,p⟩:=h.ok I.aA
  exact⟨its,r,p,z⟩
 ·refine⟨its.toList,r,⟨o,I.cw a o hk,hc,n,by simpa using hs⟩,?_⟩
  have e:=r.length
  simp only[wm]at e
  omega
theorem Inv.Bg(I:Inv X pins σ H s)(h:bH X.K H a xs)(h':bH X.K H a ys):xs=ys:=by
 obtain⟨its,r,⟨o,n,e,_,_,d⟩,_⟩:=I.list h
 obtain⟨its',r',⟨o',n',e',_,_,d'⟩,_⟩:=I.list h'
 rw[e]at e';cases e'
 rw[d]at d'
 injection d' with d1 _
 have:its=its':=by simpa using congrArg Array.toList d1
 subst this
 exact r.inj r'
end
noncomputable abbrev Cx.jg(X:Cx)(E:Value->Shared->Prop):Cx:={ X with xe:=E }
noncomputable abbrev Cx.fw(X:Cx):Cx:=X.jg λ_ _=>False
theorem Cx.Ok.jg{X:Cx}(ok:X.Ok)(E:Value->Shared->Prop):(X.jg E).Ok :=
 ⟨ok.mod,ok.kind,ok.glob,ok.blt,ok.above,ok.inj,ok.has,ok.kU,ok.hd,ok.frames,ok.oj,ok.om,ok.bs,ok.gX,ok.mO,ok.mP,ok.eZ,ok.gY⟩
theorem Cx.Ok.ka{X:Cx}{E:Value->Shared->Prop}(ok:(X.jg E).Ok):X.Ok :=
 ⟨ok.mod,ok.kind,ok.glob,ok.blt,ok.above,ok.inj,ok.has,ok.kU,ok.hd,ok.frames,ok.oj,ok.om,ok.bs,ok.gX,ok.mO,ok.mP,ok.eZ,ok.gY⟩
section
variable{X:Cx}{pins:List (Addr × Obj)}{σ:St}{H:Hp}{s:Shared}{E:Value->Shared->Prop}
theorem Inv.jg(I:Inv X pins σ H s)(E:Value->Shared->Prop):Inv (X.jg E) pins σ H s:=⟨I.ok.jg E,I.os,I.bare,I.base,I.loc,I.cell,I.free,I.eT,I.pin,I.aA,I.len⟩
theorem Inv.ka(I:Inv (X.jg E) pins σ H s):Inv X pins σ H s:=⟨I.ok.ka,I.os,I.bare,I.base,I.loc,I.cell,I.free,I.eT,I.pin,I.aA,I.len⟩
theorem SP.ka{D:Ends}{f:Flow}{s':Shared}(h:SP (X.jg E) pins D f s'):SP X pins D f s':=by
 cases f with
 | next=>obtain⟨ay,H',I,q⟩:=h;exact⟨ay,H',I.ka,q⟩
 | brk=>obtain⟨ay,H',I,q⟩:=h;exact⟨ay,H',I.ka,q⟩
 | cont=>obtain⟨ay,H',I,q⟩:=h;exact⟨ay,H',I.ka,q⟩
 | ret u=>obtain⟨v,ay,H',I,r,q⟩:=h;exact⟨v,ay,H',I.ka,r,q⟩
theorem PE.fw{e:Expr}{t:TE}(h:PE X.fw e t):PE X e t:=λpins s σ H Q I hw =>
 wpAny_mono (h pins s σ H Q (I.jg _) hw) (λ_ _ ⟨v,H',I',r,q⟩=>⟨v,H',I'.ka,r,q⟩) λ_ _ z=>eB z
theorem PSs.fw{st:List Stmt}{t:TS}(h:PSs X.fw st t):PSs X st t:=λpins s σ H D I hw =>
 wpAny_mono (h pins s σ H D (I.jg _) hw) (λ_ _ q=>q.ka) λ_ _ z=>eB z
end
section
variable{X:Cx}{st:Stmt}{rest:List Stmt}{t u:TS}{e:Expr}{te:TE}{pos:Pos}
noncomputable def cN0:TS:=λD σ H=>D.nx σ H
noncomputable def cQ4(t u:TS):TS:=λD σ H=>t { D with nx:=u D } σ H
theorem wZ:PSs X [] cN0:=λ_ _ σ H _ I h=>wpAny_execs_nil ⟨σ,H,I,h⟩
theorem fj(h1:PS X st t)(h2:PSs X rest u):PSs X (st::rest) (cQ4 t u):=by
 intro pins s σ H D I h
 refine wpAny_execs_cons (aL (h1 pins s σ H { D with nx:=u D } I h) λf s1 q=>?_)
 cases f with
 | next =>
  obtain⟨ay,H',I',q⟩:=q
  exact h2 pins s1 ay H' D I' q
 | ret v=>exact q
 | brk=>exact q
 | cont=>exact q
theorem kW(h1:PS X st t):PSs X [st] t:=by
 intro pins s σ H D I h
 refine wpAny_execs_cons (aL (h1 pins s σ H D I h) λf s1 q=>?_)
 cases f with
 | next=>exact wpAny_execs_nil q
 | ret v=>exact q
 | brk=>exact q
 | cont=>exact q
theorem Inv.quiet{pins:List (Addr × Obj)}{σ:St}{H:Hp}{s:Shared}(I:Inv X pins σ H s):interactive X.env=false:=by simp[interactive,I.ok.kind]
noncomputable def cM9(te:TE):TS:=λD σ H=>te σ H λ_ H1=>D.nx σ H1
theorem w4(he:PE X e te)(hs:swapsWith e none pos.line X.env=pure false:=by rfl):PS X (.Expr e pos) (cM9 te):=by
 intro pins s σ H D I h
 exact wpAny_Expr_any (aL (he pins s σ H _ I h) λv s1 ⟨x,H1,I1,r1,q1⟩=>⟨σ,H1,I1,q1⟩) I.quiet hs
noncomputable def cR8(te:TE):TS:=λD σ H=>te σ H D.rt
theorem cH7(he:PE X e te):PS X (.Return (some e) pos) (cR8 te):=by
 intro pins s σ H D I h
 exact wpAny_Return_some (aL (he pins s σ H _ I h) λv s1 ⟨x,H1,I1,r1,q1⟩=>⟨x,σ,H1,I1,r1,q1⟩)
noncomputable def cS8(c:TT)(t u:TS):TS:=λD σ H=>c σ H λb H1=>if b=true then t D σ H1 else u D σ H1
theorem Bh{c:Expr}{a b:List Stmt}{tc:TT}(hc:PT X c tc)(ha:PSs X a t)(hb:PSs X b u):PS X (.If c a b pos) (cS8 tc t u):=by
 intro pins s σ H D I h
 refine wpAny_If (aL (hc pins s σ H _ I h) λd s1 ⟨H1,I1,q1⟩=>?_)
 cases d with
 | true=>exact ha pins s1 σ H1 D I1 q1
 | false=>exact hb pins s1 σ H1 D I1 q1
noncomputable def QN:TS:=λ_ _ _=>False
theorem Bi:PS X st QN:=λ_ _ _ _ _ _ h=>h.elim
theorem b66{mR:List Stmt}:PSs X mR QN:=λ_ _ _ _ _ _ h=>h.elim
end
noncomputable abbrev TG:=V->St->Hp->(St->Hp->Prop)->Prop
noncomputable abbrev ow:=List V->St->Hp->(St->Hp->Prop)->Prop
noncomputable def PG(X:Cx)(target:Expr)(t:TG):Prop :=
 ∀(pins:List (Addr × Obj)) (s:Shared) (σ:St) (H:Hp) (v:V) (u:Value) (Q:St->Hp->Prop),Inv X pins σ H s->RelV v u->t v σ H Q ->
  wpAny (model X.prog X.w) X.A (assign target X.env u) (λ_ s'=>∃ay H',Inv X pins ay H' s'/\Q ay H') X.xe s
noncomputable def Bj(X:Cx)(ts:List Expr)(t:ow):Prop :=
 ∀(pins:List (Addr × Obj)) (s:Shared) (σ:St) (H:Hp) (vs:List V) (us:List Value) (Q:St->Hp->Prop),Inv X pins σ H s->Vals vs us->t vs σ H Q ->
  wpAny (model X.prog X.w) X.A (assignInOrder ((assignEach ts X.env).map (·.2)) us) (λ_ s'=>∃ay H',Inv X pins ay H' s'/\Q ay H') X.xe s
noncomputable abbrev Fw:=V->V->V->Hp->(Hp->Prop)->Prop
noncomputable def QO(X:Cx)(t:Fw):Prop :=
 ∀(pins:List (Addr × Obj)) (s:Shared) (σ:St) (H:Hp) (o i v:V) (ov iv u:Value) (Q:Hp->Prop),Inv X pins σ H s->RelV o ov->RelV i iv->RelV v u->t o i v H Q ->
  wpAny (model X.prog X.w) X.A (setItem ov iv u) (λ_ s'=>∃H',Inv X pins σ H' s'/\Q H') X.xe s
noncomputable abbrev Fx:=V->V->Hp->VK->Prop
noncomputable def PIp(X:Cx)(op:Operator)(t:Fx):Prop :=
 ∀(pins:List (Addr × Obj)) (s:Shared) (σ:St) (H:Hp) (x y:V) (v u:Value) (Q:VK),Inv X pins σ H s->RelV x v->RelV y u->t x y H Q ->
  wpAny (model X.prog X.w) X.A (inplaceOp op v u) (EP X pins σ Q) X.xe s
section
variable{X:Cx}{pos:Pos}
noncomputable def Bk(i:Nat):TG:=λv σ H Q=>Q (σ.set i (some v)) H
theorem Bl{i:Nat}{x:Str}(hN:X.N.Nodup)(hi:X.N[i]?=some x)(hx:Loc X.env.scope x)(hf:X.fn x=true\/X.env.scope.names.lookup x=some .local:=by first | exact .inl rfl | exact .inr rfl | assumption):PG X (.Name x pos) (Bk i):=by
 intro pins s σ H v u Q I r h
 exact wpAny_assign_Name (Bd I hN hi hx r (λs' I'=>⟨_,H,I',h⟩) hf)
noncomputable def cS0:ow:=λvs σ H Q=>vs=[]/\Q σ H
noncomputable def cN9(t:TG)(u:ow):ow:=λvs σ H Q=>∃v r,vs=v::r/\t v σ H λay H'=>u r ay H' Q
theorem cp1:Bj X [] cS0:=by
 intro pins s σ H vs us Q I r h
 obtain⟨e,h⟩:=h
 subst e
 cases r
 exact assignInOrder_nil ⟨σ,H,I,h⟩
theorem QP{e:Expr}{es:List Expr}{t:TG}{u:ow}(h1:PG X e t)(h2:Bj X es u)
  (hs:(assignEach (e::es) X.env).map (·.2)=assign e X.env::(assignEach es X.env).map (·.2):=by rfl):Bj X (e::es) (cN9 t u):=by
 intro pins s σ H vs us Q I r h
 obtain⟨v,vr,e1,h⟩:=h
 subst e1
 cases r with
 | cons r rr =>
  rw[hs]
  refine assignInOrder_cons (aL (h1 pins s σ H _ _ _ I r h) λ_ s1 ⟨fA,H1,I1,q1⟩=>?_)
  exact h2 pins s1 fA H1 _ _ Q I1 rr q1
noncomputable def cQ7(K:PySem.W.Frag)(n:Nat)(t:ow):TG:=λv σ H Q=>∃a xs,v=.ref a/\fV K H a xs/\xs.length=n/\t xs σ H Q
theorem cA5{es:List Expr}{k:Nat}{t:ow}{n:Nat}(hc:X.calm=true)(h:Bj X es t)
  (hn:(assignEach es X.env).length=n:=by rfl) (bU:(assignEach es X.env).findIdx? (·.1)=none:=by rfl):PG X (.Tuple es k pos) (cQ7 X.K n t):=by
 intro pins s σ H v u Q I r hw
 obtain⟨a,xs,e1,hq,hl,hw⟩:=hw
 subst e1
 cases r
 obtain⟨its,rv,ht,hz⟩:=I.tuple hq
 refine assign_Tuple_tuple (I.ok.hd hc) ht (by simp[hn,<- hl,rv.length]) bU λh' hx=>?_
 have I1:Inv X pins σ H { s with heap:=h' }:=I.kept (t':=s.toks) λb o e=>hx b o (dQ (bF e)) e
 exact h pins _ σ H xs _ Q I1 (by simpa using rv) hw
noncomputable def cS3(to ti:TE)(t:Fw):TG:=λv σ H Q=>to σ H λo H1=>ti σ H1 λi H2=>t o i v H2 λH3=>Q σ H3
theorem cB8{o i:Expr}{to ti:TE}{t:Fw}(ho:PE X o to)(hi:PE X i ti)(hs:QO X t)
  (ha:∀v,assign (.Subscript o i pos) X.env v=(do
   let ov<-holding [v] (eval o X.env)
   let iv<-holding [v,ov] (eval i X.env)
   standAt pos
   holding [v,ov,iv] (setItem ov iv v)
   release [v,ov,iv] []):=by intro _;rfl):PG X (.Subscript o i pos) (cS3 to ti t):=by
 intro pins s σ H v u Q I r h
 rw[ha]
 refine wpAny_bind (wpAny_holding (aL (ho pins s σ H _ I h) λov s1 ⟨x,H1,I1,r1,q1⟩=>?_))
 refine wpAny_bind (wpAny_holding (aL (hi pins s1 σ H1 _ I1 q1) λiv s2 ⟨y,H2,I2,r2,q2⟩=>?_))
 refine wpAny_bind (wpAny_standAt (wpAny_bind (wpAny_holding (aL (hs pins s2 σ H2 x y v ov iv u _ I2 r1 r2 r q2) λ_ s3 ⟨H3,I3,q3⟩=>?_))))
 exact wpAny_release ⟨σ,H3,I3,q3⟩
noncomputable def Fy(te:TE)(g:TG):TS:=λD σ H=>te σ H λx H1=>g x σ H1 D.nx
theorem cH8{tg e:Expr}{te:TE}{g:TG}(he:PE X e te)(hg:PG X tg g)(hs:swapsWithSole [tg] e pos.line X.env=pure false:=by rfl)(hw:swappedStores [tg] e X.env=pure none:=by rfl)
  (h1:(assignEach [tg] X.env).map (·.2)=[assign tg X.env]:=by rfl):PS X (.Assign [tg] e pos) (Fy te g):=by
 intro pins s σ H D I h
 refine wpAny_Assign_stores (aL (he pins s σ H _ I h) λv s1 ⟨x,H1,I1,r1,q1⟩=>?_) hs hw
 rw[h1]
 exact aL (hg pins s1 σ H1 x v _ I1 r1 q1) λ_ s2 q=>q
theorem Fz{i:Nat}{x:Str}{e:Expr}{te:TE}{pos':Pos}(hN:X.N.Nodup)(hi:X.N[i]?=some x)(hx:Loc X.env.scope x)(he:PE X e te)(hs:swapsWith e (some (.Name x pos')) pos.line X.env=pure false:=by rfl)(hf:X.fn x=true\/X.env.scope.names.lookup x=some .local:=by first | exact .inl rfl | exact .inr rfl | assumption) :
  PS X (.Assign [.Name x pos'] e pos) (Fy te (Bk i)):=by
 intro pins s σ H D I h
 refine wpAny_Assign_Name (aL (he pins s σ H _ I h) λv s1 ⟨y,H1,I1,r1,q1⟩=>?_) hs
 exact Bd I1 hN hi hx r1 (λs2 I2=>⟨_,H1,I2,q1⟩) hf
noncomputable def cR7(i:Nat)(te:TE)(ti:Fx):TS:=λD σ H=>∃x,σ[i]?=some (some x)/\te σ H λy H1=>ti x y H1 λz H2=>D.nx (σ.set i (some z)) H2
theorem cG2{i:Nat}{x:Str}{e:Expr}{te:TE}{op:Operator}{ti:Fx}{pos':Pos}(hN:X.N.Nodup)(hi:X.N[i]?=some x)(hx:Loc X.env.scope x)(he:PE X e te)(ho:PIp X op ti)(hf:X.fn x=true\/X.env.scope.names.lookup x=some .local:=by first | exact .inl rfl | exact .inr rfl | assumption) :
  PS X (.AugAssign (.Name x pos') op e pos) (cR7 i te ti):=by
 intro pins s σ H D I h
 obtain⟨v,e1,h⟩:=h
 obtain⟨m,hn,hl⟩:=I.loc
 have vis:j8 X.env.scope x:=by rcases hx with k | k;exact .inl k;exact .inr (.inl k)
 obtain⟨u,r,l⟩:=hl i x v hi e1 vis
 refine wpAny_AugAssign_Name ?_
 have go:wpAny (model X.prog X.w) X.A (eval e X.env) (λw iJ=>wpAny (model X.prog X.w) X.A (inplaceOp op u w) (λr cX0=>wpAny (model X.prog X.w) X.A (storeName X.env x r) (λ_=>SP X pins D .next) X.xe cX0) X.xe iJ) X.xe s:=by
  refine aL (he pins s σ H _ I h) λw s1 ⟨y,H1,I1,r1,q1⟩=>?_
  refine aL (ho pins s1 σ H1 v y u w _ I1 r r1 q1) λz s2 ⟨zv,H2,I2,r2,q2⟩=>?_
  exact Bd I2 hN hi hx r2 (λs3 I3=>⟨_,H2,I3,q2⟩) hf
 rcases l with⟨hk,hm⟩ | ⟨hk,c,hc,Be⟩
 ·exact wpAny_loadName_local I.ok.kind hk hn hm go
 ·rcases hk with hk | hk
  ·exact wpAny_loadName_cell I.ok.kind hk hc Be go
  ·rcases hx with k | k
   ·have:X.env.scope.names.lookup x=some .free:=hk
    rw[k]at this;cases this
   ·have:X.env.scope.names.lookup x=some .free:=hk
    rw[k]at this;cases this
end
section
variable{X:Cx}{pos:Pos}
noncomputable def cD2(c:TT)(tb:TS):TS:=λD σ H=>∃W:Nat->St->Hp->Prop,(∃m,W m σ H)/\∀m σ H,W m σ H ->
 c σ H λb H1=>if b=true then ∃N:St->Hp->Prop,(∀ay H',N ay H'->∃m',m'<m/\W m' ay H')/\tb { D with nx:=N,ct:=N,bk:=D.nx } σ H1 else D.nx σ H1
theorem ca0{c:Expr}{body:List Stmt}{tc:TT}{tb:TS}(hp:PassesOwn (model X.prog X.w) X.A X.env X.xe)(hc:PT X c tc)(hb:PSs X body tb):PS X (.While c body [] pos) (cD2 tc tb):=by
 intro pins s σ H D I h
 obtain⟨W,⟨m0,w0⟩,turn⟩:=h
 refine wpAny_While (codeAny_whileLoop (λn s'=>∃ay H',Inv X pins ay H' s'/\W n ay H') ?_ m0 ⟨σ,H,I,w0⟩)
 rintro n s1 ⟨fA,H1,I1,w1⟩
 refine wpAny_passesOwn hp (aL (hc pins s1 fA H1 _ I1 (turn n fA H1 w1)) λb s2 ⟨H2,I2,q2⟩=>?_)
 cases b with
 | true =>
  obtain⟨N,hN,q2⟩:=q2
  rw[if_pos rfl]
  refine wpAny_passesOwn hp (aL (hb pins s2 fA H2 _ I2 q2) λf s3 q3=>?_)
  cases f with
  | next =>
   obtain⟨jz,H3,I3,n3⟩:=q3
   obtain⟨m',hm,w3⟩:=hN jz H3 n3
   exact⟨m',hm,jz,H3,I3,w3⟩
  | cont =>
   obtain⟨jz,H3,I3,n3⟩:=q3
   obtain⟨m',hm,w3⟩:=hN jz H3 n3
   exact⟨m',hm,jz,H3,I3,w3⟩
  | brk=>exact q3
  | ret v=>exact q3
 | false =>
  rw[if_neg eC]
  exact wpAny_execs_nil ⟨fA,H2,I2,q2⟩
end
structure It where
 go:Nat->Hp->Prop
 jh:Nat->Hp->V->Hp->Prop
 stop:Nat->Hp->Prop
noncomputable def g5(X:Cx)(pins:List (Addr × Obj))(H:Hp)(b:Addr):Prop :=
 H b=none/\b≠X.env.locals/\b ∉ X.fs/\(b∈X.ex\/X.ck.heap.objs.size<=b)/\(∀x c,X.env.cells.lookup x=some c->c≠b)/\∀p∈X.pn++pins,p.1≠b
theorem Inv.Bo{X:Cx}{pins:List (Addr × Obj)}{σ:St}{H H':Hp}{s:Shared}{b:Addr}(I:Inv X pins σ H s)(hb:s.heap.objs.size<=b)(hn:H' b=none):g5 X pins H' b:=by
 refine⟨hn,Qc (cy I.lt hb),I.QE hb,.inr (eA I.sz hb),λx c e z=>?_,λp hp z=>?_⟩
 ·obtain⟨v,q⟩:=I.cell x c e
  exact absurd (cy q.lt (by rw[z];exact hb)) (fM _)
 ·exact absurd (cy (bF (I.pin p hp).1) (by rw[z];exact hb)) (fM _)
structure Turn(P:Program)(w:World)(K:PySem.W.Frag)(tg:Expr)(J:It)(fp:List Addr)(it:Addr)(tn:Nat->Heap->Prop):Prop where
 mem:it∈fp
 obj:∀i h,tn i h->∀b∈fp,∃o,h.get? b=some o/\∀v,o.data≠.cell v
 keep:∀i h h',tn i h->(∀b∈fp,∀o,h.get? b=some o->h'.get? b=some o)->tn i h'
 item:∀(X:Cx),X.prog=P->X.w=w->X.K=K->X.calm=true->∀(i:Nat) (pins:List (Addr × Obj)) (s:Shared) (σ:St) (H:Hp) (E:Value->Shared->Prop),Inv X pins σ H s->(∀b∈fp,g5 X pins H b)->tn i s.heap->J.go i H ->
  wpAny (model P w) X.A (pyNext (.ref it)) (λr s1=>∃u,r=some u /\
   wpAny (model P w) X.A (letOwnedTupleGo tg (.ref it) u) (λ_ s2=>∃x H',Inv X pins σ H' s2/\RelV x u/\J.jh i H x H'/\tn (i+1) s2.heap/\∀b∈fp,H' b=none) E s1) E s
 done:∀(X:Cx),X.prog=P->X.w=w->X.K=K->X.calm=true->∀(i:Nat) (pins:List (Addr × Obj)) (s:Shared) (σ:St) (H:Hp) (E:Value->Shared->Prop),Inv X pins σ H s->(∀b∈fp,g5 X pins H b)->tn i s.heap->J.stop i H ->
  wpAny (model P w) X.A (pyNext (.ref it)) (λr s1=>r=none/\Inv X pins σ H s1) E s
 self:∀(A:Around) (i:Nat) (s:Shared) (Q:Value->Shared->Prop) (E:Value->Shared->Prop),tn i s.heap->Q (.ref it) s->wpAny (model P w) A (pyIter (.ref it)) Q E s
noncomputable abbrev TI:=St->Hp->(It->Hp->Prop)->Prop
noncomputable def QQ(X:Cx)(pins:List (Addr × Obj))(σ:St)(tg:Expr)(R:It->Hp->Prop)(FA:Value)(s2:Shared):Prop :=
 ∃(it:Addr) (fp:List Addr) (tn:Nat->Heap->Prop) (J:It) (H':Hp),FA=.ref it/\Inv X pins σ H' s2/\Turn X.prog X.w X.K tg J fp it tn/\tn 0 s2.heap/\(∀b∈fp,g5 X pins H' b)/\R J H'
noncomputable def PI(X:Cx)(tg iter:Expr)(wi:TI):Prop :=
 ∀(pins:List (Addr × Obj)) (s:Shared) (σ:St) (H:Hp) (R:It->Hp->Prop),Inv X pins σ H s->wi σ H R ->
  wpAny (model X.prog X.w) X.A (eval iter X.env) (λv s1=>wpAny (model X.prog X.w) X.A (pyIter v) (QQ X pins σ tg R) X.xe s1) X.xe s
theorem QR{M:Model}{A:Around}{E:Value->Shared->Prop}{s:Shared}{tg:Expr}{it:Addr}{u:Value}{o:Obj}{n:String}{vs:Array Value}{Q:Unit->Shared->Prop}(ho:s.heap.get? it=some o)(hc:o.cls=.type n)(hd:o.data=.fields vs)
  (hn:["enumerate","zip","dict_itemiterator","dict_reverseitemiterator","odict_iterator","itertools.zip_longest","itertools.pairwise"].contains n=false) (hQ:Q () s):wpAny M A (letOwnedTupleGo tg (.ref it) u) Q E s:=by
 unfold letOwnedTupleGo
 cases tg<;>first
  | exact wpAny_pure hQ
  | (cases u<;>first
    | exact wpAny_pure hQ
    | (refine wpAny_bind (wpAny_load ho ?_)
       rw[hc,hd]
       show wpAny M A (if(["enumerate","zip","dict_itemiterator","dict_reverseitemiterator","odict_iterator","itertools.zip_longest","itertools.pairwise"].contains n&&vs[0]?==some (rawInt _))=true then _ else _) Q E s
       rw[if_neg (by intro h;rw[hn,qA]at h;cases h)]
       exact wpAny_pure hQ))
noncomputable def FC(K:PySem.W.Frag)(a:Addr):It :=
 ⟨λi H=>∃xs x,bH K H a xs/\xs[i]?=some x,λi H x H'=>H'=H/\∀xs,bH K H a xs->xs[i]?=some x,λi H=>∃xs,bH K H a xs/\xs.length<=i⟩
noncomputable def w5(lo:Int)(n:Nat):It:=⟨λi _=>i<n,λi H x H'=>H'=H/\x=.int (lo+i),λi _=>n<=i⟩
theorem bU1{P:Program}{w:World}{K:PySem.W.Frag}{tg:Expr}(a it:Addr):Turn P w K tg (FC K a) [it] it (λi h=>h.IsListIter it a i) where
 mem:=by simp
 obj:=λi h st b hb=>by
  have e:b=it:=by simpa using hb
  subst e
  obtain⟨o,e,c,d⟩:=st
  exact⟨o,e,λv z=>by rw[d]at z;cases z⟩
 keep:=λi h h' st k=>st.at λo e=>k it (by simp) o e
 item:=by
  intro X hP hw hK hc i pins s σ H E I hf st hg
  subst hP hw hK
  obtain⟨xs,x,hq,hx⟩:=hg
  obtain⟨its,rv,p,hz⟩:=I.list hq
  obtain⟨u,hu,ru⟩:=rv.get hx
  obtain⟨f0,f1,f2,f3,f4,f5⟩:=hf it (by simp)
  refine wpAny_pyNext_list_item st p.isList (x:=u) (by simpa using hu) λh' mS sb=>?_
  have I1:Inv X pins σ H { s with heap:=h' }:=I.turned (t':=s.toks) (λb o hb e=>(sb.2 b hb).trans e) f0 f1 f3 f4 f5
  obtain⟨o,e,c,d⟩:=id mS
  exact⟨u,rfl,QR (s:={ s with heap:=h' }) e c d (by decide) ⟨x,H,I1,ru,⟨rfl,λys hy=>by rw[I.Bg hy hq];exact hx⟩,mS,λb hb=>(hf b hb).1⟩⟩
 done:=by
  intro X hP hw hK hc i pins s σ H E I hf st hg
  subst hP hw hK
  obtain⟨xs,hq,hx⟩:=hg
  obtain⟨its,rv,p,hz⟩:=I.list hq
  obtain⟨f0,f1,f2,f3,f4,f5⟩:=hf it (by simp)
  have hl:=rv.length
  exact wpAny_pyNext_list_end (I.ok.hd hc) st p.isList (by simp;omega) λh' eb=>⟨rfl,I.turned (t':=s.toks) (λb o hb e=>eb b o hb e) f0 f1 f3 f4 f5⟩
 self:=λ_ _ _ _ _ st h=>wpAny_pyIter_listiter st h
theorem bQ4{P:Program}{w:World}{K:PySem.W.Frag}{tg:Expr}(it:Addr)(lo:Int)(n:Nat):Turn P w K tg (w5 lo n) [it] it (λi h=>IsRangeIter h it (lo+(i:Nat)*1) ((n:Int)-(i:Nat)) 1) where
 mem:=by simp
 obj:=λi h st b hb=>by
  have e:b=it:=by simpa using hb
  subst e
  exact⟨_,st,λv z=>by
   have z':Data.fields _=Data.cell v:=z
   cases z'⟩
 keep:=λi h h' st k=>k it (by simp) _ st
 item:=by
  intro X hP hw hK hc i pins s σ H E I hf st hg
  subst hP hw hK
  obtain⟨f0,f1,f2,f3,f4,f5⟩:=hf it (by simp)
  have W:=Walks.range (prog:=X.prog) (w:=X.w) (I.ok.hd hc) it lo 1 n
  refine W.item i s _ _ hg st λv h' tk hv mS kk=>?_
  obtain⟨t,rfl⟩:=hv
  have I1:Inv X pins σ H { s with heap:=h',toks:=tk }:=I.turned (λb o hb e=>kk b o (by simpa using hb) e) f0 f1 f3 f4 f5
  refine⟨_,rfl,QR (s:={ s with heap:=h',toks:=tk }) (n:="range_iterator") mS rfl rfl (by decide) ⟨.int (lo+i),H,I1,⟨t,?_⟩,⟨rfl,rfl⟩,mS,λb hb=>(hf b hb).1⟩⟩
  rw[Int.mul_one]
 done:=by
  intro X hP hw hK hc i pins s σ H E I hf st hg
  subst hP hw hK
  obtain⟨f0,f1,f2,f3,f4,f5⟩:=hf it (by simp)
  exact wpAny_pyNext_range_end (I.ok.hd hc) st (by have:n<=i:=hg;omega) λh' eb=>⟨rfl,I.turned (t':=s.toks) (λb o hb e=>eb b o hb e) f0 f1 f3 f4 f5⟩
 self:=λ_ _ _ _ _ st h=>wpAny_pyIter_rangeiter st h
end L2
namespace L2
open PySem PySem.Spec PyProof.Rows
section
variable{X:Cx}{tg:Expr}
noncomputable def cN8(K:PySem.W.Frag)(tl:TE):TI:=λσ H R=>tl σ H λx H1=>∃a,x=.ref a/\(∃xs,bH K H1 a xs)/\R (FC K a) H1
theorem QS{l:Expr}{tl:TE}(hl:PE X l tl):PI X tg l (cN8 X.K tl):=by
 intro pins s σ H R I h
 refine aL (hl pins s σ H _ I h) λv s1 ⟨x,H1,I1,r1,q1⟩=>?_
 obtain⟨a,e,⟨xs,hq⟩,q⟩:=q1
 subst e
 cases r1
 obtain⟨its,rv,p,hz⟩:=I1.list hq
 refine wpAny_pyIter_list p.isList ?_
 refine⟨s1.heap.objs.size,[s1.heap.objs.size],_,_,H1,rfl,I1.kept (t':=s1.toks) λb o e=>eM _ e,bU1 a _,⟨_,fO _ rfl,rfl,rfl⟩,λb hb=>?_,q⟩
 have e:b=s1.heap.objs.size:=by simpa using hb
 subst e
 exact I1.Bo (bB _) (I1.aA.fresh (bB _))
theorem QT{pins:List (Addr × Obj)}{σ:St}{H:Hp}{s:Shared}{R:It->Hp->Prop}{E:Value->Shared->Prop}{lo hi:Int}{t u v:Tok}{tk:Nat}(I:Inv X pins σ H s)(h1:-(2 ^ 62)<=lo)(h2:lo<2 ^ 62)(h3:-(2 ^ 62)<=hi)(h4:hi<2 ^ 62)
  (q:R (w5 lo (hi-lo).toNat) H):wpAny (model X.prog X.w) X.A (pyIter (.ref s.heap.objs.size)) (QQ X pins σ tg R) E { s with heap:=s.heap.push { cls:=.type "range",data:=.fields #[.int lo t,.int hi u,.int 1 v] },toks:=tk }:=by
 refine wpAny_pyIter_range (IsRange.new ..) (small_one h1 h2 h3 h4) ?_
 have I1:Inv X pins σ H { s with heap:=s.heap.push { cls:=.type "range",data:=.fields #[.int lo t,.int hi u,.int 1 v] },toks:=tk }:=I.kept λb o e=>eM _ e
 refine⟨(s.heap.push { cls:=.type "range",data:=.fields #[.int lo t,.int hi u,.int 1 v] }).objs.size,[(s.heap.push { cls:=.type "range",data:=.fields #[.int lo t,.int hi u,.int 1 v] }).objs.size],_,_,H,rfl,
  I1.kept (t':=tk) λb o e=>eM _ e,bQ4 _ lo (hi-lo).toNat,?_,λb hb=>?_,q⟩
 ·have e1:lo+((0:Nat):Int)*1=lo:=by simp
  have e2:(((hi-lo).toNat:Nat):Int)-((0:Nat):Int)=Builtin.Range.rangeSize lo hi 1:=by rw[rangeSize_one];split<;>omega
  show IsRangeIter _ _ (lo+((0:Nat):Int)*1) ((((hi-lo).toNat:Nat):Int)-((0:Nat):Int)) 1
  rw[e1,e2]
  exact fO _ rfl
 ·have e:b=(s.heap.push { cls:=.type "range",data:=.fields #[.int lo t,.int hi u,.int 1 v] }).objs.size:=by simpa using hb
  subst e
  exact I1.Bo (bB _) (I1.aA.fresh (bB _))
noncomputable def cK2(ta:TA):TI:=λσ H R=>ta σ H λvs H1=>∃j:Int,vs=[.int j]/\-(2 ^ 62)<=j/\j<2 ^ 62/\R (w5 0 j.toNat) H1
noncomputable def cK7(ta:TA):TI:=λσ H R=>ta σ H λvs H1=>∃i j:Int,vs=[.int i,.int j]/\(-(2 ^ 62)<=i/\i<2 ^ 62/\-(2 ^ 62)<=j/\j<2 ^ 62)/\R (w5 i (j-i).toNat) H1
theorem bW8{a:Expr}{ta:TA}{p pos:Pos}(hg:Gl X "range")(hm:X.mg "range"=none)(ha:PA X [a] ta)(hs:starEach [a] X.env=[(false,eval a X.env)]:=by rfl):PI X tg (.Call (.Name "range" p) [a] [] pos) (cK2 ta):=by
 intro pins s σ H R I h
 refine Call_ (ou I hg hm boot_range (Au (aL (ha pos pins s σ H _ I h) λus s1 ⟨vs,H1,I1,r1,q1⟩=>?_) hs rfl))
 obtain⟨j,e,q1,q2,q⟩:=q1
 subst e
 cases r1 with
 | cons r rr =>
  cases rr
  obtain⟨t,rfl⟩:=r
  exact call_range_1 (QT I1 (by omega) (by omega) q1 q2 (by simpa using q))
theorem b09{a b:Expr}{ta:TA}{p pos:Pos}(hg:Gl X "range")(hm:X.mg "range"=none)(ha:PA X [a,b] ta)(hs:starEach [a,b] X.env=[(false,eval a X.env),(false,eval b X.env)]:=by rfl)(eK:starEach [b] X.env=[(false,eval b X.env)]:=by rfl) :
  PI X tg (.Call (.Name "range" p) [a,b] [] pos) (cK7 ta):=by
 intro pins s σ H R I h
 refine Call_ (ou I hg hm boot_range (Au (aL (ha pos pins s σ H _ I h) λus s1 ⟨vs,H1,I1,r1,q1⟩=>?_) (by rw[hs,eK]) (by rw[eK];rfl)))
 obtain⟨i,j,e,⟨q1,q2,q3,q4⟩,q⟩:=q1
 subst e
 cases r1 with
 | cons r rr =>
  cases rr with
  | cons r' rr =>
   cases rr
   obtain⟨t,rfl⟩:=r
   obtain⟨t',rfl⟩:=r'
   exact call_range_2 (QT I1 q1 q2 q3 q4 q)
noncomputable def cQ6(wi:TI)(g:TG)(tb:TS):TS:=λD σ H=>wi σ H λJ H1=>∃W:Nat->Nat->St->Hp->Prop,(∃m,W 0 m σ H1)/\∀i m σ H,W i m σ H ->
 (J.stop i H/\D.nx σ H)\/(J.go i H/\∃N:St->Hp->Prop,(∀ay H',N ay H'->∃m',m'<m/\W (i+1) m' ay H')/\∀x H',J.jh i H x H'->g x σ H' λiK H2=>tb { D with nx:=N,ct:=N,bk:=D.nx } iK H2)
noncomputable def w6(fp:List Addr)(h:Heap):List (Addr × Obj):=fp.filterMap λb=>(h.get? b).map λo=>(b,o)
theorem Bp{fp:List Addr}{h:Heap}{b:Addr}{o:Obj}(hb:b∈fp)(e:h.get? b=some o):(b,o)∈w6 fp h:=Z2.mpr ⟨b,hb,by rw[e];rfl⟩
theorem bV6{fp:List Addr}{h:Heap}{p:Addr × Obj}(hp:p∈w6 fp h):p.1∈fp/\h.get? p.1=some p.2:=by
 obtain⟨b,hb,e⟩:=Z2.mp hp
 cases q:h.get? b with
 | none=>rw[q]at e;cases e
 | some o =>
  rw[q]at e
  have e':(b,o)=p:=cP e
  subst e'
  exact⟨hb,q⟩
theorem Inv.pinned{pins:List (Addr × Obj)}{σ:St}{H:Hp}{s:Shared}{fp:List Addr}(I:Inv X pins σ H s)(hf:∀b∈fp,g5 X pins H b)(ho:∀b∈fp,∃o,s.heap.get? b=some o/\∀v,o.data≠.cell v):Inv X (pins++w6 fp s.heap) σ H s :=
 I.QF λp hp=>(cO.mp hp).elim (λz=>I.pin p (dA _ z)) λz=>by
  obtain⟨hb,e⟩:=bV6 z
  obtain⟨f0,f1,f2,_⟩:=hf p.1 hb
  obtain⟨o,e',d⟩:=ho p.1 hb
  rw[e]at e';cases e'
  exact⟨e,f0,f1,f2,d⟩
theorem Inv.w9{pins pl:List (Addr × Obj)}{σ:St}{H:Hp}{s:Shared}(I:Inv X (pins++pl) σ H s):Inv X pins σ H s:=I.QF λp hp=>I.pin p (dA _ (eJ _ hp))
theorem cF6{iter:Expr}{body:List Stmt}{wi:TI}{g:TG}{tb:TS}{pos:Pos}(hp:PassesOwn (model X.prog X.w) X.A X.env X.xe)(hc:X.calm=true)(hi:PI X tg iter wi)(hg:PG X tg g)(hb:PSs X body tb)
  (hs:∀x,foldedSetIterable iter X.env x=pure x:=by intro _;rfl):PS X (.For tg iter body [] pos) (cQ6 wi g tb):=by
 intro pins s σ H D I h
 refine wpAny_For (aL (hi pins s σ H _ I h) λv s1 h1=>aL h1 λFA s2 h2=>?_) hs
 obtain⟨it,fp,tn,J,H2,e,I2,T,xb,f2,W,⟨m0,w0⟩,turn⟩:=h2
 subst e
 have FD:∀{H':Hp},(∀b∈fp,H' b=none)->∀b∈fp,g5 X pins H' b:=λhn b hb=>⟨hn b hb,(f2 b hb).2⟩
 refine codeAny_forLoop_any (λn s'=>∃i ay H',Inv X pins ay H' s'/\tn i s'.heap/\(∀b∈fp,H' b=none)/\W i n ay H') ?_ m0 ⟨0,σ,H2,I2,xb,λb hb=>(f2 b hb).1,w0⟩
 rintro n s3 ⟨i,jz,H3,I3,QU,FE,w3⟩
 rcases turn i n jz H3 w3 with⟨stop,qn⟩ | ⟨go,N,hN,step⟩
 ·refine wpAny_passesOwn hp (aL (T.done X rfl rfl rfl hc i pins s3 jz H3 X.xe I3 (FD FE) QU stop) λr s4 ⟨hr,I4⟩=>?_)
  subst hr
  exact wpAny_execs_nil ⟨jz,H3,I4,qn⟩
 ·refine wpAny_passesOwn hp (aL (T.item X rfl rfl rfl hc i pins s3 jz H3 X.xe I3 (FD FE) QU go) λr s4 ⟨u,hr,h4⟩=>?_)
  subst hr
  refine wpAny_passesOwn hp (aL h4 λ_ s5 ⟨x,H5,I5,r5,y5,oy,xf⟩=>?_)
  have FF:=I5.pinned (FD xf) (T.obj _ _ oy)
  refine wpAny_passesOwn hp (aL (hg _ s5 jz H5 x u _ FF r5 (step x H5 y5)) λ_ s6 ⟨Bq,H6,I6,q6⟩=>?_)
  refine wpAny_passesOwn hp (aL (hb _ s6 Bq H6 _ I6 q6) λf s7 q7=>?_)
  have again:∀{jA:St} {H7:Hp},Inv X (pins++w6 fp s5.heap) jA H7 s7->N jA H7->∃m,m<n/\∃i ay H',Inv X pins ay H' s7/\tn i s7.heap/\(∀b∈fp,H' b=none)/\W i m ay H':=λ{jA H7} I7 n7=>by
   obtain⟨m',hm,w7⟩:=hN jA H7 n7
   refine⟨m',hm,i+1,jA,H7,I7.w9,T.keep _ _ _ oy λb hb o e=>(I7.pin (b,o) (dA _ (dA _ (Bp hb e)))).1,λb hb=>?_,w7⟩
   obtain⟨o,e,d⟩:=T.obj _ _ oy b hb
   exact(I7.pin (b,o) (dA _ (dA _ (Bp hb e)))).2.1
  cases f with
  | next=>obtain⟨jA,H7,I7,n7⟩:=q7;exact again I7 n7
  | cont=>obtain⟨jA,H7,I7,n7⟩:=q7;exact again I7 n7
  | brk=>obtain⟨jA,H7,I7,q7⟩:=q7;exact⟨jA,H7,I7.w9,q7⟩
  | ret v=>obtain⟨x7,jA,H7,I7,r7,q7⟩:=q7;exact⟨x7,jA,H7,I7.w9,r7,q7⟩
end
end L2
namespace L2
open PySem PySem.Spec PyProof.Rows
noncomputable abbrev R2:=V->V->Hp->VK->Prop
noncomputable def bW(X:Cx)(f:Value->Value->Sem Value)(r:R2):Prop :=
 ∀(pins:List (Addr × Obj)) (s:Shared) (σ:St) (H:Hp) (x y:V) (v u:Value) (Q:VK),Inv X pins σ H s->RelV x v->RelV y u->r x y H Q ->
  wpAny (model X.prog X.w) X.A (f v u) (EP X pins σ Q) X.xe s
noncomputable def FG(X:Cx)(f:Value->Sem Value)(r:V->Hp->VK->Prop):Prop :=
 ∀(pins:List (Addr × Obj)) (s:Shared) (σ:St) (H:Hp) (x:V) (v:Value) (Q:VK),Inv X pins σ H s->RelV x v->r x H Q ->
  wpAny (model X.prog X.w) X.A (f v) (EP X pins σ Q) X.xe s
noncomputable def fW(X:Cx)(f:Value)(r:List V->Hp->VK->Prop):Prop :=
 ∀(pins:List (Addr × Obj)) (s:Shared) (σ:St) (H:Hp) (xs:List V) (us:List Value) (Q:VK),Inv X pins σ H s->Vals xs us->r xs H Q ->
  wpAny (model X.prog X.w) X.A (call f us) (EP X pins σ Q) X.xe s
noncomputable def xg(r:R2)(ta tb:TE):TE:=λσ H Q=>ta σ H λx H1=>tb σ H1 λy H2=>r x y H2 Q
noncomputable def tUn(r:V->Hp->VK->Prop)(ta:TE):TE:=λσ H Q=>ta σ H λx H1=>r x H1 Q
noncomputable def rI(C:Int->Int->Prop)(g:Int->Int->V):R2:=λx y H Q=>∃i j,x=.int i/\y=.int j/\C i j/\Q (g i j) H
noncomputable def iM(g:Int->Int->V):R2:=λx y H Q=>∃i j,x=.int i/\y=.int j/\Q (g i j) H
noncomputable def rU(g:Int->V):V->Hp->VK->Prop:=λx H Q=>∃i,x=.int i/\Q (g i) H
section
variable{X:Cx}{a b c:Expr}{ta tb tc:TE}{pos:Pos}
theorem FH(ha:PE X a ta)(hb:PE X b tb){pins:List (Addr × Obj)}{s:Shared}{σ:St}{H:Hp}{R:V->V->Hp->Prop}(I:Inv X pins σ H s)
  (h:ta σ H λx H1=>tb σ H1 λy H2=>R x y H2) {Q:Value->Shared->Prop} {f:Value->Value->Sem Value}
  (hf:∀v u s2 x y H2,Inv X pins σ H2 s2->RelV x v->RelV y u->R x y H2->wpAny (model X.prog X.w) X.A (f v u) Q X.xe s2) :
  wpAny (model X.prog X.w) X.A (eval a X.env) (λv bw=>wpAny (model X.prog X.w) X.A (eval b X.env) (λu iJ=>wpAny (model X.prog X.w) X.A (f v u) Q X.xe iJ) X.xe bw) X.xe s:=by
 refine aL (ha pins s σ H _ I h) λv s1 ⟨x,H1,I1,r1,q1⟩=>?_
 refine aL (hb pins s1 σ H1 _ I1 q1) λu s2 ⟨y,H2,I2,r2,q2⟩=>?_
 exact hf v u s2 x y H2 I2 r1 r2 q2
theorem xh{op:Operator}{r:R2}(ho:bW X (binaryOp op) r)(ha:PE X a ta)(hb:PE X b tb):PE X (.BinOp a op b pos) (xg r ta tb):=by
 intro pins s σ H Q I h
 exact wpAny_BinOp (FH ha hb I h λv u s2 x y H2 I2 rx ry q=>ho pins s2 σ H2 x y v u Q I2 rx ry q)
theorem cN4{op:UnaryOp}{r:V->Hp->VK->Prop}(ho:FG X (unaryOp op) r)(ha:PE X a ta):PE X (.UnaryOp op a pos) (tUn r ta):=by
 intro pins s σ H Q I h
 exact UnaryOp_ (aL (ha pins s σ H _ I h) λv s1 ⟨x,H1,I1,r1,q1⟩=>ho pins s1 σ H1 x v Q I1 r1 q1)
theorem qX{f:Value->Value->Sem Value}{C:Int->Int->Prop}{g:Int->Int->Int}
  (rule:∀(i j:Int) (t u:Tok) (s:Shared) (Q:Value->Shared->Prop) (E:Value->Shared->Prop),C i j->Q (.int (g i j) s.toks) { s with toks:=s.toks+1 }->wpAny (model X.prog X.w) X.A (f (.int i t) (.int j u)) Q E s) :
  bW X f (rI C λi j=>.int (g i j)):=by
 intro pins s σ H x y v u Q I rx ry h
 obtain⟨i,j,rfl,rfl,hc,q⟩:=h
 obtain⟨t,rfl⟩:=rx
 obtain⟨t',rfl⟩:=ry
 exact rule i j t t' s _ _ hc ⟨.int (g i j),H,I.tok _,⟨_,rfl⟩,q⟩
theorem qY{f:Value->Value->Sem Value}{g:Int->Int->Int}
  (rule:∀(i j:Int) (t u:Tok) (s:Shared) (Q:Value->Shared->Prop) (E:Value->Shared->Prop),Q (.int (g i j) s.toks) { s with toks:=s.toks+1 }->wpAny (model X.prog X.w) X.A (f (.int i t) (.int j u)) Q E s) :
  bW X f (iM λi j=>.int (g i j)):=by
 intro pins s σ H x y v u Q I rx ry h
 obtain⟨i,j,rfl,rfl,q⟩:=h
 obtain⟨t,rfl⟩:=rx
 obtain⟨t',rfl⟩:=ry
 exact rule i j t t' s _ _ ⟨.int (g i j),H,I.tok _,⟨_,rfl⟩,q⟩
theorem Br{f:Value->Value->Sem Value}{g:Int->Int->Bool}
  (rule:∀(i j:Int) (t u:Tok) (s:Shared) (Q:Value->Shared->Prop) (E:Value->Shared->Prop),Q (.bool (g i j)) s->wpAny (model X.prog X.w) X.A (f (.int i t) (.int j u)) Q E s) :
  bW X f (iM λi j=>.bl (g i j)):=by
 intro pins s σ H x y v u Q I rx ry h
 obtain⟨i,j,rfl,rfl,q⟩:=h
 obtain⟨t,rfl⟩:=rx
 obtain⟨t',rfl⟩:=ry
 exact rule i j t t' s _ _ ⟨.bl (g i j),H,I,rfl,q⟩
noncomputable def QV(i j:Int):Prop:=0<=j/\j<=1000000/\i.natAbs<2 ^ 64
noncomputable def mT(i j:Int):Prop:=(-(2 ^ 64)<i/\i<2 ^ 64)\/(-(2 ^ 64)<j/\j<2 ^ 64)
theorem mT.ok{i j:Int}(h:mT i j):IntMulOk i j:=by
 rcases h with⟨h1,h2⟩ | ⟨h1,h2⟩
 ·exact .of_left (intBits_le_64 h1 h2)
 ·exact .of_right (intBits_le_64 h1 h2)
theorem bN4(k:Nat):(0:Int)<=2 ^ k:=by
 rw[two_pow_cast]
 exact Qe _
theorem cB1:bW X (binaryOp .Add) (iM λi j=>.int (i+j)):=qY λ_ _ _ _ _ _ _ q=>add_int q
theorem FI:bW X (binaryOp .Sub) (iM λi j=>.int (i-j)):=qY λ_ _ _ _ _ _ _ q=>sub_int q
theorem cE9:bW X (binaryOp .Mod) (rI (λ_ j=>0<j) λi j=>.int (i%j)):=qX λi j _ _ _ _ _ hc q=>by
 have h1:(0:Int)<j:=hc
 exact mod_int' (by omega) (by rw[Int.fmod_eq_emod_of_nonneg i (by omega)];exact q)
theorem cG0:bW X (binaryOp .Pow) (rI QV λi j=>.int (i ^ j.toNat)):=qX λ_ _ _ _ _ _ _ hc q=>pow_int_small hc.1 hc.2.1 hc.2.2 q
theorem cG9:bW X (binaryOp .RShift) (rI (λ_ j=>0<=j) λi j=>.int (i/2 ^ j.toNat)):=qX λi j _ _ _ _ _ hc q =>
 rshift_int hc (by rw[Z3 i (bN4 _)];exact q)
theorem cF4:bW X (binaryOp .BitAnd) (iM λi j=>.int (nV i j)):=qY λ_ _ _ _ _ _ _ q=>and_int q
theorem cC3:bW X (binaryOp .BitXor) (iM λi j=>.int (mJ i j)):=qY λ_ _ _ _ _ _ _ q=>xor_int q
theorem cq9:bW X (inplaceOp .Add) (iM λi j=>.int (i+j)):=qY λ_ _ _ _ _ _ _ q=>iadd_int q
theorem cs9:bW X (inplaceOp .BitXor) (iM λi j=>.int (mJ i j)):=qY λ_ _ _ _ _ _ _ q=>ixor_int q
theorem unI{f:Value->Sem Value}{g:Int->Int}
  (rule:∀(i:Int) (t:Tok) (s:Shared) (Q:Value->Shared->Prop) (E:Value->Shared->Prop),Q (.int (g i) s.toks) { s with toks:=s.toks+1 }->wpAny (model X.prog X.w) X.A (f (.int i t)) Q E s) :
  FG X f (rU λi=>.int (g i)):=by
 intro pins s σ H x v Q I rx h
 obtain⟨i,rfl,q⟩:=h
 obtain⟨t,rfl⟩:=rx
 exact rule i t s _ _ ⟨.int (g i),H,I.tok _,⟨_,rfl⟩,q⟩
theorem cB0:FG X (unaryOp .USub) (rU λi=>.int (-i)):=unI λ_ _ _ _ _ q=>neg_int q
end
section
variable{X:Cx}{a b c:Expr}{ta tb tc:TE}{pos:Pos}
theorem QW{pins:List (Addr × Obj)}{σ:St}{H:Hp}{s:Shared}{Q:VK}{k k':Bool}(I:Inv X pins σ H s)(q:Q (.bl k) H)(e:k=k'):EP X pins σ Q (.bool k') s:=by
 subst e
 exact⟨.bl k,H,I,rfl,q⟩
theorem QX:bW X (compareOp .Lt) (iM λi j=>.bl (decide (i<j))):=Br λ_ _ _ _ _ _ _ q=>lt_int q
theorem cM0:bW X (compareOp .LtE) (iM λi j=>.bl (decide (i<=j))):=Br λ_ _ _ _ _ _ _ q=>le_int q
theorem QY:bW X (compareOp .Gt) (iM λi j=>.bl (decide (j<i))):=Br λ_ _ _ _ _ _ _ q=>gt_int q
theorem cO3:bW X (compareOp .GtE) (iM λi j=>.bl (decide (j<=i))):=Br λ_ _ _ _ _ _ _ q=>ge_int q
theorem cE7:bW X (compareOp .Is) (λx y H Q=>y=.aj/\Q (.bl (decide (x=.aj))) H):=by
 intro pins s σ H x y v u Q I rx ry h
 obtain⟨rfl,q⟩:=h
 cases ry
 refine is_none_gen (QW I q ?_)
 cases x<;>first
  | (cases rx;rfl)
  | (obtain⟨t,rfl⟩:=rx;rfl)
theorem cn0:bW X (compareOp .IsNot) (λx y H Q=>y=.aj/\Q (.bl (!decide (x=.aj))) H):=by
 intro pins s σ H x y v u Q I rx ry h
 obtain⟨rfl,q⟩:=h
 cases ry
 refine isnot_none_gen (QW I q ?_)
 cases x<;>first
  | (cases rx;rfl)
  | (obtain⟨t,rfl⟩:=rx;rfl)
theorem bW.or{f:Value->Value->Sem Value}{r r':R2}(h:bW X f r)(h':bW X f r'):bW X f (λx y H Q=>r x y H Q\/r' x y H Q):=by
 intro pins s σ H x y v u Q I rx ry q
 rcases q with q | q
 ·exact h pins s σ H x y v u Q I rx ry q
 ·exact h' pins s σ H x y v u Q I rx ry q
theorem bA(b:Expr){op:CmpOp}(h:op≠.In:=by decide)(h2:op≠.NotIn:=by decide):behindInMarks op b=false:=by
 have e1:(op==CmpOp.In)=false:=by cases op<;>first | rfl | exact absurd rfl h
 have e2:(op==CmpOp.NotIn)=false:=by cases op<;>first | rfl | exact absurd rfl h2
 cases b<;>simp[behindInMarks,e1,e2]
theorem cn9{op:CmpOp}{r:R2}(ho:bW X (compareOp op) r)(ha:PE X a ta)(hb:PE X b tb)(hm:behindInMarks op b=false):PE X (.Compare a [op] [b] pos) (xg r ta tb):=by
 intro pins s σ H Q I h
 exact wpAny_Compare1 (FH ha hb I h λv u s2 x y H2 I2 rx ry q=>ho pins s2 σ H2 x y v u Q I2 rx ry q) hm
noncomputable def QZ(t:TE):TT:=λσ H Q=>t σ H λx H'=>∃k,x=.bl k/\Q k H'
theorem FJ{op:CmpOp}{r:R2}(ho:bW X (compareOp op) r)(ha:PE X a ta)(hb:PE X b tb)(hm:behindInMarks op b=false):PT X (.Compare a [op] [b] pos) (QZ (xg r ta tb)):=by
 intro pins s σ H Q I h
 refine wpAny_isTrue_Compare1 (aL (ha pins s σ H _ I h) λv s1 ⟨x,H1,I1,r1,q1⟩=>aL (hb pins s1 σ H1 _ I1 q1) λu s2 ⟨y,H2,I2,r2,q2⟩ =>
  aL (ho pins s2 σ H2 x y v u _ I2 r1 r2 q2) λc s3 ⟨z,H3,I3,r3,k,e,q3⟩=>?_) hm
 subst e
 cases r3
 exact wpAny_truthy_bool ⟨H3,I3,q3⟩
noncomputable def Q0(r r':R2)(ta tb tc:TE):TE:=λσ H Q=>ta σ H λx H1=>tb σ H1 λy H2=>r x y H2 λz H3=>∃k,z=.bl k /\
 (if k=true then tc σ H3 λw' H4=>r' y w' H4 Q else Q (.bl false) H3)
theorem ch1{op oA:CmpOp}{r r':R2}(ho:bW X (compareOp op) r)(jy:bW X (compareOp oA) r')(ha:PE X a ta)(hb:PE X b tb)(hc:PE X c tc)
  (hm:lastMarks [op,oA] [b,c]=false:=by with_unfolding_all rfl):PE X (.Compare a [op,oA] [b,c] pos) (Q0 r r' ta tb tc):=by
 intro pins s σ H Q I h
 refine Compare_chain (aL (ha pins s σ H _ I h) λv s1 ⟨x,H1,I1,r1,q1⟩=>chain_link (aL (hb pins s1 σ H1 _ I1 q1) λu s2 ⟨y,H2,I2,r2,q2⟩ =>
  aL (ho pins s2 σ H2 x y v u _ I2 r1 r2 q2) λd s3 ⟨z,H3,I3,r3,k,e,q3⟩=>?_)) hm
 subst e
 cases r3
 refine wpAny_truthy_bool ?_
 cases k with
 | false=>exact ite_ff ⟨.bl false,H3,I3,rfl,q3⟩
 | true=>exact ite_tt (chain_last (aL (hc pins s3 σ H3 _ I3 q3) λw' s4 ⟨z',H4,I4,r4,q4⟩=>jy pins s4 σ H4 y z' u w' Q I4 r2 r4 q4))
theorem qZ:(sizeLine:Nat)<2 ^ 63:=by rw[sizeLine_eq];decide
theorem bO4:bW X (binaryOp .Add) (λx y H Q=>∃i j,x=.str i/\y=.str j/\i.length+j.length<=sizeLine/\Q (.str (i++j)) H):=by
 intro pins s σ H x y v u Q I rx ry h
 obtain⟨i,j,rfl,rfl,hz,q⟩:=h
 obtain⟨t,rfl⟩:=rx
 obtain⟨t',rfl⟩:=ry
 exact add_str (λt' tk=>⟨.str (i++j),H,I.tok _,⟨_,rfl⟩,q⟩) hz
theorem Bt{x:V}{us:List Value}(r:Vals [x] us):∃u,us=[u]/\RelV x u:=by
 cases r with
 | cons r1 r2=>cases r2;exact⟨_,rfl,r1⟩
theorem bC7:fW X (.type "str") (λxs H Q=>∃i,xs=[.int i]/\i.natAbs.log2<1920/\Q (.str (toString i)) H):=by
 intro pins s σ H xs us Q I r h
 obtain⟨i,rfl,hz,q⟩:=h
 obtain⟨u,rfl,t,rfl⟩:=Bt r
 exact PySem.P.str_of_int hz ⟨.str _,H,I.tok _,⟨_,rfl⟩,q⟩
end
end L2
namespace L2
open PySem PySem.Spec PyProof.Rows
structure oB(h:Heap)(x dx C:Addr)(mA:Str->Option Value):Prop where
 obj:h.get? x=some (PySem.W.instObj C dx)
 ns:h.Ns1 dx mA
 ne:dx≠x
theorem bZ9{h:Heap}{dx:Addr}{mA:Str->Option Value}(n:h.Ns1 dx mA):∃od,h.get? dx=some od/\∀name,PySem.W.lookIn name od=some (mA name):=by
 obtain⟨o,es,ep,ho,hd,hk,_,hm⟩:=n
 refine⟨o,ho,λname=>?_⟩
 have e:=hm name
 unfold nsFind findBy at e
 rw[<-Array.find?_toList]at e
 unfold PySem.W.lookIn
 rw[hd]
 dsimp only
 split
 ·rename_i y q
  rw[q]at e
  exact congrArg some e
 ·rename_i q
  rw[q]at e
  have a:es.toList.any (·.refKey)=false:=by
   rw[List.any_eq_false]
   intro y hy
   obtain⟨z,t,c05⟩:=hk y (Array.mem_toList_iff.mp hy)
   simp[DictEntry.refKey,c05]
  have a':¬ es.toList.any (·.refKey)=true:=by rw[a];exact eC
  rw[if_neg a']
  exact congrArg some e
theorem oB.look{h:Heap}{x dx C:Addr}{mA:Str->Option Value}(I:oB h x dx C mA):∃od,PySem.W.InstAt h x (PySem.W.instObj C dx) C (some od)/\∀name,PySem.W.lookIn name od=some (mA name) :=
 let⟨od,ho,hl⟩:=bZ9 I.ns
 ⟨od,⟨I.obj,rfl,rfl,ho⟩,hl⟩
section
variable{prog:Program}{w:World}{A:Around}{E:Value->Shared->Prop}{s:Shared}{K:PySem.W.Frag}{x dx C f:Addr}{mA:Str->Option Value}{name:Str}{v:Value}
theorem cn4{expr:Bool}{Q:Value->Shared->Prop}(X:K.In s.heap)(I:oB s.heap x dx C mA)(hg:PySem.W.plainGet K C name=true)(hh:PySem.W.hasDictIn K C=true)
  (ha:PySem.W.findIn K (.ref C) name=some none) (hv:mA name=some v) (hv':PySem.W.handedIn v=true) (h:Q v { s with toks:=s.toks+1 }) :
  wpAny (model prog w) A (getAttr (.ref x) name expr) Q E s:=by
 obtain⟨od,J,hl⟩:=I.look
 exact PySem.W.get_value X J (PySem.W.plainGet_of hg).1 (PySem.W.findObj_own hh ha rfl (by rw[hl,hv])) hv' h
theorem cg4{pl:Sem Bool}{Q:Value × List Value->Shared->Prop}(X:K.In s.heap)(I:oB s.heap x dx C mA)(hg:PySem.W.plainGet K C name=true)
  (hf:PySem.W.findIn K (.ref C) name=some (some (.ref f))) (ht:PySem.W.isFn K (.ref f)=true) (hv:mA name=none) (h:Q (.ref f,[.ref x]) s) :
  wpAny (model prog w) A (getMethod (.ref x) name pl) Q E s:=by
 obtain⟨od,J,hl⟩:=I.look
 exact PySem.W.method_fn X J (PySem.W.plainGet_of hg).1 (PySem.W.plainGet_of hg).2 hf (beq_iff_eq.mp ht) (by show(PySem.W.lookIn name od).map (·.isSome)=some false;rw[hl,hv];rfl) h
theorem cv7{ns:List Str}{Q:Unit->Shared->Prop}(X:K.In s.heap)(I:oB s.heap x dx C mA)
  (hs:PySem.W.findIn K (.ref C) "__setattr__"=some (some (.builtin "object.__setattr__"))) (hp:PySem.W.plainOver K C=true) (ht:PySem.W.takerIn K C name=some none) (hh:PySem.W.hasDictIn K C=true)
  (hw:PySem.Within mA ns) (kb:ns.length<=sizeLine)
  (h:∀h',oB h' x dx C (λy=>if y=name then some v else mA y)->Heap.SameBut dx s.heap h'->Q () { s with heap:=h',toks:=s.toks+2 }) :
  wpAny (model prog w) A (setAttr (.ref x) name v) Q E s:=by
 obtain⟨od,J,hl⟩:=I.look
 refine PySem.W.set_plain X J hs (PySem.W.osa_open (s:={ s with toks:=s.toks+1 }) (r:=none) X J hp ht λb=>?_)
 obtain⟨cd,hc,wR⟩:=PySem.W.any_some hh
 have hx:s.heap.get? x=some ⟨.ref C,some dx,.plain,#[]⟩:=I.obj
 refine wpAny_bind (wpAny_pure (wpAny_bind (wpAny_bind (wpAny_loadPart hx (wpAny_bind (PySem.W.Looks.here (s:={ s with toks:=s.toks+1 }) (PySem.W.looks_clsIn X hc) ?_))))))
 rw[wR]
 refine wpAny_pure (a:=some dx) (wpAny_bind (wpAny_pure (wpAny_bind ?_)))
 refine wpAny_nsSet1 (s:={ s with toks:=s.toks+1 }) I.ns λh' Bu eK=>?_
 obtain⟨oD,esD,epD,hoD,hdD,kX⟩:=Bu.count (PySem.Within.cons name v hw)
 refine wpAny_bind (wpAny_lookBehind hoD (by rw[hdD];exact pastItsLine_dict (eA kX (by rw[fP];omega))) ?_)
 exact wpAny_pure (h _ ⟨(eK.2 _ (dR I.ne)).trans I.obj,Bu,I.ne⟩ eK)
theorem Q3{R:Result->Shared->Prop}{vs:List Value}{kw:List (Str × Value)}(X:K.In s.heap)(hm:PySem.W.makesIn K C=true)
  (hi:PySem.W.findIn K (.ref C) "__init__"=some (some (.ref f))) (hf:PySem.W.typeIn K (.ref f)=some (.type "function"))
  (h:codeAny (model prog w) (A.under (.builtin "type.__call__" ⟨.ref C::vs,kw⟩)) (.call (.ref f) ⟨.ref (s.heap.objs.size+1)::vs,kw⟩) (PySem.W.InitBack (s.heap.objs.size+1) R)
   { s with heap:=(s.heap.push PySem.W.emptyDict).push (PySem.W.instObj C s.heap.objs.size) }) :
  codeAny (model prog w) A (.call (.ref C) ⟨vs,kw⟩) R s:=by
 obtain⟨hh,g,d,t,os⟩:=s
 exact PySem.W.make_core (PySem.W.makes_of X hm) (PySem.W.looks_findIn X hi) (λself=>PySem.W.bind_fn X self hf) (.inl rfl) h
end
noncomputable def bL(f:Str)(v:V):List (Str × V)->List (Str × V)
 | []=>[(f,v)]
 | (g,x)::r=>if g=f then(g,v)::r else(g,x)::bL f v r
theorem Q4(f g:Str)(v:V):∀fs:List (Str × V),(bL f v fs).lookup g=if g=f then some v else fs.lookup g
 | []=>by
  show kL g [(f,v)]=_
  by_cases h:g=f
  ·have hb:(g==f)=true:=beq_iff_eq.mpr h
   simp only[kL,hb,if_pos h]
  ·have hb:(g==f)=false:=beq_eq_false_iff_ne.mpr h
   simp only[kL,hb,if_neg h]
 | (k,x)::r=>by
  have ih:=Q4 f g v r
  rw[show bL f v ((k,x)::r)=(if k=f then(k,v)::r else(k,x)::bL f v r) from rfl]
  by_cases hk:k=f
  ·rw[if_pos hk]
   by_cases h:g=k
   ·have hb:(g==k)=true:=beq_iff_eq.mpr h
    simp only[kL,hb,if_pos (h.trans hk)]
   ·have hb:(g==k)=false:=beq_eq_false_iff_ne.mpr h
    simp only[kL,hb,if_neg (λe:g=f=>h (e.trans hk.symm))]
  ·rw[if_neg hk]
   by_cases h:g=k
   ·have hb:(g==k)=true:=beq_iff_eq.mpr h
    simp only[kL,hb,if_neg (λe:g=f=>hk (h.symm.trans e))]
   ·have hb:(g==k)=false:=beq_eq_false_iff_ne.mpr h
    simp only[kL,hb]
    exact ih
theorem FK(f:Str)(v:V):∀fs:List (Str × V),f∈(bL f v fs).map (·.1)/\∀g,g∈fs.map (·.1)->g∈(bL f v fs).map (·.1)
 | []=>⟨by simp[bL],λg h=>by simp at h⟩
 | (k,x)::r=>by
  obtain⟨i1,i2⟩:=FK f v r
  rw[show bL f v ((k,x)::r)=(if k=f then(k,v)::r else(k,x)::bL f v r) from rfl]
  by_cases hk:k=f
  ·rw[if_pos hk]
   subst hk
   exact⟨by simp,λg h=>by simpa using h⟩
  ·rw[if_neg hk]
   refine⟨?_,λg h=>?_⟩
   ·rw[dh]
    exact gz _ i1
   ·rw[dh]at h ⊢
    rcases cE.mp h with e | e
    ·exact cE.mpr (.inl e)
    ·exact gz _ (i2 g e)
theorem Q5(f:Str)(v:V):∀fs:List (Str × V),(bL f v fs).length<=fs.length+1
 | []=>by simp[bL]
 | (k,x)::r=>by
  have ih:=Q5 f v r
  rw[show bL f v ((k,x)::r)=(if k=f then(k,v)::r else(k,x)::bL f v r) from rfl]
  by_cases hk:k=f
  ·rw[if_pos hk,fP,fP];omega
  ·rw[if_neg hk,fP,fP];omega
theorem j5.some_of{v:V}{o:Option Value}(r:j5 (some v) o):∃u,o=some u/\RelV v u:=by
 cases o with
 | none=>exact(show False from r).elim
 | some u=>exact⟨u,rfl,r⟩
theorem j5.none_of{o:Option Value}(r:j5 none o):o=none:=by
 cases o with
 | none=>rfl
 | some u=>exact(show False from r).elim
theorem b06{v:V}{u:Value}(r:RelV v u):PySem.W.handedIn u=true:=by
 cases v with
 | aj=>cases(show u=nS from r);rfl
 | bl b=>cases(show u=EG b from r);rfl
 | int i=>obtain⟨t,e⟩:=(show ∃t,u=nR i t from r);cases e;rfl
 | str x=>obtain⟨t,e⟩:=(show ∃t,u=Value.str x t from r);cases e;rfl
 | A8 b=>obtain⟨t,e⟩:=(show ∃t,u=Value.bytes b t from r);cases e;rfl
 | oh b=>obtain⟨t,e⟩:=(show ∃t,u=Value.float b t from r);cases e;rfl
 | ref a=>cases(show u=cu a from r);rfl
 | ty n=>cases(show u=Value.type n from r);rfl
section
variable{P:Program}{w:World}{H H':Hp}{h h':Heap}{a C dx:Addr}{fs fs':List (Str × V)}
theorem Bv(aA:cA P w H h)(e:H a=some (.ins C dx fs)):∃mA,oB h a dx C mA/\(∀f,j5 (fs.lookup f) (mA f))/\PySem.Within mA (fs.map (·.1))/\fs.length<=1000/\H dx=some (.own a):=by
 obtain⟨d,z,ne,ob,mA,n,r,q⟩:=(show dq P w H h a (.ins C dx fs) from aA a _ e)
 exact⟨mA,⟨ob,n,ne⟩,r,q,z,d⟩
end
structure dk(K:PySem.W.Frag)(C:Addr):Prop where
 pg:PySem.W.plainGet K C jT=true
 hd:PySem.W.hasDictIn K C=true
 po:PySem.W.plainOver K C=true
 sa:PySem.W.findIn K (.ref C) "__setattr__"=some (some (.builtin "object.__setattr__"))
theorem dk.get{K:PySem.W.Frag}{C:Addr}(c:dk K C)(f:Str):PySem.W.plainGet K C f=true:=c.pg
noncomputable def aY(K:PySem.W.Frag)(C:Addr)(f:Str):Prop:=PySem.W.findIn K (.ref C) f=some none
theorem aY.c68{K:PySem.W.Frag}{C:Addr}{f:Str}(n:aY K C f):PySem.W.takerIn K C f=some none:=by
 unfold PySem.W.takerIn
 rw[show PySem.W.findIn K (.ref C) f=some none from n]
 rfl
structure Meth(K:PySem.W.Frag)(C:Addr)(m:Str)(f:Addr):Prop where
 at_:PySem.W.findIn K (.ref C) m=some (some (.ref f))
 fn:PySem.W.isFn K (.ref f)=true
 kp:PySem.W.keepIn K (.ref f)=true
section
variable{X:Cx}{pins:List (Addr × Obj)}{σ:St}{H:Hp}{s:Shared}{a C dx:Addr}{fs:List (Str × V)}{f:Str}{v:V}{A:Around}{E:Value->Shared->Prop}
theorem bQ2{b:Bool}{Q:Value->Shared->Prop}(I:Inv X pins σ H s)(e:H a=some (.ins C dx fs))(c:dk X.K C)(n:aY X.K C f)(l:fs.lookup f=some v)
  (h:∀u s',Inv X pins σ H s'->RelV v u->Q u s'):wpAny (model X.prog X.w) A (getAttr (.ref a) f b) Q E s:=by
 obtain⟨mA,O,r,_,_,_⟩:=Bv I.aA e
 obtain⟨u,hu,ru⟩:=j5.some_of (v:=v) (o:=mA f) (by rw[<-l];exact r f)
 exact cn4 I.cw O (c.get f) c.hd n hu (b06 ru) (h u _ (I.tok _) ru)
theorem Bw{m:Str}{g:Addr}{pl:Sem Bool}{Q:Value × List Value->Shared->Prop}(I:Inv X pins σ H s)(e:H a=some (.ins C dx fs))(c:dk X.K C)(k:Meth X.K C m g)(l:fs.lookup m=none)
  (h:Q (.ref g,[.ref a]) s):wpAny (model X.prog X.w) A (getMethod (.ref a) m pl) Q E s:=by
 obtain⟨mA,O,r,_,_,_⟩:=Bv I.aA e
 have hn:mA m=none:=j5.none_of (by rw[<-l];exact r m)
 exact cg4 I.cw O (c.get m) k.at_ k.fn hn h
theorem bO2{y:V}{u:Value}{Q:Unit->Shared->Prop}(I:Inv X pins σ H s)(e:H a=some (.ins C dx fs))(c:dk X.K C)(n:aY X.K C f)(hl:fs.length<1000)(ry:RelV y u)
  (h:∀s',Inv X pins σ (upd H a (.ins C dx (bL f y fs))) s'->Q () s'):wpAny (model X.prog X.w) A (setAttr (.ref a) f u) Q E s:=by
 obtain⟨mA,O,r,wi,_,ho⟩:=Bv I.aA e
 have hz:(fs.map (·.1)).length<=sizeLine:=by rw[bK,sizeLine_eq];omega
 refine cv7 I.cw O c.sa c.po n.c68 c.hd wi hz λh' O' sb=>h _ ?_
 have hd:∃o,h'.get? dx=some o:=let⟨o,_,_,e',_⟩:=O'.ns;⟨o,e'⟩
 refine I.write (x:=a) (e:=dx) (by rw[e];exact qB) (.inr ho) (λb q hb z=>(sb.2 b hb).trans z) hd ?_
 refine⟨by rw[aQ O.ne];exact ho,?_,O.ne,O'.obj,_,O'.ns,λg=>?_,λg hg=>?_⟩
 ·have:=Q5 f y fs;omega
 ·show j5 ((bL f y fs).lookup g) (if g=f then some u else mA g)
  rw[Q4]
  by_cases q:g=f
  ·rw[if_pos q,if_pos q];exact ry
  ·rw[if_neg q,if_neg q];exact r g
 ·by_cases q:g=f
  ·rw[q];exact(FK f y fs).1
  ·refine(FK f y fs).2 g (wi g λz=>hg ?_)
   show(if g=f then some u else mA g)=none
   rw[if_neg q];exact z
theorem Inv.made(I:Inv X pins σ H s):Inv X pins σ (upd (upd H s.heap.objs.size (.own (s.heap.objs.size+1))) (s.heap.objs.size+1) (.ins C s.heap.objs.size []))
  { s with heap:=(s.heap.push PySem.W.emptyDict).push (PySem.W.instObj C s.heap.objs.size) }:=by
 have e1:(s.heap.push PySem.W.emptyDict).get? s.heap.objs.size=some PySem.W.emptyDict:=fO s.heap rfl
 have e2:((s.heap.push PySem.W.emptyDict).push (PySem.W.instObj C s.heap.objs.size)).get? (s.heap.objs.size+1)=some (PySem.W.instObj C s.heap.objs.size):=by
  have:=fO (s.heap.push PySem.W.emptyDict) (o:=PySem.W.instObj C s.heap.objs.size) rfl
  rwa [qC]at this
 have e3:(s.heap.push PySem.W.emptyDict).Ns s.heap.objs.size (λ_=>none):=⟨PySem.W.emptyDict,#[],_,e1,rfl,(λe he=>absurd he (by simp)),λ_=>rfl⟩
 have I1:=I.laid (a:=s.heap.objs.size) (o:=.own (s.heap.objs.size+1)) (h':=s.heap.push PySem.W.emptyDict) (t':=s.toks) (λb u q=>eM _ q) (bB _) ⟨_,e1⟩
 refine I1.laid (a:=s.heap.objs.size+1) (o:=.ins C s.heap.objs.size []) (t':=s.toks) (λb u q=>eM _ q) (EH (qC _ _)) ?_
 have ne:s.heap.objs.size≠s.heap.objs.size+1:=dQ (Av _)
 refine⟨by rw[aQ ne,bG],qD _,ne,e2,λ_=>none,(Heap.Ns1.of_empty e3).at λo q=>eM _ q,λ_=>qB,λy hy=>absurd rfl hy⟩
theorem cr0{prog:Program}{w:World}{env:Env}{e:Expr}{f:Str}{pos:Pos}{s:Shared}{Q:Value->Shared->Prop}(hb:attributeBase e f env (eval e env)=eval e env)
  (h:wpAny (model prog w) A (eval e env) (λo bw=>wpAny (model prog w) A (getAttr o f true) Q E bw) E s):wpAny (model prog w) A (eval (.Attribute e f pos) env) Q E s :=
 Attribute_any_ h (by rw[arm_eval_Attribute,hb])
end
noncomputable def cQ2(K:PySem.W.Frag)(ta:TE)(f:Str):TE:=λσ H Q=>ta σ H λx H1=>∃a C dx fs v,x=.ref a/\H1 a=some (.ins C dx fs)/\dk K C/\aY K C f/\fs.lookup f=some v/\Q v H1
noncomputable def cS6(K:PySem.W.Frag)(ta tv:TE)(f:Str):TS:=λD σ H=>tv σ H λy H1=>ta σ H1 λx H2=>∃a C dx fs,x=.ref a/\H2 a=some (.ins C dx fs)/\dk K C/\aY K C f/\fs.length<1000 /\
 D.nx σ (upd H2 a (.ins C dx (bL f y fs)))
section
variable{X:Cx}{o e value:Expr}{f:Str}{pos pos' oE:Pos}{ta tv:TE}
theorem oF(he:PE X e ta)(hb:attributeBase e f X.env (eval e X.env)=eval e X.env):PE X (.Attribute e f pos) (cQ2 X.K ta f):=by
 intro pins s σ H Q I h
 refine cr0 hb (aL (he pins s σ H _ I h) λu s1 ⟨x,H1,I1,rx,a,C,dx,fs,v,ex,ea,c,n,l,q⟩=>?_)
 subst ex
 obtain rfl:u=cu a:=rx
 exact bQ2 I1 ea c n l λu' s2 I2 ru=>⟨v,H1,I2,ru,q⟩
theorem g6(ha:PE X o ta)(hv:PE X value tv)(hs:swapsWith value (some (.Attribute o f pos')) pos.line X.env=pure false):PS X (.Assign [.Attribute o f pos'] value pos) (cS6 X.K ta tv f):=by
 intro pins s σ H D I h
 refine plainObj_wpAny_Assign_Attribute (aL (hv pins s σ H _ I h) λu s1 ⟨y,H1,I1,ry,q⟩=>aL (ha pins s1 σ H1 _ I1 q) λov s2 ⟨x,H2,I2,rx,a,C,dx,fs,ex,ea,c,n,l,q2⟩=>?_) hs
 subst ex
 obtain rfl:ov=cu a:=rx
 exact bO2 I2 ea c n l ry λs3 I3=>⟨σ,_,I3,q2⟩
end
section
variable{X:Cx}{pins:List (Addr × Obj)}{σ:St}{H:Hp}{s:Shared}{A:Around}{E:Value->Shared->Prop}{Q:Value->Shared->Prop}{c:Value}{b:Bool}
inductive fX(K:PySem.W.Frag)(H:Hp):V->Value->Prop where
 | aj:fX K H .aj (.type "NoneType")
 | bl (x:Bool):fX K H (.bl x) (.type "bool")
 | int (i:Int):fX K H (.int i) (.type "int")
 | str (x:Str):fX K H (.str x) (.type "str")
 | oh (x:UInt64):fX K H (.oh x) (.type "float")
 | lst {a:Addr} {xs:List V} (e:H a=some (.lst xs)):fX K H (.ref a) (.type "list")
 | bt {a:Addr} {o:Obj} {xs:List V} (e:H a=some (.bt o (.lst xs))):fX K H (.ref a) (.type "list")
 | tup {a:Addr} {xs:List V} (e:H a=some (.tup xs)):fX K H (.ref a) (.type "tuple")
 | dK {a:Addr} {da:List (Key × V)} (e:H a=some (.dK da)):fX K H (.ref a) (.type "dict")
 | dT {a:Addr} {da:List (List Key × V)} (e:H a=some (.dT da)):fX K H (.ref a) (.type "dict")
 | ins {a C dx:Addr} {fs:List (Str × V)} (e:H a=some (.ins C dx fs)) (cl:dk K C) (ha:PySem.W.findIn K (.ref C) "__class__"=some (some (.builtin "object.__class__")))
   (hn:PySem.W.specialIn K (.builtin "object.__class__") "__get__"=some (some (.builtin "getset_descriptor.__get__"))) (FL:PySem.W.takesIn K (.builtin "object.__class__")=some true)
   (hm:PySem.W.mroIn K C (.type "object")=some true):fX K H (.ref a) (.ref C)
theorem Q6{x:V}{u t:Value}(I:Inv X pins σ H s)(rx:RelV x u)(ty:fX X.K H x t)(e:PySem.W.kitOne X.K t c=some b)(h:∀tk,Q (.bool b) { s with toks:=tk }) :
  wpAny (model X.prog X.w) A (call (.builtin "isinstance") [u,c]) Q E s:=by
 cases ty with
 | aj=>cases(show u=nS from rx);exact PySem.W.kia_one PySem.W.kitx_none I.cw qB e (λz=>nomatch z) h
 | bl y=>cases(show u=EG y from rx);exact PySem.W.kia_one PySem.W.kitx_bool I.cw qB e (λz=>nomatch z) h
 | int i=>obtain⟨t,q⟩:=(show ∃t,u=nR i t from rx);cases q;exact PySem.W.kia_one PySem.W.kitx_int I.cw qB e (λz=>nomatch z) h
 | str y=>obtain⟨t,q⟩:=(show ∃t,u=Value.str y t from rx);cases q;exact PySem.W.kia_one PySem.W.kitx_str I.cw qB e (λz=>nomatch z) h
 | oh y=>obtain⟨t,q⟩:=(show ∃t,u=Value.float y t from rx);cases q;exact PySem.W.kia_one PySem.W.kitx_float I.cw qB e (λz=>nomatch z) h
 | @lst a xs ea =>
  cases(show u=cu a from rx)
  obtain⟨_,_,n,_,h1⟩:=(show dq X.prog X.w H s.heap a (.lst xs) from I.aA a _ ea)
  exact PySem.W.kia_one PySem.W.kitx_list I.cw ⟨_,h1,rfl⟩ e (λz=>nomatch z) h
 | @bt a ob xs ea =>
  cases(show u=cu a from rx)
  obtain⟨_,_,_,n,_,h1⟩:=(show dq X.prog X.w H s.heap a (.bt ob (.lst xs)) from I.aA a _ ea)
  exact PySem.W.kia_one PySem.W.kitx_list I.cw ⟨_,h1,rfl⟩ e (λz=>nomatch z) h
 | @tup a xs ea =>
  cases(show u=cu a from rx)
  obtain⟨_,_,_,p⟩:=(show dq X.prog X.w H s.heap a (.tup xs) from I.aA a _ ea)
  obtain⟨o,h1,h2,_⟩:=p
  exact PySem.W.kia_one PySem.W.kitx_tuple I.cw ⟨o,h1,h2⟩ e (λz=>nomatch z) h
 | @dK a da ea =>
  cases(show u=cu a from rx)
  obtain⟨_,_,vs,_,p⟩:=(show dq X.prog X.w H s.heap a (.dK da) from I.aA a _ ea)
  obtain⟨o,es,ep,h1,h2,_⟩:=p
  exact PySem.W.kia_one PySem.W.kitx_dict I.cw ⟨o,h1,h2.1⟩ e (λz=>nomatch z) h
 | @dT a da ea =>
  cases(show u=cu a from rx)
  obtain⟨_,_,xs,_,o,es,ep,h1,h2,_⟩:=(show dq X.prog X.w H s.heap a (.dT da) from I.aA a _ ea)
  exact PySem.W.kia_one PySem.W.kitx_dict I.cw ⟨o,h1,h2.1⟩ e (λz=>nomatch z) h
 | @ins a C dx fs ea cl ha hn FL hm =>
  cases(show u=cu a from rx)
  obtain⟨mA,O,_⟩:=Bv I.aA ea
  obtain⟨od,J,_⟩:=O.look
  exact PySem.W.kia_one (PySem.W.kitx_own (cl.get _) cl.hd ha hn FL hm) I.cw J e (λz=>nomatch z) h
end
end L2
namespace L2
open PySem PySem.Spec PyProof.Rows
structure bP(k:Nat)(A:Around):Prop where
 hd:A.handled=none
 dp:A.depth+3*k+5<recursionLimit
 un:A.units+16*k+200<cLine
theorem bP.mono{j k:Nat}{A:Around}(r:bP k A)(h:j<=k):bP j A:=⟨r.hd,by have:=r.dp;omega,by have:=r.un;omega⟩
theorem bP.deeper{k:Nat}{A:Around}(r:bP (k+1) A)(env:Env):bP k (A.deeper env) :=
 ⟨r.hd,by have:=r.dp;show A.depth+1+3*k+5<_;omega,by have:=r.un;show A.units+3+16*k+200<_;omega⟩
theorem bP8{A:Around}{C:Addr}{us:List Value}{kw:List (Str × Value)}:(A.under (.builtin "type.__call__" ⟨.ref C::us,kw⟩)).depth=A.depth+1:=by
 first | rfl | simp[Around.under,Code.weight,Code.isCreation,Code.isGuard,Code.isCaller,Code.frames,Code.isFrame,guardIds]
theorem bQ6{A:Around}{C:Addr}{us:List Value}{kw:List (Str × Value)}:(A.under (.builtin "type.__call__" ⟨.ref C::us,kw⟩)).units=A.units+1:=by
 first | rfl | simp[Around.under,Code.cUnits,Code.frames,Code.isFrame]
theorem bP.make{k:Nat}{A:Around}(r:bP (k+1) A)(C:Addr)(us:List Value)(kw:List (Str × Value)):bP k (A.under (.builtin "type.__call__" ⟨.ref C::us,kw⟩)) :=
 ⟨r.hd,by have:=r.dp;rw[bP8];omega,by have:=r.un;rw[bQ6];omega⟩
theorem bP.depth{k:Nat}{A:Around}(r:bP k A):A.depth<recursionLimit:=by have:=r.dp;omega
noncomputable def cQ0:TA:=λ_ H Q=>Q [] H
noncomputable def cL9(ta:TE)(tr:TA):TA:=λσ H Q=>ta σ H λx H1=>tr σ H1 λxs H2=>Q (x::xs) H2
section
variable{X:Cx}{e:Expr}{es:List Expr}{te:TE}{t:TA}{pos:Pos}
theorem eF:PA X [] cQ0:=λ_ _ _ _ H Q I h=>Calls.spliced_nil ⟨[],H,I,.nil,h⟩
theorem bX(ha:PE X e te)(hr:PA X es t)(hs:starEach (e::es) X.env=(false,eval e X.env)::starEach es X.env:=by rfl):PA X (e::es) (cL9 te t):=by
 intro pos pins s σ H Q I h
 rw[hs]
 show wpAny _ _ (spliced ((false,eval e X.env)::backTo pos (starEach es X.env))) _ _ s
 refine Calls.spliced_cons (aL (ha pins s σ H _ I h) λu s1 ⟨x,H1,I1,r1,q1⟩=>?_)
 exact aL (hr pos pins s1 σ H1 _ I1 q1) λus s2 ⟨xs,H2,I2,r2,q2⟩=>⟨x::xs,H2,I2,.cons r1 r2,q2⟩
noncomputable def cS7(t:TA):TE:=λσ H Q=>t σ H λxs H1=>xs.length<=sizeLine/\∀p,H1 p=none->Q (.ref p) (upd H1 p (.tup xs))
noncomputable def cS5(t:TA):TE:=λσ H Q=>t σ H λxs H1=>xs.length<=sizeLine/\∀p,H1 p=none->Q (.ref p) (upd H1 p (.lst xs))
theorem Q7{x1}(h:PA X es t):PE X (.Tuple es x1 pos) (cS7 t):=by
 intro pins s σ H Q I hq
 refine wpAny_Tuple_spliced (aL (h pos pins s σ H _ I hq) λus s1 ⟨xs,H1,I1,r,z,q⟩=>⟨by rw[<-r.length];exact z,?_⟩)
 have hf:H1 s1.heap.objs.size=none:=I1.aA.fresh (bB _)
 refine⟨.ref s1.heap.objs.size,upd H1 s1.heap.objs.size (.tup xs),I1.laid (t':=s1.toks) (λb u e=>eM _ e) (bB _) ?_,rfl,q _ hf⟩
 exact⟨z,us,r,⟨_,fO _ rfl,rfl,_,rfl⟩⟩
theorem Q8(h:PA X es t):PE X (.List es pos) (cS5 t):=by
 intro pins s σ H Q I hq
 refine wpAny_List_spliced (aL (h pos pins s σ H _ I hq) λus s1 ⟨xs,H1,I1,r,z,q⟩=>⟨by rw[<-r.length];exact z,?_⟩)
 have hf:H1 s1.heap.objs.size=none:=I1.aA.fresh (bB _)
 refine⟨.ref s1.heap.objs.size,upd H1 s1.heap.objs.size (.lst xs),I1.laid (t':=s1.toks) (λb u e=>eM _ e) (bB _) ?_,rfl,q _ hf⟩
 exact⟨z,us,0,r,fO _ rfl⟩
end
noncomputable abbrev Sp:=List V->Hp->VK->XK->Prop
noncomputable abbrev dN:=List Env->Hp->Shared->XK->Value->Shared->Prop
structure g7(P:Program)(w:World)(K:PySem.W.Frag)(mg:Str->Option Value)(base:Heap)(A:Around)(outer:List Env)(s:Shared)(H:Hp):Prop where
 frames:A.frames=some outer
 mod:Mod K mg base
 bs:∀b o,base.get? b=some o->s.heap.get? b=some o/\H b=none
 gX:base.objs.size<=s.heap.objs.size
 eZ:s.heap.FunFrames base outer
 gY:∀b∈de outer,H b=none
 aA:cA P w H s.heap
 bare:AllBare s.gens
noncomputable def CE(outer:List Env)(P:Program)(w:World)(H:Hp)(s:Shared)(Q:VK)(u:Value)(s':Shared):Prop :=
 ∃v H',s'.os=s.os/\AllBare s'.gens/\Un (de outer) [] H H' s.heap s'.heap/\cA P w H' s'.heap/\RelV v u/\Q v H'
noncomputable def CR(CX:dN)(outer:List Env)(P:Program)(w:World)(H:Hp)(s:Shared)(Q:VK)(E:XK)(r:Result)(s':Shared):Prop :=
 match r with
 | .ok (.ret u)=>CE outer P w H s Q u s'
 | .ok _=>False
 | .error e=>CX outer H s E e s'
structure aK(P:Program)(w:World)(K:PySem.W.Frag)(mg:Str->Option Value)(base:Heap)(CX:dN)(k:Nat)(f:Addr)(fd:FuncData)(ps:List Str)(sp:Sp):Prop where
 len:∀vs H Q E,sp vs H Q E->vs.length=ps.length
 run:∀(A:Around) (outer:List Env) (s:Shared) (H:Hp) (args:Args) (us:List Value) (vs:List V) (Q:VK) (E:XK),bP k A->g7 P w K mg base A outer s H->BindsTo s fd args (ps.zip us)->Vals vs us->sp vs H Q E ->
  codeAny (model P w) A (.call (.ref f) args) (CR CX outer P w H s Q E) s
theorem aK.mono{P:Program}{w:World}{K:PySem.W.Frag}{mg:Str->Option Value}{base:Heap}{CX:dN}{j k:Nat}{f:Addr}{fd:FuncData}{ps:List Str}{sp:Sp}(F:aK P w K mg base CX j f fd ps sp)(h:j<=k) :
  aK P w K mg base CX k f fd ps sp:=⟨F.len,λA outer s H args us vs Q E hr=>F.run A outer s H args us vs Q E (hr.mono h)⟩
theorem aK.imp{P:Program}{w:World}{K:PySem.W.Frag}{mg:Str->Option Value}{base:Heap}{CX:dN}{k:Nat}{f:Addr}{fd:FuncData}{ps:List Str}{sp Q9:Sp}(F:aK P w K mg base CX k f fd ps sp)
  (h:∀vs H Q E,Q9 vs H Q E->sp vs H Q E):aK P w K mg base CX k f fd ps Q9 :=
 ⟨λvs H Q E q=>F.len vs H Q E (h _ _ _ _ q),λA outer s H args us vs Q E hr he hb hv hs=>F.run A outer s H args us vs Q E hr he hb hv (h _ _ _ _ hs)⟩
theorem g7.make{P:Program}{w:World}{K:PySem.W.Frag}{mg:Str->Option Value}{base:Heap}{A:Around}{outer:List Env}{s:Shared}{H:Hp}(e:g7 P w K mg base A outer s H)(C:Addr)(us:List Value)(kw:List (Str × Value)) :
  g7 P w K mg base (A.under (.builtin "type.__call__" ⟨.ref C::us,kw⟩)) outer s H:=⟨by first | exact e.frames | (simpa[Around.under,Code.envs,Code.isFrame,pushEnvs]using e.frames),e.mod,e.bs,e.gX,e.eZ,e.gY,e.aA,e.bare⟩
section
variable{X:Cx}{pins:List (Addr × Obj)}{σ:St}{H:Hp}{s s':Shared}
theorem Inv.q0(I:Inv X pins σ H s):g7 X.prog X.w X.K X.mg X.base X.A X.stack s H :=
 ⟨I.ok.frames,I.ok.mod,I.bs,eA I.ok.gX I.sz,I.stack,I.Bc,I.aA,I.bare⟩
theorem Inv.after{Q:VK}{u:Value}(I:Inv X pins σ H s)(h:CE X.stack X.prog X.w H s Q u s'):EP X pins σ Q u s':=by
 obtain⟨v,H',os,bare,un,aA,r,q⟩:=h
 obtain⟨hh,g,d,t,os'⟩:=s'
 obtain rfl:os'=s.os:=os
 exact⟨v,H',I.call (h':=hh) (g':=g) (d':=d) (t':=t) (ch:=[]) un aA bare (λb z=>absurd z (by simp)),r,q⟩
end
noncomputable def cO1(sp:Sp)(eG:List V)(E:XK)(t:TA):TE:=λσ H Q=>t σ H λvs H1=>sp (vs++eG) H1 Q E
noncomputable def cK1(C:Addr)(m:Str)(sp:Sp)(eG:List V)(E:XK)(ta:TE)(t:TA):TE:=λσ H Q=>ta σ H λx H1=>∃a dx fs,x=.ref a/\H1 a=some (.ins C dx fs)/\fs.lookup m=none /\
 t σ H1 λvs H2=>sp (x::(vs++eG)) H2 Q E
noncomputable def cK9(C:Addr)(sp:Sp)(eG:List V)(E:XK)(t:TA):TE:=λσ H Q=>t σ H λvs H1=>∀x dx,H1 x=none->H1 dx=none->dx≠x ->
 sp (.ref x::(vs++eG)) (upd (upd H1 dx (.own x)) x (.ins C dx [])) (λv H2=>v=.aj/\Q (.ref x) H2) E
noncomputable def Binds(K:PySem.W.Frag)(fd:FuncData)(ps:List Str)(ds:List Value):Prop :=
 ∀(s:Shared) (us:List Value),K.In s.heap->(us++ds).length=ps.length->BindsTo s fd ⟨us,[]⟩ (ps.zip (us++ds))
theorem Binds.all{K:PySem.W.Frag}{fd:FuncData}{ps:List Str}(h:∀us:List Value,us.length=ps.length->bindArgs fd ⟨us,[]⟩=pure (ps.zip us)):Binds K fd ps []:=λs us _ hl=>by
 rw[fQ]at hl ⊢
 exact .of_eq (h us hl)
noncomputable def ji(CX:dN)(X:Cx)(E:XK):Prop:=∀(pins:List (Addr × Obj)) (σ:St) (H:Hp) (s:Shared) (e:Value) (s':Shared),Inv X pins σ H s->CX X.stack H s E e s'->X.xe e s'
section
variable{X:Cx}{CX:dN}{k:Nat}{f C:Addr}{fd:FuncData}{ps:List Str}{sp:Sp}{eG:List V}{ds:List Value}{E:XK}{x m:Str}{p pos apos:Pos}{e o:Expr}{es:List Expr}{ta:TE}{t:TA}
theorem q8{pins:List (Addr × Obj)}{σ:St}{H:Hp}{s:Shared}{Q:VK}{us:List Value}{vs:List V}(F:aK X.prog X.w X.K X.mg X.base CX k f fd ps sp)(hr:bP k X.A)(hb:Binds X.K fd ps ds)(hd:Vals eG ds)(hx:ji CX X E)
  (I:Inv X pins σ H s) (r:Vals vs us) (h:sp (vs++eG) H Q E):wpAny (model X.prog X.w) X.A (call (.ref f) us) (EP X pins σ Q) X.xe s:=by
 have r2:Vals (vs++eG) (us++ds):=r.append hd
 have hl:(us++ds).length=ps.length:=by rw[<-r2.length];exact F.len _ _ _ _ h
 refine wpAny_call (codeAny_mono (F.run X.A X.stack s H ⟨us,[]⟩ (us++ds) (vs++eG) Q E hr I.q0 (hb s us I.cw hl) r2 h) λr s' hq=>?_)
 cases r with
 | error e=>exact hx pins σ H s e s' I hq
 | ok fl =>
  cases fl with
  | ret u=>exact I.after hq
  | next=>exact eB hq
  | brk=>exact eB hq
  | cont=>exact eB hq
theorem iN(F:aK X.prog X.w X.K X.mg X.base CX k f fd ps sp)(hr:bP k X.A)(hg:Gl X x)(hm:X.mg x=some (.ref f))(hk:PySem.W.keepIn X.K (.ref f)=true)(hb:Binds X.K fd ps ds)(hd:Vals eG ds)(hx:ji CX X E)
  (ha:PA X (e::es) t) (cT:(x==("__debug__":Str))=false:=by decide) (he:starEach (e::es) X.env=(false,eval e X.env)::starEach es X.env:=by rfl) (bx:(backTo pos (starEach es X.env)).any (·.1)=false:=by rfl) :
  PE X (.Call (.Name x p) (e::es) [] pos) (cO1 sp eG E t):=by
 intro pins s σ H Q I h
 refine wpAny_Call_Name_kw (ot I hg hm ?_ cT)
 refine PySem.W.callWith_K (h₀:=X.base) I.ok.mod.j7 hk (aL (ha pos pins s σ H _ I h) λus s1 ⟨vs,H1,I1,r,q⟩=>⟨I1.cw,?_⟩) he bx
 exact q8 F hr hb hd hx I1 r q
theorem co4{pl:Sem Bool}(he:PE X o ta)(c:dk X.K C)(hm:Meth X.K C m f)(F:aK X.prog X.w X.K X.mg X.base CX k f fd ps sp)(hr:bP k X.A)(hb:Binds X.K fd ps ds)(hd:Vals eG ds)(hx:ji CX X E)(ha:PA X (e::es) t)
  (bU:starEach (e::es) X.env=(false,eval e X.env)::starEach es X.env:=by rfl) (bx:(backTo pos (starEach es X.env)).any (·.1)=false:=by rfl)
  (ht:eval (.Call (.Attribute o m apos) (e::es) [] pos) X.env=(do
   let ov<-eval o X.env
   standAt apos.atName
   let (f,first)<-holding [ov] (getMethod ov m pl)
   callWith pos f first (backTo pos (starEach (e::es) X.env)) (backToKw pos (keywordEach [] X.env))):=by rfl) :
  PE X (.Call (.Attribute o m apos) (e::es) [] pos) (cK1 C m sp eG E ta t):=by
 intro pins s σ H Q I h
 refine PySem.W.methodCall_KW (pl:=pl) (aL (he pins s σ H _ I h) λu s1 ⟨x,H1,I1,rx,a,dx,fs,ex,ea,l,q⟩=>?_) ht
 subst ex
 obtain rfl:u=cu a:=rx
 refine Bw I1 ea c hm l ?_
 refine PySem.W.callWith_K (first:=[.ref a]) (h₀:=X.base) I.ok.mod.j7 hm.kp (aL (ha pos pins s1 σ H1 _ I1 q) λus s2 ⟨vs,H2,I2,r,q2⟩=>⟨I2.cw,?_⟩) bU bx
 exact q8 (us:=.ref a::us) (vs:=.ref a::vs) F hr hb hd hx I2 (.cons rfl r) q2
structure Mk(K:PySem.W.Frag)(C f:Addr):Prop where
 makes:PySem.W.makesIn K C=true
 init:PySem.W.findIn K (.ref C) "__init__"=some (some (.ref f))
 fn:PySem.W.isFn K (.ref f)=true
 kp:PySem.W.keepIn K (.ref C)=true
theorem cb3{pins:List (Addr × Obj)}{σ:St}{H:Hp}{s:Shared}{Q:VK}{us:List Value}{vs:List V}(M:Mk X.K C f)(F:aK X.prog X.w X.K X.mg X.base CX k f fd ps sp)(hr:bP (k+1) X.A)(hb:Binds X.K fd ps ds)(hd:Vals eG ds)
  (hx:ji CX X E) (I:Inv X pins σ H s) (r:Vals vs us)
  (h:∀x dx,H x=none->H dx=none->dx≠x->sp (.ref x::(vs++eG)) (upd (upd H dx (.own x)) x (.ins C dx [])) (λv H2=>v=.aj/\Q (.ref x) H2) E) :
  wpAny (model X.prog X.w) X.A (call (.ref C) us) (EP X pins σ Q) X.xe s:=by
 have hq:=h (s.heap.objs.size+1) s.heap.objs.size (I.aA.fresh (Nat.le_succ _)) (I.aA.fresh (bB _)) (dQ (Av _))
 have I2:=Inv.made (C:=C) I
 have r2:Vals (V.ref (s.heap.objs.size+1)::(vs++eG)) (cu (s.heap.objs.size+1)::(us++ds)):=.cons rfl (r.append hd)
 have hl:(cu (s.heap.objs.size+1)::us++ds).length=ps.length:=by
  have e:=r2.length
  rw[F.len _ _ _ _ hq]at e
  exact e.symm
 refine wpAny_call (Q3 (f:=f) I.cw M.makes M.init (beq_iff_eq.mp M.fn) (codeAny_mono (F.run _ X.stack _ _ ⟨cu (s.heap.objs.size+1)::us,[]⟩ (cu (s.heap.objs.size+1)::(us++ds)) _ _ E (hr.make C us [])
  (I2.q0.make C us []) (hb _ (cu (s.heap.objs.size+1)::us) I2.cw hl) r2 hq) λr s' gC=>?_))
 cases r with
 | error e=>exact hx pins σ _ _ e s' I2 gC
 | ok fl =>
  cases fl with
  | ret u =>
   obtain⟨v,H',I3,rv,ev,q3⟩:=I2.after gC
   subst ev
   exact⟨rv,⟨V.ref (s.heap.objs.size+1),H',I3,rfl,q3⟩⟩
  | next=>exact eB gC
  | brk=>exact eB gC
  | cont=>exact eB gC
theorem Ra(M:Mk X.K C f)(F:aK X.prog X.w X.K X.mg X.base CX k f fd ps sp)(hr:bP (k+1) X.A)(hg:Gl X x)(hm:X.mg x=some (.ref C))(hb:Binds X.K fd ps ds)(hd:Vals eG ds)(hx:ji CX X E)
  (ha:PA X (e::es) t) (cT:(x==("__debug__":Str))=false:=by decide) (he:starEach (e::es) X.env=(false,eval e X.env)::starEach es X.env:=by rfl) (bx:(backTo pos (starEach es X.env)).any (·.1)=false:=by rfl) :
  PE X (.Call (.Name x p) (e::es) [] pos) (cK9 C sp eG E t):=by
 intro pins s σ H Q I h
 refine wpAny_Call_Name_kw (ot I hg hm ?_ cT)
 refine PySem.W.callWith_K (h₀:=X.base) I.ok.mod.j7 M.kp (aL (ha pos pins s σ H _ I h) λus s1 ⟨vs,H1,I1,r,q⟩=>⟨I1.cw,?_⟩) he bx
 exact cb3 M F hr hb hd hx I1 r q
end
section
variable{X:Cx}{CX:dN}{k:Nat}{f C:Addr}{fd:FuncData}{ps ks:List Str}{sp:Sp}{E:XK}{x m:Str}{p pos apos e89:Pos}{e o:Expr}{es:List Expr}{kws:List Keyword}{te ta:TE}{t tk:TA}{nm:Option Str}
variable{g:List Value->List Value->List Value}{gV:List V->List V->List V}
end
structure bc(N P:List Str)(sc:Scope):Prop where
 kind:sc.kind=.function
 co:sc.isCoroutine=false
 gen:sc.isGenerator=false
 nd:N.Nodup
 pre:N.take P.length=P
 par:∀x∈P,sc.names.lookup x=some .local\/sc.names.lookup x=some .cell
 c86:∀y∈sc.names,y.2≠.free
theorem Rb{kindOf:Str->Option NameKind}{x:Str}:∀{binds:List (Str × Value)} {m:Str->Option Value},(∀v,(x,v) ∉ binds)->bindL kindOf binds m x=m x
 | [],_,_=>rfl
 | (n,v)::r,m,h=>by
  unfold bindL
  rw[Rb λw hw=>h w (gz _ hw)]
  split
  ·have:x≠n:=by rintro rfl;exact h v mI
   simp[this]
  ·rfl
theorem Rc{kindOf:Str->Option NameKind}{x:Str}:∀{binds:List (Str × Value)} {m:Str->Option Value},(∀v,(x,v) ∉ binds)->bindC kindOf binds m x=m x
 | [],_,_=>rfl
 | (n,v)::r,m,h=>by
  unfold bindC
  rw[Rc λw hw=>h w (gz _ hw)]
  split
  ·rfl
  ·have:x≠n:=by rintro rfl;exact h v mI
   simp[this]
theorem Rh{kindOf:Str->Option NameKind}{x:Str}{v:Value}:∀{P:List Str} {vs:List Value} {i:Nat} {m:Str->Option Value},P.Nodup->P[i]?=some x->vs[i]?=some v->kindOf x=some .local ->
  bindL kindOf (P.zip vs) m x=some v
 | [],_,_,_,_,h,_,_=>by simp at h
 | _::_,[],_,_,_,_,h,_=>by simp at h
 | p::P,w::vs,0,m,nd,h1,h2,hk=>by
  simp at h1 h2;subst h1;subst h2
  show bindL kindOf ((p,w)::P.zip vs) m p=_
  unfold bindL
  rw[Rb λv hv=>(jU.mp nd).1 (qE hv).1,if_pos hk]
  simp
 | p::P,w::vs,i+1,m,nd,h1,h2,hk=>by
  show bindL kindOf ((p,w)::P.zip vs) m x=_
  unfold bindL
  exact Rh (i:=i) (jU.mp nd).2 (by simpa using h1) (by simpa using h2) hk
theorem Ri{kindOf:Str->Option NameKind}{x:Str}{v:Value}:∀{P:List Str} {vs:List Value} {i:Nat} {m:Str->Option Value},P.Nodup->P[i]?=some x->vs[i]?=some v->kindOf x≠some .local ->
  bindC kindOf (P.zip vs) m x=some v
 | [],_,_,_,_,h,_,_=>by simp at h
 | _::_,[],_,_,_,_,h,_=>by simp at h
 | p::P,w::vs,0,m,nd,h1,h2,hk=>by
  simp at h1 h2;subst h1;subst h2
  show bindC kindOf ((p,w)::P.zip vs) m p=_
  unfold bindC
  rw[Rc λv hv=>(jU.mp nd).1 (qE hv).1,if_neg hk]
  simp
 | p::P,w::vs,i+1,m,nd,h1,h2,hk=>by
  show bindC kindOf ((p,w)::P.zip vs) m x=_
  unfold bindC
  exact Ri (i:=i) (jU.mp nd).2 (by simpa using h1) (by simpa using h2) hk
noncomputable def start(N:List Str)(vs:List V):St:=vs.map some++aw (N.length-vs.length) none
noncomputable def g8(CX:dN)(P:Program)(w:World)(K:PySem.W.Frag)(mg:Str->Option Value)(base:Heap)(N:List Str)(qual:Str)(scope:Scope)(f:Addr)(cd:Value)(A:Around)(outer:List Env)(s:Shared)(H:Hp)(E:XK):Cx where
 prog:=P
 w:=w
 K:=K
 mg:=mg
 base:=base
 A:=A.deeper (envOfC qual scope s.heap.objs.size f cd)
 N:=N
 ck:=s
 je:=H
 env:=envOfC qual scope s.heap.objs.size f cd
 outer:=outer
 stack:=envOfC qual scope s.heap.objs.size f cd::outer
 ex:=[]
 calm:=true
 fn:=λ_=>true
 pn:=[]
 xe:=λe s'=>wpAny (model P w) (A.deeper (envOfC qual scope s.heap.objs.size f cd)) (leaving (envOfC qual scope s.heap.objs.size f cd) e) (λ_ oG=>CX outer H s E e oG) (λe' oG=>CX outer H s E e' oG) s'
theorem Rj{sc:Scope}{n:Nat}{x:Str}(h:sc.names.lookup x=some .cell):∃c,(cellsFrom n sc.names []).lookup x=some c:=by
 have q:=PySem.W.cellsFrom_some sc.names n [] (.inl h)
 exact Aw.mp q
theorem bY5{CX:dN}{P:Program}{w:World}{K:PySem.W.Frag}{mg:Str->Option Value}{base:Heap}{N ps:List Str}{qual:Str}{scope:Scope}{f:Addr}{cd:Value}{A:Around}{outer:List Env}{s s1:Shared}{H:Hp}{E:XK}{us:List Value}{vs:List V}
  (S:bc N ps scope) (hd:A.handled=none) (e0:g7 P w K mg base A outer s H) (hl:vs.length=ps.length) (r:Vals vs us)
  (x:InCallC s s.heap.objs.size (bindL (envOfC qual scope s.heap.objs.size f cd).kindOf (ps.zip us) λ_=>none) (cellsFrom (s.heap.objs.size+1) scope.names []) (bindC (envOfC qual scope s.heap.objs.size f cd).kindOf (ps.zip us) λ_=>none) s1) :
  Inv (g8 CX P w K mg base N qual scope f cd A outer s H E) [] (start N vs) H s1:=by
 have bx:ps.length<=N.length:=by have:=congrArg EI S.pre;rw[qF]at this;omega
 obtain⟨h1,tk,rfl,hk⟩:=x.done
 have xi:∀b:Addr,b ∉ (g8 CX P w K mg base N qual scope f cd A outer s H E).ex:=λb z=>absurd (show b∈([]:List Addr) from z) (by simp)
 refine⟨⟨e0.mod,S.kind,rfl,rfl,bB _,λy z c h1 h2=>?_,λy hy=>?_,λy c _ h=>?_,λ_=>hd,Around.frames_deeper e0.frames,.inr ⟨rfl,rfl⟩,λb z=>absurd z (xi b),e0.bs,e0.gX,λb _ _=>xi b,λb z=>absurd z (xi b),e0.eZ,e0.gY⟩,
  rfl,e0.bare,Un.kept hk,⟨_,x.toInCall.ns,λi y v h1 h2 h3=>?_⟩,λy c h=>⟨_,x.cell y c h⟩,e0.aA.fresh (bB _),λy c h=>?_,λp hp=>absurd (show p∈([]:List (Addr × Obj)) from hp) (by simp),e0.aA.kept hk,?_⟩
 ·exact name_of_addr x.apart (PySem.mem_of_lookup h1) (PySem.mem_of_lookup h2)
 ·have hy:scope.names.lookup y=some .cell\/scope.names.lookup y=some .free:=hy
  rcases hy with hy | hy
  ·exact Rj hy
  ·exact absurd rfl (S.c86 _ (PySem.mem_of_lookup hy))
 ·exact qw (x.above y c (PySem.mem_of_lookup h))
 ·have hi:i<vs.length:=by
   unfold start at h2
   by_cases hi:i<vs.length
   ·exact hi
   ·rw[qG (by simpa using hi)]at h2
    rw[iF]at h2
    split at h2<;>cases h2
  have ha:vs[i]?=some v:=by
   unfold start at h2
   rw[wo (by simpa using hi),bV]at h2
   cases e:vs[i]? with
   | none=>rw[e]at h2;cases h2
   | some a=>rw[e]at h2;cases h2;rfl
  obtain⟨u,hu,rv⟩:=r.get ha
  have hp:ps[i]?=some y:=by
   rw[<-S.pre,List.getElem?_take_of_lt (by omega)];exact h1
  have Rk:ps.Nodup:=by rw[<-S.pre];exact S.nd.sublist (List.take_sublist _ _)
  refine⟨u,rv,?_⟩
  rcases S.par y (qH hp)with k | k
  ·exact .inl ⟨k,Rh Rk hp hu k⟩
  ·obtain⟨c,e⟩:=Rj (n:=s.heap.objs.size+1) k
   refine .inr ⟨.inl k,c,e,?_⟩
   have q:=x.cell y c e
   rw[Ri Rk hp hu (by show scope.names.lookup y≠_;rw[k];decide)]at q
   exact q
 ·exact e0.aA.fresh (qw (x.above y c (PySem.mem_of_lookup h)))
 ·unfold start
  show _=N.length
  rw[gA,bK,cK]
  omega
theorem FN{CX:dN}{P:Program}{w:World}{K:PySem.W.Frag}{mg:Str->Option Value}{base:Heap}{k:Nat}{f:Addr}{name qual:Str}{params:Arguments}{body:List Stmt}{scope:Scope}{dV kV doc pm aE ct oc:Value}{an od:Option Addr}
  {ke:Array (Option Value)} {N ps:List Str} {sp:Sp} (lk:K.lookup f=some ⟨oc,od,.func (PySem.W.fnOf name qual params body scope dV kV doc pm an aE ct),ke⟩) (cF:PySem.W.codeIn K aE qual=true) (S:bc N ps scope)
  (len:∀vs H Q E,sp vs H Q E->vs.length=ps.length)
  (gD:∀(A:Around) (outer:List Env) (s:Shared) (H:Hp) (vs:List V) (Q:VK) (E:XK),bP k (A.deeper (envOfC qual scope s.heap.objs.size f aE))->sp vs H Q E ->
   ∃t,PSs (g8 CX P w K mg base N qual scope f aE A outer s H E) body t/\t { nx:=λ_ H'=>Q .aj H',rt:=Q } (start N vs) H) :
  aK P w K mg base CX (k+1) f (PySem.W.fnOf name qual params body scope dV kV doc pm an aE ct) ps sp:=by
 refine⟨len,λA outer s H args us vs Q E hr e0 hb r g9=>?_⟩
 have hl:=len _ _ _ _ g9
 have KX:K.In s.heap:=e0.mod.j7.keeps λb o e=>(e0.bs b o e).1
 have lim:s.heap.NoLimit:=e0.mod.nolimit.keeps λb o e=>(e0.bs b o e).1
 have hJ:∀y∈ps.zip us,scope.names.lookup y.1=some .local\/(scope.names.lookup y.1=some .cell/\((cellsFrom (s.heap.objs.size+1) scope.names []).lookup y.1).isSome=true):=λ⟨n,v⟩ hy=>by
  rcases S.par n (qE hy).1 with q | q
  ·exact .inl q
  ·exact .inr ⟨q,PySem.W.cellsFrom_some _ _ _ (.inl q)⟩
 refine codeAny_call_function hr.depth (KX _ _ lk) rfl S.co S.gen rfl (PySem.W.codeRec_of KX cF) (hb _ _ _ _ ?_)
 refine wpAny_newFunctionEnv_cells S.kind hJ λenv he s1 x=>?_
 subst he
 refine⟨lim.keeps x.toInCall.keep,codeAny_func ?_⟩
 obtain⟨t,ht,hq⟩:=gD A outer s H vs Q E (hr.deeper _) g9
 have I:Inv (g8 CX P w K mg base N qual scope f aE A outer s H E) [] (start N vs) H s1:=bY5 S hr.hd e0 hl r x
 refine wpAny_mono (ht [] s1 (start N vs) H _ I hq) (λfl s' hs=>?_) λe s' hs=>hs
 have fin:∀{ay:St} {H':Hp} {v:V} {u:Value},Inv (g8 CX P w K mg base N qual scope f aE A outer s H E) [] ay H' s'->RelV v u->Q v H'->CE outer P w H s Q u s' :=
  λ{ay H' v u} J rv q=>⟨v,H',J.os,J.bare,J.base,J.aA,rv,q⟩
 cases fl with
 | ret u =>
  obtain⟨v,ay,H',J,rv,q⟩:=hs
  exact fin J rv q
 | next =>
  obtain⟨ay,H',J,q⟩:=hs
  exact fin (v:=V.aj) (u:=nS) J rfl q
 | brk =>
  obtain⟨_,_,_,q⟩:=hs
  exact eB q
 | cont =>
  obtain⟨_,_,_,q⟩:=hs
  exact eB q
end L2
namespace L2
open PySem PySem.Spec PyProof.Rows
section
variable{X:Cx}{x:Str}{p pos:Pos}{e:Expr}{es:List Expr}{t:TA}{id T:String}{r:List V->Hp->VK->Prop}
noncomputable def FP(r:List V->Hp->VK->Prop)(t:TA):TE:=λσ H Q=>t σ H λvs H1=>r vs H1 Q
theorem Bz(hc:fW X (.builtin id) r)(hg:Gl X x)(hm:X.mg x=none)(hv:bootBuiltins x=some (.builtin id))(ha:PA X (e::es) t)(hn:x≠"__name__":=by decide)(cT:(x==("__debug__":Str))=false:=by decide)
  (he:starEach (e::es) X.env=(false,eval e X.env)::starEach es X.env:=by rfl) (bx:(backTo pos (starEach es X.env)).any (·.1)=false:=by rfl):PE X (.Call (.Name x p) (e::es) [] pos) (FP r t):=by
 intro pins s σ H Q I h
 refine wpAny_Call_Name_kw (ou I hg hm hv ?_ hn cT)
 exact PyProof.Rows.callWith_builtin1 (aL (ha pos pins s σ H _ I h) λus s1 ⟨vs,H1,I1,r1,q1⟩=>hc pins s1 σ H1 vs us Q I1 r1 q1) he bx
theorem bZ2(hc:fW X (.type T) r)(hg:Gl X x)(hm:X.mg x=none)(hv:bootBuiltins x=some (.type T))(ha:PA X (e::es) t)(hn:x≠"__name__":=by decide)(cT:(x==("__debug__":Str))=false:=by decide)
  (he:starEach (e::es) X.env=(false,eval e X.env)::starEach es X.env:=by rfl) (bx:(backTo pos (starEach es X.env)).any (·.1)=false:=by rfl):PE X (.Call (.Name x p) (e::es) [] pos) (FP r t):=by
 intro pins s σ H Q I h
 refine wpAny_Call_Name_kw (ou I hg hm hv ?_ hn cT)
 exact Au (aL (ha pos pins s σ H _ I h) λus s1 ⟨vs,H1,I1,r1,q1⟩=>hc pins s1 σ H1 vs us Q I1 r1 q1) he bx
end
end L2
namespace HT
open PySem PyProof.Rows
section
open PySem.SeqAt
open PySem.AutoSeq1 (wpAny_loadPart')
open PySem.MeetsSeq PySem.MeetsSeq2 PySem.MeetsSeq3
end
section
variable{prog:Program}{w:World}{A:Around}{E:Value->Shared->Prop}{s:Shared}
noncomputable def cL(n d:Nat):Option Int->Nat
 | none=>d
 | some v=>if v<0 then(v+(n:Int)).toNat else min v.toNat n
theorem FQ(n d k:Nat):cL n d (some (k:Int))=min k n:=by
 show(if(k:Int)<0 then((k:Int)+(n:Int)).toNat else min (k:Int).toNat n)=min k n
 rw[if_neg (by omega),eD]
end
end HT
namespace L2
open PySem PySem.Spec PyProof.Rows
noncomputable abbrev TO:=St->Hp->(Option Int->Hp->Prop)->Prop
noncomputable def PO(X:Cx)(e:Option Expr)(t:TO):Prop :=
 ∀(pins:List (Addr × Obj)) (s:Shared) (σ:St) (H:Hp) (Q:Option Int->Hp->Prop),Inv X pins σ H s->t σ H Q ->
  wpAny (model X.prog X.w) X.A (evalPart e X.env) (λu s'=>∃o H',Inv X pins σ H' s'/\IsPart u o/\Q o H') X.xe s
noncomputable def cu4:TO:=λ_ H Q=>Q none H
noncomputable def cO2(t:TE):TO:=λσ H Q=>t σ H λx H1=>∃i,x=.int i/\Q (some i) H1
theorem Rl{ns:List Int}:∀{us:List Value},Vals (ns.map V.int) us->IntsAre us ns:=by
 induction ns with
 | nil=>intro us r;rw[jV]at r;cases r;exact .nil
 | cons n ns ih =>
  intro us r
  rw[dh]at r
  cases r with
  | cons r1 r2 =>
   obtain⟨t,e⟩:=r1
   subst e
   exact .cons n t (ih r2)
section
variable{X:Cx}{e:Expr}{te:TE}{lo hi:Option Expr}{tl th:TO}{pos p2:Pos}
theorem cq5:PO X none cu4:=by
 intro pins s σ H Q I h
 rw[evalPart_none]
 exact wpAny_pure ⟨none,H,I,.none,h⟩
theorem co9(h:PE X e te):PO X (some e) (cO2 te):=by
 intro pins s σ H Q I hw
 rw[evalPart_some]
 refine aL (h pins s σ H _ I hw) λu s1 ⟨x,H1,I1,r1,q1⟩=>?_
 obtain⟨i,rfl,q⟩:=q1
 obtain⟨t,rfl⟩:=r1
 exact⟨some i,H1,I1,.int i t,q⟩
noncomputable def oH(X:Cx)(r:V->Option Int->Option Int->Hp->VK->Prop):Prop :=
 ∀(pins:List (Addr × Obj)) (s:Shared) (σ:St) (H:Hp) (x:V) (v vl vu:Value) (lo hi:Option Int) (sl:Addr) (Q:VK),Inv X pins σ H s->RelV x v->s.heap.IsSliceOf sl vl vu .none->IsPart vl lo->IsPart vu hi->r x lo hi H Q ->
  ∃T id,typeLookup (.type T) "__getitem__"=pure (some (.builtin id))/\s.TypeIs v T/\wpAny (model X.prog X.w) X.A (getItem v (.ref sl)) (EP X pins σ Q) X.xe s
theorem oH.or{r r':V->Option Int->Option Int->Hp->VK->Prop}(h:oH X r)(h':oH X r'):oH X (λx lo hi H Q=>r x lo hi H Q\/r' x lo hi H Q):=by
 intro pins s σ H x v vl vu lo hi sl Q I rx hs pl pu q
 rcases q with q | q
 ·exact h pins s σ H x v vl vu lo hi sl Q I rx hs pl pu q
 ·exact h' pins s σ H x v vl vu lo hi sl Q I rx hs pl pu q
noncomputable def tSl(r:V->Option Int->Option Int->Hp->VK->Prop)(te:TE)(tl th:TO):TE:=λσ H Q=>te σ H λx H1=>tl σ H1 λl H2=>th σ H2 λu H3=>r x l u H3 Q
theorem cf4{r:V->Option Int->Option Int->Hp->VK->Prop}(hr:oH X r)(he:PE X e te)(hl:PO X lo tl)(hu:PO X hi th):PE X (.Subscript e (.Slice lo hi none p2) pos) (tSl r te tl th):=by
 intro pins s σ H Q I h
 refine Subscript_ (aL (he pins s σ H _ I h) λv s1 ⟨x,H1,I1,r1,q1⟩=>?_)
 refine wpAny_Slice (aL (hl pins s1 σ H1 _ I1 q1) λvl s2 ⟨l,H2,I2,pl,q2⟩=>aL (hu pins s2 σ H2 _ I2 q2) λvu s3 ⟨u,H3,I3,pu,q3⟩=>?_)
 rw[evalPart_none]
 refine wpAny_pure ?_
 have I4:Inv X pins σ H3 { s3 with heap:=s3.heap.push { cls:=.type "slice",data:=.fields #[vl,vu,.none] } }:=I3.kept (t':=s3.toks) λb ob q=>eM _ q
 obtain⟨T,id,hT,ht,hg⟩:=hr pins { s3 with heap:=s3.heap.push { cls:=.type "slice",data:=.fields #[vl,vu,.none] } } σ H3 x v vl vu l u s3.heap.objs.size Q I4 r1 (Heap.IsSliceOf.new ..) pl pu q3
 show wpAny (model X.prog X.w) X.A (subscriptTail e (.Slice lo hi none p2) v (.ref s3.heap.objs.size)) (EP X pins σ Q) X.xe { s3 with heap:=s3.heap.push { cls:=.type "slice",data:=.fields #[vl,vu,.none] } }
 exact tail_any (ops:=[.ref s3.heap.objs.size,v]) ht hT hg (by with_unfolding_all rfl)
noncomputable def q9(xs:List V)(lo hi:Option Int):List V:=(xs.drop (HT.cL xs.length 0 lo)).take (HT.cL xs.length xs.length hi-HT.cL xs.length 0 lo)
theorem bF8(xs:List V)(lo hi:Option Int):(q9 xs lo hi).length<=xs.length:=by
 unfold q9
 rw[qF,Az]
 omega
end
end L2
namespace L2
open PySem PySem.Spec PyProof.Rows
noncomputable def gE(n:Nat)(i:Int):Option Nat:=if 0<=i then(if i<n then some i.toNat else none)else if -(n:Int)<=i then some (i+n).toNat else none
noncomputable def eH{α:Type}(xs:List α)(i:Int):Option α:=(gE xs.length i).bind λj=>xs[j]?
theorem Rm{n:Nat}{i:Int}{j:Nat}(h:gE n i=some j):seqIndex? i n=some j/\j<n/\-(n:Int)<=i/\i<n:=by
 unfold gE at h
 by_cases h0:0<=i
 ·rw[if_pos h0]at h
  by_cases h1:i<n
  ·rw[if_pos h1]at h
   have e:i.toNat=j:=cP h
   exact⟨by rw[seqIndex_of h0 h1,e],by omega,by omega,h1⟩
  ·rw[if_neg h1]at h;cases h
 ·rw[if_neg h0]at h
  by_cases h1:-(n:Int)<=i
  ·rw[if_pos h1]at h
   have e:(i+n).toNat=j:=cP h
   exact⟨by rw[seqIndex_neg (by omega) h1,e],by omega,h1,by omega⟩
  ·rw[if_neg h1]at h;cases h
theorem kY{α:Type}{xs:List α}{i:Int}{v:α}(h:eH xs i=some v):∃j,seqIndex? i xs.length=some j/\xs[j]?=some v/\j<xs.length/\-(xs.length:Int)<=i/\i<xs.length:=by
 unfold eH at h
 cases e:gE xs.length i with
 | none=>rw[e]at h;cases h
 | some j =>
  rw[e]at h
  obtain⟨h1,h2,h3,h4⟩:=Rm e
  exact⟨j,h1,h,h2,h3,h4⟩
noncomputable def Rn(b:Expr):Prop:=∀o i,subscripted b false o i=operate [o,i] (getItem o i)
noncomputable def kZ(X:Cx)(r:R2):Prop :=
 ∀(value slice:Expr) (pins:List (Addr × Obj)) (s:Shared) (σ:St) (H:Hp) (x y:V) (v u:Value) (Q:VK),Inv X pins σ H s->RelV x v->RelV y u->r x y H Q ->
  subscripted slice false v u=operate [v,u] (getItem v u)->wpAny (model X.prog X.w) X.A (subscriptTail value slice v u) (EP X pins σ Q) X.xe s
noncomputable def xj(X:Cx)(id:String)(r:V->List V->Hp->VK->Prop):Prop :=
 ∀(pins:List (Addr × Obj)) (s:Shared) (σ:St) (H:Hp) (x:V) (xs:List V) (v:Value) (us:List Value) (Q:VK),Inv X pins σ H s->RelV x v->Vals xs us->r x xs H Q ->
  wpAny (model X.prog X.w) X.A (call (.builtin id) (v::us)) (EP X pins σ Q) X.xe s
section
variable{X:Cx}{a b:Expr}{ta tb:TE}{pos:Pos}
theorem kZ.or{r r':R2}(h:kZ X r)(h':kZ X r'):kZ X (λx y H Q=>r x y H Q\/r' x y H Q):=by
 intro value slice pins s σ H x y v u Q I rx ry q hs
 rcases q with q | q
 ·exact h value slice pins s σ H x y v u Q I rx ry q hs
 ·exact h' value slice pins s σ H x y v u Q I rx ry q hs
theorem cL0{r:R2}(hr:kZ X r)(ha:PE X a ta)(hb:PE X b tb)(hs:Rn b):PE X (.Subscript a b pos) (xg r ta tb):=by
 intro pins s σ H Q I h
 exact Subscript_ (FH ha hb I h λv u s2 x y H2 I2 rx ry q=>hr a b pins s2 σ H2 x y v u Q I2 rx ry q (hs _ _))
noncomputable def Ro(K:PySem.W.Frag):R2:=λx y H Q=>∃p xs i v,x=.ref p/\y=.int i/\bH K H p xs/\eH xs i=some v/\Q v H
noncomputable def Rp(K:PySem.W.Frag):R2:=λx y H Q=>∃p xs i v,x=.ref p/\y=.int i/\fV K H p xs/\eH xs i=some v/\Q v H
noncomputable def Rq:R2:=λx y H Q=>∃z i c,x=.str z/\y=.int i/\z.length<=sizeLine/\eH z.cps.toList i=some c/\Q (.str ⟨#[c]⟩) H
theorem c97:kZ X (Ro X.K):=by
 intro value slice pins s σ H x y v u Q I rx ry h hs
 obtain⟨p,xs,i,z,rfl,rfl,hq,he,q⟩:=h
 cases rx
 obtain⟨t,rfl⟩:=ry
 obtain⟨its,r,pl,hz⟩:=I.list hq
 obtain⟨j,h1,h2,h3,h4,h5⟩:=kY he
 obtain⟨w,ew,e5⟩:=r.get h2
 have hl:=r.length
 have hn:=qZ
 have fin:EP X pins σ Q w s:=⟨z,H,I,e5,q⟩
 by_cases h0:0<=i
 ·have hj:i.toNat=j:=by
   rw[seqIndex_of h0 h5]at h1
   exact cP h1
  exact item_listR pl.isList h0 (by omega) (by rw[hj];simpa using ew) fin hs
 ·have hj:(i+(its.toArray.size:Int)).toNat=j:=by
   rw[seqIndex_neg (by omega) h4]at h1
   rw[dn,<- hl]
   exact cP h1
  exact subscriptTail_builtinR (x:=w) pl.isList.typeIs slot_list_getitem.lookup
   (wpAny_getItem_list_neg (Q:=λr s'=>r=w/\EP X pins σ Q r s') pl.isList (by omega) (by rw[dn]<;>omega) (by omega) (by rw[hj];simpa using ew) ⟨rfl,fin⟩) hs
theorem c98:kZ X (Rp X.K):=by
 intro value slice pins s σ H x y v u Q I rx ry h hs
 obtain⟨p,xs,i,z,rfl,rfl,hq,he,q⟩:=h
 cases rx
 obtain⟨t,rfl⟩:=ry
 obtain⟨its,r,pl,hz⟩:=I.tuple hq
 obtain⟨j,h1,h2,h3,h4,h5⟩:=kY he
 obtain⟨w,ew,e5⟩:=r.get h2
 have hl:=r.length
 have hn:=qZ
 have fin:EP X pins σ Q w s:=⟨z,H,I,e5,q⟩
 exact subscriptTail_builtinR (x:=w) pl.typeIs slot_tuple_getitem.lookup
  (getItem_tuple (j:=j) (Q:=λr s'=>r=w/\EP X pins σ Q r s') pl (by omega) (by omega) (by rw[dn,<- hl];exact h1) (by simpa using ew) ⟨rfl,fin⟩) hs
theorem cG6:kZ X Rq:=by
 intro value slice pins s σ H x y v u Q I rx ry h hs
 obtain⟨z,i,c,rfl,rfl,hz,he,q⟩:=h
 obtain⟨t,rfl⟩:=rx
 obtain⟨t',rfl⟩:=ry
 obtain⟨j,h1,h2,h3,h4,h5⟩:=kY he
 have hl:z.cps.toList.length=z.length:=by simp[Str.length]
 rw[hl]at h1 h4 h5
 have hn:=qZ
 exact tail_any (typeIs_str s z t) slot_str_getitem.lookup (getItem_str (c:=c) (by
  have e1:decide (i < -(2 ^ 63:Int))=false:=decide_eq_false (by omega)
  have e2:decide (i ≥ 2 ^ 63)=false:=decide_eq_false (by omega)
  rw[e1,e2,wq]) (by rw[h1];simpa using h2) ⟨.str ⟨#[c]⟩,H,I.tok _,⟨_,rfl⟩,q⟩) hs
noncomputable def rIx(K:PySem.W.Frag):R2:=λx y H Q=>Ro K x y H Q\/Rp K x y H Q\/Rq x y H Q
theorem cG3:kZ X (rIx X.K):=c97.or (c98.or cG6)
theorem bN6(its:List Value)(n j:Nat)(u:Value):AA (·.setIfInBounds j u) { cls:=.type "list",data:=.seq its.toArray n }={ cls:=.type "list",data:=.seq (its.set j u).toArray n }:=by
 simp[AA]
theorem Inv.lst{pins:List (Addr × Obj)}{σ:St}{H:Hp}{s:Shared}{p:Addr}{xs:List V}(I:Inv X pins σ H s)(h:H p=some (.lst xs)) :
  ∃(its:List Value) (n:Nat),Vals xs its/\s.heap.get? p=some { cls:=.type "list",data:=.seq its.toArray n }/\xs.length<=sizeLine:=by
 obtain⟨z,its,n,r,e⟩:=I.aA p _ h
 exact⟨its,n,r,e,z⟩
theorem Inv.da3{pins:List (Addr × Obj)}{σ:St}{H:Hp}{s:Shared}{p:Addr}{xs ys:List V}{its its':List Value}{n n':Nat}{f:Obj->Obj}(I:Inv X pins σ H s)(h:H p=some (.lst xs))
  (ho:s.heap.get? p=some { cls:=.type "list",data:=.seq its.toArray n }) (hf:f { cls:=.type "list",data:=.seq its.toArray n }={ cls:=.type "list",data:=.seq its'.toArray n' }) (r:Vals ys its') (hz:ys.length<=sizeLine) (t:Nat) :
  Inv X pins σ (upd H p (.lst ys)) { s with heap:=s.heap.update p f,toks:=t }:=by
 have e:(s.heap.update p f).get? p=some { cls:=.type "list",data:=.seq its'.toArray n' }:=by
  rw[EJ f ho (by rw[hf]<;>rfl),hf]
 refine I.write (x:=p) (e:=p) (by rw[h];trivial) (.inl rfl) (λb u hb q=>(nW _ _ (dR hb)).trans q) ⟨_,e⟩ ?_
 exact⟨hz,its',n',r,e⟩
noncomputable def cL8:V->V->V->Hp->(Hp->Prop)->Prop:=λo i v H Q=>∃p xs k j,o=.ref p/\i=.int k/\H p=some (.lst xs)/\gE xs.length k=some j/\Q (upd H p (.lst (xs.set j v)))
theorem cc8:QO X cL8:=by
 intro pins s σ H o i v ov iv u Q I ro ri rv h
 obtain⟨p,xs,k,j,rfl,rfl,hp,hj,q⟩:=h
 cases ro
 obtain⟨t,rfl⟩:=ri
 obtain⟨its,n,r,ho,hz⟩:=I.lst hp
 obtain⟨h1,h2,h3,h4⟩:=Rm hj
 have hl:=r.length
 have hn:=qZ
 have I':Inv X pins σ (upd H p (.lst (xs.set j v))) { s with heap:=s.heap.update p (AA (·.setIfInBounds j u)) } :=
  I.da3 hp ho (bN6 its n j u) (r.set rv j) (by rw[gR];exact hz) s.toks
 by_cases h0:0<=k
 ·have hk:k.toNat=j:=by
   rw[seqIndex_of h0 h4]at h1
   exact cP h1
  exact PySem.W.ki_setAt ho h0 (by omega) (by rw[dn,<- hl];exact h4) (by rw[hk];exact⟨_,I',q⟩)
 ·have hk:(k+(its.toArray.size:Int)).toNat=j:=by
   rw[seqIndex_neg (by omega) h3]at h1
   rw[dn,<- hl]
   exact cP h1
  exact PySem.W.ki_setBack ho (by omega) (by rw[dn,<- hl];exact h3) (by omega) (by rw[hk];exact⟨_,I',q⟩)
theorem FR(lo hi:Option Int)(n:Nat):(sliceBounds lo hi none n).1=((HT.cL n 0 lo:Nat):Int)/\(sliceBounds lo hi none n).2.1=((HT.cL n n hi:Nat):Int)/\(sliceBounds lo hi none n).2.2=1:=by
 refine⟨?_,?_,rfl⟩
 ·cases lo with
  | none=>simp[sliceBounds,HT.cL]
  | some i =>
   simp only[sliceBounds,HT.cL,qI,show(1:Int)>0 by decide,if_true]
   by_cases h:i<0
   ·simp only[h,if_true]<;>omega
   ·simp only[h,if_false]<;>omega
 ·cases hi with
  | none=>simp[sliceBounds,HT.cL]
  | some i =>
   simp only[sliceBounds,HT.cL,qI,show(1:Int)>0 by decide,if_true]
   by_cases h:i<0
   ·simp only[h,if_true]<;>omega
   ·simp only[h,if_false]<;>omega
theorem by3(its:List Value)(lo hi:Option Int):slicePick its.toArray lo hi none=((its.drop (HT.cL its.length 0 lo)).take (HT.cL its.length its.length hi-HT.cL its.length 0 lo)).toArray:=by
 obtain⟨h1,h2,h3⟩:=FR lo hi its.toArray.size
 unfold slicePick
 rw[h1,h2,h3]
 simp only[sliceRange_one,pick_run,dn]<;>rfl
noncomputable def cR0(K:PySem.W.Frag):V->Option Int->Option Int->Hp->VK->Prop:=λx lo hi H Q=>∃a xs,x=.ref a/\bH K H a xs/\∀p,H p=none->Q (.ref p) (upd H p (.lst (q9 xs lo hi)))
theorem da8:oH X (cR0 X.K):=by
 intro pins s σ H x v vl vu lo hi sl Q I rx hs pl pu h
 obtain⟨a,xs,rfl,hx,q⟩:=h
 cases rx
 obtain⟨its,r,ht,hz⟩:=I.list hx
 have hlen:=r.length
 refine⟨"list",_,slot_list_getitem.lookup,ht.isList.typeIs,?_⟩
 refine wpAny_getItem_list_slice ht.isList hs pl pu .none (by simp) ?_ (by rw[dn]<;>omega)
 rw[by3,<- hlen]
 refine⟨.ref s.heap.objs.size,_,I.laid (t':=s.toks) (o:=.lst (q9 xs lo hi)) (λb ob q=>eM _ q) (bB _) ?_,rfl,q _ (I.aA.fresh (bB _))⟩
 exact⟨eA (bF8 xs lo hi) hz,_,0,(r.drop (HT.cL xs.length 0 lo)).take (HT.cL xs.length xs.length hi-HT.cL xs.length 0 lo),fO _ rfl⟩
noncomputable def lh:V->Bool
 | .aj=>true
 | .bl _=>true
 | .int _=>true
 | .str _=>true
 | _=>false
noncomputable def kg:V->V->Bool
 | .aj,.aj=>true
 | .bl a,.bl b=>a==b
 | .bl a,.int b=>(if a then 1 else 0)==b
 | .int a,.bl b=>a==(if b then 1 else 0)
 | .int a,.int b=>a==b
 | .str a,.str b=>a==b
 | _,_=>false
theorem cI4{A:Around}{s:Shared}{y x:V}{u v:Value}(ry:RelV y u)(rx:RelV x v)(fy:lh y=true)(fx:lh x=true):EK A s u v (kg y x):=by
 cases y with
 | aj =>
  cases ry
  cases x with
  | aj=>cases rx;exact SeqAt.EqAt.same _
  | bl b=>cases rx;exact SeqAt.EqAt.none_bool b
  | int b=>obtain⟨t,rfl⟩:=rx;exact SeqAt.EqAt.none_int b t
  | str b=>obtain⟨t,rfl⟩:=rx;exact SeqAt.EqAt.none_str b t
  | _=>exact absurd (show false=true from fx) eC
 | bl a =>
  cases ry
  cases x with
  | aj=>cases rx;exact SeqAt.EqAt.bool_none a
  | bl b=>cases rx;exact SeqAt.EqAt.bool_bool a b
  | int b=>obtain⟨t,rfl⟩:=rx;exact SeqAt.EqAt.bool_int a b t
  | str b=>obtain⟨t,rfl⟩:=rx;exact SeqAt.EqAt.bool_str a b t
  | _=>exact absurd (show false=true from fx) eC
 | int a =>
  obtain⟨t',rfl⟩:=ry
  cases x with
  | aj=>cases rx;exact SeqAt.EqAt.int_none a t'
  | bl b=>cases rx;exact SeqAt.EqAt.int_bool a t' b
  | int b=>obtain⟨t,rfl⟩:=rx;exact SeqAt.EqAt.int_int a t' b t
  | str b=>obtain⟨t,rfl⟩:=rx;exact SeqAt.EqAt.int_str a t' b t
  | _=>exact absurd (show false=true from fx) eC
 | str a =>
  obtain⟨t',rfl⟩:=ry
  cases x with
  | aj=>cases rx;exact SeqAt.EqAt.str_none a t'
  | bl b=>cases rx;exact SeqAt.EqAt.str_bool a t' b
  | int b=>obtain⟨t,rfl⟩:=rx;exact SeqAt.EqAt.str_int a t' b t
  | str b=>obtain⟨t,rfl⟩:=rx;exact SeqAt.EqAt.str_str a t' b t
  | _=>exact absurd (show false=true from fx) eC
 | _=>exact absurd (show false=true from fy) eC
noncomputable def lj(x:V)(u:Value):Bool:=match u with
 | .none=>kg .aj x
 | .bool b=>kg (.bl b) x
 | .int i _=>kg (.int i) x
 | .str z _=>kg (.str z) x
 | _=>false
theorem Rt{x y:V}{u:Value}(r:RelV y u)(f:lh y=true):lj x u=kg y x:=by
 cases y with
 | aj=>cases r;rfl
 | bl b=>cases r;rfl
 | int i=>obtain⟨t,rfl⟩:=r;rfl
 | str z=>obtain⟨t,rfl⟩:=r;rfl
 | _=>exact absurd (show false=true from f) eC
theorem FT{x:V}:∀{xs:List V} {us:List Value},Vals xs us->xs.all lh=true->us.any (lj x)=xs.any λy=>kg y x
 | _,_,.nil,_=>rfl
 | y::xs,u::us,.cons r t,f=>by
  rw[di,dB]at f
  rw[List.any_cons,List.any_cons,Rt r f.1,FT t f.2]
theorem FU{A:Around}{s:Shared}{x:V}{v:Value}(rx:RelV x v)(fx:lh x=true):∀{xs:List V} {us:List Value},Vals xs us->xs.all lh=true->∀u∈us,EK A s u v (lj x u)
 | _,_,.nil,_=>λu hu=>by cases hu
 | y::xs,u::us,.cons r t,f=>λu' hu=>by
  rw[di,dB]at f
  rcases cE.mp hu with rfl | hu
  ·rw[Rt r f.1];exact cI4 r rx f.1 fx
  ·exact FU rx fx t f.2 u' hu
noncomputable def BA(x:V)(xs:List V):Bool:=xs.any λy=>kg y x
noncomputable def rIn(K:PySem.W.Frag)(neg:Bool):R2:=λx y H Q=>∃p xs,y=.ref p/\(bH K H p xs\/fV K H p xs)/\lh x=true/\xs.all lh=true/\Q (.bl (if neg then !BA x xs else BA x xs)) H
theorem bF0:bW X (compareOp .NotIn) (rIn X.K true):=by
 intro pins s σ H x y v u Q I rx ry h
 obtain⟨p,xs,rfl,hq,fx,fs,q⟩:=h
 cases ry
 rcases hq with hq | hq
 ·obtain⟨its,r,pl,hz⟩:=I.list hq
  refine SeqAt.notIn_listAt (lj x) pl.isList (λw hw=>FU rx fx r fs w (by simpa using hw)) ⟨.bl _,H,I,rfl,?_⟩
  rw[show its.toArray.any (lj x)=its.any (lj x) by simp,FT r fs]
  exact q
 ·obtain⟨its,r,pl,hz⟩:=I.tuple hq
  refine SeqAt.notIn_tupleAt (lj x) pl (λw hw=>FU rx fx r fs w (by simpa using hw)) ⟨.bl _,H,I,rfl,?_⟩
  rw[show its.toArray.any (lj x)=its.any (lj x) by simp,FT r fs]
  exact q
theorem Ru:fW X (.builtin "len") (λxs H Q=>∃p ys,xs=[.ref p]/\(bH X.K H p ys\/fV X.K H p ys)/\Q (.int ys.length) H):=by
 intro pins s σ H xs us Q I r h
 obtain⟨p,ys,rfl,hq,q⟩:=h
 obtain⟨u,rfl,rx⟩:=Bt r
 cases rx
 have hn:=qZ
 rcases hq with hq | hq
 ·obtain⟨its,r',pl,hz⟩:=I.list hq
  have hlen:=r'.length
  exact Calls.call_len_list pl.isList (by simp only[dn]<;>omega) ⟨.int ys.length,H,I.tok _,⟨s.toks+1,by rw[dn,hlen]⟩,q⟩
 ·obtain⟨its,r',pl,hz⟩:=I.tuple hq
  have hlen:=r'.length
  exact len_tuple pl (by simp only[dn]<;>omega) ⟨.int ys.length,H,I.tok _,⟨s.toks+1,by rw[dn,hlen]⟩,q⟩
theorem bA6:fW X (.builtin "len") (λxs H Q=>∃z,xs=[.str z]/\z.length<=sizeLine/\Q (.int z.length) H):=by
 intro pins s σ H xs us Q I r h
 obtain⟨z,rfl,hz,q⟩:=h
 obtain⟨u,rfl,t,rfl⟩:=Bt r
 have hn:=qZ
 exact len_str (by omega) ⟨.int z.length,H,I.tok _,⟨_,rfl⟩,q⟩
theorem fW.or{f:Value}{r r':List V->Hp->VK->Prop}(h:fW X f r)(h':fW X f r'):fW X f (λxs H Q=>r xs H Q\/r' xs H Q):=by
 intro pins s σ H xs us Q I rs q
 rcases q with q | q
 ·exact h pins s σ H xs us Q I rs q
 ·exact h' pins s σ H xs us Q I rs q
theorem bD9:fW X (.type "list") (λxs H Q=>∃p ys,xs=[.ref p]/\(bH X.K H p ys\/fV X.K H p ys)/\∀l,H l=none->Q (.ref l) (upd H l (.lst ys))):=by
 intro pins s σ H xs us Q I r h
 obtain⟨p,ys,rfl,hq,q⟩:=h
 obtain⟨u,rfl,rx⟩:=Bt r
 cases rx
 have fin:∀(its:List Value),Vals ys its->ys.length<=sizeLine->∀(h':Heap) (c':Nat),(∀b o',s.heap.get? b=some o'->h'.get? b=some o') ->
   h'.get? s.heap.objs.size=some { cls:=.type "list",dict:=none,data:=.seq its.toArray c',slots:=#[] }->EP X pins σ Q (.ref s.heap.objs.size) { s with heap:=h' }:=λits r' hz h' c' kp e =>
  ⟨.ref s.heap.objs.size,_,I.laid (t':=s.toks) kp (bB _) (show dq X.prog X.w _ h' _ (.lst ys) from⟨hz,its,c',r',e⟩),rfl,q _ (I.aA.fresh (bB _))⟩
 rcases hq with hq | hq
 ·obtain⟨its,r',pl,hz⟩:=I.list hq
  have hlen:=r'.length
  obtain⟨o,ho,hc,n,hd⟩:=pl.isList
  exact call_list_seq p (.inl rfl) ho hc hd (λh' c' kp e=>fin its r' hz h' c' kp e) (by simp only[dn]<;>omega)
 ·obtain⟨its,r',pl,hz⟩:=I.tuple hq
  have hlen:=r'.length
  obtain⟨o,ho,hc,n,hd⟩:=pl
  exact call_list_seq p (.inr rfl) ho hc hd (λh' c' kp e=>fin its r' hz h' c' kp e) (by simp only[dn]<;>omega)
noncomputable def FV(K:PySem.W.Frag)(T:String)(x:V)(H:Hp):Prop:=match x with
 | .str _=>T="str"
 | .int _=>T="int"
 | .ref p=>(T="list"/\∃xs,bH K H p xs)\/(T="tuple"/\∃o,K.lookup p=some o/\o.cls=.type "tuple"/\o.dict=none) \/
   (T="dict"/\((∃da,H p=some (.dK da))\/∃da,H p=some (.dT da)))\/(T="set"/\∃S n,H p=some (.set S n))
 | _=>False
theorem Rv{pins:List (Addr × Obj)}{σ:St}{H:Hp}{s:Shared}{T:String}{x:V}{v:Value}(I:Inv X pins σ H s)(r:RelV x v)(ty:FV X.K T x H) :
  s.TypeIs v T/\∀a,v=.ref a->∃ob,s.heap.get? a=some ob/\ob.dict=none:=by
 cases x with
 | str z =>
  obtain⟨t,rfl⟩:=r
  cases(show T="str" from ty)
  exact⟨typeIs_str s z t,λ_ e=>nomatch e⟩
 | int i =>
  obtain⟨t,rfl⟩:=r
  cases(show T="int" from ty)
  exact⟨typeIs_int s i t,λ_ e=>nomatch e⟩
 | ref p =>
  cases r
  rcases ty with⟨rfl,xs,hq⟩ | ⟨rfl,o,hk,hc,hd⟩ | ⟨rfl,hk⟩ | ⟨rfl,S,n,hk⟩
  ·obtain⟨its,_,pl,_⟩:=I.list hq
   refine⟨pl.isList.typeIs,λa e=>?_⟩
   cases e
   obtain⟨o,n,e,c,hd,_⟩:=pl
   exact⟨o,e,hd⟩
  ·refine⟨⟨o,I.cw p o hk,hc⟩,λa e=>?_⟩
   cases e
   exact⟨o,I.cw _ o hk,hd⟩
  ·have z:∃o,s.heap.get? p=some o/\o.ExactDict:=by
    rcases hk with⟨da,hk⟩ | ⟨da,hk⟩
    ·obtain⟨_,_,_,_,o,_,_,e,ex,_⟩:=I.aA p _ hk
     exact⟨o,e,ex⟩
    ·obtain⟨_,_,_,_,o,_,_,e,ex,_⟩:=I.aA p _ hk
     exact⟨o,e,ex⟩
   obtain⟨o,e,ex⟩:=z
   refine⟨⟨o,e,ex.1⟩,λa e2=>?_⟩
   cases e2
   exact⟨o,e,ex.2.1⟩
  ·obtain⟨o,_,_,_,e,ex,_⟩:=I.aA p _ hk
   refine⟨⟨o,e,ex.1⟩,λa e2=>?_⟩
   cases e2
   exact⟨o,e,ex.2.1⟩
 | _=>exact eB ty
noncomputable def Rw(K:PySem.W.Frag)(T:String)(r:V->List V->Hp->VK->Prop)(to:TE):TE:=λσ H Q=>to σ H λx H1=>FV K T x H1/\r x [] H1 Q
noncomputable def tBM(K:PySem.W.Frag)(T:String)(r:V->List V->Hp->VK->Prop)(to:TE)(t:TA):TE:=λσ H Q=>to σ H λx H1=>FV K T x H1/\t σ H1 λxs H2=>r x xs H2 Q
variable{o e:Expr}{es:List Expr}{to:TE}{t:TA}{name:Str}{apos bM:Pos}{T id:String}{r:V->List V->Hp->VK->Prop}
theorem cD7(pa:PlainAttrs T)(slot:Slot T name id)(FW:typeOf (.builtin id)=pure (.type "method_descriptor"))(hm:xj X id r)(ho:PE X o to)
  (jB:attributeBase o name X.env (eval o X.env)=eval o X.env:=by rfl) (jC:(apos.endLine==bM.line)=true:=by rfl):PE X (.Call (.Attribute o name apos) [] [] bM) (Rw X.K T r to):=by
 intro pins s σ H Q I h
 refine wpAny_Call_method0_late jB jC (aL (ho pins s σ H _ I h) λv s1 ⟨x,H1,I1,r1,ty,q1⟩=>?_)
 obtain⟨h1,h2⟩:=Rv I1 r1 ty
 exact⟨T,id,pa,slot,FW,h1,h2,Calls.callWith_builtin rfl (PySem.evalArgs_none (hm pins s1 σ H1 x [] v [] Q I1 r1 .nil q1))⟩
theorem Rx(pa:PlainAttrs T)(slot:Slot T name id)(FW:typeOf (.builtin id)=pure (.type "method_descriptor"))(hm:xj X id r)(ho:PE X o to)(ha:PA X (e::es) t)
  (jB:attributeBase o name X.env (eval o X.env)=eval o X.env:=by rfl)
  (xk:((backTo bM (starEach (e::es) X.env)).all (λx=>!x.1)&&(backToKw bM (keywordEach [] X.env)).all (λx=>x.1.isSome)
   && decide ((e::es).length+([]:List Keyword).length+(if([]:List Keyword).isEmpty then 0 else 1)<30))=true:=by rfl)
  (jC:(apos.endLine==bM.line)=true:=by rfl) (hs:starEach (e::es) X.env=(false,eval e X.env)::starEach es X.env:=by rfl) (xm:(backTo bM (starEach es X.env)).any (·.1)=false:=by rfl) :
  PE X (.Call (.Attribute o name apos) (e::es) [] bM) (tBM X.K T r to t):=by
 intro pins s σ H Q I h
 refine wpAny_Call_method_late jB xk jC rfl (aL (ho pins s σ H _ I h) λv s1 ⟨x,H1,I1,r1,ty,q1⟩=>?_)
 obtain⟨h1,h2⟩:=Rv I1 r1 ty
 refine⟨T,id,pa,slot,FW,h1,h2,?_⟩
 have hA:=ha bM pins s1 σ H1 _ I1 q1
 rw[hs]at hA ⊢
 refine Calls.callWith_builtin (by show(false||(backTo bM (starEach es X.env)).any (·.1))=false;rw[xm]<;>rfl) (Calls.evalArgs_plain ?_)
 exact aL hA λus s2 ⟨vs,H2,I2,r2,q2⟩=>hm pins s2 σ H2 x vs v us Q I2 r1 r2 q2
/- xs.append(e),list.index on a e91 tuple .. are xj facts of 06m -/
end
end L2
namespace L2
open PySem PySem.Spec PyProof.Rows
noncomputable def MtM(X:Cx)(id:String)(r:V->List V->Hp->VK->Prop):Prop :=
 ∀(pins:List (Addr × Obj)) (s:Shared) (σ:St) (H:Hp) (x:V) (xs:List V) (v:Value) (us:List Value) (Q:VK),Inv X pins σ H s->RelV x v->Vals xs us->r x xs H Q ->
  wpAny (model X.prog X.w) X.A (call (.builtin id) (v::us)) (EP X pins σ Q) X.xe s
theorem Vals.one:∀{x:V} {us:List Value},Vals [x] us->∃u,us=[u]/\RelV x u
 | _,_,.cons r .nil=>⟨_,rfl,r⟩
theorem Vals.two:∀{x y:V} {us:List Value},Vals [x,y] us->∃u v,us=[u,v]/\RelV x u/\RelV y v
 | _,_,_,.cons r (.cons q .nil)=>⟨_,_,rfl,r,q⟩
theorem Vals.rep{xs:List V}{us:List Value}(h:Vals xs us):∀k:Nat,Vals (aw k xs).flatten (aw k us).flatten
 | 0=>.nil
 | k+1=>by
  rw[nX,nX,qJ,qJ]
  exact Vals.append h (Vals.rep h k)
theorem Ry(its:List Value):∀(k:Nat) (acc:List Value),
  List.foldl (λx1 x2=>x1++x2) acc.toArray (aw k its.toArray)=(acc++(aw k its).flatten).toArray
 | 0,acc=>by simp
 | k+1,acc=>by
  have e:acc.toArray++its.toArray=(acc++its).toArray:=by simp
  have e2:(acc++its)++(aw k its).flatten=acc++(aw (k+1) its).flatten:=by
   rw[nX,qJ,dM]
  rw[<-e2,<- Ry its k (acc++its),<- e,nX,qK]
section
variable{X:Cx}{pins:List (Addr × Obj)}{σ:St}{H:Hp}{s:Shared}{l b:Addr}{xs ys zs:List V}
theorem Inv.db7{its its':List Value}{n:Nat}{f:Array Value->Array Value}{t':Nat}(I:Inv X pins σ H s)(hH:H l=some (.lst xs))
  (e:s.heap.get? l=some { cls:=.type "list",data:=.seq its.toArray n }) (hf:f its.toArray=its'.toArray) (hv:Vals ys its') (hz:ys.length<=sizeLine) :
  Inv X pins σ (upd H l (.lst ys)) { s with heap:=s.heap.update l (AA f),toks:=t' }:=by
 have q:=PySem.IsL.update e f
 rw[hf]at q
 refine I.write (x:=l) (e:=l) (by rw[hH];exact trivial) (.inl rfl) (λb' u hb hu=>(nW s.heap (AA f) (dR hb)).trans hu) ⟨_,q⟩ ?_
 exact⟨hz,its',_,hv,q⟩
theorem Inv.Rz{its:List Value}{t':Nat}(I:Inv X pins σ H s)(hv:Vals ys its)(hz:ys.length<=sizeLine) :
  Inv X pins σ (upd H s.heap.objs.size (.lst ys)) { s with heap:=s.heap.push { cls:=.type "list",data:=.seq its.toArray },toks:=t' } :=
 I.laid (λ_ _ q=>eM _ q) (bB _) ⟨hz,its,0,hv,fO _ rfl⟩
theorem Inv.fresh(I:Inv X pins σ H s):H s.heap.objs.size=none:=I.aA.fresh (bB _)
theorem Inv.BB(I:Inv X pins σ H s)(hH:H l=some (.lst xs)):xs.length<=sizeLine/\∃(its:List Value) (n:Nat),Vals xs its/\xs.length=its.length/\s.heap.get? l=some { cls:=.type "list",data:=.seq its.toArray n }:=by
 obtain⟨z,its,n,r,e⟩:=I.aA l _ hH
 exact⟨z,its,n,r,r.length,e⟩
theorem ca8{n:Nat}(h:n<=sizeLine):Qf n=false:=by
 unfold Qf
 exact decide_eq_false (by omega)
end
section
variable{X:Cx}
noncomputable def co5:V->List V->Hp->VK->Prop:=λx vs H Q=>∃l xs y,x=.ref l/\vs=[y]/\H l=some (.lst xs)/\xs.length<sizeLine/\Q .aj (upd H l (.lst (xs++[y])))
theorem RA:MtM X "list.append" co5:=by
 intro pins s σ H x vs v us Q I rx rv h
 obtain⟨l,xs,y,rfl,rfl,hH,hz,q⟩:=h
 cases rx
 obtain⟨u,rfl,ru⟩:=rv.one
 obtain⟨z,its,n,r,hl,e⟩:=I.BB hH
 refine call_meets F.slot_list_append ⟨_,e,rfl⟩ F.entry_list_append (F.args_list_append_2 _ _) (PySem.list_append l its.toArray n u (by rw[dn];omega)) ⟨e,?_⟩
 refine⟨.aj,_,I.db7 (its':=its++[u]) hH e (by simp) (r.append (.cons ru .nil)) ?_,rfl,q⟩
 rw[gA,mK]
 omega
noncomputable def cP9:R2:=λx y H Q=>∃l b xs zs,x=.ref l/\y=.ref b/\H l=some (.lst xs)/\H b=some (.lst zs)/\xs.length+zs.length<=sizeLine/\∀p,H p=none->Q (.ref p) (upd H p (.lst (xs++zs)))
theorem RB:bW X (binaryOp .Add) cP9:=by
 intro pins s σ H x y v u Q I rx ry h
 obtain⟨l,b,xs,zs,rfl,rfl,hH,hB,hz,q⟩:=h
 cases rx
 cases ry
 obtain⟨z,its,n,r,hl,e⟩:=I.BB hH
 obtain⟨z2,RC,n2,r2,BC,e2⟩:=I.BB hB
 refine PySem.P.add_list e e2 ?_ (by rw[dn,dn];omega)
 have ea:its.toArray++RC.toArray=(its++RC).toArray:=by simp
 rw[ea]
 exact⟨.ref _,_,I.Rz (t':=s.toks) (r.append r2) (by rw[gA];omega),rfl,q _ I.fresh⟩
noncomputable def cR5:R2:=λx y H Q=>∃l k xs,x=.ref l/\y=.int k/\H l=some (.lst xs)/\-(2 ^ 63)<=k/\k<2 ^ 63/\xs.length*k.toNat<=sizeLine /\
 ∀p,H p=none->Q (.ref p) (upd H p (.lst (aw k.toNat xs).flatten))
theorem cs3{α:Type}(xs:List α)(k:Nat):(aw k xs).flatten.length=k*xs.length:=by
 induction k with
 | zero=>simp
 | succ k ih=>rw[nX,qJ,gA,ih,Nat.succ_mul,Qg]
theorem cG7:bW X (binaryOp .Mult) cR5:=by
 intro pins s σ H x y v u Q I rx ry h
 obtain⟨l,k,xs,rfl,rfl,hH,h1,h2,hz,q⟩:=h
 cases rx
 obtain⟨t,rfl⟩:=ry
 obtain⟨z,its,n,r,hl,e⟩:=I.BB hH
 have hlen:its.toArray.size*k.toNat<=sizeLine:=by rw[dn,<- hl];exact hz
 have dd4:¬ its.toArray.size*k.toNat>(2 ^ 63-1)/8:=by
  have:(sizeLine:Nat)<=(2 ^ 63-1)/8:=by decide
  omega
 have dd5:¬ (!Builtin.List.listFitsIndex k)=true:=by
  rw[fitsIndex_both h1 h2]
  exact eC
 have dd6:¬ Qf (its.toArray.size*k.toNat)=true:=by
  rw[ca8 hlen]
  exact eC
 have dd7:List.foldl (λx1 x2=>x1++x2) #[] (aw (if its.toArray.isEmpty=true then 0 else k.toNat) its.toArray)=(aw k.toNat its).flatten.toArray:=by
  have f0:∀m:Nat,List.foldl (λx1 x2=>x1++x2) #[] (aw m its.toArray)=(aw m its).flatten.toArray:=λm=>by
   have:=Ry its m []
   rw[nY]at this
   exact this
  rw[f0]
  cases its with
  | nil=>simp
  | cons a r'=>rw[if_neg (by simp)]
 refine wpAny_binaryOp_repeat_ref (T:="list") (U:="int") (by decide) ⟨_,e,rfl⟩ (λs'=>typeIs_int s' k t) noFill_list_mul F.fills_int_mul F.slot_int_rmul repeat_list F.slot_int_index.lookup
  (call_meets F.slot_int_rmul (typeIs_int s k t) F.entry_int_rmul (F.args_int_rmul_2 _ _) (int___rmul___int_list k t l its.toArray n)
   ⟨e,rfl,⟨_,e,rfl⟩,call_meets F.slot_list_mul ⟨_,e,rfl⟩ F.entry_list_mul (F.args_list_mul_2 _ _) (AutoListH.list___mul___list_int_3 l its.toArray n k t dd5 dd4 dd6) ⟨e,?_⟩⟩)
 rw[dd7]
 exact⟨.ref _,_,I.Rz (t':=s.toks) (r.rep k.toNat) (by rw[cs3,kM];exact hz),rfl,q _ I.fresh⟩
end
section
variable{prog:Program}{w:World}{A:Around}{E:Value->Shared->Prop}{s:Shared}
end
section
variable{X:Cx}
end
end L2
namespace Att
open PySem PySem.W PySem.Calls PyProof.Rows
theorem bs4{P:Params}{h:Heap}:∀(ns:List Int) (vs:List Value),WellAll P h vs (ns.map WData.int)->IntsAre vs ns:=by
 intro ns
 induction ns with
 | nil =>
  intro vs w
  rw[jV]at w
  cases w
  exact .nil
 | cons n ns ih =>
  intro vs w
  rw[dh]at w
  cases w with
  | cons a b =>
   cases a
   exact .cons _ _ (ih _ b)
theorem bY3{l:OpenLaw}{n:Nat}(hn:l.most=some n){P:Params}{h:Heap}{args:List WData}{vals:List Value}
  (BD:l.row.toRowW.claim.pre args=true) (FX:WellAll P h vals args) :
  ∃a vs ns,vals=[cu a]/\args=[WData.list (ns.map WData.int)]/\h.get? a=some { cls:=.type "list",data:=.seq vs.toArray }/\IntsAre vs ns/\ns.length<=n:=by
 have xn:WShape.hasAll [] args [.list .int]=true:=(pre_splitW BD).1
 have hc:l.pre.holds [] { args:=args }=true:=(pre_splitW BD).2
 obtain⟨d,r,rfl,h1,h2⟩:=hasAllW_cons xn
 obtain rfl:=hasAllW_nil h2
 obtain⟨xs,rfl,h3⟩:=hasW_list h1
 obtain⟨ns,rfl⟩:=items_int h3
 have hlen:ns.length<=n:=by
  unfold OpenLaw.pre at hc
  have h4:(WTm.not (.lt (.lit (.int (n:Int))) (.len (.arg 0)))).holds [] { args:=[.list (ns.map .int)] }=true:=by
   have h4:=(holds_andW hc).1
   rw[hn]at h4
   exact h4
  have h5:=condW_of h4 (w_not (w_lt w_lit (w_len_list (w_arg rfl))))
  rw[bK]at h5
  refine EL λq=>?_
  have q':(n:Int)<((ns.length:Nat):Int):=by omega
  first
   | (rw[decide_eq_true q']at h5;exact absurd h5 (by decide))
   | (simp at h5;omega)
 cases FX with
 | cons w1 w2 =>
  cases w2
  cases w1 with
  | list ho de0=>exact⟨_,_,ns,rfl,rfl,ho,bs4 ns _ de0,hlen⟩
theorem b84(l:OpenLaw)(args:List WData):l.row.toRowW.claim.post args (.bool true) args=true :=
 postW_of (r:=l.row.toRowW) (X:=(true==true))
  (show WShape.has [] (.bool true) .bool=true by first | rfl | decide | simp[WShape.has,WShape.arms,WShape.armsAll])
  (show(WTm.eq .res (.lit (.bool true))).value [] { args:=args,res:=some (.bool true),after:=args }=some (.bool (true==true)) from w_eq_bool (w_res rfl) w_lit) rfl
theorem de2{l:OpenLaw}{n:Nat}{q:Program}{loose:List Str}{XP:(Str->Option Value)->Heap->Prop}{YP:World->Heap->Prop}{d:DefRec}
  (hn:l.most=some n) (xo:d.params.defaults=[])
  (call:∀(w:World) (ck bw:Shared) (mg mb:Str->Option Value) (fa:Addr) (o:Obj) (pm cd doc:Value) (a:Addr) (vs:List Value) (ns:List Int),
   Ground q loose [] XP w ck mg mb bw.heap->YP w bw.heap ->
   bw.heap.get? fa=some o->o.data=.func (docDef d.name d.params d.body d.scope pm cd doc)->bw.heap.CodeRec cd d.name->mg d.name=some (.ref fa) ->
   bw.heap.get? a=some { cls:=.type "list",data:=.seq vs.toArray }->IntsAre vs ns->ns.length<=n->bw.gens=#[] ->
   codeAny (model l.prog w) callerA (.call (.ref fa) ⟨[.ref a],[]⟩) (λr s'=>r=.ok (.ret (.bool true))/\OldK bw.heap s'.heap/\s'.os=bw.os/\AllBare s'.gens) bw) :
  WalkO q loose XP YP l.row.toRowW d [] (λf vs=>PySem.call f vs):=by
 intro w ck bw mg mb G Y fa o pm cd doc dV kV ho hd cF hD xp hg args vals as BD e92 hrd FX gF
 obtain rfl:dV=.none:=Dflts.none hD xo
 obtain rfl:kV=.none:=Dflts.noKw hD
 obtain⟨a,vs,ns,rfl,rfl,FY,hints,hlen⟩:=bY3 hn BD FX
 refine enter_call (codeAny_mono (call w ck bw mg mb fa o pm cd doc a vs ns G Y ho (fd_plain hd) cF xp FY hints hlen hg) λr s' hq=>?_)
 obtain⟨rfl,h2,h3,h4⟩:=hq
 exact⟨.inl ⟨.bool true,.bool true,[],rfl,λ_=>rfl,.bool true,b84 l _,λ_=>⟨List.Pairwise.nil,λ_ hm=>(nomatch hm)⟩⟩,h2,h3,h4⟩
section
variable{prog:Program}{w:World}{A:Around}{E:Value->Shared->Prop}{s:Shared}{K:Frag}
end
end Att
namespace L2
open PySem PySem.Spec PyProof.Rows
theorem RD:∀{vs:List Value} {ns:List Int},IntsAre vs ns->Vals (ns.map V.int) vs
 | _,_,.nil=>.nil
 | _,_,.cons n t h=>.cons ⟨t,rfl⟩ (RD h)
end L2
namespace L2
open PySem PySem.Spec PyProof.Rows
end L2
/- THE e95 e96 (shape;LID,My.* are e98):
   My.dr: a structure of RE addresses e99 fa0 fa1 names (classes,fa2);My.Txt K t: a structure (Prop) of RE equations over K;
   My.fa3:{K} {implicit addresses ..} (e1:nsIn K mainGlobals "law"=some (some (.ref f))) (e2:K.lookup f=some ⟨oc,od,.func (fnOf "law" "law" params body scope dV kV doc pm an aE ct),sl⟩) (e3:codeIn K aE "law"=true) ..:∃t,My.Txt K t
(RE tactic k_is has no namespace: write k_is) -/
namespace L2
open PySem PySem.Spec PyProof.Rows
noncomputable def df(s:Stmt)(j:Nat):Stmt:=match s with
 | .ClassDef _ _ _ body _ _ _ _ _ _ _=>body.getD j (.Pass ⟨0,0,0,0⟩)
 | _=>.Pass ⟨0,0,0,0⟩
noncomputable def aZ(s:Stmt):Arguments:=match s with
 | .FunctionDef _ a _ _ _ _ _ _ _ _=>a
 | _=>{ posonlyargs:=[],args:=[],vararg:=none,kwonlyargs:=[],kw_defaults:=[],kwarg:=none,defaults:=[] }
noncomputable def aS(s:Stmt):List Stmt:=match s with
 | .FunctionDef _ _ b _ _ _ _ _ _ _=>b
 | _=>[]
noncomputable def ao(s:Stmt):Scope:=match s with
 | .FunctionDef _ _ _ _ _ _ sc _ _ _=>sc
 | _=>{ kind:=.function,names:=[],isGenerator:=false,isCoroutine:=false }
noncomputable abbrev aR:dN:=λ_ _ _ _ _ _=>False
noncomputable abbrev E0:XK:=λ_ _ _=>False
theorem bC{X:Cx}:ji aR X E0:=λ_ _ _ _ _ _ _ h=>h.elim
structure aV(K:PySem.W.Frag)(x qual:Str)(st:Stmt)(f:Addr)(fd:FuncData):Prop where
 ex:∃(oc:Value) (od:Option Addr) (kV doc pm:Value) (an:Option Addr) (aE ct:Value) (ke:Array (Option Value)),
  fd=PySem.W.fnOf x qual (aZ st) (aS st) (ao st) .none kV doc pm an aE ct/\K.lookup f=some ⟨oc,od,.func fd,ke⟩/\PySem.W.codeIn K aE qual=true
 kp:PySem.W.keepIn K (.ref f)=true
section
variable{P:Program}{w:World}{K:PySem.W.Frag}{mg:Str->Option Value}{base:Heap}
theorem aV.ok{x qual:Str}{st:Stmt}{f:Addr}{fd:FuncData}{N ps:List Str}{k:Nat}{sp:Sp}(F:aV K x qual st f fd)(S:bc N ps (ao st))(len:∀vs H Q E,sp vs H Q E->vs.length=ps.length)
  (gD:∀(aE:Value) (A:Around) (outer:List Env) (s:Shared) (H:Hp) (vs:List V) (Q:VK) (E:XK),bP k (A.deeper (envOfC qual (ao st) s.heap.objs.size f aE))->sp vs H Q E ->
   ∃t,PSs (g8 aR P w K mg base N qual (ao st) f aE A outer s H E).fw (aS st) t/\t { nx:=λ_ H'=>Q .aj H',rt:=Q } (start N vs) H):aK P w K mg base aR (k+1) f fd ps sp:=by
 obtain⟨oc,od,kV,doc,pm,an,aE,ct,ke,rfl,lk,cF⟩:=F.ex
 refine FN lk cF S len λA outer s H vs Q E hr g9=>?_
 obtain⟨t,h,q⟩:=gD aE A outer s H vs Q E hr g9
 exact⟨t,h.fw,q⟩
theorem aV.binds{x qual:Str}{st:Stmt}{f:Addr}{fd:FuncData}{ps:List Str}(F:aV K x qual st f fd)
  (h:∀(kV doc pm:Value) (an:Option Addr) (aE ct:Value) (us:List Value),us.length=ps.length->bindArgs (PySem.W.fnOf x qual (aZ st) (aS st) (ao st) .none kV doc pm an aE ct) ⟨us,[]⟩=pure (ps.zip us)):Binds K fd ps []:=by
 obtain⟨oc,od,kV,doc,pm,an,aE,ct,ke,rfl,lk,cF⟩:=F.ex
 exact .all (h kV doc pm an aE ct)
theorem bg{x qual:Str}{st:Stmt}{f:Addr}{oc:Value}{od an:Option Addr}{ke:Array (Option Value)}{kV doc pm aE ct:Value}(l:K.lookup f=some ⟨oc,od,.func (PySem.W.fnOf x qual (aZ st) (aS st) (ao st) .none kV doc pm an aE ct),ke⟩)
  (c:PySem.W.codeIn K aE qual=true) (k:PySem.W.keepIn K (.ref f)=true):aV K x qual st f (PySem.W.fnOf x qual (aZ st) (aS st) (ao st) .none kV doc pm an aE ct):=⟨⟨oc,od,kV,doc,pm,an,aE,ct,ke,rfl,l,c⟩,k⟩
end
section
variable{X:Cx}
theorem pv(i:Nat){x:Str}{pos:Pos}(hN:X.N[i]?=some x:=by rfl)(hv:j8 X.env.scope x:=by first | exact au rfl | exact bj (au rfl) | exact bj (bj rfl))(hd:(x==("__debug__":Str))=false:=by decide)
  (cF:(x==("__classdict__":Str))=false:=by decide):PE X (.Name x pos) (QL i):=oo hN hv hd cF
end
theorem jj{A B:Prop}(h:B):if false=true then A else B:=by
 rw[if_neg eC]
 exact h
theorem mU{A B:Prop}(h:A):if true=true then A else B:=by
 rw[if_pos rfl]
 exact h
end L2
namespace Mf
noncomputable def bl(n:Nat):Nat:=if n=0 then 0 else n.log2+1
theorem fk{n m:Nat}:bl n<=m↔n<2 ^ m:=by
 unfold bl
 by_cases h:n=0
 ·simp[h,wt]
 ·rw[if_neg h]
  rw[<-EM h]
  omega
theorem FZ{n m:Nat}:m<bl n↔2 ^ m<=n:=by
 have:=@fk n m
 omega
theorem lu(n:Nat):n<2 ^ bl n:=fk.mp (bB _)
theorem RF{n:Nat}(h:n≠0):2 ^ (bl n-1)<=n:=by
 have:0<bl n:=by unfold bl;rw[if_neg h];omega
 exact FZ.mp (by omega)
theorem jD{n:Nat}(h:n≠0):0<bl n:=by
 unfold bl;rw[if_neg h];omega
theorem xq:bl 0=0:=rfl
theorem BE{n:Nat}(h:n≠0):n.testBit (bl n-1)=true:=by
 have h1:=RF h
 have h2:=lu n
 have hp:=jD h
 have e:bl n=(bl n-1)+1:=by omega
 rw[e,wu]at h2
 rw[Z4]
 have:n/2 ^ (bl n-1)=1:=by
  apply Nat.div_eq_of_lt_le
  ·omega
  ·omega
 rw[this];rfl
theorem bQ5{x n:Nat}(h:∀i,n<=i->x.testBit i=false):x<2 ^ n:=by
 apply Nat.lt_pow_two_of_testBit
 intro i hi
 exact h i hi
theorem co7{x y n:Nat}(hx:x<2 ^ (n+1))(hy:y<2 ^ (n+1))(tx:x.testBit n=true)(ty:y.testBit n=true):x ^^^ y<2 ^ n:=by
 apply bQ5
 intro i hi
 rw[kN]
 by_cases e:i=n
 ·rw[e,tx,ty];rfl
 ·have gG:n+1<=i:=by omega
  have p:2 ^ (n+1)<=2 ^ i:=AB (by decide) gG
  rw[EN (cy hx p),EN (cy hy p)]
  rfl
theorem RG(x y z:Nat):(x ^^^ y) ^^^ (z ^^^ y)=x ^^^ z:=by
 apply AD;intro i;simp only[kN]
 cases x.testBit i<;>cases y.testBit i<;>cases z.testBit i<;>rfl
theorem RH(x y z t:Nat):(x ^^^ y) ^^^ (z ^^^ t)=(x ^^^ z) ^^^ (y ^^^ t):=by
 apply AD;intro i;simp only[kN]
 cases x.testBit i<;>cases y.testBit i<;>cases z.testBit i<;>cases t.testBit i<;>rfl
noncomputable def P(a b:Nat):Nat->Nat
 | 0=>0
 | k+1=>P a b k ^^^ (if b.testBit k then a <<< k else 0)
noncomputable def cl(a b:Nat):Nat:=P a b (bl b)
theorem RI{a b k:Nat}(h:b<2 ^ k):∀j,P a b (k+j)=P a b k
 | 0=>rfl
 | j+1=>by
  show P a b (k+j) ^^^ (if b.testBit (k+j)then a <<< (k+j)else 0)=_
  rw[RI h j]
  have p:2 ^ k<=2 ^ (k+j):=AB (by decide) (by omega)
  rw[EN (cy h p)]
  simp
theorem rh{a b k:Nat}(h:b<2 ^ k):P a b k=cl a b:=by
 have h1:=fk.mpr h
 have e:k=bl b+(k-bl b):=by omega
 rw[e,RI (lu b)]
 rfl
theorem RJ(a a' b:Nat):∀k,P (a ^^^ a') b k=P a b k ^^^ P a' b k
 | 0=>(nZ 0).symm
 | k+1=>by
  show P (a ^^^ a') b k ^^^ _=(P a b k ^^^ _) ^^^ (P a' b k ^^^ _)
  rw[RJ a a' b k]
  by_cases t:b.testBit k=true
  ·rw[if_pos t,if_pos t,if_pos t,Z5]
   ac_rfl
  ·rw[if_neg t,if_neg t,if_neg t]
   simp
theorem RK(a b b':Nat):∀k,P a (b ^^^ b') k=P a b k ^^^ P a b' k
 | 0=>(nZ 0).symm
 | k+1=>by
  show P a (b ^^^ b') k ^^^ _=(P a b k ^^^ _) ^^^ (P a b' k ^^^ _)
  rw[RK a b b' k,kN]
  cases b.testBit k<;>cases b'.testBit k<;>simp
  ·ac_rfl
  ·ac_rfl
  ·exact(RG _ _ _).symm
theorem oI(a a' b:Nat):cl (a ^^^ a') b=cl a b ^^^ cl a' b:=RJ a a' b _
theorem rj{x y n:Nat}(hx:x<2 ^ n)(hy:y<2 ^ n):x ^^^ y<2 ^ n:=Nat.xor_lt_two_pow hx hy
theorem bE4(a b b':Nat):cl a (b ^^^ b')=cl a b ^^^ cl a b':=by
 let k:=bl b+bl b'
 have h1:b<2 ^ k:=fk.mp (by omega)
 have h2:b'<2 ^ k:=fk.mp (by omega)
 rw[<-rh (rj h1 h2),<- rh h1,<- rh h2,RK]
theorem RL(b:Nat):∀k,P 0 b k=0
 | 0=>rfl
 | k+1=>by
  show P 0 b k ^^^ _=0
  rw[RL b k];simp
theorem mV(b:Nat):cl 0 b=0:=RL b _
theorem bB4(b k:Nat):(b/2).testBit k=b.testBit (k+1):=by
 rw[EO]
theorem RM(a b:Nat):∀k,P a b (k+1)=(if b%2=1 then a else 0) ^^^ P (2*a) (b/2) k
 | 0=>by
  show 0 ^^^ _=_ ^^^ 0
  rw[n6,nZ,AE]
  simp
 | k+1=>by
  show P a b (k+1) ^^^ _=_ ^^^ (P (2*a) (b/2) k ^^^ _)
  rw[RM a b k,bB4,qL]
  have e:a <<< (k+1)=(2*a) <<< k:=by
   rw[jw,jw,wu]
   rw[kM 2 a,qM,kM 2]
  rw[e]
theorem co1{b k:Nat}(h:b<2 ^ (k+1)):b/2<2 ^ k:=by
 rw[wu]at h;omega
theorem cz9(a b:Nat):cl a b=(if b%2=1 then a else 0) ^^^ cl (2*a) (b/2):=by
 have h:b<2 ^ (bl b+1):=Nat.lt_trans (lu b) (by rw[wu];have:=wt (bl b);omega)
 rw[<-rh h,RM,rh (co1 h)]
theorem RN(a b:Nat):∀k,P (2*a) b k=2*P a b k
 | 0=>rfl
 | k+1=>by
  show P (2*a) b k ^^^ _=2*(P a b k ^^^ _)
  rw[RN a b k]
  have d:∀x y:Nat,2*(x ^^^ y)=2*x ^^^ 2*y:=by
   intro x y
   have h:=@Z5 1 x y
   rw[jw,jw,jw,Nat.pow_one]at h
   rw[kM 2 (x ^^^ y),kM 2 x,kM 2 y]
   exact h
  rw[d]
  by_cases t:b.testBit k=true
  ·rw[if_pos t,if_pos t,jw,jw,qM]
  ·rw[if_neg t,if_neg t]
theorem Ga(a b:Nat):cl (2*a) b=2*cl a b:=RN a b _
theorem xt(a c t:Nat)(ht:t<2):cl a (2*c+t)=2*cl a c ^^^ (if t=1 then a else 0):=by
 rw[cz9,Ga,Qh]
 have e1:(2*c+t)/2=c:=by omega
 have e2:(2*c+t)%2=t:=by omega
 rw[e1,e2]
theorem cA1(a c:Nat):cl a (2*c)=2*cl a c:=by
 have h:=xt a c 0 (by decide)
 simpa using h
theorem RO(c t:Nat)(ht:t<2):2*c ^^^ t=2*c+t:=by
 apply AD
 intro i
 cases i with
 | zero =>
  rw[kN,AE,AE,AE]
  have:t=0\/t=1:=by omega
  rcases this with h | h<;>subst h<;>simp<;>omega
 | succ i =>
  rw[kN,EO,EO,EO]
  have e1:2*c/2=c:=by omega
  have e2:t/2=0:=by omega
  have e3:(2*c+t)/2=c:=by omega
  rw[e1,e2,e3];simp
theorem Gb:∀b:Nat,cl 1 b=b:=by
 intro b
 induction b using ER with
 | ind b ih =>
  by_cases h:b=0
  ·subst h;rfl
  ·have e:b=2*(b/2)+b%2:=by omega
   rw[e,xt 1 (b/2) (b%2) (by omega),ih (b/2) (by omega)]
   have:b%2=0\/b%2=1:=by omega
   rcases this with h | h
   ·rw[h];simp
   ·rw[h];rw[if_pos rfl];exact RO _ _ (by decide)
theorem xu:∀b a:Nat,cl a b=cl b a:=by
 intro b
 induction b using ER with
 | ind b ih =>
  intro a
  by_cases h:b=0
  ·subst h;rw[mV];rfl
  ·have e:b=2*(b/2)+b%2:=by omega
   have lt:b%2<2:=by omega
   have e':cl b a=cl (2*(b/2) ^^^ b%2) a:=by rw[RO _ _ lt,<- e]
   rw[e',oI,Ga,<- ih (b/2) (by omega) a]
   have e'':cl a b=cl a (2*(b/2)+b%2):=by rw[<-e]
   rw[e'',xt _ _ _ lt]
   have:b%2=0\/b%2=1:=by omega
   rcases this with h | h
   ·rw[h,mV];rfl
   ·rw[h,Gb];rfl
theorem Gd{a m:Nat}(h:a<2 ^ m)(b:Nat):∀k,P a b (k+1)<2 ^ (m+k)
 | 0=>by
  show 0 ^^^ _<_
  rw[n6,Nat.add_zero]
  by_cases t:b.testBit 0=true
  ·rw[if_pos t];simpa using h
  ·rw[if_neg t];exact wt m
 | k+1=>by
  show P a b (k+1) ^^^ _<_
  have i:=Gd h b k
  have p:2 ^ (m+k)<=2 ^ (m+(k+1)):=AB (by decide) (by omega)
  apply rj (cy i p)
  by_cases t:b.testBit (k+1)=true
  ·rw[if_pos t,jw,Nat.pow_add 2 m]
   exact(Z6 (wt _)).mpr h
  ·rw[if_neg t];exact wt _
theorem cL3{a b m n:Nat}(h:a<2 ^ m)(h':b<2 ^ (n+1)):cl a b<2 ^ (m+n):=by
 rw[<-rh h'];exact Gd h b n
theorem cJ1{a b:Nat}(ha:a≠0)(hb:b≠0):2 ^ (bl a-1+(bl b-1))<=cl a b:=by
 have e:bl b=(bl b-1)+1:=by have:=jD hb;omega
 have ta:=BE ha
 have tb:=BE hb
 apply Nat.ge_two_pow_of_testBit
 unfold cl
 rw[e]
 show(P a b (bl b-1) ^^^ _).testBit _=true
 have e2:bl b-1+1-1=bl b-1:=by omega
 rw[e2,kN,if_pos tb]
 have f:(P a b (bl b-1)).testBit (bl a-1+(bl b-1))=false:=by
  cases q:bl b-1 with
  | zero=>show Nat.testBit 0 _=false;exact Nat.zero_testBit _
  | succ k =>
   apply EN
   have l:=Gd (lu a) b k
   have p:=jD ha
   have e3:bl a-1+(k+1)=bl a+k:=by omega
   rw[e3];exact l
 rw[f,Z7]
 have e4:bl a-1+(bl b-1)-(bl b-1)=bl a-1:=by omega
 rw[e4,ta]
 simp
theorem RP{a b:Nat}(ha:a≠0)(hb:b≠0):bl (cl a b)=bl a+bl b-1:=by
 have p1:=jD ha
 have p2:=jD hb
 have h1:bl (cl a b)<=bl a+(bl b-1):=fk.mpr (cL3 (lu a) (by
  have e:bl b-1+1=bl b:=by omega
  rw[e];exact lu b))
 have h2:=FZ.mpr (cJ1 ha hb)
 omega
theorem RQ(s b:Nat):cl (2 ^ s) b=b <<< s:=by
 induction s with
 | zero=>rw[Nat.pow_zero,Gb];rfl
 | succ s ih =>
  rw[wu,kM,Ga,ih,jw,jw,wu]
  rw[<-qM,kM 2,qM,kM 2,<- qM,qM]
theorem cb8{a q b r s:Nat}(h:a=cl q b ^^^ r):a=cl (q ^^^ 2 ^ s) b ^^^ (r ^^^ b <<< s):=by
 rw[oI,RQ,h,RG]
theorem RU{b r:Nat}(hb:b≠0)(h:bl b<=bl r):bl (r ^^^ b <<< (bl r-bl b))<bl r:=by
 have p:=jD hb
 have hr:r≠0:=by
  intro z;rw[z,xq]at h;omega
 have:r ^^^ b <<< (bl r-bl b)<2 ^ (bl r-1):=by
  apply co7
  ·have e:bl r-1+1=bl r:=by omega
   rw[e];exact lu r
  ·have e:bl r-1+1=bl b+(bl r-bl b):=by omega
   rw[e,jw,Nat.pow_add]
   exact(Z6 (wt _)).mpr (lu b)
  ·exact BE hr
  ·rw[Z7]
   have e:bl r-1-(bl r-bl b)=bl b-1:=by omega
   rw[e,BE hb]
   simp;omega
 have:=fk.mpr this
 omega
theorem bN7{x y z:Nat}(h:x ^^^ y=z):x=z ^^^ y:=by
 rw[<-h,qL,AF,nZ]
theorem Ge{x y:Nat}(h:x ^^^ y=0):x=y:=by
 have:=bN7 h
 rwa [n6]at this
theorem bN9{b q r q' r':Nat}(h:cl q b ^^^ r=cl q' b ^^^ r')(hr:bl r<bl b)(bz:bl r'<bl b):q=q'/\r=r':=by
 have hb:b≠0:=by intro z;rw[z,xq]at hr;omega
 have e:cl (q ^^^ q') b=r ^^^ r':=by
  rw[oI]
  have z:(cl q b ^^^ r) ^^^ (cl q' b ^^^ r')=0:=by rw[h,AF]
  rw[RH]at z
  exact Ge z
 have lt:bl (r ^^^ r')<bl b:=by
  have h1:r<2 ^ (bl b-1):=fk.mp (by omega)
  have h2:r'<2 ^ (bl b-1):=fk.mp (by omega)
  have:=fk.mpr (rj h1 h2)
  have:=jD hb
  omega
 have z:q ^^^ q'=0:=by
  apply Z8
  intro hq
  have h1:=RP hq hb
  have h2:=jD hq
  rw[e]at h1
  omega
 have zq:=Ge z
 subst zq
 rw[z,mV]at e
 exact⟨rfl,Ge e.symm⟩
end Mf
namespace Mf
open PySem PySem.Builtin.Int
theorem cn6(x y:Nat):(x ^^^ y)+2*(x &&& y)=x+y:=by
 induction x using ER generalizing y with
 | ind x ih =>
  by_cases h:x=0
  ·subst h;simp
  ·have h1:=ih (x/2) (by omega) (y/2)
   have e1:(x ^^^ y)/2=x/2 ^^^ y/2:=Nat.xor_div_two
   have e2:(x &&& y)/2=x/2 &&& y/2:=Nat.and_div_two
   have t:∀n:Nat,n%2=if n.testBit 0=true then 1 else 0:=by
    intro n
    rw[AE]
    by_cases h:n%2=1
    ·simp[h]
    ·simp[h];omega
   have m1:(x ^^^ y)%2=(x%2+y%2)%2:=by
    rw[t (x ^^^ y),t x,t y,kN]
    cases x.testBit 0<;>cases y.testBit 0<;>rfl
   have m2:(x &&& y)%2=x%2*(y%2):=by
    rw[t (x &&& y),t x,t y,Qi]
    cases x.testBit 0<;>cases y.testBit 0<;>rfl
   have d1:=Nat.div_add_mod (x ^^^ y) 2
   have d2:=Nat.div_add_mod (x &&& y) 2
   rw[e1]at d1
   rw[e2]at d2
   have hx:x%2=0\/x%2=1:=by omega
   have hy:y%2=0\/y%2=1:=by omega
   rcases hx with hx | hx<;>rcases hy with hy | hy<;>rw[hx,hy]at m1 m2<;>omega
theorem RV{x y:Int}(hx:0<=x)(hy:0<=y):nV x y=((x.toNat &&& y.toNat:Nat):Int):=by
 unfold nV
 rw[decide_eq_true hx,decide_eq_true hy]
theorem cg3{x y:Int}(hx:0<=x)(hy:0<=y):Builtin.bitOr x y=((x.toNat ||| y.toNat:Nat):Int):=by
 unfold Builtin.bitOr nV Builtin.bitNot
 rw[decide_eq_false (by omega),decide_eq_false (by omega)]
 show-(-((((- (-x-1)-1).toNat ||| (-(-y-1)-1).toNat:Nat):Int))-1)-1=_
 have e1:(- (-x-1)-1).toNat=x.toNat:=by omega
 have e2:(- (-y-1)-1).toNat=y.toNat:=by omega
 rw[e1,e2]
 omega
theorem cC7(x y:Nat):(x ||| y)=(x ^^^ y)+(x &&& y):=by
 have d:(x ^^^ y) &&& (x &&& y)=0:=by
  apply AD;intro i
  simp only[kN,Qi,Nat.zero_testBit]
  cases x.testBit i<;>cases y.testBit i<;>rfl
 have e:(x ||| y)=(x ^^^ y) ^^^ (x &&& y):=by
  apply AD;intro i
  simp only[kN,Qi,Nat.testBit_or]
  cases x.testBit i<;>cases y.testBit i<;>rfl
 have h:=cn6 (x ^^^ y) (x &&& y)
 rw[d]at h
 rw[e];omega
theorem b74{x y:Int}(hx:0<=x)(hy:0<=y):mJ x y=((x.toNat ^^^ y.toNat:Nat):Int):=by
 unfold mJ
 rw[cg3 hx hy,RV hx hy,cC7]
 omega
theorem rk(x y:Nat):mJ (x:Int) (y:Int)=((x ^^^ y:Nat):Int):=by
 rw[b74 (by omega) (by omega)];rfl
theorem bO3(x y:Nat):nV (x:Int) (y:Int)=((x &&& y:Nat):Int):=by
 rw[RV (by omega) (by omega)];rfl
theorem rm(x k:Nat):(x:Int)*2 ^ ((k:Int)).toNat=((x <<< k:Nat):Int):=by
 rw[jw]
 simp
theorem cu6(x k:Nat):(x:Int)/2 ^ ((k:Int)).toNat=((x >>> k:Nat):Int):=by
 rw[Z9]
 simp
theorem cs2(x k:Nat):((x >>> k) &&& 1=1)↔x.testBit k=true:=by
 rw[Z4,Z9]
 have:(x/2 ^ k) &&& 1=(x/2 ^ k)%2:=Nat.and_two_pow_sub_one_eq_mod _ 1
 rw[this]
 simp
end Mf
namespace Mf
end Mf
namespace Mf
theorem RW(a b:Nat):∀c,cl (cl a b) c=cl a (cl b c):=by
 intro c
 induction c using ER with
 | ind c ih =>
  by_cases h:c=0
  ·subst h;rfl
  ·have e:c=2*(c/2)+c%2:=by omega
   have lt:c%2<2:=by omega
   have i:=ih (c/2) (by omega)
   rw[e,xt _ _ _ lt,xt _ _ _ lt,i,bE4,cA1]
   have:c%2=0\/c%2=1:=by omega
   rcases this with h | h
   ·rw[h];rfl
   ·rw[h];rfl
noncomputable def rn:Nat->Nat->Nat->Nat
 | 0,a,_=>a
 | n+1,a,b=>if bl a<bl b then a else rn n (a ^^^ b <<< (bl a-bl b)) b
noncomputable def md(a b:Nat):Nat:=rn (bl a+1) a b
theorem RX{b:Nat}(hb:b≠0):∀n a,bl a<n->(∃q,a=cl q b ^^^ rn n a b)/\bl (rn n a b)<bl b
 | 0,_,h=>absurd h (by omega)
 | n+1,a,h=>by
  unfold rn
  by_cases l:bl a<bl b
  ·rw[if_pos l]
   exact⟨⟨0,by rw[mV,n6]⟩,l⟩
  ·rw[if_neg l]
   have less:=RU hb (show bl b<=bl a by omega)
   obtain⟨⟨q,e⟩,l2⟩:=RX hb n (a ^^^ b <<< (bl a-bl b)) (by omega)
   refine⟨⟨q ^^^ 2 ^ (bl a-bl b),?_⟩,l2⟩
   rw[oI,RQ]
   have e2:a=(a ^^^ b <<< (bl a-bl b)) ^^^ b <<< (bl a-bl b):=by rw[qL,AF,nZ]
   rw[e]at e2
   refine e2.trans ?_
   generalize rn n _ b=r
   rw[qL,Qh r,<- qL]
theorem xv{b:Nat}(hb:b≠0)(a:Nat):(∃q,a=cl q b ^^^ md a b)/\bl (md a b)<bl b:=RX hb _ a (by omega)
theorem xw{a b q r:Nat}(h:a=cl q b ^^^ r)(hr:bl r<bl b):md a b=r:=by
 have hb:b≠0:=by intro z;rw[z,xq]at hr;omega
 obtain⟨⟨q',e⟩,l⟩:=xv hb a
 exact(bN9 (e.symm.trans h) l hr).2
theorem cJ7(q:Nat){b:Nat}(hb:b≠0):md (cl q b) b=0 :=
 xw (q:=q) (by rw[nZ]) (by rw[xq];exact jD hb)
end Mf
namespace Mf
theorem Gf{x y:Nat}(h:x<=y):bl x<=bl y:=fk.mpr (gS h (lu y))
end Mf
namespace Mf
noncomputable def al(a:Nat):Bool:=decide (2<=a)&&(bo (2 ^ ((bl a-1)/2+1)-2)).all λi=>md a (2+i) != 0
theorem b92{a:Nat}(h:a<2):al a=false:=by
 unfold al;rw[decide_eq_false (by omega)];rfl
theorem co3{a:Nat}(h:2<=a)(k:∀i,i<2 ^ ((bl a-1)/2+1)-2->md a (2+i)≠0):al a=true:=by
 unfold al
 rw[decide_eq_true h,i8,cS]
 intro i hi
 have:=k i (dz.mp hi)
 simpa using this
theorem cf3{a i:Nat}(k:i<2 ^ ((bl a-1)/2+1)-2)(z:md a (2+i)=0):al a=false:=by
 unfold al
 rw[Bool.and_eq_false_iff]
 right
 rw[List.all_eq_false]
 exact⟨i,dz.mpr k,by simp[z]⟩
theorem cf0{a:Nat}(h:2<=a){b:Nat}(hb:b<2 ^ ((bl a-1)/2+1)):b<a/\2*bl b<=bl a+1:=by
 have h2:2<=bl a:=by
  have:=FZ.mpr (show 2 ^ 1<=a by omega)
  omega
 have l:=fk.mpr hb
 refine⟨cy hb (eA (AB (by decide) ?_) (RF (by omega))),by omega⟩
 omega
end Mf
namespace L2
open PySem PySem.Spec PyProof.Rows Mf
theorem jE:bootBuiltins "len"=some (.builtin "len"):=by decide +kernel
theorem RY:bootBuiltins "isinstance"=some (.builtin "isinstance"):=by decide +kernel
theorem Gg:bootBuiltins "all"=some (.builtin "all"):=by decide +kernel
theorem cD6:bootBuiltins "sum"=some (.builtin "sum"):=by decide +kernel
theorem cz6:bootBuiltins "int"=some (.type "int"):=by decide +kernel
theorem cE1:bootBuiltins "str"=some (.type "str"):=by decide +kernel
theorem cp0:bootBuiltins "bool"=some (.type "bool"):=by decide +kernel
theorem Gh:bootBuiltins "list"=some (.type "list"):=by decide +kernel
theorem by6:bootBuiltins "ValueError"=some (.type "ValueError"):=by decide +kernel
section
variable{X:Cx}{a b o:Expr}{ta tb to:TE}{pos apos bM:Pos}
theorem RZ(i:Int):Builtin.Int.intBits i=bl i.natAbs:=by
 unfold Builtin.Int.intBits bl
 by_cases h:i=0
 ·subst h;rfl
 ·have h':¬ i.natAbs=0:=by omega
  rw[if_neg h',if_neg (by simpa using h)]
noncomputable def R0:V->List V->Hp->VK->Prop:=λx vs H Q=>∃i,x=.int i/\vs=[]/\Q (.int (bl i.natAbs:Nat)) H
theorem b83:xj X "int.bit_length" R0:=by
 intro pins s σ H x xs v us Q I rx rs h
 obtain⟨i,rfl,rfl,q⟩:=h
 obtain⟨t,rfl⟩:=rx
 cases rs
 refine call_int_bit_length ?_
 rw[RZ]
 exact⟨.int _,H,I.tok _,⟨_,rfl⟩,q⟩
theorem Gi(ho:PE X o to)(jB:attributeBase o "bit_length" X.env (eval o X.env)=eval o X.env:=by rfl)(jC:(apos.endLine==bM.line)=true:=by rfl) :
  PE X (.Call (.Attribute o "bit_length" apos) [] [] bM) (Rw X.K "int" R0 to) :=
 cD7 PySem.F.plainAttrs_int PySem.F.slot_int_bit_length PySem.F.type_int_bit_length b83 ho jB jC
noncomputable def R1(i j:Int):Prop:=0<=j/\((bl i.natAbs:Nat):Int)+j<=134217728
theorem R3:bW X (binaryOp .LShift) (rI R1 λi j=>.int (i*2 ^ j.toNat)):=qX λi j _ _ _ _ _ hc q =>
 lshift_int hc.1 (by rw[RZ];exact Int.le_trans hc.2 (by decide)) q
theorem R4{x:Str}{n:String}(hg:Gl X x)(hm:X.mg x=none)(hv:bootBuiltins x=some (.type n))(hn:x≠"__name__":=by decide)(hd:(x==("__debug__":Str))=false:=by decide):PE X (.Name x pos) (tC (.ty n)) :=
 cv5 hg hm hv rfl hn hd
noncomputable def cR9(K:PySem.W.Frag):List V->Hp->VK->Prop:=λxs H Q=>∃x n t b,xs=[x,.ty n]/\fX K H x t/\PySem.W.kitOne K t (.type n)=some b/\Q (.bl b) H
theorem bs7:fW X (.builtin "isinstance") (cR9 X.K):=by
 intro pins s σ H xs us Q I r h
 obtain⟨x,n,t,b,rfl,ty,e,q⟩:=h
 obtain⟨u,v,rfl,ru,rv⟩:=r.two
 cases(show v=Value.type n from rv)
 exact Q6 I ru ty e λtk=>⟨.bl b,H,I.tok _,rfl,q⟩
end
theorem cn5(b i:Nat):decide (V.int (nV ((b:Int)/2 ^ ((0:Int)+(i:Int)).toNat) 1)=V.int 1)=b.testBit i:=by
 have e:((0:Int)+(i:Int)).toNat=((i:Int)).toNat:=by omega
 rw[e,cu6,show(1:Int)=((1:Nat):Int) from rfl,bO3,wz,decide_eq_true_iff,<- cs2]
 constructor
 ·intro h;injection h with h;omega
 ·intro h;rw[h]
theorem cc4{a b i:Nat}(h:b.testBit i=true):mJ ((P a b i:Nat):Int) ((a:Int)*2 ^ ((0:Int)+(i:Int)).toNat)=((P a b (i+1):Nat):Int):=by
 have e:((0:Int)+(i:Int)).toNat=((i:Int)).toNat:=by omega
 rw[e,rm,rk]
 show _=((P a b i ^^^ (if b.testBit i then a <<< i else 0):Nat):Int)
 rw[if_pos h]
theorem bQ8{a b i:Nat}(h:¬ b.testBit i=true):P a b (i+1)=P a b i:=by
 show P a b i ^^^ (if b.testBit i then a <<< i else 0)=_
 rw[if_neg h,nZ]
theorem dI{i j:Int}:decide (V.int i=V.int j)=true↔i=j:=by
 rw[decide_eq_true_iff]
 exact⟨λh=>by injection h,λh=>by rw[h]⟩
end L2
namespace L2
open PySem PySem.Spec PyProof.Rows
section
variable{X:Cx}
end
end L2
namespace L2
open PySem PySem.Spec PyProof.Rows
noncomputable def BF(X:Cx)(scope:Scope)(N:List Str)(cl:List (Str × Addr))(C:Addr)(s:Shared)(H:Hp)(fp:List Addr):Cx where
 prog:=X.prog
 w:=X.w
 K:=X.K
 mg:=X.mg
 base:=X.base
 A:=X.A
 N:=N
 ck:=s
 je:=H
 env:=compEnvC scope cl C X.env
 outer:=X.stack
 stack:=X.stack
 ex:=fp
 fn:=λ_=>false
 calm:=X.calm
 pn:=[]
 xe:=λ_ _=>False
noncomputable def lC(X:Cx)(scope:Scope)(cl:List (Str × Addr)):List (Str × Nat)->Prop
 | []=>True
 | (y,i)::r=>(X.N[i]?=some y/\(X.env.scope.names.lookup y=some .cell\/X.env.scope.names.lookup y=some .free)/\((relabel scope X.env).names.lookup y=some .cell\/(relabel scope X.env).names.lookup y=some .free)/\∃c,cl.lookup y=some c/\X.env.cells.lookup y=some c)/\lC X scope cl r
theorem lC.at{X:Cx}{scope:Scope}{cl:List (Str × Addr)}:∀{ax:List (Str × Nat)},lC X scope cl ax->∀p∈ax,X.N[p.2]?=some p.1/\(X.env.scope.names.lookup p.1=some .cell\/X.env.scope.names.lookup p.1=some .free)/\((relabel scope X.env).names.lookup p.1=some .cell\/(relabel scope X.env).names.lookup p.1=some .free)/\∃c,cl.lookup p.1=some c/\X.env.cells.lookup p.1=some c
 | [],_,p,hp=>absurd hp (by simp)
 | (y,i)::r,h,p,hp=>by
  rcases cE.mp hp with e | e
  ·subst e;exact h.1
  ·exact lC.at h.2 p e
noncomputable def lD(Y:Cx)(ifs:List Expr)(t:TT):Prop :=
 ∀(pins:List (Addr × Obj)) (s:Shared) (σ:St) (H:Hp) (Q:Bool->Hp->Prop),Inv Y pins σ H s->t σ H Q ->
  wpAny (model Y.prog Y.w) Y.A (forIn ifs true λc r=>if r=true then do let ok<-isTrue c Y.env (eval c Y.env);pure (ES ok)else pure (ES r)) (TP Y pins σ Q) Y.xe s
noncomputable def cR2:TT:=λ_ H Q=>Q true H
theorem cr8{Y:Cx}:lD Y [] cR2:=λ_ _ _ H _ I h=>wpAny_tests_nil ⟨H,I,h⟩
theorem cw0{Y:Cx}{c:Expr}{t:TT}(h:PT Y c t):lD Y [c] t:=λpins s σ H Q I q=>wpAny_tests_one (h pins s σ H Q I q)
section
variable{X:Cx}{elt iter:Expr}{x:Str}{px pos:Pos}{ifs:List Expr}{scope:Scope}{cl:List (Str × Addr)}{ax:List (Str × Nat)}{wi:TI}{tt:TT}{te:TE}
end
section
variable{prog:Program}{w:World}{A:Around}{R:Result->Shared->Prop}{s:Shared}
theorem bF1{elt target iter:Expr}{ifs:List Expr}{scope:Scope}{pos:Pos}{it acc:Value}{env:Env}(Iv:Nat->Shared->Prop)
  (turn:∀n s,Iv n s->wpAny (model prog w) A (pyNext it) (λr s1=>match r with
   | none=>R (.ok .next) s1
   | some v=>wpAny (model prog w) A (letOwnedTupleGo target it v) (λ_ t1=>wpAny (model prog w) A (assign target env v) (λ_ s2 =>
     wpAny (model prog w) A (forIn ifs true λc r=>if r=true then do let ok<-isTrue c env (eval c env);pure (ES ok)else pure (ES r)) (λok s3 =>
      if ok=true then wpAny (model prog w) A (eval elt env) (λy s4=>wpAny (model prog w) A (call (.builtin "list.append") [acc,y]) (λ_ s5=>∃m,m<n/\Iv m s5) (λ_ _=>False) s4) (λ_ _=>False) s3
      else ∃m,m<n/\Iv m s3) (λ_ _=>False) s2) (λ_ _=>False) t1) (λ_ _=>False) s1) (λ_ _=>False) s)
  (n:Nat) (h:Iv n s):codeAny (model prog w) A (.compLoop (.ListComp elt [⟨target,iter,ifs,0⟩] scope pos) 0 it acc env) R s:=by
 refine codeAny_loop rfl Iv (λn s hI=>?_) n h
 change wpAny _ A (Sem.onRaise (compTurn (.ListComp elt [⟨target,iter,ifs,0⟩] scope pos) 0 it acc env) λx=>do noteFrame x env;theTreesLotGoes x) _ _ s
 refine wpAny_noted (wpAny_mono (E:=λ_ _=>False) ?_ (λ_ _ q=>q) λ_ _ z=>z.elim)
 rw[compTurn_list]
 refine wpAny_bind (wpAny_standAt (wpAny_bind (aL (turn n s hI) λr s1 h1=>?_)))
 cases r with
 | none=>exact wpAny_pure h1
 | some v =>
  refine wpAny_bind (aL h1 λ_ t1 k1=>wpAny_bind (aL k1 λ_ s2 h2=>wpAny_bind (aL h2 λok s3 h3=>?_)))
  cases ok with
  | false=>exact wpAny_pure ⟨rfl,h3⟩
  | true=>exact wpAny_bind (wpAny_bind (aL h3 λy s4 h4=>wpAny_bind (aL h4 λ_ s5 h5=>wpAny_pure (wpAny_pure ⟨rfl,h5⟩))))
end
section
variable{X:Cx}{elt iter:Expr}{x:Str}{px pos:Pos}{ifs:List Expr}{scope:Scope}{cl:List (Str × Addr)}{ax:List (Str × Nat)}{wi:TI}{tt:TT}{te:TE}
end
end L2
namespace L2
open PySem PySem.Spec PyProof.Rows
section
variable{X:Cx}
theorem cz3:bW X (compareOp .Is) (λx y H Q=>∃a b,x=.bl a/\y=.bl b/\Q (.bl (a==b)) H):=by
 intro pins s σ H x y v u Q I rx ry h
 obtain⟨a,b,rfl,rfl,q⟩:=h
 cases rx
 cases ry
 exact is_bool ⟨.bl _,H,I,rfl,q⟩
theorem ca7{bs:List Bool}{us:List Value}(r:Vals (bs.map V.bl) us):bs.length=us.length/\∀(i:Nat) (v:Value),us[i]?=some v->∃b,bs[i]?=some b/\v=.bool b:=by
 have l:=r.length
 rw[bK]at l
 refine⟨l,λi v e=>?_⟩
 have hi:i<us.length:=(i7.mp e).1
 have hb:i<bs.length:=by omega
 obtain⟨u,e2,q⟩:=r.get (i:=i) (x:=V.bl bs[i]) (by rw[bV,aU hb];rfl)
 rw[e]at e2
 cases e2
 exact⟨bs[i],aU hb,q⟩
theorem R5{s:Shared}{h':Heap}{o:Obj}(hk:∀b x,b ∉ [s.heap.objs.size]->(s.heap.push o).get? b=some x->h'.get? b=some x)(b:Addr)(x:Obj)(e:s.heap.get? b=some x):h'.get? b=some x :=
 hk b x (λhm=>fM _ (by have:=bF e;rw[fS.mp hm]at this;exact this)) (eM _ e)
theorem cg1(bs:List Bool):((bo bs.length).all λi=>(bs[i]?).getD true)=bs.all id:=by
 rw[wz,cS,cS]
 constructor
 ·intro h b hb
  obtain⟨i,hi,rfl⟩:=jW hb
  have:=h i (dz.mpr hi)
  rwa [aU hi]at this
 ·intro h i hi
  have gG:=dz.mp hi
  rw[aU gG]
  exact h _ (eY gG)
theorem cf9(hc:X.calm=true):fW X (.builtin "all") (λxs H Q=>∃(p:Addr) (bs:List Bool),xs=[.ref p]/\bH X.K H p (bs.map V.bl)/\Q (.bl (bs.all id)) H):=by
 intro pins s σ H xs us Q I r h
 obtain⟨p,bs,rfl,hS,q⟩:=h
 obtain⟨u,rfl,ru⟩:=r.one
 cases ru
 obtain⟨its,rv,pl,hz⟩:=I.list hS
 obtain⟨hlen,di7⟩:=ca7 rv
 have hl:=pl.isList
 have fB:p<s.heap.objs.size:=by obtain⟨_,e,_⟩:=hl;exact bF e
 refine call_all_walk (wpAny_pyIter_list hl ?_)
 refine⟨s.heap.objs.size,[s.heap.objs.size,p],[s.heap.objs.size],its.toArray.size,_,_,λi=>(bs[i]?).getD true,rfl,Walks.list (A:=X.A.in1) (I.ok.hd hc) _ p (dQ fB) its.toArray,
  ⟨⟨_,fO _ rfl,rfl,rfl⟩,hl.push _⟩,λi v s' Q' E' hP hQ=>?_,λh' tk hk=>?_⟩
 ·obtain⟨b,e,rfl⟩:=di7 i v (by simpa using hP)
  simp only[e,wA]at hQ
  exact wpAny_truthy_bool hQ
 ·have e:((bo its.toArray.size).all λi=>(bs[i]?).getD true)=bs.all id:=by
   rw[dn,<- hlen];exact cg1 bs
  rw[e]
  exact⟨.bl _,H,I.kept (h':=h') (t':=tk) (R5 hk),rfl,q⟩
end
noncomputable def lF(X:Cx):List (Str × Addr)->Prop
 | []=>True
 | (y,c)::r=>X.env.cells.lookup y=some c/\lF X r
theorem lF.all{X:Cx}:∀{cl:List (Str × Addr)},lF X cl->∀y c,cl.lookup y=some c->X.env.cells.lookup y=some c
 | [],_,y,c,h=>by simp at h
 | (z,d)::r,h,y,c,e=>by
  rw[fg]at e
  cases q:y==z with
  | true =>
   rw[q]at e
   cases e
   rw[eq_of_beq q]
   exact h.1
  | false =>
   rw[q]at e
   exact lF.all h.2 y c e
noncomputable def lH(cl:List (Str × Addr)):List (Str × NameKind)->Prop
 | []=>True
 | (y,k)::r=>(k=.local\/k=.globalImplicit\/∃c,cl.lookup y=some c)/\lH cl r
theorem lH.all{cl:List (Str × Addr)}:∀{ns:List (Str × NameKind)},lH cl ns->∀y,(ns.lookup y=some .cell\/ns.lookup y=some .free)->∃c,cl.lookup y=some c
 | [],_,y,h=>by simp at h
 | (z,k)::r,h,y,e=>by
  rw[fg]at e
  cases q:y==z with
  | true =>
   rw[q]at e
   rw[eq_of_beq q]
   rcases h.1 with g | g | g
   ·rw[g]at e;rcases e with e | e<;>cases e
   ·rw[g]at e;rcases e with e | e<;>cases e
   ·exact g
  | false =>
   rw[q]at e
   exact lH.all h.2 y e
section
variable{X:Cx}{elt iter:Expr}{x:Str}{px pos:Pos}{ifs:List Expr}{scope:Scope}{cl:List (Str × Addr)}{wi:TI}{tt:TT}{te:TE}
end
end L2
namespace L2
open PySem PySem.Spec PyProof.Rows Mf
end L2
namespace L2
end L2
namespace L2
open PySem PySem.Spec PyProof.Rows
noncomputable def fY(ax:List (Str × Nat))(n:Nat)(σ:L2.St):St:=(ax.map λp=>(σ[p.2]?).getD none)++aw n none
noncomputable def R6(J:It)(ax:List (Str × Nat))(n:Nat)(g:TG)(tt:TT)(te:TE)(σ:L2.St)(H1:Hp)(Q:VK):Prop:=∀D,H1 D=none->∃W:Nat->Nat->List V->Hp->Prop,(∃m,W 0 m [] (upd H1 D (.lst []))) /\
 ∀i m acc H2,W i m acc H2->H2 D=some (.lst acc)/\((J.stop i H2/\Q (.ref D) H2)\/(J.go i H2/\∀x H3,J.jh i H2 x H3->H3 D=some (.lst acc)/\g x (fY ax n σ) H3 λfA H4 =>
  (fA.length=(fY ax n σ).length/\∀j,j<ax.length->fA[j]?=(fY ax n σ)[j]?)/\tt fA H4 λb H5=>H5 D=some (.lst acc) /\
  if b=true then te fA H5 λy H6=>H6 D=some (.lst acc)/\acc.length<sizeLine/\∃m',m'<m/\W (i+1) m' (acc++[y]) (upd H6 D (.lst (acc++[y])))else ∃m',m'<m/\W (i+1) m' acc H5))
noncomputable def BG(wi:TI)(ax:List (Str × Nat))(n:Nat)(g:TG)(tt:TT)(te:TE):TE:=λσ H Q=>wi σ H λJ H1=>R6 J ax n g tt te σ H1 Q
section
variable{X:Cx}{elt iter tg:Expr}{pos:Pos}{ifs:List Expr}{scope:Scope}{cl:List (Str × Addr)}{wi:TI}{tt:TT}{te:TE}{g:TG}
end
end L2
namespace L2
open PySem PySem.Spec PyProof.Rows
section
variable{X:Cx}{tg:Expr}
end
end L2
namespace L2
open PySem PySem.Spec PyProof.Rows
noncomputable def Gj(h:Heap)(a T:Addr)(cls fl:Value):Prop :=
 ∃oe vs oT ts,h.get? a=some oe/\oe.cls=cls/\oe.dict=none/\oe.data=.fields vs/\vs[1]?=some (.ref T)/\T≠a/\h.get? T=some oT/\oT.data=.fields ts/\ts[3]?=some fl
noncomputable abbrev fZ(h:Heap)(a T:Addr)(cls:Value):Prop:=Gj h a T cls .none
theorem bu5(o:Obj)(f:Array Value->Array Value):(o.mapFields f).dict=o.dict:=by
 obtain⟨c,d,dt,sl⟩:=o
 cases dt<;>rfl
section
variable{M:Model}{A:Around}{E:Value->Shared->Prop}{s:Shared}{base:Heap}{env:Env}{outer:List Env}{L a T:Addr}{cls:Value}{oe:Obj}{vs:Array Value}{Q:Unit->Shared->Prop}
structure Ent(fs:List Addr)(h h':Heap)(a T:Addr)(oe:Obj)(L:Addr):Prop where
 new:h.get? T=none
 ne:T≠a
 keep:∀b o,b≠a->b ∉ fs->h.get? b=some o->h'.get? b=some o
 slot:∀b o,b≠a->h.get? b=some o->∃sl,h'.get? b=some { o with slots:=sl }
 exc:h'.get? a=some (oe.mapFields λz=>z.setIfInBounds 1 (.ref T))
 ent:∃oT ts,h'.get? T=some oT/\oT.data=.fields ts/\ts[3]?=some (rawInt L)
theorem R7{head:Value}{di9:Bool}(dU:A.frames=some (env::outer))(hl:s.heap.FunFrames base (env::outer))(hf:env.frame=some L)(he:s.heap.get? a=some oe)(hd:oe.data=.fields vs)(kb:1<vs.size)
  (na:a ∉ (env::outer).filterMap (·.frame)) (k:∀h' T',Ent ((env::outer).filterMap (·.frame)) s.heap h' a T' oe L->Q () { s with heap:=h' }) :
  wpAny M A (do let x<-frameOf env;let pl<-entryPlaceOf L di9;let b<-EntryCells.newEntry head x .none (rawInt L) .none pl;setField (.ref a) 1 b) Q E s:=by
 refine wpAny_bind (wpAny_frameOf_fun dU hl hf λg1 so=>wpAny_bind (wpAny_entryPlaceOf λpl ip=>?_))
 unfold EntryCells.newEntry newFields
 have e1:g1.get? a=some oe:=(so.2.1 a na).trans he
 refine wpAny_bind (wpAny_newObj_type ?_ (ip.sizeOk5 _ _ _ _ _))
 generalize R8:({ cls:=.type "traceback",dict:=none,data:=.fields ([head,cu L,.none,rawInt L,.none]++(if pl.isEmpty then aw 6 nS else pl)).toArray }:Obj)=te
 have e2:(g1.push te).get? a=some oe:=eM te e1
 have hda:te.data=.fields ([head,cu L,.none,rawInt L,.none]++(if pl.isEmpty then aw 6 nS else pl)).toArray:=by rw[<-R8]
 have nf:te.isFreed=false:=by rw[<-R8];rfl
 refine wpAny_setField e2 hd kb ?_
 have d3:=ET hd λz=>z.setIfInBounds 1 (cu g1.objs.size)
 have nT:g1.objs.size≠a:=Qc (bF e1)
 refine k _ g1.objs.size ⟨?_,nT,λb o hb hz q=>?_,λb o hb q=>?_,EJ _ e2 (Qj d3),⟨te,_,?_,hda,?_⟩⟩
 ·cases q:s.heap.get? g1.objs.size with
  | none=>rfl
  | some o=>obtain⟨sl,z⟩:=so.2.2 _ _ q;exact absurd (bF z) (fM _)
 ·rw[nW _ _ (dR hb)]
  exact eM te ((so.2.1 b hz).trans q)
 ·obtain⟨sl,z⟩:=so.2.2 b o q
  refine⟨sl,?_⟩
  rw[nW _ _ (dR hb)]
  exact eM te z
 ·rw[nW _ _ (dR nT)]
  exact fO g1 nf
 ·first | (simp;done) | (rcases ip with rfl | ⟨_,_,_,_,_,_,_,rfl⟩<;>simp)
structure R9(fs Z:List Addr)(h h':Heap)(a T:Addr)(cls:Value):Prop where
 new:h.get? T=none
 keep:∀b o,b ∉ Z->b ∉ fs->h.get? b=some o->h'.get? b=some o
 slot:∀b o,b ∉ Z->h.get? b=some o->∃sl,h'.get? b=some { o with slots:=sl }
 rp:fZ h' a T cls
theorem Gk{fl:Value}(tr:Gj s.heap a T cls fl)(k:∀h',(∀b o,b≠T->s.heap.get? b=some o->h'.get? b=some o)->fZ h' a T cls->Q () { s with heap:=h' }):wpAny M A (setFlight (.ref a) none) Q E s:=by
 obtain⟨oe,vs,oT,ts,h1,h2,h3,h4,h5,h6,h7,h8,h9⟩:=tr
 have sz:3<ts.size:=(Qk.mp h9).1
 unfold setFlight
 refine wpAny_bind (wpAny_field h1 h4 h5 ?_)
 rw[if_pos (by simp)]
 refine wpAny_setField h7 h8 sz (k _ (λb o hb q=>(nW _ _ (dR hb)).trans q) ?_)
 have d:=ET h8 λz=>z.setIfInBounds 3 ((none:Option Addr).elim nS λf=>rawInt f)
 exact⟨oe,vs,_,_,(nW _ _ h6).trans h1,h2,h3,h4,h5,h6,EJ _ h7 (Qj d),d,by simp[sz]⟩
theorem Ent.fin{fs:List Addr}{h h':Heap}{a T L:Addr}{oe:Obj}{vs:Array Value}(e:Ent fs h h' a T oe L)(hd:oe.data=.fields vs)(kb:1<vs.size)(hdi:oe.dict=none):Gj h' a T oe.cls (rawInt L):=by
 obtain⟨oT,ts,e1,e2,e3⟩:=e.ent
 exact⟨_,_,oT,ts,e.exc,Obj.cls_mapFields _ _,by rw[bu5];exact hdi,ET hd _,by simp[kb],e.ne,e1,e2,e3⟩
theorem Sa(dU:A.frames=some (env::outer))(hl:s.heap.FunFrames base (env::outer))(hf:env.frame=some L)(na:a ∉ (env::outer).filterMap (·.frame))(tr:fZ s.heap a T cls)
  (k:∀h' T',R9 ((env::outer).filterMap (·.frame)) [a,T] s.heap h' a T' cls->Q () { s with heap:=h' }):wpAny M A (noteFrame (.ref a) env) (λ_ iJ=>wpAny M A (setFlight (.ref a) none) Q E iJ) E s:=by
 obtain⟨oe,vs,oT,ts,h1,h2,h3,h4,h5,h6,h7,h8,h9⟩:=tr
 have s1:1<vs.size:=(Qk.mp h5).1
 have s3:3<ts.size:=(Qk.mp h9).1
 unfold noteFrame
 simp only[hf]
 refine wpAny_bind (wpAny_field h1 h4 h5 ?_)
 rw[if_pos (by simp)]
 refine wpAny_bind (wpAny_field h7 h8 h9 ?_)
 rw[if_neg (by simp[rawInt])]
 refine wpAny_bind (wpAny_setField h7 h8 s3 ?_)
 generalize hg:s.heap.update T (Obj.mapFields λz=>z.setIfInBounds 3 nS)=g
 have oJ:∀b,b≠T->g.get? b=s.heap.get? b:=λb hb=>by rw[<-hg];exact nW _ _ (dR hb)
 have bT:∀b o,s.heap.get? b=some o->(∀ws,o.data≠.fields ws)->b≠T:=λb o q hn z=>by subst z;rw[h7]at q;cases q;exact hn ts h8
 have gT:∃oT',g.get? T=some oT':=⟨_,by rw[<-hg];exact EJ _ h7 (Qj (ET h8 _))⟩
 refine R7 (s:={ s with heap:=g }) dU (hl.of_keeps λb o q hn=>⟨o,(oJ b (bT b o q hn)).trans q,rfl⟩) hf ((oJ a (dR h6)).trans h1) h4 s1 na λh' T' en=>?_
 have nT':T'≠T:=λz=>by subst z;obtain⟨o,q⟩:=gT;rw[en.new]at q;cases q
 refine Gk (s:={ s with heap:=h' }) (h2 ▸ en.fin h4 s1 h3) λGm kp Gp=>?_
 refine k Gm T' ⟨(oJ T' nT').symm.trans en.new,λb o hz hb q=>?_,λb o hz q=>?_,Gp⟩
 ·have z1:b≠a:=λz=>hz (by simp[z])
  have z2:b≠T:=λz=>hz (by simp[z])
  have z3:b≠T':=λz=>by have:=en.new;rw[<-z,oJ b z2,q]at this;cases this
  exact kp b o z3 (en.keep b o z1 hb ((oJ b z2).trans q))
 ·have z1:b≠a:=λz=>hz (by simp[z])
  have z2:b≠T:=λz=>hz (by simp[z])
  have z3:b≠T':=λz=>by have:=en.new;rw[<-z,oJ b z2,q]at this;cases this
  obtain⟨sl,r⟩:=en.slot b o z1 ((oJ b z2).trans q)
  exact⟨sl,kp b _ z3 r⟩
theorem bI4{h1:Heap}{args:List Value}(dU:A.frames=some (env::outer))(hl:s.heap.FunFrames base (env::outer))(hf:env.frame=some L)(hx:Ql s.heap h1 a cls args)
  (k:∀h' T',R9 ((env::outer).filterMap (·.frame)) [] s.heap h' a T' cls->Q () { s with heap:=h' }):wpAny M A (noteFrame (.ref a) env) (λ_ iJ=>wpAny M A (setFlight (.ref a) none) Q E iJ) E { s with heap:=h1 }:=by
 obtain⟨t,e1,_,_⟩:=hx.there
 have na:a ∉ (env::outer).filterMap (·.frame):=λhb=>by obtain⟨_,o,ho,_⟩:=hl.mem hb;rw[hx.new]at ho;cases ho
 unfold noteFrame
 simp only[hf]
 refine wpAny_bind (wpAny_field (s:={ s with heap:=h1 }) e1 rfl (x:=.none) (by rfl) ?_)
 rw[if_neg (by decide)]
 refine R7 (s:={ s with heap:=h1 }) dU (hl.of_keeps λb o q _=>⟨o,hx.keeps b o q,rfl⟩) hf e1 rfl (by simp) na λh' T' en=>?_
 refine Gk (s:={ s with heap:=h' }) (en.fin rfl (by simp) rfl) λGm kp Gp=>?_
 have ba:∀b o,s.heap.get? b=some o->b≠a:=λb o q z=>by rw[z,hx.new]at q;cases q
 have bT:∀b o,s.heap.get? b=some o->b≠T':=λb o q z=>by have:=hx.keeps b o q;rw[z,en.new]at this;cases this
 refine k Gm T' ⟨?_,λb o _ hb q=>kp b o (bT b o q) (en.keep b o (ba b o q) hb (hx.keeps b o q)),λb o _ q=>?_,Gp⟩
 ·cases q:s.heap.get? T' with
  | none=>rfl
  | some o=>exact absurd rfl (bT T' o q)
 ·obtain⟨sl,r⟩:=en.slot b o (ba b o q) (hx.keeps b o q)
  exact⟨sl,kp b _ (bT b o q) r⟩
end
end L2
namespace L2
open PySem PySem.Spec PyProof.Rows
theorem dq.there{P:Program}{w:World}{H:Hp}{h:Heap}{a:Addr}{o:HO}(x:dq P w H h a o):∃u,h.get? a=some u:=by
 cases o with
 | lst xs=>obtain⟨_,_,_,_,e⟩:=x;exact⟨_,e⟩
 | tup xs=>obtain⟨_,_,_,o,e,_⟩:=x;exact⟨o,e⟩
 | dK da=>obtain⟨_,_,_,_,o,_,_,e,_⟩:=x;exact⟨_,e⟩
 | dT da=>obtain⟨_,_,_,_,o,_,_,e,_⟩:=x;exact⟨_,e⟩
 | set S n=>obtain⟨o,_,_,_,e,_⟩:=x;exact⟨_,e⟩
 | ins C dx fs=>obtain⟨_,_,_,e,_⟩:=x;exact⟨_,e⟩
 | own y=>exact x
 | xd fs=>obtain⟨_,⟨_,_,_,e,_⟩,_⟩:=x;exact⟨_,e⟩
 | wQ lo hi=>obtain⟨_,_,_,e⟩:=x;exact⟨_,e⟩
 | bt ob u=>obtain⟨e,_⟩:=x;exact⟨_,e⟩
 | cX ps=>exact⟨_,show h.get? a=some _ from x.1⟩
 | met f y=>exact⟨_,show h.get? a=some _ from x⟩
 | ext φ=>obtain⟨_,e,_⟩:=x;exact e
theorem cA.none{P:Program}{w:World}{H:Hp}{h:Heap}{a:Addr}(x:cA P w H h)(e:h.get? a=.none):H a=.none:=by
 cases q:H a with
 | none=>rfl
 | some u=>obtain⟨o,z⟩:=(x a u q).there;rw[e]at z;cases z
structure Apart(X:Cx)(pins:List (Addr × Obj))(H:Hp)(b:Addr):Prop where
 old:X.ck.heap.get? b=none
 free:H b=none
 loc:b≠X.env.locals
 cell:∀x c,X.env.cells.lookup x=some c->c≠b
 pin:∀p∈X.pn++pins,p.1≠b
 fr:b ∉ de X.stack
section
variable{X:Cx}{pins:List (Addr × Obj)}{σ:St}{H H':Hp}{s:Shared}{a T b:Addr}{cls:Value}{M:Model}{Q:Unit->Shared->Prop}{E:Value->Shared->Prop}{h':Heap}
theorem bH1(I:Inv X pins σ H s)(hb:b∈de X.stack):∃o,s.heap.get? b=some o/\∀vs,o.data≠.fields vs:=(I.stack.mem hb).2
theorem Inv.old(I:Inv X pins σ H s)(hex:X.ex=[])(e:s.heap.get? b=none):X.ck.heap.get? b=none:=by
 cases q:X.ck.heap.get? b with
 | none=>rfl
 | some o=>obtain⟨o',z⟩:=I.base.there b o q (by rw[hex];simp);rw[e]at z;cases z
theorem Inv.apart(I:Inv X pins σ H s)(hex:X.ex=[])(e:s.heap.get? b=none)(n:H' b=none):Apart X pins H' b where
 old:=I.old hex e
 free:=n
 loc:=λz=>by obtain⟨m,⟨o,_,_,ho,_⟩,_⟩:=I.loc;rw[z,ho]at e;cases e
 cell:=λx c hc z=>by obtain⟨v,o,ho,_⟩:=I.cell x c hc;rw[z,e]at ho;cases ho
 pin:=λp hp z=>by have:=(I.pin p hp).1;rw[z,e]at this;cases this
 fr:=λhb=>by obtain⟨o,ho,_⟩:=bH1 I hb;rw[e]at ho;cases ho
theorem Sb(I:Inv X pins σ H s)(bU:X.stack=X.env::X.outer)(hex:X.ex=[])(hf:X.env.frame=some X.env.locals)(Z:List Addr)(hZ:∀b∈Z,X.ck.heap.get? b=none/\H b=none)
  (keep:∀b o,b ∉ Z->b ∉ de X.stack->s.heap.get? b=some o->h'.get? b=some o) (slots:∀b o,b ∉ Z->s.heap.get? b=some o->∃sl,h'.get? b=some { o with slots:=sl }) :
  Un (de X.outer) [] X.je H X.ck.heap h'/\cA X.prog X.w H h':=by
 have oK:∀b o,X.ck.heap.get? b=some o->b ∉ Z:=λb o e z=>by rw[(hZ b z).1]at e;cases e
 have sub:∀b,b∈de X.stack->b=X.env.locals\/b∈de X.outer:=λb hb=>by
  rw[bU]at hb
  unfold de at hb
  rw[Ar,hf]at hb
  exact cE.mp hb
 have sup:∀b,b∈de X.outer->b∈de X.stack:=λb hb=>by
  rw[bU]
  unfold de
  rw[Ar,hf]
  exact gz _ hb
 have qS:∀b o,X.ck.heap.get? b=some o->b≠X.env.locals:=λb o e=>dQ (cy (bF e) I.ok.above)
 have nx:∀b:Addr,b ∉ X.ex:=λb=>by rw[hex];simp
 refine⟨⟨λb o e n hb _=>?_,λb o e n hb _=>?_,λb o e n _=>I.base.free b o e n (nx b),λb o e _=>?_,I.base.gB,I.base.fU,I.base.fi⟩,λb ob e=>?_⟩
 ·exact keep b o (oK b o e) (λz=>(sub b z).elim (qS b o e) hb) (I.base.keep b o e n hb (nx b))
 ·obtain⟨sl,e1⟩:=I.base.slot b o e n hb (nx b)
  exact(slots b _ (oK b o e) e1).imp λsl h=>h
 ·obtain⟨o',e1⟩:=I.base.there b o e (nx b)
  exact(slots b o' (oK b o e) e1).elim λsl q=>⟨_,q⟩
 ·refine(I.aA b ob e).gW (λc u hc q=>keep c u (λz=>?_) (λz=>?_) q) (λ_ q=>q) (λ_ _ q=>q) λ_ _ q=>q
  ·have n:=(hZ c z).2
   rcases hc with rfl | hc
   ·rw[n]at e;cases e
   ·rw[n]at hc;cases hc
  ·have n:=I.Bc c z
   rcases hc with rfl | hc
   ·rw[n]at e;cases e
   ·rw[n]at hc;cases hc
structure Sd(X:Cx)(H:Hp)(h':Heap)(a T:Addr)(cls:Value):Prop where
 un:Un (de X.outer) [] X.je H X.ck.heap h'
 aA:cA X.prog X.w H h'
 rp:fZ h' a T cls
 a0:X.ck.heap.get? a=none
 a1:H a=none
 t0:X.ck.heap.get? T=none
 t1:H T=none
theorem bU9(I:Inv X pins σ H s)(bU:X.stack=X.env::X.outer)(hex:X.ex=[])(hf:X.env.frame=some X.env.locals)(tr:fZ s.heap a T cls)(pa:Apart X pins H a)(pT:Apart X pins H T)
  (hQ:∀h' T',Sd X H h' a T' cls->Q () { s with heap:=h' }):wpAny M X.A (leaving X.env (.ref a)) Q E s:=by
 have hZ:∀b∈[a,T],X.ck.heap.get? b=none/\H b=none:=λb hb=>by
  rcases cE.mp hb with rfl | hb
  ·exact⟨pa.old,pa.free⟩
  ·rw[fS.mp hb];exact⟨pT.old,pT.free⟩
 have na:a ∉ (X.env::X.outer).filterMap (·.frame):=by have:=pa.fr;rw[bU]at this;exact this
 refine wpAny_bind (Sa (base:=X.base) (by rw[I.ok.frames,bU]) (bU ▸ I.stack) hf na tr λh' T' st=>?_)
 have kp:∀b o,b ∉ [a,T]->b ∉ de X.stack->s.heap.get? b=some o->h'.get? b=some o:=λb o hz hb q=>st.keep b o hz (by rw[bU]at hb;exact hb) q
 obtain⟨un,aA⟩:=Sb (h':=h') I bU hex hf [a,T] hZ kp st.slot
 exact hQ h' T' ⟨un,aA,st.rp,pa.old,pa.free,I.old hex st.new,I.aA.none st.new⟩
theorem bR9{h1:Heap}{args:List Value}(I:Inv X pins σ H s)(bU:X.stack=X.env::X.outer)(hex:X.ex=[])(hf:X.env.frame=some X.env.locals)(hx:Ql s.heap h1 a cls args)
  (hQ:∀h' T',Sd X H h' a T' cls->Q () { s with heap:=h' }):wpAny M X.A (leaving X.env (.ref a)) Q E { s with heap:=h1 }:=by
 refine wpAny_bind (bI4 (base:=X.base) (by rw[I.ok.frames,bU]) (bU ▸ I.stack) hf hx λh' T' st=>?_)
 have kp:∀b o,b ∉ ([]:List Addr)->b ∉ de X.stack->s.heap.get? b=some o->h'.get? b=some o:=λb o hz hb q=>st.keep b o hz (by rw[bU]at hb;exact hb) q
 obtain⟨un,aA⟩:=Sb (h':=h') I bU hex hf [] (λb hb=>absurd hb (by simp)) kp st.slot
 exact hQ h' T' ⟨un,aA,st.rp,I.old hex hx.new,I.aA.none hx.new,I.old hex st.new,I.aA.none st.new⟩
end
noncomputable def jk(P:Program)(w:World):dN:=λouter H s E e s'=>∃a T cls H',e=.ref a/\s'.os=s.os/\AllBare s'.gens/\Un (de outer) [] H H' s.heap s'.heap/\cA P w H' s'.heap/\fZ s'.heap a T cls /\
 s.heap.get? a=none/\H' a=none/\s.heap.get? T=none/\H' T=none/\E cls none H'
section
variable{X:Cx}{pins:List (Addr × Obj)}{σ:St}{H H':Hp}{s:Shared}{a T b:Addr}{cls:Value}{M:Model}{Q:Unit->Shared->Prop}{E:Value->Shared->Prop}{h':Heap}
theorem Inv.Se(I:Inv X pins σ H s)(hex:X.ex=[])(Z:List Addr)(hZ:∀b∈Z,Apart X pins H b)
  (keep:∀b o,b ∉ Z->b ∉ de X.stack->s.heap.get? b=some o->h'.get? b=some o) (slots:∀b o,b ∉ Z->s.heap.get? b=some o->∃sl,h'.get? b=some { o with slots:=sl }) (g':Array GenState) (t':Nat) (d':Drawn) (hg:AllBare g') :
  Inv X pins σ H { s with heap:=h',gens:=g',toks:=t',drawn:=d' }:=by
 have nx:∀b:Addr,b ∉ X.ex:=λb=>by rw[hex];simp
 have any:=slots
 have oK:∀b o,X.ck.heap.get? b=some o->b ∉ Z:=λb o e z=>by rw[(hZ b z).old]at e;cases e
 have qS:∀b o,X.ck.heap.get? b=some o->b≠X.env.locals:=λb o e=>dQ (cy (bF e) I.ok.above)
 have cz:∀x c,X.env.cells.lookup x=some c->c ∉ Z:=λx c e z=>(hZ c z).cell x c e rfl
 have cellK:∀x c,X.env.cells.lookup x=some c->∀v,s.heap.IsCell c v->h'.IsCell c v:=λx c e v zz=>by
  obtain⟨o,ho,hd⟩:=zz
  obtain⟨sl,q⟩:=any c o (cz x c e) ho
  exact⟨_,q,hd⟩
 have Sf:∀b,b ∉ X.fs->b≠X.env.locals->b ∉ de X.stack:=λb h1 h2 h3=>(cE.mp (I.wU b h3)).elim h2 h1
 refine⟨I.ok,I.os,hg,⟨λb o e n hb hx=>?_,λb o e n hb hx=>?_,I.base.free,λb o e hx=>?_,I.base.gB,I.base.fU,I.base.fi⟩,?_,λx c e=>?_,I.free,I.eT,λp hp=>?_,λb ob e=>?_,I.len⟩
 ·exact keep b o (oK b o e) (Sf b hb (qS b o e)) (I.base.keep b o e n hb hx)
 ·obtain⟨sl,e1⟩:=I.base.slot b o e n hb hx
  obtain⟨wW,e2⟩:=any b _ (oK b o e) e1
  exact⟨wW,e2⟩
 ·obtain⟨o',e1⟩:=I.base.there b o e hx
  obtain⟨sl,e2⟩:=any b o' (oK b o e) e1
  exact⟨_,e2⟩
 ·obtain⟨m,hn,hl⟩:=I.loc
  obtain⟨o,es,ep,ho,hd,r⟩:=id hn
  obtain⟨sl,q⟩:=slots _ o (λz=>(hZ _ z).loc rfl) ho
  refine⟨m,⟨_,es,ep,q,hd,r⟩,λi x v e1 e2 e3=>?_⟩
  obtain⟨u,r,l⟩:=hl i x v e1 e2 e3
  refine⟨u,r,?_⟩
  rcases l with l | ⟨k,c,e,z⟩
  ·exact .inl l
  ·exact .inr ⟨k,c,e,cellK x c e _ z⟩
 ·obtain⟨v,z⟩:=I.cell x c e
  exact⟨v,cellK x c e v z⟩
 ·obtain⟨e,n,ne,nf,d⟩:=I.pin p hp
  exact⟨keep p.1 p.2 (λz=>(hZ _ z).pin p hp rfl) (Sf _ nf ne) e,n,ne,nf,d⟩
 ·refine(I.aA b ob e).gW (λc u hc q=>keep c u (λz=>?_) (λz=>?_) q) (λ_ q=>q) (λ_ _ q=>q) λ_ _ q=>q
  ·have n:=(hZ c z).free
   rcases hc with rfl | hc
   ·rw[n]at e;cases e
   ·rw[n]at hc;cases hc
  ·have n:=I.Bc c z
   rcases hc with rfl | hc
   ·rw[n]at e;cases e
   ·rw[n]at hc;cases hc
theorem bX9(pa:Apart X pins H a)(pT:Apart X pins H T):∀b∈[a,T],Apart X pins H b:=λb hb=>by
 rcases cE.mp hb with rfl | hb
 ·exact pa
 ·rw[fS.mp hb];exact pT
theorem cR1(I:Inv X pins σ H s)(bU:X.stack=X.env::X.outer)(hex:X.ex=[])(hf:X.env.frame=some X.env.locals)(tr:fZ s.heap a T cls)(pa:Apart X pins H a)(pT:Apart X pins H T)
  (hQ:∀h' T',Inv X pins σ H { s with heap:=h' }->fZ h' a T' cls->Apart X pins H T'->Q () { s with heap:=h' }) :
  wpAny M X.A (noteFrame (.ref a) X.env) (λ_ iJ=>wpAny M X.A (setFlight (.ref a) none) Q E iJ) E s:=by
 have na:a ∉ (X.env::X.outer).filterMap (·.frame):=by have:=pa.fr;rw[bU]at this;exact this
 refine Sa (base:=X.base) (by rw[I.ok.frames,bU]) (bU ▸ I.stack) hf na tr λh' T' st=>?_
 exact hQ h' T' (I.Se hex [a,T] (bX9 pa pT) (λb o hz hb q=>st.keep b o hz (by rw[bU]at hb;exact hb) q) st.slot s.gens s.toks s.drawn I.bare) st.rp (I.apart hex st.new (I.aA.none st.new))
theorem cn1{A:Around}(I:Inv X pins σ H s)(hex:X.ex=[])(tr:fZ s.heap a T cls)(pT:Apart X pins H T)
  (hQ:∀h',Inv X pins σ H { s with heap:=h' }->fZ h' a T cls->Q () { s with heap:=h' }):wpAny M A (setFlight (.ref a) none) Q E s:=by
 refine Gk tr λh' kp Gq=>hQ h' (I.Se hex [T] (λb hb=>by rw[fS.mp hb];exact pT) (λb o hz _ q=>kp b o (by simpa using hz) q) (λb o hz q=>⟨o.slots,kp b o (by simpa using hz) q⟩) s.gens s.toks s.drawn I.bare) Gq
theorem bW9{A:Around}{i:Nat}{n:Str}{pos:Pos}(I:Inv X pins σ H s)(hN:X.N.Nodup)(hi:X.N[i]?=some n)(hl:X.env.kindOf n=some .local)
  (hQ:∀s',Inv X pins (σ.set i none) H s'->Q () s'):wpAny M A (do bindName X.env n .none;unbindBehindTheSuite X.env n pos) Q E s:=by
 obtain⟨m,hn,hlk⟩:=id I.loc
 have jf:=I.jf
 refine PySem.wpAny_nameGoes_keeps hl hn (by rw[I.ok.kind];rfl) λh' v Ft hs=>hQ _ ?_
 obtain⟨oL,_,_,QI,_⟩:=id hn
 refine⟨I.ok,I.os,I.bare,⟨λb o e n' hb hx=>?_,λb o e n' hb hx=>?_,I.base.free,λb o e hx=>?_,I.base.gB,I.base.fU,I.base.fi⟩,⟨_,Ft,λj y w e1 e2 e3=>?_⟩,λy c e=>?_,I.free,I.eT,λp hp=>?_,λb ob e=>?_,by simpa using I.len⟩
 ·exact(hs.2 b (dQ (cy (bF e) I.ok.above))).trans (I.base.keep b o e n' hb hx)
 ·obtain⟨sl,e1⟩:=I.base.slot b o e n' hb hx
  exact⟨sl,(hs.2 b (dQ (cy (bF e) I.ok.above))).trans e1⟩
 ·obtain⟨o',e1⟩:=I.base.there b o e hx
  exact⟨o',(hs.2 b (dQ (cy (bF e) I.ok.above))).trans e1⟩
 ·by_cases hj:j=i
  ·subst hj
   rw[List.getElem?_set_self']at e2
   cases q:σ[j]?<;>rw[q]at e2<;>cases e2
  ·rw[nU (dR hj)]at e2
   obtain⟨u',r',q⟩:=hlk j y w e1 e2 e3
   refine⟨u',r',?_⟩
   rcases q with⟨k,e⟩ | ⟨k,c,e,z⟩
   ·refine .inl ⟨k,?_⟩
    have:y≠n:=λe=>hj (Fs hN e1 (e ▸ hi))
    simp[this,e]
   ·exact .inr ⟨k,c,e,z.sameBut hs (jf y c e)⟩
 ·obtain⟨w',z⟩:=I.cell y c e
  exact⟨w',z.sameBut hs (jf y c e)⟩
 ·obtain⟨e,n',ne,nf,d⟩:=I.pin p hp
  exact⟨(hs.2 p.1 ne).trans e,n',ne,nf,d⟩
 ·refine(I.aA b ob e).gW (λc w' hc q=>(hs.2 c ?_).trans q) (λ_ q=>q) (λ_ _ q=>q) λ_ _ q=>q
  rintro rfl
  rcases hc with rfl | hc
  ·rw[I.free]at e;cases e
  ·rw[I.free]at hc;cases hc
end
end L2
namespace L2
open PySem PySem.W PySem.Spec PySem.Calls PyProof.Rows
section
variable{prog:Program}{w:World}{A:Around}{E:Value->Shared->Prop}{s:Shared}{K:Frag}{x D:Addr}{ox:Obj}{mW:Option Obj}
theorem bX3{tk:Tok}{Q:Fin->Shared->Prop}(X:K.In s.heap)(I:PySem.W.InstAt s.heap x ox D mW)(hf:findObj K D mW "__class__"=some (.bind (.builtin "getset_descriptor.__get__") (.builtin "object.__class__")))(hm:mroIn K D (.type "object")=some true)
  (hq:Q (.done (.ret (.ref D))) s):wpAny (model prog w) A (Builtin.«object.__getattribute__» ⟨[.ref x,.str "__class__" tk],[]⟩) Q E s:=by
 have cg:=λ(R:Result->Shared->Prop) (hR:R (.ok (.ret (.ref D))) s) (A:Around)=>PySem.W.class_get (prog:=prog) (w:=w) (A:=A) (R:=R) (tp:=.ref D) X I hm hR
 obtain⟨hh,g,d,t,os⟩:=s
 have L0:=I.type (M:=model prog w)
 have L1:=looks_find (M:=model prog w) X I hf
 unfold Builtin.«object.__getattribute__»
 repeat (any_goals (first | assumption | refine wpAny_bind (L0.at ?_) | refine wpAny_bind (L1.at ?_) | wp_step))
 exact cg _ (wpAny_pure hq) _
theorem bU4{M:Model}{Sg:Value}{Q:Unit->Shared->Prop}(X:K.In s.heap)(I:PySem.W.InstAt s.heap x ox D mW)(hb:mroIn K D (.type "BaseException")=some true)(hq:Q () s) :
  wpAny M A (checkBuiltinCall "BaseException.__getattribute__" ⟨[.ref x,Sg],[]⟩) Q E s:=by
 obtain⟨hh,g,d,t,os⟩:=s
 have L0:=I.type (M:=M)
 have L1:=looks_mroIn (M:=M) X hb
 have hk:builtinKind "BaseException.__getattribute__"=some .slot:=by decide +kernel
 have dk5:splitId "BaseException.__getattribute__"=some ("BaseException","__getattribute__"):=by decide +kernel
 have ha:=F.args_bexc_ga (.ref x) Sg
 simp only[checkBuiltinCall,hk,dk5]
 refine wpAny_bind ?_
 ·unfold isInstance
  repeat (first | refine wpAny_bind (L0.at ?_) | refine wpAny_bind (L1.at ?_) | refine L1.at ?_ | wp_step)
  exact hq
theorem ca3{tk:Tok}{R:Result->Shared->Prop}(X:K.In s.heap)(I:PySem.W.InstAt s.heap x ox D mW)(hf:findObj K D mW "__class__"=some (.bind (.builtin "getset_descriptor.__get__") (.builtin "object.__class__")))(hm:mroIn K D (.type "object")=some true)(hb:mroIn K D (.type "BaseException")=some true)
  (hq:R (.ok (.ret (.ref D))) s):codeAny (model prog w) A (.call (.builtin "BaseException.__getattribute__") ⟨[.ref x,.str "__class__" tk],[]⟩) R s :=
 codeAny_call_builtin (by decide +kernel) F.entry_bexc_ga (bU4 X I hb (bX3 X I hf hm hq))
end
end L2
namespace L2
open PySem PySem.W PySem.Spec PySem.Calls PyProof.Rows
section
variable{prog:Program}{w:World}{A:Around}{E:Value->Shared->Prop}{s:Shared}{K:Frag}{x D:Addr}{ox:Obj}{mW:Option Obj}
theorem bU3{Q:Option Value->Shared->Prop}(X:K.In s.heap)(I:PySem.W.InstAt s.heap x ox D mW)(hga:findIn K (.ref D) "__getattribute__"=some (some (.builtin "BaseException.__getattribute__")))(hgt:findIn K (.ref D) "__getattr__"=some none)
  (hf:findObj K D mW "__class__"=some (.bind (.builtin "getset_descriptor.__get__") (.builtin "object.__class__"))) (hm:mroIn K D (.type "object")=some true) (hb:mroIn K D (.type "BaseException")=some true)
  (h:Q (some (.ref D)) { s with toks:=s.toks+1 }):wpAny (model prog w) A (getAttr? (.ref x) "__class__") Q E s:=by
 have xc:=λ(R:Result->Shared->Prop) (tk:Tok) (hR:R (.ok (.ret (.ref D))) { s with toks:=s.toks+1 }) (A:Around)=>ca3 (prog:=prog) (w:=w) (A:=A) (R:=R) (tk:=tk) (s:={ s with toks:=s.toks+1 }) X I hf hm hb hR
 obtain⟨hh,g,d,t,os⟩:=s
 have L0:=I.type (M:=model prog w)
 have L1:=looks_findIn (M:=model prog w) X hga
 have L2:=looks_findIn (M:=model prog w) X hgt
 have f3:=(F.excAttr_ValueError).ga.bind (.ref x)
 have dW:(EU "BaseException.__getattribute__"==EU "object.__getattribute__")=false:=by decide +kernel
 have cm:(onTheHeap (cu D)&&EU "BaseException.__getattribute__"==EU "object.__getattribute__")=false:=by rw[dW];rfl
 unfold getAttr? getAttrBy? getAttrBy
 refine wpAny_bind (wpAny_mkText (wpAny_bind (wpAny_attempt (wpAny_holding (wpAny_bind (L0.at (wpAny_bind (L1.at ?_))))))))
 dsimp only
 rw[cm]
 simp only[n8,if_false]
 unfold getAttrByItsOwn
 repeat (any_goals (first | assumption | refine wpAny_bind (L0.at ?_) | refine wpAny_bind (L2.at ?_) | wp_step))
 refine xc _ t ?_ _
 show wpAny _ _ (handedOut (.ref D)) _ _ _
 exact handed_on rfl (wpAny_pure h)
structure rq(K:Frag)(C:Addr):Prop where
 cls:(clsIn K C).isSome=true
 ga:findIn K (.ref C) "__getattribute__"=some (some (.builtin "BaseException.__getattribute__"))
 gt:findIn K (.ref C) "__getattr__"=some none
 ca:findIn K (.ref C) "__class__"=some (some (.builtin "object.__class__"))
 hn:specialIn K (.builtin "object.__class__") "__get__"=some (some (.builtin "getset_descriptor.__get__"))
 tk:takesIn K (.builtin "object.__class__")=some true
 mo:mroIn K C (.type "object")=some true
 mb:mroIn K C (.type "BaseException")=some true
noncomputable def kh(a C:Addr)(h:Heap):Prop:=∃o,h.get? a=some o/\o.cls=.ref C/\notCls o=true/\o.dict=none
theorem bA5{K:Frag}{C:Addr}{name:Str}{a g:Value}(hc:(clsIn K C).isSome=true)(ha:findIn K (.ref C) name=some (some a))(hg:specialIn K a "__get__"=some (some g))(ht:takesIn K a=some true):findObj K C none name=some (.bind g a):=by
 obtain⟨cd,hc⟩:=Aw.mp hc
 unfold findObj
 rw[hc,γ,ha,γ]
 simp[hg,ht]
theorem Sh{a C:Addr}{h:Heap}(p:kh a C h):∃ox,PySem.W.InstAt h a ox C none:=by
 obtain⟨o,h1,h2,h3,h4⟩:=p
 exact⟨o,h1,h2,h3,by rw[h4];trivial⟩
theorem ch2{a C:Addr}(c:rq K C):KitX K (.ref a) (.ref C) (kh a C) where
 ty:=λ_ _ _ p=>let⟨_,I⟩:=Sh p;I.type
 it:=λ_ _ X _=>by
  obtain⟨cdD,kX⟩:=Aw.mp c.cls
  unfold clsIn at kX
  split at kX
  ·rename_i c' d' cd' wW ho
   intro A' Q' E' s' k q
   unfold isType loadHead
   exact wpAny_bind (wpAny_loadPart (k _ _ (X _ _ ho)) (wpAny_pure q))
  ·cases kX
 ne:=λh tp dd its n sl X htp=>by
  obtain⟨cdD,kX⟩:=Aw.mp c.cls
  refine Bool.eq_false_iff.mpr λq=>?_
  have e:C=tp:=Value.ref.inj (beq_iff_eq.mp q)
  subst e
  unfold clsIn at kX
  split at kX
  ·rename_i c' d' cd' wW ho
   have z:=(X _ _ ho).symm.trans htp
   cases z
  ·cases kX
 ca:=λX p k=>let⟨_,I⟩:=Sh p;bU3 X I c.ga c.gt (bA5 c.cls c.ca c.hn c.tk) c.mo c.mb k
end
end L2
namespace L2
open PySem PySem.Spec PyProof.Rows
section
variable{X:Cx}{pins:List (Addr × Obj)}{σ:St}{H:Hp}{s:Shared}{h':Heap}{its:List Addr}{T:Addr}{o:HO}{t':Nat}
theorem Inv.BH(I:Inv X pins σ H s)(k:∀b o,b ∉ its->s.heap.get? b=some o->h'.get? b=some o)(hf:∀b∈its,g5 X pins H b):Inv X pins σ H { s with heap:=h',toks:=t' }:=by
 have mQ:∀b u,H b=some u->b ∉ its:=λb u e z=>by have:=(hf b z).1;rw[this]at e;cases e
 refine I.step (g':=s.gens) (d':=s.drawn) (ch:=its) (λb hb=>?_) (λb o _ _ hc e _=>k b o hc e) (λb o _ _ hc e _=>⟨o.slots,k b o hc e⟩) (λ_ _ _ _ n=>n)
  (λb o hc e=>⟨o,k b o hc e⟩) (λ_ _ e=>e) (λ_ _ _ e=>e) (λb ps e=>⟨#[],by rw[e];simp⟩) (λm hm=>?_) (λb u e=>?_) I.bare
 ·obtain⟨_,h1,_,h2,h3,h4⟩:=hf b hb
  exact⟨h2,h1,h3,h4⟩
 ·obtain⟨o,es,ep,ho,r⟩:=hm
  exact⟨o,es,ep,k _ o (λz=>(hf _ z).2.1 rfl) ho,r⟩
 ·refine(I.aA b u e).gW (λc v hc q=>k c v ?_ q) (λ_ q=>q) (λ_ _ q=>q) λ_ _ q=>q
  rcases hc with z | z
  ·rw[z];exact mQ b u e
  ·exact mQ c _ z
theorem Inv.Si(I:Inv X pins σ H s)(k:∀b o,b ∉ its->s.heap.get? b=some o->h'.get? b=some o)(hf:∀b∈its,g5 X pins H b)(hT:s.heap.objs.size<=T)(new:dq X.prog X.w (upd H T o) h' T o) :
  Inv X pins σ (upd H T o) { s with heap:=h',toks:=t' }:=by
 have mQ:∀b u,H b=some u->b ∉ its:=λb u e z=>by have:=(hf b z).1;rw[this]at e;cases e
 have fT:H T=none:=I.aA.fresh hT
 have neT:∀b u,H b=some u->b≠T:=λb u e z=>by rw[z,fT]at e;cases e
 have neS:∀b u,s.heap.get? b=some u->b≠T:=λb u e z=>absurd (cy (bF e) hT) (by rw[z];exact fM _)
 refine I.step (g':=s.gens) (d':=s.drawn) (ch:=its) (λb hb=>?_) (λb o _ _ hc e _=>k b o hc e) (λb o _ _ hc e _=>⟨o.slots,k b o hc e⟩) (λb u _ e n=>by rw[aQ (neS b u e)];exact n)
  (λb o hc e=>⟨o,k b o hc e⟩) (λb _ e=>by rw[aQ (neT b _ e)];exact e) (λb _ _ e=>by rw[aQ (neT b _ e)];exact e) (λb ps e=>⟨#[],by rw[aQ (neT b _ e),e];simp⟩) (λm hm=>?_) (λb u e=>?_) I.bare
 ·obtain⟨_,h1,_,h2,h3,h4⟩:=hf b hb
  exact⟨h2,h1,h3,h4⟩
 ·obtain⟨o,es,ep,ho,r⟩:=hm
  exact⟨o,es,ep,k _ o (λz=>(hf _ z).2.1 rfl) ho,r⟩
 ·by_cases hb:b=T
  ·subst hb;rw[bG]at e;cases e;exact new
  ·rw[aQ hb]at e
   refine(I.aA b u e).gW (λc v hc q=>k c v ?_ q) (λc q=>by rw[aQ (neT c _ q)];exact q) (λc _ q=>by rw[aQ (neT c _ q)];exact q) λc _ q=>by rw[aQ (neT c _ q)];exact q
   rcases hc with z | z
   ·rw[z];exact mQ b u e
   ·exact mQ c _ z
noncomputable def Gr(K:PySem.W.Frag)(a b:Addr):It :=
 ⟨λi H=>∃xs ys x y,bH K H a xs/\bH K H b ys/\xs[i]?=some x/\ys[i]?=some y,
  λi H v H'=>∃T x y,v=.ref T/\H T=none/\H'=upd H T (.tup [x,y])/\(∀xs,bH K H a xs->xs[i]?=some x)/\∀ys,bH K H b ys->ys[i]?=some y,
  λi H=>∃xs ys,bH K H a xs/\bH K H b ys/\(xs.length<=i\/ys.length<=i)⟩
theorem mX{K:PySem.W.Frag}{a c:Addr}{xs:List V}(hk:X.K=K)(I:Inv X pins σ H s)(h:bH K H a xs)(hf:g5 X pins H c)(ho:∃o,s.heap.get? c=some o/\o.cls≠.type "list"):a≠c:=by
 subst hk
 obtain⟨its,rv,p,hz⟩:=I.list h
 obtain⟨o,e,d⟩:=ho
 obtain⟨o',e',c',_⟩:=p.isList
 intro z
 subst z
 rw[e]at e';cases e'
 exact d c'
theorem cg0{P:Program}{w:World}{K:PySem.W.Frag}{elts:List Expr}{k:Nat}{pos:Pos}(a b z TI TO i1 i2:Addr)(D5:[z,TI,TO,i1,i2].Nodup) :
  Turn P w K (.Tuple elts k pos) (Gr K a b) [z,TI,TO,i1,i2] z (λi h=>IsZip h z TI TO .none/\IsPair h TI (.ref i1) (.ref i2)/\(∃u v,IsPair h TO u v)/\h.IsListIter i1 a i/\h.IsListIter i2 b i):=by
 have ap:∀(X:Cx) (pins:List (Addr × Obj)) (s:Shared) (σ:St) (H:Hp) (i:Nat) (xs ys:List V),X.K=K->Inv X pins σ H s->(∀b∈[z,TI,TO,i1,i2],g5 X pins H b)->IsZip s.heap z TI TO .none->(∃u v,IsPair s.heap TO u v)->s.heap.IsListIter i1 a i->s.heap.IsListIter i2 b i ->
   bH K H a xs->bH K H b ys->ZipApart z TI TO i1 i2 a b:=by
  intro X pins s σ H i xs ys hK I hf hz hV h1 h2 hx hy
  simp only[jU,cE,not_or,kO,not_false_eq_true,and_true]at D5
  obtain⟨⟨d1,d2,d3,d4⟩,⟨d5,d6,d7⟩,⟨d8,d9⟩,d10,_⟩:=D5
  have oz:∃o,s.heap.get? z=some o/\o.cls≠.type "list":=⟨_,hz,by intro q;exact absurd (EV q) (by decide)⟩
  have Sj:∃o,s.heap.get? TO=some o/\o.cls≠.type "list":=by obtain⟨u,v,e⟩:=hV;exact⟨_,e,by intro q;exact absurd (EV q) (by decide)⟩
  have o1:∃o,s.heap.get? i1=some o/\o.cls≠.type "list":=by obtain⟨o,e,c,d⟩:=h1;exact⟨_,e,by rw[c];intro q;exact absurd (EV q) (by decide)⟩
  have o2:∃o,s.heap.get? i2=some o/\o.cls≠.type "list":=by obtain⟨o,e,c,d⟩:=h2;exact⟨_,e,by rw[c];intro q;exact absurd (EV q) (by decide)⟩
  exact⟨dR d1,dR d2,dR d3,dR d4,d5,d6,d7,d8,d9,d10,
   mX hK I hx (hf z (by simp)) oz,mX hK I hx (hf TO (by simp)) Sj,mX hK I hx (hf i1 (by simp)) o1,mX hK I hx (hf i2 (by simp)) o2,
   mX hK I hy (hf z (by simp)) oz,mX hK I hy (hf TO (by simp)) Sj,mX hK I hy (hf i1 (by simp)) o1,mX hK I hy (hf i2 (by simp)) o2⟩
 refine⟨by simp,λi h st c hc=>?_,λi h h' st kk=>?_,?_,?_,λ_ _ _ _ _ st h=>wpAny_pyIter_zip st.1 h⟩
 ·obtain⟨hz,jF,⟨u,v,hV⟩,⟨o1,e1,c1,d1⟩,⟨o2,e2,c2,d2⟩⟩:=st
  simp only[cE,kO,or_false]at hc
  rcases hc with rfl | rfl | rfl | rfl | rfl
  ·exact⟨_,hz,λv q=>by cases q⟩
  ·exact⟨_,jF,λv q=>by cases q⟩
  ·exact⟨_,hV,λv q=>by cases q⟩
  ·exact⟨_,e1,λv q=>by rw[d1]at q;cases q⟩
  ·exact⟨_,e2,λv q=>by rw[d2]at q;cases q⟩
 ·obtain⟨hz,jF,⟨u,v,hV⟩,h1,h2⟩:=st
  exact⟨kk _ (by simp) _ hz,kk _ (by simp) _ jF,⟨u,v,kk _ (by simp) _ hV⟩,h1.at λo e=>kk _ (by simp) o e,h2.at λo e=>kk _ (by simp) o e⟩
 ·intro X hP hw hK hc i pins s σ H E I hf st hg
  obtain⟨xs,ys,x,y,hx,hy,ex,ey⟩:=hg
  obtain⟨hz,jF,⟨u,v,hV⟩,h1,h2⟩:=st
  have D:=ap X pins s σ H i xs ys hK I hf hz ⟨u,v,hV⟩ h1 h2 hx hy
  subst hP hw hK
  obtain⟨as,ra,pa,_⟩:=I.list hx
  obtain⟨bs,rb,pb,_⟩:=I.list hy
  obtain⟨ux,Gs,rx⟩:=ra.get ex
  obtain⟨uy,euy,ry⟩:=rb.get ey
  refine wpAny_pyNext_zip_item D hz jF hV h1 h2 pa.isList pb.isList (x:=ux) (y:=uy) (by simpa using Gs) (by simpa using euy) λh' z' TO' jl iO T' sz kk=>?_
  have fT:H s.heap.objs.size=none:=I.aA.fresh (bB _)
  have I1:Inv X pins σ (upd H s.heap.objs.size (.tup [x,y])) { s with heap:=h',toks:=s.toks }:=I.Si (its:=[z,TO,i1,i2]) (λc o hc e=>kk c o (λq=>hc (by simp[q])) (λq=>hc (by simp[q])) (λq=>hc (by simp[q])) (λq=>hc (by simp[q])) e)
   (λc hc=>hf c (by simp only[cE,kO,or_false]at hc ⊢;rcases hc with rfl | rfl | rfl | rfl<;>simp)) (bB _) ⟨by show 2<=sizeLine;decide,[ux,uy],.cons rx (.cons ry .nil),⟨_,T',rfl,_,rfl⟩⟩
  have nT:∀c∈[z,TI,TO,i1,i2],c≠s.heap.objs.size:=λc hc q=>by
   have:∃o,s.heap.get? c=some o:=by
    simp only[cE,kO,or_false]at hc
    rcases hc with rfl | rfl | rfl | rfl | rfl
    ·exact⟨_,hz⟩
    ·exact⟨_,jF⟩
    ·exact⟨_,hV⟩
    ·obtain⟨o,e,_⟩:=h1;exact⟨o,e⟩
    ·obtain⟨o,e,_⟩:=h2;exact⟨o,e⟩
   obtain⟨o,e⟩:=this
   exact absurd (bF e) (by rw[q];exact fM _)
  refine⟨_,rfl,wpAny_letOwnedTupleGo_zip z' λGu Gv sb=>?_⟩
  have Gw:∀c∈[z],g5 X pins (upd H s.heap.objs.size (.tup [x,y])) c:=λc hc=>by
   have e:c=z:=by simpa using hc
   subst e
   obtain⟨f0,fr⟩:=hf c (by simp)
   exact⟨by rw[aQ (nT c (by simp))];exact f0,fr⟩
  have I2:=Inv.BH (h':=Gu) (its:=[z]) (t':=s.toks) I1 (λc o hc e=>sb.extBut _ _ (λq=>hc (by simp[q])) e) Gw
  refine⟨.ref s.heap.objs.size,_,I2,rfl,⟨_,x,y,rfl,fT,rfl,λxs' du=>by rw[I.Bg du hx];exact ex,λSk hy'=>by rw[I.Bg hy' hy];exact ey⟩,⟨Gv,sb.extBut _ _ D.TIz (kk _ _ D.TIz D.TITO D.TIi1 D.TIi2 jF),⟨ux,uy,sb.extBut _ _ D.TOz TO'⟩,jl.extBut sb.extBut D.i1z,iO.extBut sb.extBut D.i2z⟩,λc hc=>?_⟩
  rw[aQ (nT c hc)]
  exact(hf c hc).1
 ·intro X hP hw hK hc i pins s σ H E I hf st hg
  obtain⟨xs,ys,hx,hy,hl⟩:=hg
  obtain⟨hz,jF,⟨u,v,hV⟩,h1,h2⟩:=st
  have D:=ap X pins s σ H i xs ys hK I hf hz ⟨u,v,hV⟩ h1 h2 hx hy
  subst hP hw hK
  obtain⟨as,ra,pa,_⟩:=I.list hx
  obtain⟨bs,rb,pb,_⟩:=I.list hy
  have la:=ra.length
  have lb:=rb.length
  refine wpAny_pyNext_zip_end (I.ok.hd hc) D hz jF hV h1 h2 pa.isList pb.isList (hl.imp (λq=>by simp;omega) λq=>by simp;omega) λh' kk=>⟨rfl,?_⟩
  exact I.BH (its:=[z,TO,i1,i2]) (t':=s.toks) (λc o hc e=>kk c o (λq=>hc (by simp[q])) (λq=>hc (by simp[q])) (λq=>hc (by simp[q])) (λq=>hc (by simp[q])) e)
   (λc hc=>hf c (by simp only[cE,kO,or_false]at hc ⊢;rcases hc with rfl | rfl | rfl | rfl<;>simp))
noncomputable def Gx(K:PySem.W.Frag)(a:Addr):It :=
 ⟨λi H=>∃xs x,bH K H a xs/\xs[i]?=some x,
  λi H v H'=>∃T x,v=.ref T/\H T=none/\H'=upd H T (.tup [.int i,x])/\∀xs,bH K H a xs->xs[i]?=some x,
  λi H=>∃xs,bH K H a xs/\xs.length<=i⟩
theorem b88{P:Program}{w:World}{K:PySem.W.Frag}{elts:List Expr}{k:Nat}{pos:Pos}(a z it:Addr)(iP:z≠it) :
  Turn P w K (.Tuple elts k pos) (Gx K a) [z,it] z (λi h=>(∃old,IsEnum h z it i old)/\h.IsListIter it a i):=by
 refine⟨by simp,λi h st c hc=>?_,λi h h' st kk=>?_,?_,?_,λ_ _ _ _ _ st h=>by obtain⟨⟨old,e⟩,_⟩:=st;exact wpAny_pyIter_enum e h⟩
 ·obtain⟨⟨old,hz⟩,⟨o1,e1,c1,d1⟩⟩:=st
  simp only[cE,kO,or_false]at hc
  rcases hc with rfl | rfl
  ·exact⟨_,hz,λv q=>by cases q⟩
  ·exact⟨_,e1,λv q=>by rw[d1]at q;cases q⟩
 ·obtain⟨⟨old,hz⟩,h1⟩:=st
  exact⟨⟨old,kk _ (by simp) _ hz⟩,h1.at λo e=>kk _ (by simp) o e⟩
 ·intro X hP hw hK hc i pins s σ H E I hf st hg
  subst hP hw hK
  obtain⟨xs,x,hx,ex⟩:=hg
  obtain⟨⟨old,hz⟩,h1⟩:=st
  obtain⟨as,ra,pa,_⟩:=I.list hx
  obtain⟨ux,Gs,rx⟩:=ra.get ex
  refine wpAny_pyNext_enum_item hz h1 pa.isList (x:=ux) (by simpa using Gs) iP λh' z' jl T' sz kk=>?_
  have fT:H s.heap.objs.size=none:=I.aA.fresh (bB _)
  have I1:Inv X pins σ (upd H s.heap.objs.size (.tup [.int i,x])) { s with heap:=h',toks:=s.toks+1 }:=I.Si (its:=[z,it]) (λc o hc e=>kk c o (λq=>hc (by simp[q])) (λq=>hc (by simp[q])) e)
   (λc hc=>hf c hc) (bB _) ⟨by show 2<=sizeLine;decide,[.int i s.toks,ux],.cons ⟨_,rfl⟩ (.cons rx .nil),⟨_,T',rfl,_,rfl⟩⟩
  have nT:∀c∈[z,it],c≠s.heap.objs.size:=λc hc q=>by
   have:∃o,s.heap.get? c=some o:=by
    simp only[cE,kO,or_false]at hc
    rcases hc with rfl | rfl
    ·exact⟨_,hz⟩
    ·obtain⟨o,e,_⟩:=h1;exact⟨o,e⟩
   obtain⟨o,e⟩:=this
   exact absurd (bF e) (by rw[q];exact fM _)
  refine⟨_,rfl,wpAny_letOwnedTupleGo_enum z' λGu Gv sb=>?_⟩
  have Gw:∀c∈[z],g5 X pins (upd H s.heap.objs.size (.tup [.int i,x])) c:=λc hc=>by
   have e:c=z:=by simpa using hc
   subst e
   obtain⟨f0,fr⟩:=hf c (by simp)
   exact⟨by rw[aQ (nT c (by simp))];exact f0,fr⟩
  have I2:=Inv.BH (h':=Gu) (its:=[z]) (t':=s.toks+1) I1 (λc o hc e=>sb.extBut _ _ (λq=>hc (by simp[q])) e) Gw
  refine⟨.ref s.heap.objs.size,_,I2,rfl,⟨_,x,rfl,fT,rfl,λxs' du=>by rw[I.Bg du hx];exact ex⟩,⟨⟨ux,by simpa using Gv⟩,jl.extBut sb.extBut (dR iP)⟩,λc hc=>?_⟩
  rw[aQ (nT c hc)]
  exact(hf c hc).1
 ·intro X hP hw hK hc i pins s σ H E I hf st hg
  subst hP hw hK
  obtain⟨xs,hx,hl⟩:=hg
  obtain⟨⟨old,hz⟩,h1⟩:=st
  obtain⟨as,ra,pa,_⟩:=I.list hx
  have la:=ra.length
  refine wpAny_pyNext_enum_end (I.ok.hd hc) hz h1 pa.isList (by simp;omega) λh' kk=>⟨rfl,?_⟩
  exact I.BH (its:=[it]) (t':=s.toks) (λc o hc e=>kk c o (λq=>hc (by simp[q])) e) (λc hc=>hf c (by simp at hc ⊢;simp[hc]))
end
section
variable{X:Cx}{a b:Expr}{ta:TA}{p pos oE:Pos}{elts:List Expr}{x1:Nat}
noncomputable def cQ5(K:PySem.W.Frag)(ta:TA):TI:=λσ H R=>ta σ H λvs H1=>∃a b,vs=[.ref a,.ref b]/\(∃xs,bH K H1 a xs)/\(∃ys,bH K H1 b ys)/\R (Gr K a b) H1
theorem ch5:bootBuiltins "zip"=some (.type "zip"):=by decide +kernel
theorem cE0(hg:Gl X "zip")(hm:X.mg "zip"=none)(ha:PA X [a,b] ta)(hs:starEach [a,b] X.env=[(false,eval a X.env),(false,eval b X.env)]:=by rfl)(eK:starEach [b] X.env=[(false,eval b X.env)]:=by rfl) :
  PI X (.Tuple elts x1 oE) (.Call (.Name "zip" p) [a,b] [] pos) (cQ5 X.K ta):=by
 intro pins s σ H R I h
 refine Call_ (ou I hg hm ch5 (Au (aL (ha pos pins s σ H _ I h) λus s1 ⟨vs,H1,I1,r1,q1⟩=>?_) (by rw[hs,eK]) (by rw[eK];rfl)))
 obtain⟨a,b,e,⟨xs,hx⟩,⟨ys,hy⟩,q⟩:=q1
 subst e
 cases r1 with
 | cons r rr =>
  cases rr with
  | cons r2 rr =>
   cases rr
   cases r
   cases r2
   obtain⟨as,ra,pa,_⟩:=I1.list hx
   obtain⟨bs,rb,pb,_⟩:=I1.list hy
   refine call_zip_2 pa.isList pb.isList λh' hz jF hV h1 h2 sz kk=>wpAny_pyIter_zip hz ?_
   refine⟨_,[s1.heap.objs.size+4,s1.heap.objs.size+2,s1.heap.objs.size+3,s1.heap.objs.size,s1.heap.objs.size+1],_,_,H1,rfl,I1.kept (t':=s1.toks) kk,cg0 a b _ _ _ _ _ (by simp),⟨hz,jF,⟨_,_,hV⟩,h1,h2⟩,λc hc=>?_,q⟩
   have hle:s1.heap.objs.size<=c:=by
    simp only[cE,kO,or_false]at hc
    rcases hc with rfl | rfl | rfl | rfl | rfl<;>omega
   exact I1.Bo hle (I1.aA.fresh hle)
noncomputable def cL1(K:PySem.W.Frag)(ta:TA):TI:=λσ H R=>ta σ H λvs H1=>∃a,vs=[.ref a]/\(∃xs,bH K H1 a xs)/\R (Gx K a) H1
theorem bu8:bootBuiltins "enumerate"=some (.type "enumerate"):=by decide +kernel
theorem cu0(hg:Gl X "enumerate")(hm:X.mg "enumerate"=none)(ha:PA X [a] ta)(hs:starEach [a] X.env=[(false,eval a X.env)]:=by rfl) :
  PI X (.Tuple elts x1 oE) (.Call (.Name "enumerate" p) [a] [] pos) (cL1 X.K ta):=by
 intro pins s σ H R I h
 refine Call_ (ou I hg hm bu8 (Au (aL (ha pos pins s σ H _ I h) λus s1 ⟨vs,H1,I1,r1,q1⟩=>?_) hs rfl))
 obtain⟨a,e,⟨xs,hx⟩,q⟩:=q1
 subst e
 cases r1 with
 | cons r rr =>
  cases rr
  cases r
  obtain⟨as,ra,pa,_⟩:=I1.list hx
  refine call_enumerate_list pa.isList λh' hz h1 sz kk=>wpAny_pyIter_enum hz ?_
  refine⟨_,[s1.heap.objs.size+1,s1.heap.objs.size],_,_,H1,rfl,I1.kept (t':=s1.toks) kk,b88 a (s1.heap.objs.size+1) s1.heap.objs.size (Nat.succ_ne_self _),⟨⟨_,hz⟩,h1⟩,λc hc=>?_,q⟩
  have hle:s1.heap.objs.size<=c:=by
   simp only[cE,kO,or_false]at hc
   rcases hc with rfl | rfl<;>omega
  exact I1.Bo hle (I1.aA.fresh hle)
end
end L2
namespace L2
open PySem PySem.Spec PyProof.Rows PySem.W PySem.Calls
section
variable{X:Cx}
noncomputable def rz{α:Type}(xs:List α)(lo hi:Option Int):List α:=(xs.drop (HT.cL xs.length 0 lo)).take (HT.cL xs.length xs.length hi-HT.cL xs.length 0 lo)
theorem bT5(x:Str)(lo hi:Option Int):Txt.slice x lo hi=⟨(rz x.cps.toList lo hi).toArray⟩:=by
 have hx:x.length=x.cps.size:=rfl
 have e:(EW lo hi 1 x.length).filterMap (x.cps[·]?)=rz x.cps.toList lo hi:=by
  obtain⟨h1,h2,h3⟩:=FR lo hi x.length
  have e0:EW lo hi 1 x.length=sliceRange (sliceBounds lo hi none x.length).1 (sliceBounds lo hi none x.length).2.1 1:=by
   cases lo<;>cases hi<;>rfl
  rw[e0,h1,h2]
  simp only[sliceRange_one,pick_run]
  unfold rz
  rw[hx,wm]
 unfold Txt.slice
 split
 ·rename_i h
  have hl:(EW lo hi 1 x.length).length=x.length:=by
   rw[dB]at h;exact eq_of_beq h.2
  have hs:(rz x.cps.toList lo hi)=x.cps.toList:=by
   have e2:HT.cL x.cps.toList.length x.cps.toList.length hi-HT.cL x.cps.toList.length 0 lo=x.length:=by
    obtain⟨h1,h2,h3⟩:=FR lo hi x.length
    have e0:EW lo hi 1 x.length=sliceRange (sliceBounds lo hi none x.length).1 (sliceBounds lo hi none x.length).2.1 1:=by
     cases lo<;>cases hi<;>rfl
    rw[e0,h1,h2]at hl
    simp only[sliceRange_one,bK,eE]at hl
    rw[wm,<- hx]
    omega
   unfold rz
   have le:HT.cL x.cps.toList.length x.cps.toList.length hi<=x.cps.toList.length:=by
    cases hi with
    | none=>simp[HT.cL]
    | some i=>simp only[HT.cL];split<;>omega
   have le2:HT.cL x.cps.toList.length 0 lo<=x.cps.toList.length:=by
    cases lo with
    | none=>simp[HT.cL]
    | some i=>simp only[HT.cL];split<;>omega
   rw[wm,<- hx]at e2 le le2 ⊢
   have z:HT.cL x.length 0 lo=0:=by omega
   have z2:HT.cL x.length x.length hi=x.length:=by omega
   rw[z,z2,List.drop_zero,Nat.sub_zero,hx,<- wm,EX]
  rw[hs]
 ·rw[e]
theorem cI2:oH X (λx lo hi H Q=>∃z,x=.str z/\z.length<=sizeLine/\Q (.str ⟨(rz z.cps.toList lo hi).toArray⟩) H):=by
 intro pins s σ H x v vl vu lo hi sl Q I rx hs pl pu h
 obtain⟨z,rfl,hz,q⟩:=h
 obtain⟨t,rfl⟩:=rx
 refine⟨"str",_,F.slot_str_getitem.lookup,typeIs_str _ _ _,?_⟩
 have fin:∀(l u:Option (Int × Tok)),l.map (·.1)=lo->u.map (·.1)=hi->partValue l=vl->partValue u=vu->wpAny (model X.prog X.w) X.A (getItem (.str z t) (.ref sl)) (EP X pins σ Q) X.xe s:=by
  intro l u h1 h2 h3 h4
  obtain⟨o,e1,e2,e3⟩:=hs
  refine wpAny_getItem_str_slice (l:=l) (u:=u) (st:=none) ⟨o,e1,e2,by rw[e3,h3,h4];rfl⟩ rfl ?_
  have e:Txt.slice z lo hi=(if(((none:Option (Int × Tok)).map (·.1)).getD 1==1&&(slicePicked z l u none).length==z.length)=true then z else⟨((slicePicked z l u none).filterMap (z.cps[·]?)).toArray⟩):=by
   unfold Txt.slice slicePicked;rw[h1,h2];rfl
  refine post_val_or_str ⟨?_,λt' k=>?_⟩
  ·rw[<-e];exact eA (Txt.slice_le z _ _) hz
  ·rw[<-e,bT5];exact⟨.str _,H,I.tok _,⟨_,rfl⟩,q⟩
 cases pl with
 | none =>
  cases pu with
  | none=>exact fin none none rfl rfl rfl rfl
  | int j tj=>exact fin none (some (j,tj)) rfl rfl rfl rfl
 | int i ti =>
  cases pu with
  | none=>exact fin (some (i,ti)) none rfl rfl rfl rfl
  | int j tj=>exact fin (some (i,ti)) (some (j,tj)) rfl rfl rfl rfl
end
end L2
namespace L3
open PySem L2
noncomputable def hW:HO->Bool
 | .cX _=>false
 | _=>true
structure aa(H H':Hp):Prop where
 get:∀b o,H b=some o->(h:hW o=true:=by rfl)->H' b=some o
 tb:∀b ps,H b=some (.cX ps)->∃more,H' b=some (.cX (ps++more))
noncomputable instance {H H':Hp}:CoeFun (aa H H') λ_=>∀b o,H b=some o->(h:hW o=true:=by rfl)->H' b=some o:=⟨λs=>@aa.get _ _ s⟩
theorem Gy{o:HO}(h:hW o=false):∃ps,o=.cX ps:=by
 cases o with
 | cX ps=>exact⟨ps,rfl⟩
 | _=>cases h
theorem aa.of{H H':Hp}(h:∀b o,H b=some o->H' b=some o):aa H H':=⟨λb o e _=>h b o e,λb ps e=>⟨#[],by rw[h b _ e];simp⟩⟩
theorem aa.refl(H:Hp):aa H H:=.of λ_ _ h=>h
theorem aa.trans{H H1 H2:Hp}(a:aa H H1)(b:aa H1 H2):aa H H2 :=
 ⟨λc o h n=>b.get c o (a.get c o h n) n,λc ps h=>by
  obtain⟨m1,e1⟩:=a.tb c ps h
  obtain⟨m2,e2⟩:=b.tb c _ e1
  exact⟨m1++m2,by rw[e2,qy]⟩⟩
theorem aa.any{H H':Hp}(e:aa H H'){l:Addr}{o:HO}(h:H l=some o):∃o',H' l=some o':=by
 cases n:hW o with
 | true=>exact⟨o,e.get l o h n⟩
 | false =>
  obtain⟨ps,rfl⟩:=Gy n
  obtain⟨m,q⟩:=e.tb l ps h
  exact⟨_,q⟩
theorem aa.free{H H':Hp}(e:aa H H'){l:Addr}(h:H' l=Option.none):H l=Option.none:=by
 cases q:H l with
 | none=>rfl
 | some o =>
  obtain⟨o',z⟩:=e.any q
  rw[z]at h
  cases h
inductive rA where
 | ext (φ:Addr->Heap->Prop)
 | lam (of oc:Obj) (c k:Addr)
noncomputable instance:Coe (Addr->Heap->Prop) rA:=⟨.ext⟩
noncomputable def Gz(H:Hp)(k:Addr):Prop:=∃ψ,H k=some (.ext ψ)/\∀h,ψ h->∃q,h.CodeRec (.ref k) q
noncomputable def iQ(of oc:Obj)(c p:Addr):Heap->Prop:=λh=>h.get? p=some of/\h.get? c=some oc
structure jm(H:Hp)(p:Addr)(of oc:Obj)(c k:Addr):Prop where
 fn:H p=some (.ext (iQ of oc c p))
 cell:H c=some (.own p)
 GA:Gz H k
noncomputable def oM(H:Hp)(p:Addr):rA->Prop
 | .ext φ=>H p=some (.ext (φ p))
 | .lam of oc c k=>jm H p of oc c k
theorem oM.mono{H H':Hp}{p:Addr}:∀{z:rA},oM H p z->(∀a o,H a=some o->(∀ws,o≠.lst ws)->hW o=true->H' a=some o)->oM H' p z
 | .ext φ,x,k=>k _ _ x (λws q=>by cases q) rfl
 | .lam of oc c k',x,k=>⟨k _ _ x.fn (λws q=>by cases q) rfl,k _ _ x.cell (λws q=>by cases q) rfl,let⟨ψ,e,h⟩:=x.GA;⟨ψ,k _ _ e (λws q=>by cases q) rfl,h⟩⟩
inductive D where
 | aj | bl (b:Bool) | int (i:Int) | str (x:Str)
 | lst (o:Bool) (xs:List D)
 | tup (xs:List D)
 | obj (C:Addr) (ns:List Str) (xs:List D)
 | fz (xs:List D)
 | bu (z:rA)
 deriving Inhabited
noncomputable def D.pl:D->Bool
 | .lst o xs=>!o&&xx xs
 | .tup xs=>xx xs
 | _=>true
where xx:List D->Bool
 | []=>true
 | d::ds=>d.pl&&xx ds
noncomputable def D.fr:D->Bool
 | .lst o xs=>o&&xy xs
 | .tup xs=>xy xs
 | .obj _ _ _=>false
 | .fz _=>false
 | _=>true
where xy:List D->Bool
 | []=>true
 | d::ds=>d.fr&&xy ds
noncomputable def D.sh:D->D
 | .lst _ xs=>.lst false (xB xs)
 | .tup xs=>.tup (xB xs)
 | d=>d
where xB:List D->List D
 | []=>[]
 | d::ds=>d.sh::xB ds
theorem Sl(ds:List D):D.pl.xx ds=ds.all D.pl:=by induction ds with | nil=>rfl | cons d ds ih=>simp[D.pl.xx,ih]
theorem Sm(ds:List D):D.fr.xy ds=ds.all D.fr:=by induction ds with | nil=>rfl | cons d ds ih=>simp[D.fr.xy,ih]
theorem Sn(ds:List D):D.sh.xB ds=ds.map D.sh:=by induction ds with | nil=>rfl | cons d ds ih=>simp[D.sh.xB,ih]
theorem gb(o:Bool)(xs:List D):(D.lst o xs).pl=(!o&&xs.all D.pl):=by simp[D.pl,Sl]
theorem ki(xs:List D):(D.tup xs).pl=xs.all D.pl:=by simp[D.pl,Sl]
theorem e7(o:Bool)(xs:List D):(D.lst o xs).fr=(o&&xs.all D.fr):=by simp[D.fr,Sm]
theorem mY(xs:List D):(D.tup xs).fr=xs.all D.fr:=by simp[D.fr,Sm]
theorem dX(o:Bool)(xs:List D):(D.lst o xs).sh=.lst false (xs.map D.sh):=by simp[D.sh,Sn]
theorem kj(xs:List D):(D.tup xs).sh=.tup (xs.map D.sh):=by simp[D.sh,Sn]
inductive R(F H:Hp):List D->List V->List Addr->Prop
 | nil:R F H [] [] []
 | aj {ds vs B}:R F H ds vs B->R F H (.aj::ds) (.aj::vs) B
 | bl {b ds vs B}:R F H ds vs B->R F H (.bl b::ds) (.bl b::vs) B
 | int {i ds vs B}:R F H ds vs B->R F H (.int i::ds) (.int i::vs) B
 | str {x ds vs B}:R F H ds vs B->R F H (.str x::ds) (.str x::vs) B
 | shr {p ws xs ds vs B}:F p=some (.lst ws)->R F H xs ws []->R F H ds vs B->R F H (.lst false xs::ds) (.ref p::vs) B
 | own {p ws xs A ds vs B}:H p=some (.lst ws)->F p=none->R F H xs ws A->R F H ds vs B->R F H (.lst true xs::ds) (.ref p::vs) (p::(A++B))
 | tup {p ws xs A ds vs B}:H p=some (.tup ws)->R F H xs ws A->R F H ds vs B->R F H (.tup xs::ds) (.ref p::vs) (A++B)
 | obj {p C dx ns ws xs ds vs B}:H p=some (.ins C dx (ns.zip ws))->ns.length=ws.length->R F H xs ws []->R F H ds vs B->R F H (.obj C ns xs::ds) (.ref p::vs) B
 | fz {p o ws xs ds vs B}:F p=some (.bt o (.lst ws))->R F H xs ws []->R F H ds vs B->R F H (.fz xs::ds) (.ref p::vs) B
 | bu {p z ds vs B}:oM H p z->R F H ds vs B->R F H (.bu z::ds) (.ref p::vs) B
inductive S(F H:Hp):List D->List V->Prop
 | nil:S F H [] []
 | aj {ds vs}:S F H ds vs->S F H (.aj::ds) (.aj::vs)
 | bl {b ds vs}:S F H ds vs->S F H (.bl b::ds) (.bl b::vs)
 | int {i ds vs}:S F H ds vs->S F H (.int i::ds) (.int i::vs)
 | str {x ds vs}:S F H ds vs->S F H (.str x::ds) (.str x::vs)
 | shr {p ws xs ds vs}:F p=some (.lst ws)->R F H xs ws []->S F H ds vs->S F H (.lst false xs::ds) (.ref p::vs)
 | own {p ws xs ds vs}:H p=some (.lst ws)->S F H xs ws->S F H ds vs->S F H (.lst true xs::ds) (.ref p::vs)
 | tup {p ws xs ds vs}:H p=some (.tup ws)->S F H xs ws->S F H ds vs->S F H (.tup xs::ds) (.ref p::vs)
 | obj {p C dx ns ws xs ds vs}:H p=some (.ins C dx (ns.zip ws))->ns.length=ws.length->R F H xs ws []->S F H ds vs->S F H (.obj C ns xs::ds) (.ref p::vs)
 | fz {p o ws xs ds vs}:F p=some (.bt o (.lst ws))->R F H xs ws []->S F H ds vs->S F H (.fz xs::ds) (.ref p::vs)
 | bu {p z ds vs}:oM H p z->S F H ds vs->S F H (.bu z::ds) (.ref p::vs)
section
variable{F F' H H':Hp}{d:D}{ds es:List D}{v:V}{vs ws:List V}{A B:List Addr}
theorem R.length(r:R F H ds vs A):ds.length=vs.length:=by
 induction r<;>simp_all
theorem S.length(r:S F H ds vs):ds.length=vs.length:=by
 induction r<;>simp_all
theorem R.cons(r:R F H [d] [v] A)(q:R F H ds vs B):R F H (d::ds) (v::vs) (A++B):=by
 cases r with
 | aj r=>cases r;exact .aj q
 | bl r=>cases r;exact .bl q
 | int r=>cases r;exact .int q
 | str r=>cases r;exact .str q
 | shr h x r=>cases r;exact .shr h x q
 | own h f x r=>cases r;simpa using R.own h f x q
 | tup h x r=>cases r;simpa using R.tup h x q
 | obj h l x r=>cases r;exact .obj h l x q
 | fz h x r=>cases r;exact .fz h x q
 | bu h r=>cases r;exact .bu h q
theorem R.cU(r:R F H (d::ds) vs A):∃v bS A1 A2,vs=v::bS/\A=A1++A2/\R F H [d] [v] A1/\R F H ds bS A2:=by
 cases r with
 | aj r=>exact⟨_,_,[],_,rfl,rfl,.aj .nil,r⟩
 | bl r=>exact⟨_,_,[],_,rfl,rfl,.bl .nil,r⟩
 | int r=>exact⟨_,_,[],_,rfl,rfl,.int .nil,r⟩
 | str r=>exact⟨_,_,[],_,rfl,rfl,.str .nil,r⟩
 | shr h x r=>exact⟨_,_,[],_,rfl,rfl,.shr h x .nil,r⟩
 | @own p _ _ A1 _ _ B1 h f x r=>exact⟨_,_,p::A1,B1,rfl,rfl,by simpa using R.own h f x .nil,r⟩
 | @tup p _ _ A1 _ _ B1 h x r=>exact⟨_,_,A1,B1,rfl,rfl,by simpa using R.tup h x .nil,r⟩
 | obj h l x r=>exact⟨_,_,[],_,rfl,rfl,.obj h l x .nil,r⟩
 | fz h x r=>exact⟨_,_,[],_,rfl,rfl,.fz h x .nil,r⟩
 | bu h r=>exact⟨_,_,[],_,rfl,rfl,.bu h .nil,r⟩
theorem S.cons(r:S F H [d] [v])(q:S F H ds vs):S F H (d::ds) (v::vs):=by
 cases r with
 | aj r=>exact .aj q
 | bl r=>exact .bl q
 | int r=>exact .int q
 | str r=>exact .str q
 | shr h x r=>exact .shr h x q
 | own h x r=>exact .own h x q
 | tup h x r=>exact .tup h x q
 | obj h l x r=>exact .obj h l x q
 | fz h x r=>exact .fz h x q
 | bu h r=>exact .bu h q
theorem S.cU(r:S F H (d::ds) vs):∃v bS,vs=v::bS/\S F H [d] [v]/\S F H ds bS:=by
 cases r with
 | aj r=>exact⟨_,_,rfl,.aj .nil,r⟩
 | bl r=>exact⟨_,_,rfl,.bl .nil,r⟩
 | int r=>exact⟨_,_,rfl,.int .nil,r⟩
 | str r=>exact⟨_,_,rfl,.str .nil,r⟩
 | shr h x r=>exact⟨_,_,rfl,.shr h x .nil,r⟩
 | own h x r=>exact⟨_,_,rfl,.own h x .nil,r⟩
 | tup h x r=>exact⟨_,_,rfl,.tup h x .nil,r⟩
 | obj h l x r=>exact⟨_,_,rfl,.obj h l x .nil,r⟩
 | fz h x r=>exact⟨_,_,rfl,.fz h x .nil,r⟩
 | bu h r=>exact⟨_,_,rfl,.bu h .nil,r⟩
theorem R.append:∀{ds:List D} {vs:List V} {A:List Addr},R F H ds vs A->R F H es ws B->R F H (ds++es) (vs++ws) (A++B)
 | [],_,_,r,q=>by cases r;exact q
 | d::ds,_,_,r,q=>by
  obtain⟨v,bS,A1,A2,rfl,rfl,h1,h2⟩:=r.cU
  simpa using h1.cons (R.append h2 q)
theorem S.append:∀{ds:List D} {vs:List V},S F H ds vs->S F H es ws->S F H (ds++es) (vs++ws)
 | [],_,r,q=>by cases r;exact q
 | d::ds,_,r,q=>by
  obtain⟨v,bS,rfl,h1,h2⟩:=r.cU
  exact h1.cons (S.append h2 q)
theorem R.split:∀{ds:List D} {vs:List V} {A:List Addr},R F H (ds++es) vs A->∃v1 v2 A1 A2,vs=v1++v2/\A=A1++A2/\R F H ds v1 A1/\R F H es v2 A2
 | [],vs,A,r=>⟨[],vs,[],A,rfl,rfl,.nil,r⟩
 | d::ds,_,_,r=>by
  obtain⟨v,bS,A1,A2,rfl,rfl,h1,h2⟩:=R.cU (ds:=ds++es) r
  obtain⟨v1,v2,B1,B2,rfl,rfl,h3,h4⟩:=R.split (ds:=ds) h2
  exact⟨v::v1,v2,A1++B1,B2,rfl,by simp,h1.cons h3,h4⟩
theorem R.get:∀{ds:List D} {vs:List V} {A:List Addr} {i:Nat},R F H ds vs A->ds[i]?=some d->∃v A1,vs[i]?=some v/\R F H [d] [v] A1/\A1 ⊆ A
 | [],_,_,_,_,e=>by simp at e
 | d'::ds,_,_,i,r,e=>by
  obtain⟨v,bS,A1,A2,rfl,rfl,h1,h2⟩:=r.cU
  cases i with
  | zero=>simp at e;subst e;exact⟨v,A1,rfl,h1,by simp⟩
  | succ i =>
   obtain⟨w,B1,e2,q,sb⟩:=R.get (ds:=ds) (i:=i) h2 (by simpa using e)
   exact⟨w,B1,by simpa using e2,q,λx hx=>dA _ (sb hx)⟩
theorem S.get:∀{ds:List D} {vs:List V} {i:Nat},S F H ds vs->ds[i]?=some d->∃v,vs[i]?=some v/\S F H [d] [v]
 | [],_,_,_,e=>by simp at e
 | d'::ds,_,i,r,e=>by
  obtain⟨v,bS,rfl,h1,h2⟩:=r.cU
  cases i with
  | zero=>simp at e;subst e;exact⟨v,rfl,h1⟩
  | succ i =>
   obtain⟨w,e2,q⟩:=S.get (ds:=ds) (i:=i) h2 (by simpa using e)
   exact⟨w,by simpa using e2,q⟩
theorem S.get':∀{ds:List D} {vs:List V} {i:Nat},S F H ds vs->vs[i]?=some v->∃d,ds[i]?=some d/\S F H [d] [v]
 | [],_,_,r,e=>by cases r;simp at e
 | d'::ds,_,i,r,e=>by
  obtain⟨v,bS,rfl,h1,h2⟩:=r.cU
  cases i with
  | zero=>simp at e;subst e;exact⟨d',rfl,h1⟩
  | succ i =>
   obtain⟨w,e2,q⟩:=S.get' (ds:=ds) (i:=i) h2 (by simpa using e)
   exact⟨w,by simpa using e2,q⟩
theorem S.take:∀{ds:List D} {vs:List V} (n:Nat),S F H ds vs->S F H (ds.take n) (vs.take n)
 | _,_,0,r=>by simpa using S.nil
 | [],_,n+1,r=>by cases r;exact .nil
 | d::ds,_,n+1,r=>by
  obtain⟨v,bS,rfl,h1,h2⟩:=r.cU
  exact h1.cons (S.take n h2)
theorem S.drop:∀{ds:List D} {vs:List V} (n:Nat),S F H ds vs->S F H (ds.drop n) (vs.drop n)
 | _,_,0,r=>by simpa using r
 | [],_,n+1,r=>by cases r;exact .nil
 | d::ds,_,n+1,r=>by
  obtain⟨v,bS,rfl,h1,h2⟩:=r.cU
  exact S.drop n h2
theorem gH{p:Addr}{o:HO}(h:Rd F p o)(s:aa F F')(n:hW o=true:=by rfl):Rd F' p o:=by
 rcases h with h | ⟨u,h⟩
 ·exact .inl (s.get _ _ h n)
 ·exact .inr ⟨u,s _ _ h⟩
theorem R.s(r:R F H ds vs A):S F H ds vs:=by
 induction r with
 | nil=>exact .nil
 | aj _ ih=>exact .aj ih
 | bl _ ih=>exact .bl ih
 | int _ ih=>exact .int ih
 | str _ ih=>exact .str ih
 | shr h x _ _ ih=>exact .shr h x ih
 | own h f _ _ i1 i2=>exact .own h i1 i2
 | tup h _ _ i1 i2=>exact .tup h i1 i2
 | obj h l x _ _ ih=>exact .obj h l x ih
 | fz h x _ _ ih=>exact .fz h x ih
 | bu h _ ih=>exact .bu h ih
structure fm(W:List Addr)(H H':Hp):Prop where
 get:∀a o,H a=some o->a ∉ W->(h:hW o=true:=by rfl)->H' a=some o
noncomputable instance {W:List Addr} {H H':Hp}:CoeFun (fm W H H') λ_=>∀a o,H a=some o->a ∉ W->(h:hW o=true:=by rfl)->H' a=some o:=⟨λs=>@fm.get _ _ _ s⟩
noncomputable def gg(W:List Addr)(H:Hp):Prop:=∀a∈W,∃ws,H a=some (.lst ws)
theorem R.keep{W:List Addr}(hf:aa F F')(hb:fm W H H')(hl:gg W H)(r:R F H ds vs A)(hn:∀a∈A,F' a=none)(hd:∀a∈A,a ∉ W):R F' H' ds vs A:=by
 induction r with
 | nil=>exact .nil
 | aj _ ih=>exact .aj (ih hn hd)
 | bl _ ih=>exact .bl (ih hn hd)
 | int _ ih=>exact .int (ih hn hd)
 | str _ ih=>exact .str (ih hn hd)
 | shr h x _ i1 ih=>exact .shr (hf _ _ h) (i1 (by simp) (by simp)) (ih hn hd)
 | own h f _ _ i1 i2 =>
  refine .own (hb _ _ h (hd _ (by simp))) (hn _ (by simp)) (i1 (λa ha=>hn a ?_) λa ha=>hd a ?_) (i2 (λa ha=>hn a ?_) λa ha=>hd a ?_)<;>simp[ha]
 | @tup p ws _ _ _ _ _ h _ _ i1 i2 =>
  refine .tup (hb _ _ h λz=>?_) (i1 (λa ha=>hn a ?_) λa ha=>hd a ?_) (i2 (λa ha=>hn a ?_) λa ha=>hd a ?_)<;>try simp[ha]
  obtain⟨q,e⟩:=hl _ z
  rw[h]at e;cases e
 | obj h l x _ i1 ih =>
  refine .obj (hb _ _ h λz=>?_) l (i1 (by simp) (by simp)) (ih hn hd)
  obtain⟨q,e⟩:=hl _ z
  rw[h]at e;cases e
 | fz h x _ i1 ih=>exact .fz (hf _ _ h) (i1 (by simp) (by simp)) (ih hn hd)
 | bu h _ ih =>
  exact .bu (h.mono λa o e n t=>hb.get a o e (λz=>by
   obtain⟨q,e'⟩:=hl _ z
   rw[e]at e';cases e';exact n _ rfl) t) (ih hn hd)
theorem fm.same(h:aa H H'):fm [] H H':=⟨λa o e _ n=>h.get a o e n⟩
theorem gg.nil:gg [] H:=λa h=>absurd h (by simp)
theorem R.grow(hf:aa F F')(hb:aa H H')(r:R F H ds vs A)(hn:∀a∈A,F' a=none):R F' H' ds vs A :=
 r.keep hf (fm.same hb) gg.nil hn (by simp)
theorem R.shared(hf:aa F F')(hb:aa H H')(r:R F H ds vs []):R F' H' ds vs []:=r.grow hf hb (by simp)
theorem S.mono(hf:aa F F')(hb:aa H H')(r:S F H ds vs):S F' H' ds vs:=by
 induction r with
 | nil=>exact .nil
 | aj _ ih=>exact .aj ih
 | bl _ ih=>exact .bl ih
 | int _ ih=>exact .int ih
 | str _ ih=>exact .str ih
 | shr h x _ ih=>exact .shr (hf _ _ h) (x.shared hf hb) ih
 | own h _ _ i1 i2=>exact .own (hb _ _ h) i1 i2
 | tup h _ _ i1 i2=>exact .tup (hb _ _ h) i1 i2
 | obj h l x _ ih=>exact .obj (hb _ _ h) l (x.shared hf hb) ih
 | fz h x _ ih=>exact .fz (hf _ _ h) (x.shared hf hb) ih
 | bu h _ ih=>exact .bu (h.mono λa o e _ t=>hb.get a o e t) ih
theorem S.r(s:S F H ds vs)(p:ds.all D.pl=true):R F H ds vs []:=by
 induction s with
 | nil=>exact .nil
 | aj _ ih=>exact .aj (ih (by simpa[D.pl]using p))
 | bl _ ih=>exact .bl (ih (by simpa[D.pl]using p))
 | int _ ih=>exact .int (ih (by simpa[D.pl]using p))
 | str _ ih=>exact .str (ih (by simpa[D.pl]using p))
 | shr h x _ ih=>exact .shr h x (ih (by simp[gb]at p;simpa using p.2))
 | own h _ _ i1 i2=>simp[gb]at p
 | tup h _ _ i1 i2 =>
  rw[di,ki,dB]at p
  simpa using R.tup h (i1 p.1) (i2 p.2)
 | obj h l x _ ih=>exact .obj h l x (ih (by simpa[D.pl]using p))
 | fz h x _ ih=>exact .fz h x (ih (by simpa[D.pl]using p))
 | bu h _ ih=>exact .bu h (ih (by simpa[D.pl]using p))
theorem R.pl(r:R F H ds vs []):ds.all D.pl=true:=by
 generalize e:([]:List Addr)=A at r
 induction r with
 | nil=>rfl
 | aj _ ih=>simp[D.pl];simpa using ih e
 | bl _ ih=>simp[D.pl];simpa using ih e
 | int _ ih=>simp[D.pl];simpa using ih e
 | str _ ih=>simp[D.pl];simpa using ih e
 | shr h x _ i1 ih=>simp only[di,gb,i1 rfl,ih e];rfl
 | own h f _ _ i1 i2=>cases e
 | tup h _ _ i1 i2 =>
  obtain⟨e1,e2⟩:=AG.mp e.symm
  simp only[di,ki,i1 e1.symm,i2 e2.symm];rfl
 | obj h l x _ i1 ih=>simp[D.pl];simpa using ih e
 | fz h x _ i1 ih=>simp[D.pl];simpa using ih e
 | bu h _ ih=>simp[D.pl];simpa using ih e
theorem D.BI:∀{d:D},d.pl=true->d.sh=d
 | .aj,_=>rfl
 | .bl _,_=>rfl
 | .int _,_=>rfl
 | .str _,_=>rfl
 | .obj _ _ _,_=>rfl
 | .fz _,_=>rfl
 | .bu _,_=>rfl
 | .lst o xs,h=>by
  rw[gb,dB]at h
  have:∀(l:List D),(∀x∈l,x∈xs)->l.all D.pl=true->l.map D.sh=l:=by
   intro l hl hp
   induction l with
   | nil=>rfl
   | cons x l ih =>
    simp only[di,dB]at hp
    have hx:x∈xs:=hl x (by simp)
    rw[dh,D.BI hp.1,ih (λy hy=>hl y (by simp[hy])) hp.2]
  rw[dX,this xs (λ_ h=>h) h.2]
  cases o<;>simp_all
 | .tup xs,h=>by
  rw[ki]at h
  have:∀(l:List D),(∀x∈l,x∈xs)->l.all D.pl=true->l.map D.sh=l:=by
   intro l hl hp
   induction l with
   | nil=>rfl
   | cons x l ih =>
    simp only[di,dB]at hp
    have hx:x∈xs:=hl x (by simp)
    rw[dh,D.BI hp.1,ih (λy hy=>hl y (by simp[hy])) hp.2]
  rw[kj,this xs (λ_ h=>h) h]
termination_by d=>sizeOf d
theorem km{l:List D}(h:l.all D.pl=true):l.map D.sh=l:=by
 induction l with
 | nil=>rfl
 | cons x l ih =>
  simp only[di,dB]at h
  rw[dh,D.BI h.1,ih h.2]
theorem S.frozen(e:aa F H)(s:S F H ds vs):R H H (ds.map D.sh) vs []:=by
 induction s with
 | nil=>exact .nil
 | aj _ ih=>exact .aj ih
 | bl _ ih=>exact .bl ih
 | int _ ih=>exact .int ih
 | str _ ih=>exact .str ih
 | shr h x _ ih =>
  rw[dh,dX,km x.pl]
  exact .shr (e _ _ h) (x.shared e (aa.refl _)) ih
 | own h _ _ i1 i2=>rw[dh,dX];exact .shr h i1 i2
 | tup h _ _ i1 i2=>rw[dh,kj];simpa using R.tup h i1 i2
 | obj h l x _ ih=>exact .obj h l (x.shared e (aa.refl _)) ih
 | fz h x _ ih=>exact .fz (e _ _ h) (x.shared e (aa.refl _)) ih
 | bu h _ ih=>exact .bu h ih
noncomputable def bt(F H:Hp)(A:List Addr):Hp:=λa=>if a∈A then H a else F a
theorem ia(e:aa F H):aa F (bt F H A):=⟨λa o h n=>by unfold bt;split;exact e.get _ _ h n;exact h,λa ps h=>by unfold bt;split;exact e.tb _ _ h;exact⟨#[],by rw[h];simp⟩⟩
theorem oN(e:aa F H):aa (bt F H A) H:=⟨λa o h n=>by unfold bt at h;split at h;exact h;exact e.get _ _ h n,λa ps h=>by unfold bt at h;split at h;exact⟨#[],by rw[h];simp⟩;exact e.tb _ _ h⟩
theorem oO{a:Addr}(h:a ∉ A):bt F H A a=F a:=by unfold bt;rw[if_neg h]
theorem cC4{a:Addr}(h:a∈A):bt F H A a=H a:=by unfold bt;rw[if_pos h]
theorem R.bt(e:aa F H)(r:R F H ds vs A):∀A',A ⊆ A'->R (L3.bt F H A') H (ds.map D.sh) vs []:=by
 induction r with
 | nil=>exact λ_ _=>.nil
 | aj _ ih=>exact λA' h=>.aj (ih A' h)
 | bl _ ih=>exact λA' h=>.bl (ih A' h)
 | int _ ih=>exact λA' h=>.int (ih A' h)
 | str _ ih=>exact λA' h=>.str (ih A' h)
 | shr h x _ i1 ih =>
  intro A' hA
  rw[dh,dX,km x.pl]
  exact .shr (ia e _ _ h) (x.shared (ia e) (aa.refl _)) (ih A' hA)
 | own h f _ _ i1 i2 =>
  intro A' hA
  rw[dh,dX]
  exact .shr ((cC4 (hA (by simp))).trans h) (i1 A' λa ha=>hA (by simp[ha])) (i2 A' λa ha=>hA (by simp[ha]))
 | tup h _ _ i1 i2 =>
  intro A' hA
  rw[dh,kj]
  simpa using R.tup h (i1 A' λa ha=>hA (by simp[ha])) (i2 A' λa ha=>hA (by simp[ha]))
 | obj h l x _ i1 ih=>exact λA' hA=>.obj h l (x.shared (ia e) (aa.refl _)) (ih A' hA)
 | fz h x _ i1 ih=>exact λA' hA=>.fz (ia e _ _ h) (x.shared (ia e) (aa.refl _)) (ih A' hA)
 | bu h _ ih=>exact λA' hA=>.bu h (ih A' hA)
theorem R.lists(r:R F H ds vs A):∀a∈A,(∃ws,H a=some (.lst ws))/\F a=none:=by
 induction r with
 | nil=>simp
 | aj _ ih=>exact ih
 | bl _ ih=>exact ih
 | int _ ih=>exact ih
 | str _ ih=>exact ih
 | shr h x _ i1 ih=>exact ih
 | own h f _ _ i1 i2 =>
  intro a ha
  rcases cE.mp ha with rfl | ha
  ·exact⟨⟨_,h⟩,f⟩
  ·exact(cO.mp ha).elim (i1 a) (i2 a)
 | tup h _ _ i1 i2=>exact λa ha=>(cO.mp ha).elim (i1 a) (i2 a)
 | obj h l x _ i1 ih=>exact ih
 | fz h x _ i1 ih=>exact ih
 | bu h _ ih=>exact ih
theorem R.rB(r:R F H ds vs A)(hd:ds.all D.fr=true)(e:aa F' F):R F' H ds vs A:=by
 induction r with
 | nil=>exact .nil
 | aj _ ih=>exact .aj (ih (by simpa[D.fr]using hd))
 | bl _ ih=>exact .bl (ih (by simpa[D.fr]using hd))
 | int _ ih=>exact .int (ih (by simpa[D.fr]using hd))
 | str _ ih=>exact .str (ih (by simpa[D.fr]using hd))
 | shr h x _ i1 ih=>simp[e7]at hd
 | own h f _ _ i1 i2 =>
  rw[di,e7,dB,i8]at hd
  exact .own h (e.free f) (i1 hd.1) (i2 hd.2)
 | tup h _ _ i1 i2 =>
  rw[di,mY,dB]at hd
  exact .tup h (i1 hd.1) (i2 hd.2)
 | obj h l x _ i1 ih=>simp[D.fr]at hd
 | fz h x _ i1 ih=>simp[D.fr]at hd
 | bu h _ ih=>exact .bu h (ih (by simpa[D.fr]using hd))
theorem R.inj(r:R F H ds vs A):∀{B:List Addr},R F H ds vs B->A=B:=by
 induction r with
 | nil=>intro B q;cases q;rfl
 | aj _ ih=>intro B q;cases q with | aj q=>exact ih q
 | bl _ ih=>intro B q;cases q with | bl q=>exact ih q
 | int _ ih=>intro B q;cases q with | int q=>exact ih q
 | str _ ih=>intro B q;cases q with | str q=>exact ih q
 | shr h x _ i1 ih=>intro B q;cases q with | shr _ _ q=>exact ih q
 | own h f _ _ i1 i2 =>
  intro B q
  cases q with
  | own h' f' x' q =>
   rw[h]at h';cases h'
   rw[i1 x',i2 q]
 | tup h _ _ i1 i2 =>
  intro B q
  cases q with
  | tup h' x' q =>
   rw[h]at h';cases h'
   rw[i1 x',i2 q]
 | obj h l x _ i1 ih=>intro B q;cases q with | obj _ _ _ q=>exact ih q
 | fz h x _ i1 ih=>intro B q;cases q with | fz _ _ q=>exact ih q
 | bu h _ ih=>intro B q;cases q with | bu _ q=>exact ih q
theorem R.perm{ps qs:List (D × V)}(hp:ps.Perm qs):∀{A:List Addr},R F H (ps.map (·.1)) (ps.map (·.2)) A->∃A',R F H (qs.map (·.1)) (qs.map (·.2)) A'/\A.Perm A':=by
 induction hp with
 | nil=>exact λr=>⟨_,r,.refl _⟩
 | cons x _ ih =>
  intro A r
  obtain⟨v,bS,A1,A2,e,rfl,h1,h2⟩:=R.cU r
  obtain⟨rfl,rfl⟩:=kP e
  obtain⟨A',r',p⟩:=ih h2
  exact⟨A1++A',h1.cons r',p.append_left _⟩
 | swap x y l =>
  intro A r
  obtain⟨v,bS,A1,A2,e,rfl,h1,h2⟩:=R.cU r
  obtain⟨rfl,rfl⟩:=kP e
  obtain⟨v2,So,B1,B2,e,rfl,h3,h4⟩:=R.cU h2
  obtain⟨rfl,rfl⟩:=kP e
  exact⟨B1++(A1++B2),h3.cons (h1.cons h4),by rw[<-dM,<- dM];exact mL.append_right _⟩
 | trans _ _ i1 i2 =>
  intro A r
  obtain⟨A',r',p⟩:=i1 r
  obtain⟨A2,r2,p2⟩:=i2 r'
  exact⟨A2,r2,p.trans p2⟩
noncomputable def Full(F H:Hp):Prop:=∀a o,H a=some o->(∀ws,o≠.lst ws)->F a=some o
theorem Full.refl(H:Hp):Full H H:=λ_ _ h _=>h
theorem R.full(hF:Full F H)(hs:aa F H')(r:R F H ds vs A)(e:A=[]):R F H' ds vs []:=by
 induction r with
 | nil=>exact .nil
 | aj _ ih=>exact .aj (ih e)
 | bl _ ih=>exact .bl (ih e)
 | int _ ih=>exact .int (ih e)
 | str _ ih=>exact .str (ih e)
 | shr h x _ i1 ih=>exact .shr h (i1 rfl) (ih e)
 | own h f _ _ i1 i2=>cases e
 | tup h _ _ i1 i2 =>
  obtain⟨e1,e2⟩:=AG.mp e
  exact R.tup (A:=[]) (B:=[]) (hs _ _ (hF _ _ h (by intro ws z;cases z))) (i1 e1) (i2 e2)
 | obj h l x _ i1 ih=>exact .obj (hs _ _ (hF _ _ h (by intro ws z;cases z))) l (i1 rfl) (ih e)
 | fz h x _ i1 ih=>exact .fz h (i1 rfl) (ih e)
 | bu h _ ih=>exact .bu (h.mono λa o e n t=>hs.get a o (hF a o e n) t) (ih e)
open Classical in
noncomputable def snap(F H:Hp):Hp:=λa=>if(∃o,H a=some o/\∀ws,o≠.lst ws)then H a else F a
theorem rC:Full (snap F H) H:=λa o h n=>by unfold snap;rw[if_pos ⟨o,h,n⟩];exact h
theorem oQ(e:aa F H):aa F (snap F H):=⟨λa o h n=>by
 unfold snap;split
 ·exact e.get a o h n
 ·exact h,λa ps h=>by
 unfold snap;split
 ·exact e.tb a ps h
 ·exact⟨#[],by rw[h];simp⟩⟩
theorem cc5(e:aa F H):aa (snap F H) H:=⟨λa o h n=>by
 unfold snap at h;split at h
 ·exact h
 ·exact e.get a o h n,λa ps h=>by
 unfold snap at h;split at h
 ·exact⟨#[],by rw[h];simp⟩
 ·exact e.tb a ps h⟩
theorem bV3(e:aa F H){a:Addr}{ws:List V}(h:snap F H a=some (.lst ws)):F a=some (.lst ws):=by
 unfold snap at h;split at h
 ·rename_i z
  obtain⟨o,h1,h2⟩:=z
  rw[h]at h1;exact absurd (cP h1).symm (h2 ws)
 ·exact h
theorem b73{a:Addr}{ws:List V}(h:H a=some (.lst ws))(n:F a=none):snap F H a=none:=by
 unfold snap;split
 ·rename_i z
  obtain⟨o,h1,h2⟩:=z
  rw[h]at h1;exact absurd (cP h1).symm (h2 ws)
 ·exact n
end
end L3
namespace L3
open PySem L2
noncomputable abbrev Dl:=List (Option D)
inductive RS(F H:Hp):Dl->St->List Addr->Prop
 | nil:RS F H [] [] []
 | aj {δ σ o C}:RS F H δ σ C->RS F H (none::δ) (o::σ) C
 | fC {d v A δ σ C}:R F H [d] [v] A->RS F H δ σ C->RS F H (some d::δ) (some v::σ) (A++C)
theorem gI{A B:List Addr}:(A++B).Nodup↔A.Nodup/\B.Nodup/\∀a∈A,a ∉ B:=by
 rw[List.nodup_append]
 constructor
 ·rintro⟨h1,h2,h3⟩;exact⟨h1,h2,λa ha hb=>h3 a ha a hb rfl⟩
 ·rintro⟨h1,h2,h3⟩;exact⟨h1,h2,λa ha b hb e=>h3 a ha (e ▸ hb)⟩
section
variable{F F' H H':Hp}{d:D}{v:V}{δ:Dl}{σ:St}{A C:List Addr}{i:Nat}
theorem RS.length(r:RS F H δ σ C):δ.length=σ.length:=by induction r<;>simp_all
theorem RS.pick:∀{δ:Dl} {σ:St} {C:List Addr} {i:Nat},RS F H δ σ C->δ[i]?=some (some d)->∃v A C',σ[i]?=some (some v)/\R F H [d] [v] A/\RS F H (δ.set i none) σ C'/\C.Perm (A++C')
 | _,_,_,_,.nil,e=>by simp at e
 | _,_,_,i,.aj r,e=>by
  cases i with
  | zero=>simp at e
  | succ i =>
   obtain⟨v,A,C',e1,h1,h2,p⟩:=RS.pick r (by simpa using e)
   exact⟨v,A,C',by simpa using e1,h1,.aj h2,p⟩
 | _,_,_,i,.fC (A:=A0) (C:=C0) h r,e=>by
  cases i with
  | zero =>
   simp at e;subst e
   exact⟨_,A0,C0,rfl,h,.aj r,.refl _⟩
  | succ i =>
   obtain⟨v,A,C',e1,h1,h2,p⟩:=RS.pick r (by simpa using e)
   refine⟨v,A,A0++C',by simpa using e1,h1,.fC h h2,(p.append_left A0).trans ?_⟩
   rw[<-dM,<- dM]
   exact mL.append_right _
theorem RS.fill:∀{δ:Dl} {σ:St} {C:List Addr} {i:Nat},RS F H δ σ C->δ[i]?=some none->σ[i]?=some (some v)->R F H [d] [v] A->∃C',RS F H (δ.set i (some d)) σ C'/\C'.Perm (A++C)
 | _,_,_,_,.nil,e,_,_=>by simp at e
 | _,_,_,i,.aj r,e,e2,h=>by
  cases i with
  | zero=>simp at e2;subst e2;exact⟨_,.fC h r,.refl _⟩
  | succ i =>
   obtain⟨C',h1,p⟩:=RS.fill r (by simpa using e) (by simpa using e2) h
   exact⟨C',.aj h1,p⟩
 | _,_,_,i,.fC (A:=A0) (C:=C0) h0 r,e,e2,h=>by
  cases i with
  | zero=>simp at e
  | succ i =>
   obtain⟨C',h1,p⟩:=RS.fill r (by simpa using e) (by simpa using e2) h
   refine⟨A0++C',.fC h0 h1,(p.append_left A0).trans ?_⟩
   rw[<-dM,<- dM]
   exact mL.append_right _
theorem RS.drop:∀{δ:Dl} {σ:St} {C:List Addr} (i:Nat),RS F H δ σ C->∃C',RS F H (δ.set i none) σ C'/\C'.Sublist C
 | _,_,_,_,.nil=>⟨_,.nil,.refl _⟩
 | _,_,_,i,.aj r=>by
  cases i with
  | zero=>exact⟨_,.aj r,.refl _⟩
  | succ i=>obtain⟨C',h,s⟩:=RS.drop i r;exact⟨C',.aj h,s⟩
 | _,_,_,i,.fC (A:=A0) h0 r=>by
  cases i with
  | zero=>exact⟨_,.aj r,List.sublist_append_right _ _⟩
  | succ i=>obtain⟨C',h,s⟩:=RS.drop i r;exact⟨_,.fC h0 h,(Qm A0).append s⟩
theorem RS.rD:∀{δ:Dl} {σ:St} {C:List Addr} {i:Nat} (o:Option V),RS F H δ σ C->(δ[i]?=some none\/δ[i]?=none)->RS F H δ (σ.set i o) C
 | _,_,_,_,_,.nil,_=>.nil
 | _,_,_,i,_,.aj r,e=>by
  cases i with
  | zero=>exact .aj r
  | succ i=>exact .aj (RS.rD _ r (by simpa using e))
 | _,_,_,i,_,.fC h0 r,e=>by
  cases i with
  | zero=>simp at e
  | succ i=>exact .fC h0 (RS.rD _ r (by simpa using e))
theorem RS.keep{W:List Addr}(hf:aa F F')(hb:fm W H H')(hl:gg W H)(r:RS F H δ σ C)(hn:∀a∈C,F' a=none)(hd:∀a∈C,a ∉ W):RS F' H' δ σ C:=by
 induction r with
 | nil=>exact .nil
 | aj _ ih=>exact .aj (ih hn hd)
 | fC h _ ih=>exact .fC (h.keep hf hb hl (λa ha=>hn a (by simp[ha])) λa ha=>hd a (by simp[ha])) (ih (λa ha=>hn a (by simp[ha])) λa ha=>hd a (by simp[ha]))
theorem RS.lists(r:RS F H δ σ C):∀a∈C,(∃ws,H a=some (.lst ws))/\F a=none:=by
 induction r with
 | nil=>simp
 | aj _ ih=>exact ih
 | fC h _ ih=>exact λa ha=>(cO.mp ha).elim (h.lists a) (ih a)
end
structure Bs where
 H0:Hp
 F0:Hp
structure ai(B:Bs)(F H:Hp)(σ:St)(δ:Dl)(ts:List (D × V)):Prop where
 ext:aa F H
 b1:aa B.H0 H
 b2:aa B.F0 F
 b3:∀a ws,F a=some (.lst ws)->B.F0 a=some (.lst ws)\/B.H0 a=none
 own:∃A C,R F H (ts.map (·.1)) (ts.map (·.2)) A/\RS F H δ σ C/\(A++C).Nodup/\∀a∈A++C,B.H0 a=none
section
variable{B:Bs}{F F' H H':Hp}{d:D}{v:V}{δ:Dl}{σ:St}{ts ps:List (D × V)}{A C W:List Addr}{i:Nat}{p:Addr}{xs ys:List D}{vs ws:List V}
theorem ai.look(c:ai B F H σ δ ts)(e:δ[i]?=some (some d)):∃v,σ[i]?=some (some v)/\S F H [d] [v]:=by
 obtain⟨A,C,r,s,nd,fr⟩:=c.own
 obtain⟨v,A',C',e1,h1,h2,p⟩:=s.pick e
 exact⟨v,e1,h1.s⟩
theorem ai.len(c:ai B F H σ δ ts):δ.length=σ.length:=let⟨_,_,_,s,_⟩:=c.own;s.length
theorem ai.grow(c:ai B F H σ δ ts)(h:aa H H'):ai B F H' σ δ ts:=by
 obtain⟨A,C,r,s,nd,fr⟩:=c.own
 exact⟨c.ext.trans h,c.b1.trans h,c.b2,c.b3,A,C,r.grow (aa.refl _) h λa ha=>(r.lists a ha).2,s.keep (aa.refl _) (fm.same h) gg.nil (λa ha=>(s.lists a ha).2) (by simp),nd,fr⟩
theorem ai.pop(c:ai B F H σ δ ((d,v)::ts)):ai B F H σ δ ts:=by
 obtain⟨A,C,r,s,nd,fr⟩:=c.own
 obtain⟨w,bS,A1,A2,e,rfl,h1,h2⟩:=R.cU r
 obtain⟨rfl,rfl⟩:=kP e
 refine⟨c.ext,c.b1,c.b2,c.b3,A2,C,h2,s,?_,λa ha=>fr a (by simp at ha ⊢;exact .inr ha)⟩
 rw[dM]at nd
 exact(gI.mp nd).2.1
theorem ai.top(c:ai B F H σ δ ((d,v)::ts)):S F H [d] [v]:=by
 obtain⟨A,C,r,s,nd,fr⟩:=c.own
 obtain⟨w,bS,A1,A2,e,rfl,h1,h2⟩:=R.cU r
 obtain⟨rfl,rfl⟩:=kP e
 exact h1.s
theorem ai.pushS(c:ai B F H σ δ ts)(s:S F H [d] [v])(pl:d.pl=true):ai B F H σ δ ((d,v)::ts):=by
 obtain⟨A,C,r,q,nd,fr⟩:=c.own
 exact⟨c.ext,c.b1,c.b2,c.b3,A,C,(s.r (by simp[pl])).cons r,q,nd,fr⟩
theorem aa.upd{o:HO}(h:H p=none):aa H (upd H p o):=.of λb u e=>by rw[aQ (dj e h)];exact e
theorem ai.pack(c:ai B F H σ δ (ps++ts))(hs:aa H H')(k:∀A1,R F H' (ps.map (·.1)) (ps.map (·.2)) A1->A1.Nodup->∃A',R F H' [d] [v] A'/\A'.Nodup/\∀a∈A',a∈A1\/H a=none):ai B F H' σ δ ((d,v)::ts):=by
 obtain⟨A,C,r,s,nd,fr⟩:=c.own
 rw[iG,iG]at r
 obtain⟨v1,v2,A1,A2,e,rfl,h1,h2⟩:=R.split r
 have l1:(ps.map (·.2)).length=v1.length:=by rw[<-h1.length];simp
 obtain⟨rfl,rfl⟩:=EY e l1
 rw[dM]at nd fr
 obtain⟨n1,n2,n3⟩:=gI.mp nd
 have g1:=h1.grow (aa.refl F) hs λa ha=>(h1.lists a ha).2
 have g2:=h2.grow (aa.refl F) hs λa ha=>(h2.lists a ha).2
 have gs:=s.keep (aa.refl F) (fm.same hs) gg.nil (λa ha=>(s.lists a ha).2) (by simp)
 obtain⟨A',r',GB,sub⟩:=k A1 g1 n1
 refine⟨c.ext.trans hs,c.b1.trans hs,c.b2,c.b3,A'++A2,C,r'.cons g2,gs,?_,?_⟩
 ·rw[dM]
  refine gI.mpr ⟨GB,n2,λa ha hb=>?_⟩
  rcases sub a ha with z | z
  ·exact n3 a z hb
  ·rcases cO.mp hb with y | y
   ·obtain⟨⟨_,q⟩,_⟩:=h2.lists a y;rw[z]at q;cases q
   ·obtain⟨⟨_,q⟩,_⟩:=s.lists a y;rw[z]at q;cases q
 ·intro a ha
  rw[dM]at ha
  rcases cO.mp ha with y | y
  ·rcases sub a y with z | z
   ·exact fr a (by simp[z])
   ·exact c.b1.free z
  ·exact fr a (dA _ y)
theorem ai.GC(c:ai B F H σ δ ts)(hs:aa H H')(r:R F H' [d] [v] A)(nd:A.Nodup)(fr:∀a∈A,H a=none):ai B F H' σ δ ((d,v)::ts) :=
 ai.pack (ps:=[]) c hs λ_ _ _=>⟨A,r,nd,λa ha=>.inr (fr a ha)⟩
theorem ai.mZ(c:ai B F H σ δ ts)(hp:H p=none)(s:S F H xs vs)(pl:xs.all D.pl=true):ai B F (upd H p (.lst vs)) σ δ ((.lst true xs,.ref p)::ts) :=
 c.GC (aa.upd hp) (A:=[p]) (by simpa using R.own bG (c.ext.free hp) ((s.r pl).shared (aa.refl _) (aa.upd hp)) .nil) (by simp) (by simp[hp])
theorem ai.dn6(c:ai B F H σ δ (ps++ts))(hp:H p=none):ai B F (upd H p (.lst (ps.map (·.2)))) σ δ ((.lst true (ps.map (·.1)),.ref p)::ts):=by
 refine c.pack (aa.upd hp) λA1 r nd=>⟨p::A1,by simpa using R.own bG (c.ext.free hp) r .nil,jU.mpr ⟨λh=>?_,nd⟩,λa ha=>?_⟩
 ·obtain⟨A,C,r0,_,_,_⟩:=c.own
  rw[iG,iG]at r0
  obtain⟨v1,v2,B1,B2,e,rfl,h1,h2⟩:=R.split r0
  have l1:(ps.map (·.2)).length=v1.length:=by rw[<-h1.length];simp
  obtain⟨rfl,rfl⟩:=EY e l1
  have g1:=h1.grow (aa.refl F) (aa.upd (o:=.lst (ps.map (·.2))) hp) λa ha=>(h1.lists a ha).2
  have:A1=B1:=R.inj r g1
  subst this
  obtain⟨⟨_,q⟩,_⟩:=h1.lists p h
  rw[hp]at q;cases q
 ·rcases cE.mp ha with rfl | h
  ·exact .inr hp
  ·exact .inl h
theorem ai.Sq(c:ai B F H σ δ (ps++ts))(hp:H p=none):ai B F (upd H p (.tup (ps.map (·.2)))) σ δ ((.tup (ps.map (·.1)),.ref p)::ts) :=
 c.pack (aa.upd hp) λA1 r nd=>⟨A1,by simpa using R.tup (F:=F) bG r .nil,nd,λa ha=>.inl ha⟩
theorem ai.perm(c:ai B F H σ δ ps)(h:ps.Perm ts):ai B F H σ δ ts:=by
 obtain⟨A,C,r,s,nd,fr⟩:=c.own
 obtain⟨A',r',p⟩:=r.perm h
 have pp:=p.append_right C
 exact⟨c.ext,c.b1,c.b2,c.b3,A',C,r',s,pp.nodup_iff.mp nd,λa ha=>fr a (pp.mem_iff.mpr ha)⟩
theorem ai.move(c:ai B F H σ δ ts)(e:δ[i]?=some (some d)):∃v,σ[i]?=some (some v)/\ai B F H σ (δ.set i none) ((d,v)::ts):=by
 obtain⟨A,C,r,s,nd,fr⟩:=c.own
 obtain⟨v,A',C',e1,h1,h2,p⟩:=s.pick e
 have pp:(A++C).Perm ((A'++A)++C'):=by
  refine(p.append_left A).trans ?_
  rw[<-dM]
  exact mL.append_right _
 exact⟨v,e1,c.ext,c.b1,c.b2,c.b3,A'++A,C',h1.cons r,h2,pp.nodup_iff.mp nd,λa ha=>fr a (pp.mem_iff.mpr ha)⟩
theorem ai.forget(c:ai B F H σ δ ts)(i:Nat):ai B F H σ (δ.set i none) ts:=by
 obtain⟨A,C,r,s,nd,fr⟩:=c.own
 obtain⟨C',h,sb⟩:=s.drop i
 exact⟨c.ext,c.b1,c.b2,c.b3,A,C',r,h,nd.sublist ((Qm A).append sb),λa ha=>fr a (((Qm A).append sb).subset ha)⟩
theorem ai.fill(c:ai B F H σ δ ((d,v)::ts))(e:δ[i]?=some none)(e2:σ[i]?=some (some v)):ai B F H σ (δ.set i (some d)) ts:=by
 obtain⟨A,C,r,s,nd,fr⟩:=c.own
 obtain⟨w,bS,A1,A2,e',rfl,h1,h2⟩:=R.cU r
 obtain⟨rfl,rfl⟩:=kP e'
 obtain⟨C',s',p⟩:=s.fill e e2 h1
 have pp:((A1++A2)++C).Perm (A2++C'):=by
  refine((mL (l₁:=A1) (l₂:=A2)).append_right C).trans ?_
  rw[dM]
  exact(p.symm).append_left A2
 exact⟨c.ext,c.b1,c.b2,c.b3,A2,C',h2,s',pp.nodup_iff.mp nd,λa ha=>fr a (pp.mem_iff.mpr ha)⟩
theorem ai.rD(c:ai B F H σ δ ts)(o:Option V)(e:δ[i]?=some none\/δ[i]?=none):ai B F H (σ.set i o) δ ts:=by
 obtain⟨A,C,r,s,nd,fr⟩:=c.own
 exact⟨c.ext,c.b1,c.b2,c.b3,A,C,r,s.rD o e,nd,fr⟩
theorem ai.store(c:ai B F H σ δ ((d,v)::ts))(i:Nat):ai B F H (σ.set i (some v)) (δ.set i (some d)) ts:=by
 by_cases hi:i<δ.length
 ·have c1:=c.forget i
  have hs:i<σ.length:=by rw[<-c.len];exact hi
  have e:(δ.set i none)[i]?=some none:=by simp[hi]
  have c2:=(c1.rD (some v) (.inl e)).fill (i:=i) e (by simp[hs])
  rwa [EZ]at c2
 ·have hs:¬ i<σ.length:=by rw[<-c.len];exact hi
  rw[ε (by omega),ε (by omega)]
  exact c.pop
theorem ai.mut(c:ai B F H σ δ (ps++ts))(e:δ[i]?=some (some (.lst true xs)))(e2:σ[i]?=some (some (.ref p)))
  (k:∀ws A1 A2,H p=some (.lst ws)->R F H xs ws A1->R F H (ps.map (·.1)) (ps.map (·.2)) A2->(A1++A2).Nodup->∃A',R F H ys vs A'/\A'.Nodup/\∀a∈A',a∈A1++A2) :
  ai B F (upd H p (.lst vs)) σ (δ.set i (some (.lst true ys))) ts:=by
 have hi:i<δ.length:=(i7.mp e).1
 obtain⟨v,e3,c1⟩:=c.move e
 rw[e2]at e3;cases e3
 obtain⟨A,C,r,s,nd,fr⟩:=c1.own
 have r':R F H (([.lst true xs]++ps.map (·.1))++ts.map (·.1)) ((.ref p::ps.map (·.2))++ts.map (·.2)) A:=by simpa using r
 obtain⟨v1,v2,A1,A2,e4,rfl,h1,h2⟩:=R.split r'
 have l1:(V.ref p::ps.map (·.2)).length=v1.length:=by rw[<-h1.length];simp
 obtain⟨rfl,rfl⟩:=EY e4 l1
 cases h1 with
 | @own _ GD _ B1 _ _ B2 hH hF hx hr =>
  rw[dM]at nd fr
  obtain⟨n1,n2,n3⟩:=gI.mp nd
  obtain⟨m1,m2⟩:=jU.mp n1
  obtain⟨A',ra,nda,sub⟩:=k GD B1 B2 hH hx hr m2
  have pA:p ∉ A':=λz=>m1 (sub _ z)
  have pR:p ∉ A2++C:=λz=>n3 p (by simp) z
  have but:fm [p] H (upd H p (.lst vs)):=⟨λa o q z _=>by rw[aQ (by simpa using z)];exact q⟩
  have hl:gg [p] H:=λa ha=>by rw[fS.mp ha];exact⟨_,hH⟩
  have g1:=ra.keep (aa.refl F) but hl (λa ha=>(ra.lists a ha).2) λa ha z=>pA (by rw[<-fS.mp z];exact ha)
  have g2:=h2.keep (aa.refl F) but hl (λa ha=>(h2.lists a ha).2) λa ha z=>pR (by rw[<-fS.mp z];exact eJ _ ha)
  have gs:=s.keep (aa.refl F) but hl (λa ha=>(s.lists a ha).2) λa ha z=>pR (by rw[<-fS.mp z];exact dA _ ha)
  have fp:B.H0 p=none:=fr p (by simp)
  have b1:aa B.H0 (upd H p (.lst vs)):=⟨λa o q n=>by
   rw[aQ (λz=>by rw[z,fp]at q;cases q)]
   exact c1.b1.get a o q n,λa ps q=>by
   rw[aQ (λz=>by rw[z,fp]at q;cases q)]
   exact c1.b1.tb a ps q⟩
  have ext:aa F (upd H p (.lst vs)):=⟨λa o q n=>by
   rw[aQ (λz=>by rw[z,hF]at q;cases q)]
   exact c1.ext.get a o q n,λa ps q=>by
   rw[aQ (λz=>by rw[z,hF]at q;cases q)]
   exact c1.ext.tb a ps q⟩
  have c2:ai B F (upd H p (.lst vs)) σ (δ.set i none) ((.lst true ys,.ref p)::ts):=by
   refine⟨ext,b1,c1.b2,c1.b3,(p::A')++A2,C,R.cons (by simpa using R.own bG hF g1 .nil) g2,gs,?_,?_⟩
   ·rw[dM]
    refine gI.mpr ⟨jU.mpr ⟨pA,nda⟩,n2,λa ha hb=>?_⟩
    rcases cE.mp ha with rfl | ha
    ·exact pR hb
    ·exact n3 a (gz _ (sub a ha)) hb
   ·intro a ha
    rw[dM]at ha
    rcases cO.mp ha with z | z
    ·rcases cE.mp z with rfl | z
     ·exact fp
     ·exact fr a (eJ _ (gz _ (sub a z)))
    ·exact fr a (dA _ z)
  have c3:=c2.fill (i:=i) (by simp[hi]) e2
  rwa [EZ]at c3
theorem ai.GF(c:ai B F H σ δ ((d,v)::ts)):∃F',aa F F'/\ai B F' H σ δ ((d.sh,v)::ts):=by
 obtain⟨A,C,r,s,nd,fr⟩:=c.own
 obtain⟨w,bS,A1,A2,e',rfl,h1,h2⟩:=R.cU r
 obtain⟨rfl,rfl⟩:=kP e'
 rw[dM]at nd fr
 obtain⟨n1,n2,n3⟩:=gI.mp nd
 have out:∀a∈A2++C,bt F H A1 a=F a:=λa ha=>oO λz=>n3 a z ha
 have b3:∀a o,bt F H A1 a=some (.lst o)->B.F0 a=some (.lst o)\/B.H0 a=none:=λa o q=>by
  by_cases z:a∈A1
  ·exact .inr (fr a (eJ _ z))
  ·rw[oO z]at q;exact c.b3 a o q
 refine⟨bt F H A1,ia c.ext,oN c.ext,c.b1,c.b2.trans (ia c.ext),b3,A2,C,?_,?_,n2,λa ha=>fr a (dA _ ha)⟩
 ·have g1:=h1.bt c.ext A1 (λ_ h=>h)
  exact R.cons (A:=[]) g1 (h2.keep (ia c.ext) (fm.same (aa.refl H)) gg.nil (λa ha=>by rw[out a (eJ _ ha)];exact(h2.lists a ha).2) (by simp))
 ·exact s.keep (ia c.ext) (fm.same (aa.refl H)) gg.nil (λa ha=>by rw[out a (dA _ ha)];exact(s.lists a ha).2) (by simp)
theorem ai.freeze(c:ai B F H σ δ ts)(e:δ[i]?=some (some d)):∃F',aa F F'/\ai B F' H σ (δ.set i (some d.sh)) ts:=by
 have hi:i<δ.length:=(i7.mp e).1
 obtain⟨v,e2,c1⟩:=c.move e
 obtain⟨F',s,c2⟩:=c1.GF
 refine⟨F',s,?_⟩
 have c3:=c2.fill (i:=i) (by simp[hi]) e2
 rwa [EZ]at c3
theorem ai.rebase(c:ai B F H σ δ ts):ai ⟨B.H0,F⟩ F H σ δ ts:=⟨c.ext,c.b1,aa.refl _,λ_ _ q=>.inl q,c.own⟩
theorem ai.dn8{F1:Hp}(c:ai ⟨B.H0,F1⟩ F H σ δ ts)(h:aa B.F0 F1)(h3:∀a ws,F1 a=some (.lst ws)->B.F0 a=some (.lst ws)\/B.H0 a=none):ai B F H σ δ ts :=
 ⟨c.ext,c.b1,h.trans c.b2,λa o q=>(c.b3 a o q).elim (h3 a o) .inr,c.own⟩
theorem ai.call(c:ai B F H σ δ ts)(hs:aa H H')(hf:aa F F')(he:aa F' H')(h3:∀a ws,F' a=some (.lst ws)->F a=some (.lst ws)\/H a=none)(r:R F' H' [d] [v] A)(nd:A.Nodup)(fr:∀a∈A,H a=none) :
  ai B F' H' σ δ ((d,v)::ts):=by
 obtain⟨A0,C,r0,s,nd0,fr0⟩:=c.own
 have no:∀a,(∃ws,H a=some (.lst ws))/\F a=none->F' a=none:=λa zz=>by
  obtain⟨⟨ws,e⟩,n⟩:=zz
  cases q:F' a with
  | none=>rfl
  | some o =>
   have q2:H' a=some o:=by
    cases n:hW o with
    | true=>exact he.get a o q n
    | false =>
     obtain⟨ps,rfl⟩:=Gy n
     obtain⟨m,z⟩:=he.tb a ps q
     rw[hs a _ e]at z
     cases z
   rw[hs a _ e]at q2
   cases q2
   rcases h3 a ws q with z | z
   ·rw[n]at z;cases z
   ·rw[e]at z;cases z
 refine⟨he,c.b1.trans hs,c.b2.trans hf,λa o q=>(h3 a o q).elim (c.b3 a o) λz=>.inr (c.b1.free z),A++A0,C,R.cons r (r0.grow hf hs λa ha=>no a (r0.lists a ha)),
  s.keep hf (fm.same hs) gg.nil (λa ha=>no a (s.lists a ha)) (by simp),?_,?_⟩
 ·rw[dM]
  refine gI.mpr ⟨nd,nd0,λa ha hb=>?_⟩
  have z:=fr a ha
  rcases cO.mp hb with y | y
  ·obtain⟨⟨_,q⟩,_⟩:=r0.lists a y;rw[z]at q;cases q
  ·obtain⟨⟨_,q⟩,_⟩:=s.lists a y;rw[z]at q;cases q
 ·intro a ha
  rw[dM]at ha
  rcases cO.mp ha with y | y
  ·exact c.b1.free (fr a y)
  ·exact fr0 a y
theorem ai.inS(c:ai B F H σ δ ((d,v)::ts)):ai B F H (some v::σ) (some d::δ) ts:=by
 obtain⟨A,C,r,s,nd,fr⟩:=c.own
 obtain⟨w,bS,A1,A2,e',rfl,h1,h2⟩:=R.cU r
 obtain⟨rfl,rfl⟩:=kP e'
 have pp:((A1++A2)++C).Perm (A2++(A1++C)):=by
  rw[<-dM];exact mL.append_right C
 exact⟨c.ext,c.b1,c.b2,c.b3,A2,A1++C,h2,.fC h1 s,pp.nodup_iff.mp nd,λa ha=>fr a (pp.mem_iff.mpr ha)⟩
theorem ai.do2{w:V}(c:ai B F H (some w::σ) (some d::δ) ts):ai B F H σ δ ((d,w)::ts):=by
 obtain⟨A,C,r,s,nd,fr⟩:=c.own
 cases s with
 | @fC _ _ A1 _ _ C1 h1 s =>
  have pp:(A++(A1++C1)).Perm ((A1++A)++C1):=by
   rw[<-dM];exact mL.append_right C1
  exact⟨c.ext,c.b1,c.b2,c.b3,A1++A,C1,R.cons h1 r,s,pp.nodup_iff.mp nd,λa ha=>fr a (pp.mem_iff.mpr ha)⟩
theorem ai.do3(c:ai B F H σ δ ((d,v)::(.lst true xs,.ref p)::ts))(hp:H p=some (.lst ws)):ai B F (upd H p (.lst (ws++[v]))) σ δ ((.lst true (xs++[d]),.ref p)::ts):=by
 have c1:=(c.perm (List.Perm.swap _ _ _)).inS
 refine(ai.mut (ps:=[(d,v)]) (i:=0) (ys:=xs++[d]) (vs:=ws++[v]) c1 rfl rfl λfo A1 A2 h r1 r2 nd=>?_).do2
 rw[hp]at h;cases h
 exact⟨A1++A2,r1.append r2,nd,λa ha=>ha⟩
theorem ai.app(c:ai B F H σ δ ((d,v)::ts))(e:δ[i]?=some (some (.lst true xs)))(e2:σ[i]?=some (some (.ref p)))(hp:H p=some (.lst ws)) :
  ai B F (upd H p (.lst (ws++[v]))) σ (δ.set i (some (.lst true (xs++[d])))) ts :=
 ai.mut (ps:=[(d,v)]) c e e2 λfo A1 A2 h r1 r2 nd=>by
  rw[hp]at h;cases h
  exact⟨A1++A2,r1.append r2,nd,λa ha=>ha⟩
theorem R.Sr:∀{xs:List D} {ws:List V} {A1 A2:List Addr} (j:Nat),R F H xs ws A1->R F H [d] [v] A2->(A1++A2).Nodup->∃A',R F H (xs.set j d) (ws.set j v) A'/\A'.Nodup/\∀a∈A',a∈A1++A2
 | [],_,A1,A2,j,r,q,nd=>by cases r;exact⟨[],.nil,by simp,by simp⟩
 | x::xs,_,A1,A2,j,r,q,nd=>by
  obtain⟨w,fo,B1,B2,rfl,rfl,h1,h2⟩:=r.cU
  rw[dM]at nd
  obtain⟨n1,n2,n3⟩:=gI.mp nd
  cases j with
  | zero =>
   refine⟨A2++B2,q.cons h2,(mL (l₁:=B2) (l₂:=A2)).nodup_iff.mp n2,λa ha=>?_⟩
   simp only[cO]at ha ⊢
   rcases ha with z | z
   ·exact .inr z
   ·exact .inl (.inr z)
  | succ j =>
   obtain⟨A',r',GB,sub⟩:=R.Sr j h2 q n2
   refine⟨B1++A',h1.cons r',gI.mpr ⟨n1,GB,λa ha hb=>n3 a ha (sub a hb)⟩,λa ha=>?_⟩
   rcases cO.mp ha with z | z
   ·simp[z]
   ·have:=sub a z
    simp only[cO]at this ⊢
    rcases this with z | z
    ·exact .inl (.inr z)
    ·exact .inr z
theorem ai.do4(c:ai B F H σ δ ((d,v)::ts))(e:δ[i]?=some (some (.lst true xs)))(e2:σ[i]?=some (some (.ref p)))(hp:H p=some (.lst ws))(j:Nat) :
  ai B F (upd H p (.lst (ws.set j v))) σ (δ.set i (some (.lst true (xs.set j d)))) ts :=
 ai.mut (ps:=[(d,v)]) c e e2 λfo A1 A2 h r1 r2 nd=>by
  rw[hp]at h;cases h
  exact r1.Sr j r2 nd
theorem ai.ownAt(c:ai B F H σ δ ts)(e:δ[i]?=some (some (.lst true xs))):∃p ws,σ[i]?=some (some (.ref p))/\H p=some (.lst ws)/\xs.length=ws.length:=by
 obtain⟨v,e1,s⟩:=c.look e
 cases s with
 | own h x _=>exact⟨_,_,e1,h,x.length⟩
theorem RS.start{ds:List D}{vs:List V}(r:R F H ds vs [])(n:Nat):RS F H (ds.map some++aw n none) (vs.map some++aw n none) []:=by
 have z:∀n,RS F H (aw n none) (aw n none) []:=λn=>by
  induction n with
  | zero=>exact .nil
  | succ n ih=>exact .aj ih
 have:∀(ds:List D) (vs:List V),R F H ds vs []->RS F H (ds.map some++aw n none) (vs.map some++aw n none) []:=by
  intro ds
  induction ds with
  | nil=>intro vs r;cases r;exact z n
  | cons d ds ih =>
   intro vs r
   obtain⟨v,bS,A1,A2,rfl,e,h1,h2⟩:=r.cU
   obtain⟨rfl,rfl⟩:=AG.mp e.symm
   exact .fC (A:=[]) h1 (ih _ h2)
 exact this ds vs r
theorem ai.start{ds:List D}{vs:List V}(e:aa F H)(r:R F H ds vs [])(n:Nat):ai ⟨H,F⟩ F H (vs.map some++aw n none) (ds.map some++aw n none) [] :=
 ⟨e,aa.refl _,aa.refl _,λ_ _ q=>.inl q,[],[],.nil,RS.start r n,by simp,by simp⟩
theorem ai.snap(c:ai B F H σ δ ts):ai B (L3.snap F H) H σ δ ts:=by
 obtain⟨A,C,r,s,nd,fr⟩:=c.own
 have no:∀a,(∃ws,H a=some (.lst ws))/\F a=none->L3.snap F H a=none:=λa ⟨⟨ws,e⟩,n⟩=>b73 e n
 exact⟨cc5 c.ext,c.b1,c.b2.trans (oQ c.ext),λa ws q=>c.b3 a ws (bV3 c.ext q),A,C,r.grow (oQ c.ext) (aa.refl _) λa ha=>no a (r.lists a ha),
  s.keep (oQ c.ext) (fm.same (aa.refl _)) gg.nil (λa ha=>no a (s.lists a ha)) (by simp),nd,fr⟩
end
end L3
namespace L3
open PySem L2 PySem.Spec PyProof.Rows
noncomputable abbrev aG:=Dl->(D->Dl->Prop)->Prop
noncomputable abbrev eU:=Dl->(Bool->Dl->Prop)->Prop
noncomputable abbrev bY:=Dl->(List D->Dl->Prop)->Prop
structure oR where
 nx:Dl->Prop
 rt:D->Prop
 bk:Dl->Prop:=λ_=>False
 ct:Dl->Prop:=λ_=>False
 xc:Addr->Dl->Prop:=λ_ _=>False
 xr:Addr->Dl->Prop:=λ_ _=>False
noncomputable abbrev cn:=oR->Dl->Prop
noncomputable def lE(t:aG):TE:=λσ H Q=>∃B F δ ts Qd,ai B F H σ δ ts/\t δ Qd/\∀d ae v F' H',Qd d ae->aa F F'->aa H H'->ai B F' H' σ ae ((d,v)::ts)->Q v H'
noncomputable def lB(t:aG):TE:=λσ H Q=>∃B F δ ts Qd,ai B F H σ δ ts/\t δ Qd/\∀d ae v F' H',Qd d ae->aa F F'->aa H H'->ai B F' H' σ ae ts->S F' H' [d] [v]->Q v H'
noncomputable def lT(t:eU):TT:=λσ H Q=>∃B F δ ts Qd,ai B F H σ δ ts/\t δ Qd/\∀b ae F' H',Qd b ae->aa F F'->aa H H'->ai B F' H' σ ae ts->Q b H'
noncomputable def lA(t:bY):TA:=λσ H Q=>∃B F δ ts Qd,ai B F H σ δ ts/\t δ Qd/\∀ds ae vs F' H',Qd ds ae->aa F F'->aa H H'->ai B F' H' σ ae ts->S F' H' ds vs->Q vs H'
noncomputable def lO(t:bY):TA:=λσ H Q=>∃B F δ ts Qd,ai B F H σ δ ts/\t δ Qd/\∀(ps:List (D × V)) ae F' H',Qd (ps.map (·.1)) ae->aa F F'->aa H H'->ai B F' H' σ ae (ps++ts)->Q (ps.map (·.2)) H'
noncomputable def XL(X:Cx)(B:Bs)(Dd:oR):Prop :=
 (∀C ae pins ay F' H' s' a T,Dd.xc C ae->ai B F' H' ay ae []->Inv X pins ay H' s'->fZ s'.heap a T (.ref C)->Apart X pins H' a->Apart X pins H' T->X.xe (.ref a) s') /\
 (∀C ae pins ay F' H' s' h' e vs,Dd.xr C ae->ai B F' H' ay ae []->Inv X pins ay H' s'->Ql s'.heap h' e (.ref C) vs->X.xe (.ref e) { s' with heap:=h' })
theorem XL.none{X:Cx}{B:Bs}{Dd:oR}(h1:∀C δ,¬ Dd.xc C δ)(h2:∀C δ,¬ Dd.xr C δ):XL X B Dd:=⟨λC δ _ _ _ _ _ _ _ h=>absurd h (h1 C δ),λC δ _ _ _ _ _ _ _ _ h=>absurd h (h2 C δ)⟩
noncomputable def lS(X:Cx)(t:cn):TS:=λD σ H=>∃B F δ Dd,ai B F H σ δ []/\t Dd δ/\(∀ae ay F' H',Dd.nx ae->ai B F' H' ay ae []->D.nx ay H')/\(∀d v ae ay F' H',Dd.rt d->ai B F' H' ay ae [(d,v)]->D.rt v H') /\
 (∀ae ay F' H',Dd.bk ae->ai B F' H' ay ae []->D.bk ay H')/\(∀ae ay F' H',Dd.ct ae->ai B F' H' ay ae []->D.ct ay H')/\XL X B Dd
section
variable{X:Cx}{e a b c:Expr}{es:List Expr}{pos:Pos}{st:Stmt}{mR:List Stmt}
theorem cG{t t':TE}(h:PE X e t)(m:∀σ H Q,t' σ H Q->t σ H Q):PE X e t':=λpins s σ H Q I q=>h pins s σ H Q I (m σ H Q q)
theorem GG{t t':TT}(h:PT X e t)(m:∀σ H Q,t' σ H Q->t σ H Q):PT X e t':=λpins s σ H Q I q=>h pins s σ H Q I (m σ H Q q)
theorem Ss{t t':TT}(h:PW X e t)(m:∀σ H Q,t' σ H Q->t σ H Q):PW X e t':=λwh pins s σ H Q I q=>h wh pins s σ H Q I (m σ H Q q)
theorem xC{t t':TA}(h:PA X es t)(m:∀σ H Q,t' σ H Q->t σ H Q):PA X es t':=λp pins s σ H Q I q=>h p pins s σ H Q I (m σ H Q q)
theorem jG{t t':TS}(h:PS X st t)(m:∀D σ H,t' D σ H->t D σ H):PS X st t':=λpins s σ H D I q=>h pins s σ H D I (m D σ H q)
theorem BJ{t t':TS}(h:PSs X mR t)(m:∀D σ H,t' D σ H->t D σ H):PSs X mR t':=λpins s σ H D I q=>h pins s σ H D I (m D σ H q)
variable{t u ta tb tc:aG}
theorem af(h:PE X e (lE t)):PE X e (lB t):=cG h λσ H Q ⟨B,F,δ,ts,Qd,c,q,k⟩=>⟨B,F,δ,ts,Qd,c,q,λd ae v F' H' hd sf sh c'=>k d ae v F' H' hd sf sh c'.pop c'.top⟩
noncomputable def oS(t:aG):aG:=λδ Q=>t δ λd ae=>d.pl=true/\Q d ae
theorem cV(h:PE X e (lB t)):PE X e (lE (oS t)):=cG h λσ H Q ⟨B,F,δ,ts,Qd,c,q,k⟩=>⟨B,F,δ,ts,_,c,q,λd ae v F' H' hd sf sh c' s=>k d ae v F' H' hd.2 sf sh (c'.pushS s hd.1)⟩
noncomputable def m3(i:Nat):aG:=λδ Q=>match δ[i]? with
 | some (some d)=>Q d δ
 | _=>False
noncomputable def m4(i:Nat):aG:=λδ Q=>match δ[i]? with
 | some (some d)=>Q d (δ.set i none)
 | _=>False
theorem cw2{i:Nat}{δ:Dl}{Q:D->Dl->Prop}(h:m3 i δ Q):∃d,δ[i]?=some (some d)/\Q d δ:=by
 unfold m3 at h
 split at h
 ·rename_i d e;exact⟨d,e,h⟩
 ·exact h.elim
theorem cd7{i:Nat}{δ:Dl}{Q:D->Dl->Prop}(h:m4 i δ Q):∃d,δ[i]?=some (some d)/\Q d (δ.set i none):=by
 unfold m4 at h
 split at h
 ·rename_i d e;exact⟨d,e,h⟩
 ·exact h.elim
noncomputable def dC(d:D):aG:=λδ Q=>Q d δ
theorem bv(i:Nat){x:Str}(hN:X.N[i]?=some x:=by rfl)(hv:j8 X.env.scope x:=by first | exact au rfl | exact bj (au rfl) | exact bj (bj rfl))(hd:(x==("__debug__":Str))=false:=by decide)
  (cF:(x==("__classdict__":Str))=false:=by decide):PE X (.Name x pos) (lB (m3 i)):=cG (oo hN hv hd cF) λσ H Q ⟨B,F,δ,ts,Qd,c,q,k⟩=>by
 obtain⟨d,e,q⟩:=cw2 q
 obtain⟨v,e1,s⟩:=c.look e
 exact⟨v,e1,k d δ v F H q (aa.refl _) (aa.refl _) c s⟩
theorem em(i:Nat){x:Str}(hN:X.N[i]?=some x:=by rfl)(hv:j8 X.env.scope x:=by first | exact au rfl | exact bj (au rfl) | exact bj (bj rfl))(hd:(x==("__debug__":Str))=false:=by decide)
  (cF:(x==("__classdict__":Str))=false:=by decide):PE X (.Name x pos) (lE (m4 i)):=cG (oo hN hv hd cF) λσ H Q ⟨B,F,δ,ts,Qd,c,q,k⟩=>by
 obtain⟨d,e,q⟩:=cd7 q
 obtain⟨v,e1,c'⟩:=c.move e
 exact⟨v,e1,k d _ v F H q (aa.refl _) (aa.refl _) c'⟩
theorem BK{B:Bs}{F H:Hp}{σ:L2.St}{δ:Dl}{ts:List (D × V)}{Qd:D->Dl->Prop}{Q:VK}{d:D}{v:V}(c:ai B F H σ δ ts)(q:Qd d δ)(s:S F H [d] [v])(p:d.pl=true)
  (k:∀d ae v F' H',Qd d ae->aa F F'->aa H H'->ai B F' H' σ ae ((d,v)::ts)->Q v H'):Q v H:=k d δ v F H q (aa.refl _) (aa.refl _) (c.pushS s p)
theorem av{i j}:PE X (.Constant (.int i) j pos) (lE (dC (.int i))):=cG oq λσ H Q ⟨B,F,δ,ts,Qd,c,q,k⟩=>BK c q (.int .nil) rfl k
theorem jH{i j}:PE X (.Constant (.bool i) j pos) (lE (dC (.bl i))):=cG cM3 λσ H Q ⟨B,F,δ,ts,Qd,c,q,k⟩=>BK c q (.bl .nil) rfl k
theorem jI{j}:PE X (.Constant .none j pos) (lE (dC .aj)):=cG cD1 λσ H Q ⟨B,F,δ,ts,Qd,c,q,k⟩=>BK c q (.aj .nil) rfl k
theorem xD{x j}:PE X (.Constant (.str x) j pos) (lE (dC (.str x))):=cG cA8 λσ H Q ⟨B,F,δ,ts,Qd,c,q,k⟩=>BK c q (.str .nil) rfl k
noncomputable abbrev bZ:=D->D->(D->Prop)->Prop
noncomputable def BL(r:R2)(rd:bZ):Prop:=∀{B:Bs} {F H:Hp} {σ:L2.St} {δ:Dl} {ts:List (D × V)} {x y:D} {v w:V} {Q:VK} {Qd:D->Prop},ai B F H σ δ ts->S F H [x] [v]->S F H [y] [w]->rd x y Qd ->
 (∀d z H',Qd d->aa H H'->ai B F H' σ δ ((d,z)::ts)->Q z H')->r v w H Q
noncomputable def bI(X:Cx)(f:Value->Value->Sem Value)(rd:bZ):Prop:=∃r,bW X f r/\BL r rd
theorem bI.or{f:Value->Value->Sem Value}{r1 r2:bZ}(h1:bI X f r1)(h2:bI X f r2):bI X f λx y Q=>r1 x y Q\/r2 x y Q:=by
 obtain⟨q1,a1,b1⟩:=h1
 obtain⟨q2,a2,b2⟩:=h2
 refine⟨_,a1.or a2,λ{B F H σ δ ts x y v w Q Qd} c sx sy h k=>?_⟩
 rcases h with h | h
 ·exact .inl (b1 c sx sy h k)
 ·exact .inr (b2 c sx sy h k)
theorem bI.imp{f:Value->Value->Sem Value}{r1 r2:bZ}(h1:bI X f r1)(h:∀x y Q,r2 x y Q->r1 x y Q):bI X f r2:=by
 obtain⟨q1,a1,b1⟩:=h1
 exact⟨q1,a1,λ{B F H σ δ ts x y v w Q Qd} c sx sy h2 k=>b1 c sx sy (h _ _ _ h2) k⟩
noncomputable def lK(rd:bZ)(ta tb:aG):aG:=λδ Q=>ta δ λx ah=>tb ah λy aN=>rd x y λd=>Q d aN
theorem GH{r:R2}{rd:bZ}(hl:BL r rd):∀σ H Q,lE (lK rd ta tb) σ H Q->xg r (lB ta) (lB tb) σ H Q:=λσ H Q ⟨B,F,δ,ts,Qd,c,q,k⟩ =>
 ⟨B,F,δ,ts,_,c,q,λx ah v F1 H1 q1 f1 h1 c1 s1=>⟨B,F1,ah,ts,_,c1,q1,λy aN w F2 H2 q2 f2 h2 c2 s2 =>
  hl c2 (s1.mono f2 h2) s2 q2 λd z H' hd hs c3=>k d aN z F2 H' hd (f1.trans f2) ((h1.trans h2).trans hs) c3⟩⟩
theorem aP{op:Operator}{rd:bZ}(ho:bI X (binaryOp op) rd)(ha:PE X a (lB ta))(hb:PE X b (lB tb)):PE X (.BinOp a op b pos) (lE (lK rd ta tb)):=by
 obtain⟨r,h1,h2⟩:=ho
 exact cG (xh h1 ha hb) (GH h2)
theorem oU{op:CmpOp}{rd:bZ}(ho:bI X (compareOp op) rd)(ha:PE X a (lB ta))(hb:PE X b (lB tb))(hm:behindInMarks op b=false):PE X (.Compare a [op] [b] pos) (lE (lK rd ta tb)):=by
 obtain⟨r,h1,h2⟩:=ho
 exact cG (cn9 h1 ha hb hm) (GH h2)
noncomputable def dT(t:aG):eU:=λδ Q=>t δ λd ae=>∃k,d=.bl k/\Q k ae
theorem ce2{te:TE}(h:∀σ H Q,lE t σ H Q->te σ H Q):∀σ H Q,lT (dT t) σ H Q->QZ te σ H Q:=λσ H Q zz=>by
 obtain⟨B,F,δ,ts,Qd,c,q,k⟩:=zz
 refine h σ H _ ⟨B,F,δ,ts,_,c,q,λd ae v F' H' hd sf sh c'=>?_⟩
 obtain⟨b,rfl,qb⟩:=hd
 have s:=c'.top
 cases s with
 | bl _=>exact⟨b,rfl,k b ae F' H' qb sf sh c'.pop⟩
theorem bJ{op:CmpOp}{rd:bZ}(ho:bI X (compareOp op) rd)(ha:PE X a (lB ta))(hb:PE X b (lB tb))(hm:behindInMarks op b=false):PT X (.Compare a [op] [b] pos) (lT (dT (lK rd ta tb))):=by
 obtain⟨r,h1,h2⟩:=ho
 exact GG (FJ h1 ha hb hm) (ce2 (GH h2))
noncomputable def oV(r r':bZ)(ta tb tc:aG):aG:=λδ Q=>ta δ λx ah=>tb ah λy aN=>r x y λd=>∃k,d=.bl k/\if k=true then tc aN λz gJ=>r' y z λd'=>Q d' gJ else Q (.bl false) aN
theorem oW(h:PE X e (lB t))(he:∀whole,isTrue e X.env whole=(do let v<-whole;standAt e.pos;holding [v] (truthy v)):=by intro _;rfl):PT X e (lT (dT t)) :=
 GG (Fu h he) λσ H Q ⟨B,F,δ,ts,Qd,c,q,k⟩=>⟨B,F,δ,ts,_,c,q,λd ae v F' H' hd sf sh c' s=>by
  obtain⟨b,rfl,qb⟩:=hd
  cases s with
  | bl _=>exact⟨b,rfl,k b ae F' H' qb sf sh c'⟩⟩
variable{tA tB:eU}{rest:List Expr}
noncomputable def rE(t u:eU):eU:=λδ Q=>t δ λc ah=>if c=true then u ah Q else Q false ah
noncomputable def rF(t u:eU):eU:=λδ Q=>t δ λc ah=>if c=true then Q true ah else u ah Q
noncomputable def rG(t:eU):eU:=λδ Q=>t δ λc ah=>Q (!c) ah
theorem BM(ha:PT X a (lT tA))(hb:PW X (.BoolOp .And (b::rest) pos) (lT tB)):PW X (.BoolOp .And (a::b::rest) pos) (lT (rE tA tB)) :=
 Ss (cB5 ha hb) λσ H Q ⟨B,F,δ,ts,Qd,c,q,k⟩=>⟨B,F,δ,ts,_,c,q,λb ah F1 H1 q1 f1 h1 c1=>by
  cases b with
  | true=>exact mU ⟨B,F1,ah,ts,Qd,c1,by simpa using q1,λb ae F' H' hd sf sh c'=>k b ae F' H' hd (f1.trans sf) (h1.trans sh) c'⟩
  | false=>exact jj (k false ah F1 H1 (by simpa using q1) f1 h1 c1)⟩
theorem m5(ha:PT X a (lT tA))(hb:PW X (.BoolOp .Or (b::rest) pos) (lT tB)):PW X (.BoolOp .Or (a::b::rest) pos) (lT (rF tA tB)) :=
 Ss (QM ha hb) λσ H Q ⟨B,F,δ,ts,Qd,c,q,k⟩=>⟨B,F,δ,ts,_,c,q,λb ah F1 H1 q1 f1 h1 c1=>by
  cases b with
  | true=>exact mU (k true ah F1 H1 (by simpa using q1) f1 h1 c1)
  | false=>exact jj ⟨B,F1,ah,ts,Qd,c1,by simpa using q1,λb ae F' H' hd sf sh c'=>k b ae F' H' hd (f1.trans sf) (h1.trans sh) c'⟩⟩
theorem xE(ha:PT X a (lT tA)):PT X (.UnaryOp .Not a pos) (lT (rG tA)) :=
 GG (Fv ha) λσ H Q ⟨B,F,δ,ts,Qd,c,q,k⟩=>⟨B,F,δ,ts,_,c,q,λb ah F1 H1 q1 f1 h1 c1=>k _ ah F1 H1 q1 f1 h1 c1⟩
noncomputable def rH(ta tb:aG):aG:=λδ Q=>ta δ λx ah=>∃c,x=.bl c/\if c=true then tb ah Q else Q (.bl false) ah
noncomputable def rJ(ta:aG):aG:=λδ Q=>ta δ λx ah=>∃c,x=.bl c/\Q (.bl (!c)) ah
theorem lL(ha:PE X a (lB ta))(hb:PE X (.BoolOp .And (b::rest) pos) (lE tb)):PE X (.BoolOp .And (a::b::rest) pos) (lE (rH ta tb)) :=
 cG (cE2 ha hb) λσ H Q ⟨B,F,δ,ts,Qd,c,q,k⟩=>⟨B,F,δ,ts,_,c,q,λd ah v F1 H1 q1 f1 h1 c1 s1=>by
  obtain⟨b,rfl,qb⟩:=q1
  cases s1 with
  | bl _ =>
   refine⟨b,rfl,?_⟩
   cases b with
   | true=>exact mU ⟨B,F1,ah,ts,Qd,c1,by simpa using qb,λd ae v F' H' hd sf sh c'=>k d ae v F' H' hd (f1.trans sf) (h1.trans sh) c'⟩
   | false=>exact jj (k _ ah _ F1 H1 (by simpa using qb) f1 h1 (c1.pushS (.bl .nil) rfl))⟩
theorem Su(ha:PE X a (lB ta)):PE X (.UnaryOp .Not a pos) (lE (rJ ta)) :=
 cG (cA3 ha) λσ H Q ⟨B,F,δ,ts,Qd,c,q,k⟩=>⟨B,F,δ,ts,_,c,q,λd ah v F1 H1 q1 f1 h1 c1 s1=>by
  obtain⟨b,rfl,qb⟩:=q1
  cases s1 with
  | bl _=>exact⟨b,rfl,k _ ah _ F1 H1 qb f1 h1 (c1.pushS (.bl .nil) rfl)⟩⟩
noncomputable def rK(t:eU)(ta tb:aG):aG:=λδ Q=>t δ λc ah=>if c=true then ta ah Q else tb ah Q
theorem cQ9(hc:PT X c (lT tA))(ha:PE X a (lE ta))(hb:PE X b (lE tb)):PE X (.IfExp c a b pos) (lE (rK tA ta tb)) :=
 cG (ch6 hc ha hb) λσ H Q ⟨B,F,δ,ts,Qd,c,q,k⟩=>⟨B,F,δ,ts,_,c,q,λb ah F1 H1 q1 f1 h1 c1=>by
  cases b with
  | true=>exact mU ⟨B,F1,ah,ts,Qd,c1,by simpa using q1,λd ae v F' H' hd sf sh c'=>k d ae v F' H' hd (f1.trans sf) (h1.trans sh) c'⟩
  | false=>exact jj ⟨B,F1,ah,ts,Qd,c1,by simpa using q1,λd ae v F' H' hd sf sh c'=>k d ae v F' H' hd (f1.trans sf) (h1.trans sh) c'⟩⟩
noncomputable def oX:bY:=λδ Q=>Q [] δ
noncomputable def oY(t:aG)(r:bY):bY:=λδ Q=>t δ λd ah=>r ah λds aN=>Q (d::ds) aN
theorem aD:PA X [] (lA oX):=xC eF λσ H Q ⟨B,F,δ,ts,Qd,c,q,k⟩=>k [] δ [] F H q (aa.refl _) (aa.refl _) c .nil
variable{tr:bY}
theorem ak(ha:PE X e (lB t))(hr:PA X es (lA tr))(hs:starEach (e::es) X.env=(false,eval e X.env)::starEach es X.env:=by rfl):PA X (e::es) (lA (oY t tr)) :=
 xC (bX ha hr hs) λσ H Q ⟨B,F,δ,ts,Qd,c,q,k⟩=>⟨B,F,δ,ts,_,c,q,λd ah v F1 H1 q1 f1 h1 c1 s1=>⟨B,F1,ah,ts,_,c1,q1,λds aN vs F2 H2 q2 f2 h2 c2 s2 =>
  k (d::ds) aN (v::vs) F2 H2 q2 (f1.trans f2) (h1.trans h2) c2 ((s1.mono f2 h2).cons s2)⟩⟩
theorem dv:PA X [] (lO oX):=xC eF λσ H Q ⟨B,F,δ,ts,Qd,c,q,k⟩=>k [] δ F H q (aa.refl _) (aa.refl _) c
theorem cH(ha:PE X e (lE t))(hr:PA X es (lO tr))(hs:starEach (e::es) X.env=(false,eval e X.env)::starEach es X.env:=by rfl):PA X (e::es) (lO (oY t tr)) :=
 xC (bX ha hr hs) λσ H Q ⟨B,F,δ,ts,Qd,c,q,k⟩=>⟨B,F,δ,ts,_,c,q,λd ah v F1 H1 q1 f1 h1 c1=>⟨B,F1,ah,(d,v)::ts,_,c1,q1,λps aN F2 H2 q2 f2 h2 c2 =>
  k ((d,v)::ps) aN F2 H2 q2 (f1.trans f2) (h1.trans h2) (c2.perm (List.perm_middle))⟩⟩
noncomputable def oZ(t:bY):aG:=λδ Q=>t δ λds ae=>ds.length<=sizeLine/\Q (.lst true ds) ae
noncomputable def rL(t:bY):aG:=λδ Q=>t δ λds ae=>ds.length<=sizeLine/\Q (.tup ds) ae
theorem eN(h:PA X es (lO tr)):PE X (.List es pos) (lE (oZ tr)) :=
 cG (Q8 h) λσ H Q ⟨B,F,δ,ts,Qd,c,q,k⟩=>⟨B,F,δ,ts,_,c,q,λps ah F1 H1 q1 f1 h1 c1=>⟨by simpa using q1.1,λp hp=>k _ ah _ F1 _ q1.2 f1 (h1.trans (aa.upd hp)) (c1.dn6 hp)⟩⟩
theorem rM{x1}(h:PA X es (lO tr)):PE X (.Tuple es x1 pos) (lE (rL tr)) :=
 cG (Q7 h) λσ H Q ⟨B,F,δ,ts,Qd,c,q,k⟩=>⟨B,F,δ,ts,_,c,q,λps ah F1 H1 q1 f1 h1 c1=>⟨by simpa using q1.1,λp hp=>k _ ah _ F1 _ q1.2 f1 (h1.trans (aa.upd hp)) (c1.Sq hp)⟩⟩
end
end L3
namespace L3
open PySem L2 PySem.Spec PyProof.Rows
noncomputable abbrev bf:=List D->(D->Prop)->Prop
noncomputable def bh(sp:bf):Sp:=λvs H Q _=>∃F ds Qd,aa F H/\R F H ds vs []/\sp ds Qd/\∀d v F' H' A,Qd d->aa H H'->aa F F'->aa F' H'->(∀a ws,F' a=some (.lst ws)->F a=some (.lst ws)\/H a=none)->R F' H' [d] [v] A->A.Nodup->(∀a∈A,H a=none)->Q v H'
noncomputable def o5(sp:bf)(t:bY):aG:=λδ Q=>t δ λds ae=>sp (ds.map D.sh) λd=>(ds.all D.pl||d.fr)=true/\Q d ae
theorem xF{B:Bs}{F H:Hp}{σ:L2.St}{δ:Dl}{ts:List (D × V)}{Qd:D->Prop}{Q:VK}{E:XK}{ds:List D}{vs:List V}{sp:bf}(c:ai B F H σ δ ts)(s:S F H ds vs)(q:sp (ds.map D.sh) λd=>(ds.all D.pl||d.fr)=true/\Qd d)
  (k:∀d v F' H',Qd d->aa F F'->aa H H'->ai B F' H' σ δ ((d,v)::ts)->Q v H'):bh sp vs H Q E:=by
 by_cases hp:ds.all D.pl=true
 ·rw[km hp]at q
  exact⟨F,ds,_,c.ext,s.r hp,q,λd v F' H' A hd hs hf he h3 r nd fr=>k d v F' H' hd.2 hf hs (c.call hs hf he h3 r nd fr)⟩
 ·refine⟨H,ds.map D.sh,_,aa.refl _,s.frozen c.ext,q,λd v F' H' A hd hs hf he h3 r nd fr=>?_⟩
  have dU:d.fr=true:=by
   have:=hd.1
   rw[Bool.or_eq_true]at this
   exact this.resolve_left hp
  exact k d v F H' hd.2 (aa.refl _) hs (c.GC hs (r.rB (by simp[dU]) (c.ext.trans hf)) nd fr)
section
variable{X:Cx}{CX:dN}{n:Nat}{f:Addr}{fd:FuncData}{ps:List Str}{sp:bf}{E:XK}{x:Str}{p pos:Pos}{e:Expr}{es:List Expr}{t:bY}
theorem cJ(F:aK X.prog X.w X.K X.mg X.base CX n f fd ps (bh sp))(hr:bP n X.A)(hg:Gl X x)(hm:X.mg x=some (.ref f))(hk:PySem.W.keepIn X.K (.ref f)=true)(hb:Binds X.K fd ps [])(hx:ji CX X E)
  (ha:PA X (e::es) (lA t)) (cT:(x==("__debug__":Str))=false:=by decide) (he:starEach (e::es) X.env=(false,eval e X.env)::starEach es X.env:=by rfl) (bx:(backTo pos (starEach es X.env)).any (·.1)=false:=by rfl) :
  PE X (.Call (.Name x p) (e::es) [] pos) (lE (o5 sp t)) :=
 cG (iN F hr hg hm hk hb .nil hx ha cT he bx) λσ H Q ⟨B,F,δ,ts,Qd,c,q,k⟩=>⟨B,F,δ,ts,_,c,q,λds ah vs F1 H1 q1 f1 h1 c1 s1=>by
  show bh sp (vs++[]) H1 Q E
  rw[fQ]
  exact xF c1 s1 q1 λd v F' H' hd hf hs c'=>k d ah v F' H' hd (f1.trans hf) (h1.trans hs) c'⟩
end
noncomputable def jJ(N:List Str)(ds:List D):Dl:=ds.map some++aw (N.length-ds.length) none
section
variable{P:Program}{w:World}{K:PySem.W.Frag}{mg:Str->Option Value}{base:Heap}
theorem bD{x qual:Str}{st:Stmt}{f:Addr}{fd:FuncData}{N ps:List Str}{k:Nat}{sp:bf}(F:aV K x qual st f fd)(S:bc N ps (ao st))(len:∀ds Q,sp ds Q->ds.length=ps.length)
  (gD:∀(aE:Value) (A:Around) (outer:List Env) (s:Shared) (H:Hp) (E:XK),bP k (A.deeper (envOfC qual (ao st) s.heap.objs.size f aE)) ->
   ∃t:cn,PSs (g8 aR P w K mg base N qual (ao st) f aE A outer s H E).fw (aS st) (lS (g8 aR P w K mg base N qual (ao st) f aE A outer s H E).fw t)/\∀ds Q,sp ds Q->t { nx:=λ_=>Q .aj,rt:=Q } (jJ N ds)):aK P w K mg base aR (k+1) f fd ps (bh sp):=by
 refine F.ok S (λvs H Q E ⟨F,ds,Qd,e,r,h,_⟩=>by rw[<-r.length];exact len ds Qd h) λaE A outer s H vs Q E hr zz=>?_
 obtain⟨F,ds,Qd,e,r,h,k⟩:=zz
 obtain⟨t,ht,hq⟩:=gD aE A outer s H E hr
 have fin:∀d v ae ay F' H',Qd d->ai ⟨H,F⟩ F' H' ay ae [(d,v)]->Q v H':=λd v ae ay F' H' hd c=>by
  obtain⟨A,C,r',s',nd,fr⟩:=c.own
  exact k d v F' H' A hd c.b1 c.b2 c.ext c.b3 r' (gI.mp nd).1 λa ha=>fr a (eJ _ ha)
 have e1:L2.start N vs=vs.map some++aw (N.length-ds.length) none:=by unfold L2.start;rw[r.length]
 refine⟨_,ht,⟨H,F⟩,F,jJ N ds,_,?_,hq ds Qd h,λae ay F' H' hd c=>fin .aj .aj ae ay F' H' hd (c.pushS (.aj .nil) rfl),fin,λ_ _ _ _ z=>z.elim,λ_ _ _ _ z=>z.elim,XL.none (λ_ _ z=>z) λ_ _ z=>z⟩
 rw[e1]
 exact ai.start e r _
end
section
variable{X:Cx}{e a b c:Expr}{es:List Expr}{pos:Pos}{st:Stmt}{mR rest:List Stmt}{t u:cn}{te:aG}{tt:eU}
noncomputable def rN:cn:=λD δ=>D.nx δ
noncomputable def Sv(t u:cn):cn:=λD δ=>t { D with nx:=u D } δ
theorem aI{t u:cn}{En:oR}{δ:Dl}(h:∀U:Dl->Prop,(∀ae,u En ae->U ae)->t { En with nx:=U } δ):Sv t u En δ:=h (u En) λ_ z=>z
theorem cQ:PSs X [] (lS X rN):=BJ wZ λD σ H ⟨B,F,δ,Dd,c,q,k1,_⟩=>k1 δ σ F H q c
theorem aJ(h1:PS X st (lS X t))(h2:PSs X rest (lS X u)):PSs X (st::rest) (lS X (Sv t u)) :=
 BJ (fj h1 h2) λD σ H ⟨B,F,δ,Dd,c,q,k1,k2,k3,k4⟩=>⟨B,F,δ,{ Dd with nx:=u Dd },c,q,λae ay F' H' hq c'=>⟨B,F',ae,Dd,c',hq,k1,k2,k3,k4⟩,k2,k3,k4⟩
theorem aF(h1:PS X st (lS X t)):PSs X [st] (lS X t):=kW h1
theorem BN:PS X st (lS X λ_ _=>False):=jG Bi λD σ H ⟨_,_,_,_,_,q,_⟩=>q.elim
theorem ca9:PSs X mR (lS X λ_ _=>False):=BJ b66 λD σ H ⟨_,_,_,_,_,q,_⟩=>q.elim
noncomputable def o6(i:Nat)(t:cn):cn:=λD δ=>∃d,δ[i]?=some (some d)/\t D (δ.set i (some d.sh))
theorem GI(i:Nat)(h:PSs X mR (lS X t)):PSs X mR (lS X (o6 i t)):=BJ h λD σ H zz=>by
 obtain⟨B,F,δ,Dd,c,⟨d,e,q⟩,k⟩:=zz
 obtain⟨F',s,c'⟩:=c.freeze e
 exact⟨B,F',_,Dd,c',q,k⟩
noncomputable def o7(i:Nat)(t:aG):cn:=λD δ=>t δ λd ae=>D.nx (ae.set i (some d))
theorem bE{i:Nat}{x:Str}{pos':Pos}(hN:X.N.Nodup)(hi:X.N[i]?=some x)(hx:Loc X.env.scope x)(he:PE X e (lE te))(hs:swapsWith e (some (.Name x pos')) pos.line X.env=pure false:=by rfl)
  (hf:X.fn x=true\/X.env.scope.names.lookup x=some .local:=by first | exact .inl rfl | exact .inr rfl | assumption):PS X (.Assign [.Name x pos'] e pos) (lS X (o7 i te)) :=
 jG (Fz hN hi hx he hs hf) λD σ H ⟨B,F,δ,Dd,c,q,k1,k2,k3,k4⟩=>⟨B,F,δ,[],_,c,q,λd ae v F' H' hd sf sh c'=>k1 _ _ F' H' hd (c'.store i)⟩
noncomputable def rO(t:aG):cn:=λD δ=>t δ λd _=>D.rt d
theorem aX(he:PE X e (lE te)):PS X (.Return (some e) pos) (lS X (rO te)) :=
 jG (cH7 he) λD σ H ⟨B,F,δ,Dd,c,q,k1,k2,k3,k4⟩=>⟨B,F,δ,[],_,c,q,λd ae v F' H' hd sf sh c'=>k2 d v ae σ F' H' hd c'⟩
noncomputable def rP(t:aG):cn:=λD δ=>t δ λ_ ae=>D.nx ae
theorem BO(he:PE X e (lB te))(hs:swapsWith e none pos.line X.env=pure false:=by rfl):PS X (.Expr e pos) (lS X (rP te)) :=
 jG (w4 he hs) λD σ H ⟨B,F,δ,Dd,c,q,k1,k2,k3,k4⟩=>⟨B,F,δ,[],_,c,q,λd ae v F' H' hd sf sh c' s=>k1 ae σ F' H' hd c'⟩
noncomputable def rQ(tc:eU)(t u:cn):cn:=λD δ=>tc δ λb ae=>if b=true then t D ae else u D ae
theorem cR{l r:List Stmt}(hc:PT X c (lT tt))(ha:PSs X l (lS X t))(hb:PSs X r (lS X u)):PS X (.If c l r pos) (lS X (rQ tt t u)) :=
 jG (Bh hc ha hb) λD σ H ⟨B,F,δ,Dd,c,q,k⟩=>⟨B,F,δ,[],_,c,q,λb ae F' H' hq sf sh c'=>by
  cases b with
  | true=>exact mU ⟨B,F',ae,Dd,c',by simpa using hq,k⟩
  | false=>exact jj ⟨B,F',ae,Dd,c',by simpa using hq,k⟩⟩
noncomputable def rR(i:Nat)(rd:bZ)(t:aG):cn:=λD δ=>∃x,δ[i]?=some (some x)/\t δ λy ah=>rd x y λz=>D.nx (ah.set i (some z))
theorem xG{i:Nat}{x:Str}{op:Operator}{rd:bZ}{pos':Pos}(hN:X.N.Nodup)(hi:X.N[i]?=some x)(hx:Loc X.env.scope x)(he:PE X e (lB te))(ho:bI X (inplaceOp op) rd)
  (hf:X.fn x=true\/X.env.scope.names.lookup x=some .local:=by first | exact .inl rfl | exact .inr rfl | assumption):PS X (.AugAssign (.Name x pos') op e pos) (lS X (rR i rd te)):=by
 obtain⟨r,h1,h2⟩:=ho
 refine jG (cG2 hN hi hx he (ti:=r) h1 hf) λD σ H zz=>?_
 obtain⟨B,F,δ,Dd,c,⟨d0,e0,q⟩,k1,k2,k3,k4⟩:=zz
 obtain⟨v0,e1,s0⟩:=c.look e0
 exact⟨v0,e1,B,F,δ,[],_,c,q,λd ae v F' H' hd sf sh c' s=>h2 c' (s0.mono sf sh) s hd λz w H2 hz h3 c3=>k1 _ _ F' H2 hz (c3.store i)⟩
noncomputable def rS(tc:eU)(tb:cn):cn:=λD δ=>∃W:Nat->Dl->Prop,(∃m,W m δ)/\∀m δ,W m δ->tc δ λb ae=>if b=true then tb { D with nx:=λae=>∃m',m'<m/\W m' ae,ct:=λae=>∃m',m'<m/\W m' ae,bk:=D.nx } ae else D.nx ae
theorem GJ{body:List Stmt}(hp:PassesOwn (model X.prog X.w) X.A X.env X.xe)(hc:PT X c (lT tt))(hb:PSs X body (lS X t)):PS X (.While c body [] pos) (lS X (rS tt t)) :=
 jG (ca0 hp hc hb) λD σ H zz=>by
  obtain⟨B,F,δ,Dd,c,⟨W,⟨m0,w0⟩,hw⟩,k1,k2,k3,k4⟩:=zz
  refine⟨λm σ H=>∃F δ,ai B F H σ δ []/\W m δ,⟨m0,F,δ,c,w0⟩,λm σ H ⟨F,δ,c,w⟩=>⟨B,F,δ,[],_,c,hw m δ w,λb ae F' H' hq sf sh c'=>?_⟩⟩
  cases b with
  | true =>
   refine mU ⟨λay H'=>∃m',m'<m/\∃F δ,ai B F H' ay δ []/\W m' δ,λay H' z=>z,B,F',ae,{ Dd with nx:=λae=>∃m',m'<m/\W m' ae,ct:=λae=>∃m',m'<m/\W m' ae,bk:=Dd.nx },c',by simpa using hq,λaN iK F2 H2 ⟨m',hm,w2⟩ c2=>⟨m',hm,F2,aN,c2,w2⟩,k2,λaN iK F2 H2 z c2=>k1 aN iK F2 H2 z c2,λaN iK F2 H2 ⟨m',hm,w2⟩ c2=>⟨m',hm,F2,aN,c2,w2⟩,k4.2⟩
  | false=>exact jj (k1 ae σ F' H' (by simpa using hq) c')
end
structure JD(J:It)(F:Hp)(xs:List D):Prop where
 go:∀i H,aa F H->i<xs.length->J.go i H
 jh:∀i H x H',aa F H->i<xs.length->J.jh i H x H'->∃d,xs[i]?=some d/\aa H H'/\R F H' [d] [x] []
 stop:∀i H,aa F H->xs.length<=i->J.stop i H
noncomputable abbrev iS:=Dl->(Bool->List D->Dl->Prop)->Prop
noncomputable def lI(t:iS):TI:=λσ H Rr=>∃B F δ ts Qd,ai B F H σ δ ts/\t δ Qd/\∀g xs ae J F' H',Qd g xs ae->aa F F'->aa H H'->ai B F' H' σ ae ts->JD J H' (xs.map D.sh)->(g=true->xs.all D.pl=true/\JD J F' xs)->Rr J H'
noncomputable abbrev gK:=D->Dl->(Dl->Prop)->Prop
noncomputable def lG(m:Nat)(t:gK):TG:=λv σ H Q=>∃B F δ ts d Qd,ai B F H σ δ ((d,v)::ts)/\t d δ Qd/\∀ae ay,Qd ae->ay.length=σ.length->(∀j,j<m->ay[j]?=σ[j]?)->ai B F H ay ae ts->Q ay H
noncomputable def jn:D->Option (List D)
 | .lst _ xs=>some xs
 | .fz xs=>some xs
 | _=>none
section
variable{B:Bs}{F H F1:Hp}{σ:L2.St}{δ:Dl}{ts:List (D × V)}
end
section
variable{X:Cx}{e a b c tg l iter:Expr}{es:List Expr}{pos:Pos}{t u:cn}{te:aG}{tt:eU}{ta:bY}{m:Nat}
theorem rT{w w':TI}(h:PI X tg iter w)(m:∀σ H Q,w' σ H Q->w σ H Q):PI X tg iter w':=λpins s σ H Q I q=>h pins s σ H Q I (m σ H Q q)
theorem Sw{w w':TG}(h:PG X tg w)(m:∀v σ H Q,w' v σ H Q->w v σ H Q):PG X tg w':=λpins s σ H v u Q I r q=>h pins s σ H v u Q I r (m v σ H Q q)
noncomputable def gN(i:Nat):gK:=λd δ Q=>Q (δ.set i (some d))
theorem dO{i:Nat}{x:Str}(hN:X.N.Nodup)(hi:X.N[i]?=some x)(hx:Loc X.env.scope x)(hm:m<=i:=by decide)(hf:X.fn x=true\/X.env.scope.names.lookup x=some .local:=by first | exact .inl rfl | exact .inr rfl | assumption):PG X (.Name x pos) (lG m (gN i)) :=
 Sw (Bl hN hi hx hf) λv σ H Q ⟨B,F,δ,ts,d,Qd,c,q,k⟩=>k _ _ q (by simp) (λj hj=>by rw[nU (by omega)]) (c.store i)
theorem lM{K:PySem.W.Frag}{F H:Hp}{p:Addr}{xs:List D}{ws:List V}(hp:Rd F p (.lst ws))(r:R F H xs ws [])(hF:Full F H):JD (FC K p) F xs where
 go:=λi H' hs hi=>by
  have l:=r.length
  have gG:i<ws.length:=by omega
  exact⟨ws,ws[i],.inl (gH hp hs),aU gG⟩
 jh:=λi H' x H2 hs hi zz=>by
  obtain⟨e,y⟩:=zz
  subst e
  have hx:=y ws (.inl (gH hp hs))
  obtain⟨v,A1,e2,r1,sub⟩:=(r.full hF hs rfl).get (aU hi)
  rw[hx]at e2;cases e2
  have:A1=[]:=ζ.mpr λa ha=>by simpa using sub ha
  subst this
  exact⟨_,aU hi,aa.refl _,r1⟩
 stop:=λi H' hs hi=>⟨ws,.inl (gH hp hs),by have:=r.length;omega⟩
theorem BP{F:Hp}(lo:Int)(n:Nat):JD (w5 lo n) F ((bo n).map λ(k:Nat)=>D.int (lo+(k:Int))) where
 go:=λi H' hs hi=>by
  have gG:i<n:=by simpa using hi
  exact gG
 jh:=λi H' x H2 hs hi zz=>by
  obtain⟨e,y⟩:=zz
  subst e y
  have gG:i<n:=by simpa using hi
  exact⟨.int (lo+i),by simp[jX gG],aa.refl _,.int .nil⟩
 stop:=λi H' hs hi=>by
  have gG:n<=i:=by simpa using hi
  exact gG
noncomputable def rV(t:aG):iS:=λδ Q=>t δ λd ae=>∃xs,jn d=some xs/\Q true (xs.map D.sh) ae
theorem cS9(xs:List D){F H:Hp}{ws:List V}(r:R F H (xs.map D.sh) ws []):(xs.map D.sh).map D.sh=xs.map D.sh:=km r.pl
theorem Sx(h:PE X l (lE te)):PI X tg l (lI (rV te)) :=
 rT (QS h) λσ H Q ⟨B,F,δ,ts,Qd,c,q,k⟩=>⟨B,F,δ,ts,_,c,q,λd ah v F1 H1 hd f1 h1 c1=>by
  obtain⟨xs,e,hq⟩:=hd
  obtain⟨F2,f2,c2⟩:=c1.GF
  have tp:=c2.top
  have c3:=c2.pop.snap
  have e2:=c2.ext
  have sn:=oQ e2
  cases d with
  | lst o ys =>
   obtain rfl:=cP e
   rw[dX]at tp
   cases tp with
   | @shr p ws _ _ _ hp r _ =>
    have r3:=r.shared sn (aa.refl _)
    refine⟨p,rfl,⟨ws,bH.of (e2 _ _ hp)⟩,k true _ ah _ _ H1 hq ((f1.trans f2).trans sn) h1 c3 ?_ λ_=>⟨r.pl,lM (.inl (sn _ _ hp)) r3 rC⟩⟩
    rw[cS9 _ r]
    exact lM (.inl (e2 _ _ hp)) (r.shared e2 (aa.refl _)) (Full.refl _)
  | fz ys =>
   obtain rfl:=cP e
   cases tp with
   | @fz p o ws _ _ _ hp r _ =>
    have r3:=r.shared sn (aa.refl _)
    have es:=km r.pl
    rw[es]at hq
    refine⟨p,rfl,⟨ws,.inl (.inr ⟨o,e2 _ _ hp⟩)⟩,k true _ ah _ _ H1 hq ((f1.trans f2).trans sn) h1 c3 ?_ λ_=>⟨r.pl,lM (.inr ⟨o,sn _ _ hp⟩) r3 rC⟩⟩
    rw[es]
    exact lM (.inr ⟨o,e2 _ _ hp⟩) (r.shared e2 (aa.refl _)) (Full.refl _)
  | aj=>cases e
  | bl _=>cases e
  | int _=>cases e
  | str _=>cases e
  | tup _=>cases e
  | obj _ _ _=>cases e
  | bu _=>cases e⟩
noncomputable def rW(t:aG):iS:=λδ Q=>t δ λd ae=>∃xs,jn d=some xs/\Q d.pl xs ae
theorem iT(h:PE X l (lB te)):PI X tg l (lI (rW te)) :=
 rT (QS h) λσ H Q ⟨B,F,δ,ts,Qd,c,q,k⟩=>⟨B,F,δ,ts,_,c,q,λd ah v F1 H1 hd f1 h1 c1 s=>by
  obtain⟨xs,e,hq⟩:=hd
  have c3:=c1.snap
  have e2:=c1.ext
  have sn:=oQ e2
  cases s with
  | @shr p ws ys _ _ hp r _ =>
   obtain rfl:=cP e
   refine⟨p,rfl,⟨ws,bH.of (e2 _ _ hp)⟩,k _ _ ah _ _ H1 hq (f1.trans sn) h1 c3 ?_ λ_=>⟨r.pl,lM (.inl (sn _ _ hp)) (r.shared sn (aa.refl _)) rC⟩⟩
   rw[km r.pl]
   exact lM (.inl (e2 _ _ hp)) (r.shared e2 (aa.refl _)) (Full.refl _)
  | @own p ws ys _ _ hp r _ =>
   obtain rfl:=cP e
   refine⟨p,rfl,⟨ws,bH.of hp⟩,k _ _ ah _ _ H1 hq (f1.trans sn) h1 c3 (lM (.inl hp) (r.frozen e2) (Full.refl _)) λz=>by simp[gb]at z⟩
  | @fz p o ws ys _ _ hp r _ =>
   obtain rfl:=cP e
   refine⟨p,rfl,⟨ws,.inl (.inr ⟨o,e2 _ _ hp⟩)⟩,k _ _ ah _ _ H1 hq (f1.trans sn) h1 c3 ?_ λ_=>⟨r.pl,lM (.inr ⟨o,sn _ _ hp⟩) (r.shared sn (aa.refl _)) rC⟩⟩
   rw[km r.pl]
   exact lM (.inr ⟨o,e2 _ _ hp⟩) (r.shared e2 (aa.refl _)) (Full.refl _)
  | aj _=>cases e
  | bl _=>cases e
  | int _=>cases e
  | str _=>cases e
  | tup _ _ _=>cases e
  | obj _ _ _ _=>cases e
  | bu _ _=>cases e⟩
theorem xH(f:Nat->Int)(l:List Nat):(l.map λk=>D.int (f k)).map D.sh=l.map λk=>D.int (f k):=by simp[D.sh]
theorem Sy(f:Nat->Int)(l:List Nat):(l.map λk=>D.int (f k)).all D.pl=true:=by simp[D.pl]
noncomputable def rX(t:bY):iS:=λδ Q=>t δ λds ae=>∃j:Int,ds=[.int j]/\(-(2 ^ 62)<=j/\j<2 ^ 62)/\Q true ((bo j.toNat).map λ(k:Nat)=>D.int (0+(k:Int))) ae
theorem rY{p:Pos}(hg:Gl X "range")(hm:X.mg "range"=none)(ha:PA X [a] (lA ta))(hs:starEach [a] X.env=[(false,eval a X.env)]:=by rfl):PI X tg (.Call (.Name "range" p) [a] [] pos) (lI (rX ta)) :=
 rT (bW8 hg hm ha hs) λσ H Q ⟨B,F,δ,ts,Qd,c,q,k⟩=>⟨B,F,δ,ts,_,c,q,λds ah vs F1 H1 hd f1 h1 c1 s=>by
  obtain⟨j,rfl,⟨b1,b2⟩,hq⟩:=hd
  cases s with
  | int s =>
   cases s
   refine⟨j,rfl,b1,b2,k true _ ah _ _ H1 hq f1 h1 c1 ?_ λ_=>⟨Sy _ _,BP 0 _⟩⟩
   rw[xH]
   exact BP 0 _⟩
noncomputable def rZ(t:bY):iS:=λδ Q=>t δ λds ae=>∃i j:Int,ds=[.int i,.int j]/\(-(2 ^ 62)<=i/\i<2 ^ 62/\-(2 ^ 62)<=j/\j<2 ^ 62)/\Q true ((bo (j-i).toNat).map λ(k:Nat)=>D.int (i+(k:Int))) ae
theorem BQ{p:Pos}(hg:Gl X "range")(hm:X.mg "range"=none)(ha:PA X [a,b] (lA ta))(hs:starEach [a,b] X.env=[(false,eval a X.env),(false,eval b X.env)]:=by rfl)(eK:starEach [b] X.env=[(false,eval b X.env)]:=by rfl) :
  PI X tg (.Call (.Name "range" p) [a,b] [] pos) (lI (rZ ta)) :=
 rT (b09 hg hm ha hs eK) λσ H Q ⟨B,F,δ,ts,Qd,c,q,k⟩=>⟨B,F,δ,ts,_,c,q,λds ah vs F1 H1 hd f1 h1 c1 s=>by
  obtain⟨i,j,rfl,bd,hq⟩:=hd
  cases s with
  | int s =>
   cases s with
   | int s =>
    cases s
    refine⟨i,j,rfl,bd,k true _ ah _ _ H1 hq f1 h1 c1 ?_ λ_=>⟨Sy _ _,BP i _⟩⟩
    rw[xH]
    exact BP i _⟩
noncomputable def fE(xs:List D)(g:gK)(tb:cn):cn:=λEn ah=>∃Iv:Nat->Dl->Prop,Iv 0 ah /\
 (∀i d ae,xs[i]?=some d->Iv i ae->g d ae λaN=>tb { En with nx:=Iv (i+1),ct:=Iv (i+1),bk:=En.nx } aN)/\∀ae,Iv xs.length ae->En.nx ae
theorem fE.mk{xs:List D}{g:gK}{tb:cn}{En:oR}{δ:Dl}(Iv:Nat->Dl->Prop)(h0:Iv 0 δ)(ht:∀i d ae,xs[i]?=some d->Iv i ae->g d ae λaN=>tb { En with nx:=Iv (i+1),ct:=Iv (i+1),bk:=En.nx } aN)
  (hf:∀ae,Iv xs.length ae->En.nx ae):fE xs g tb En δ:=⟨Iv,h0,ht,hf⟩
noncomputable def se(ti:iS)(g:gK)(tb:cn):cn:=λEn δ=>ti δ λsh xs ah=>sh=true/\fE xs g tb En ah
theorem gL{ti:iS}{g:gK}{body:List Stmt}(hp:PassesOwn (model X.prog X.w) X.A X.env X.xe)(hc:X.calm=true)(hi:PI X tg iter (lI ti))(hg:PG X tg (lG 0 g))(hb:PSs X body (lS X t))
  (hs:∀x,foldedSetIterable iter X.env x=pure x:=by intro _;rfl):PS X (.For tg iter body [] pos) (lS X (se ti g t)) :=
 jG (cF6 hp hc hi hg hb hs) λEn σ H ⟨B,F,δ,Dd,c,q,k1,k2,k3,k4⟩=>⟨B,F,δ,[],_,c,q,λsh xs ah J F1 H1 hq f1 h1 c1 _ jd=>by
  obtain⟨xn,Iv,i0,turn,fin⟩:=hq
  obtain⟨bx,jd⟩:=jd xn
  have un:∀{F' H':Hp} {ay:L2.St} {ae:Dl} {ts:List (D × V)},ai ⟨B.H0,F1⟩ F' H' ay ae ts->ai B F' H' ay ae ts:=λc'=>c'.dn8 c1.b2 c1.b3
  refine⟨λi m σ H=>m=xs.length-i/\i<=xs.length/\∃F δ,ai ⟨B.H0,F1⟩ F H σ δ []/\Iv i δ,⟨_,rfl,qD _,F1,ah,c1.rebase,i0⟩,?_⟩
  rintro i m iK H2 ⟨rfl,hi,F2,aN,c2,iv⟩
  have s2:aa F1 H2:=c2.b2.trans c2.ext
  by_cases fB:i<xs.length
  ·refine .inr ⟨jd.go i H2 s2 fB,λay H'=>∃F δ,ai ⟨B.H0,F1⟩ F H' ay δ []/\Iv (i+1) δ,λay H' z=>⟨xs.length-(i+1),by omega,rfl,fB,z⟩,λx H3 y=>?_⟩
   obtain⟨d,e,s3,r⟩:=jd.jh i H2 x H3 s2 fB y
   have c3:=(c2.grow s3).pushS (d:=d) (v:=x) ((r.s).mono c2.b2 (aa.refl _)) (by have:=r.pl;simpa using this)
   refine⟨⟨B.H0,F1⟩,F2,aN,[],d,_,c3,turn i d aN e iv,λae ay hq _ _ c4=>?_⟩
   exact⟨⟨B.H0,F1⟩,F2,ae,_,c4,hq,λiU lN F5 H5 h5 c5=>⟨F5,iU,c5,h5⟩,λd5 v5 iU lN F5 H5 h5 c5=>k2 d5 v5 iU lN F5 H5 h5 (un c5),λiU lN F5 H5 h5 c5=>k1 iU lN F5 H5 h5 (un c5),λiU lN F5 H5 h5 c5=>⟨F5,iU,c5,h5⟩,⟨λC iU pins lN F5 H5 s5 a T h5 c5=>k4.2.1 C iU pins lN F5 H5 s5 a T h5 (un c5),λC iU pins lN F5 H5 s5 h' e vs h5 c5=>k4.2.2 C iU pins lN F5 H5 s5 h' e vs h5 (un c5)⟩⟩
  ·have e:i=xs.length:=by omega
   subst e
   exact .inl ⟨jd.stop _ H2 s2 (bB _),k1 aN iK F2 H2 (fin aN iv) (un c2)⟩⟩
end
end L3
namespace L3
open PySem L2 PySem.Spec PyProof.Rows
noncomputable def iV(δ:Dl)(q:Str × Nat):Option D:=(δ[q.2]?).getD none
noncomputable def ib(δ:Dl)(q:Str × Nat):Bool:=match iV δ q with
 | some d=>d.pl
 | none=>true
noncomputable def fc(ax:List (Str × Nat))(n:Nat)(δ:Dl):Dl:=(ax.map λq=>(iV δ q).map D.sh)++aw n none
noncomputable def sg(sh:Bool)(xs:List D)(ax:List (Str × Nat))(n:Nat)(g:gK)(tt:eU)(te:aG)(ah:Dl)(Q:D->Dl->Prop):Prop:=∃(p:D->Bool) (f:D->D),
 (∀x∈xs.map D.sh,g x (fc ax n ah) λaN=>tt aN λb gJ=>b=p x/\(p x=true->te gJ λd _=>d=f x)) /\
 ((sh&&ax.all (ib ah))=true\/∀x∈xs.map D.sh,p x=true->(f x).fr=true)/\xs.length<=sizeLine/\Q (.lst true (((xs.map D.sh).filter p).map f)) ah
noncomputable def o8(ti:iS)(ax:List (Str × Nat))(n:Nat)(g:gK)(tt:eU)(te:aG):aG:=λδ Q=>ti δ λsh xs ah=>sg sh xs ax n g tt te ah Q
noncomputable def kn:eU:=λδ Q=>Q true δ
theorem cg5{sh:Bool}{xs:List D}{ax:List (Str × Nat)}{n m:Nat}{te:aG}{ah:Dl}{Q:D->Dl->Prop}(f:D->D)(hx:∀x∈xs.map D.sh,te ((fc ax n ah).set m (some x)) λd _=>d=f x)
  (dU:(sh&&ax.all (ib ah))=true\/∀x∈xs.map D.sh,(f x).fr=true) (hl:xs.length<=sizeLine) (hq:Q (.lst true ((xs.map D.sh).map f)) ah):sg sh xs ax n (gN m) kn te ah Q :=
 ⟨λ_=>true,f,λx h=>⟨rfl,λ_=>hx x h⟩,dU.imp id λh x hx _=>h x hx,hl,by rw[η.mpr (λ_ _=>rfl)];exact hq⟩
section
variable{B:Bs}{F H:Hp}{σ:L2.St}{δ:Dl}{ts:List (D × V)}
theorem Sz(c:ai B F H σ δ ts)(n:Nat):∀(ax:List (Str × Nat)),ax.all (ib δ)=true->RS F H (fc ax n δ) (fY ax n σ) []
 | [],_=>by
  have z:∀n,RS F H (aw n none) (aw n none) []:=λn=>by
   induction n with
   | zero=>exact .nil
   | succ n ih=>exact .aj ih
  exact z n
 | q::r,h=>by
  rw[di,dB]at h
  have ih:=Sz c n r h.2
  show RS F H ((iV δ q).map D.sh::fc r n δ) ((σ[q.2]?).getD none::fY r n σ) []
  cases e:iV δ q with
  | none=>exact .aj ih
  | some d =>
   have e2:δ[q.2]?=some (some d):=by
    unfold iV at e
    cases z:δ[q.2]? with
    | none=>rw[z]at e;cases e
    | some o=>rw[z]at e;exact congrArg some e
   have hp:d.pl=true:=by have:=h.1;unfold ib at this;rw[e]at this;exact this
   obtain⟨v,e3,s⟩:=c.look e2
   rw[e3]
   show RS F H (some d.sh::_) (some v::_) []
   rw[D.BI hp]
   exact .fC (A:=[]) (s.r (by simp[hp])) ih
theorem SA(c:ai B F H σ δ ts)(n:Nat):∀(ax:List (Str × Nat)),RS H H (fc ax n δ) (fY ax n σ) []
 | []=>by
  have z:∀n,RS H H (aw n none) (aw n none) []:=λn=>by
   induction n with
   | zero=>exact .nil
   | succ n ih=>exact .aj ih
  exact z n
 | q::r=>by
  have ih:=SA c n r
  show RS H H ((iV δ q).map D.sh::fc r n δ) ((σ[q.2]?).getD none::fY r n σ) []
  cases e:iV δ q with
  | none=>exact .aj ih
  | some d =>
   have e2:δ[q.2]?=some (some d):=by
    unfold iV at e
    cases z:δ[q.2]? with
    | none=>rw[z]at e;cases e
    | some o=>rw[z]at e;exact congrArg some e
   obtain⟨v,e3,s⟩:=c.look e2
   rw[e3]
   exact .fC (A:=[]) (s.frozen c.ext) ih
theorem SD{α:Type}(xs:List α)(p:α->Bool)(i:Nat)(x:α)(h:xs[i]?=some x):(xs.take (i+1)).filter p=(xs.take i).filter p++(if p x=true then [x]else []):=by
 rw[AH,h,Qn]
 simp only[Option.toList_some]
 by_cases hp:p x=true<;>simp[hp]
end
section
variable{X:Cx}{elt iter tg:Expr}{pos:Pos}{ifs:List Expr}{scope:Scope}{cl:List (Str × Addr)}{ti:iS}{tt:eU}{te:aG}{g:gK}
theorem SE{B:Bs}{F1 H1:Hp}{σ:L2.St}{ah:Dl}{ts:List (D × V)}{J:It}{Qd:D->Dl->Prop}{Q:VK}{xs:List D}{sh:Bool}{ax:List (Str × Nat)}{n:Nat}(c1:ai B F1 H1 σ ah ts)
  (o9:JD J H1 (xs.map D.sh)) (xI:sh=true->xs.all D.pl=true/\JD J F1 xs) (p:D->Bool) (f:D->D)
  (hx:∀x∈xs.map D.sh,g x (fc ax n ah) λaN=>tt aN λb gJ=>b=p x/\(p x=true->te gJ λd _=>d=f x))
  (dU:(sh&&ax.all (ib ah))=true\/∀x∈xs.map D.sh,p x=true->(f x).fr=true) (hlen:xs.length<=sizeLine) (hq:Qd (.lst true (((xs.map D.sh).filter p).map f)) ah)
  (k:∀d ae v F' H',Qd d ae->aa F1 F'->aa H1 H'->ai B F' H' σ ae ((d,v)::ts)->Q v H'):R6 J ax n (lG ax.length g) (lT tt) (lE te) σ H1 Q:=by
 intro Dp hD
 have cD:ai B F1 (upd H1 Dp (.lst [])) σ ah ((.lst true [],.ref Dp)::ts):=c1.mZ hD .nil rfl
 refine⟨λi m acc H2=>m=xs.length-i/\i<=xs.length/\H2 Dp=some (.lst acc)/\aa H1 H2/\acc.length<=i/\∃F2,aa F1 F2 /\
  ai B F2 H2 σ ah ((.lst true ((((xs.map D.sh).take i).filter p).map f),.ref Dp)::ts),⟨xs.length,rfl,qD _,bG,aa.upd hD,bB _,F1,aa.refl _,by simpa using cD⟩,?_⟩
 rintro i m acc H2 ⟨rfl,hi,GK,xJ,hal,F2,kq,c2⟩
 refine⟨GK,?_⟩
 by_cases fB:i<xs.length
 case neg =>
  have e:i=xs.length:=by omega
  subst e
  refine .inl ⟨o9.stop _ H2 xJ (by simp),k _ ah _ F2 H2 ?_ kq xJ c2⟩
  have:(xs.map D.sh).take xs.length=xs.map D.sh:=by rw[E1 (by simp)]
  rw[this]
  exact hq
 case pos =>
  refine .inr ⟨o9.go i H2 xJ (by simpa using fB),λx H3 y=>?_⟩
  obtain⟨d0,e0,GL,r0⟩:=o9.jh i H2 x H3 xJ (by simpa using fB) y
  have SF:d0∈xs.map D.sh:=qH e0
  have SG:H3 Dp=some (.lst acc):=GL _ _ GK
  have c3:=c2.grow GL
  have GN:=xJ.trans GL
  refine⟨SG,?_⟩
  have lQ:=hx d0 SF
  have turn:∀Fi,aa Fi H3->RS Fi H3 (fc ax n ah) (fY ax n σ) []->S Fi H3 [d0] [x]->d0.pl=true ->
    (∀d v F' H' A,d=f d0->p d0=true->aa H3 H'->aa Fi F'->aa F' H'->(∀a ws,F' a=some (.lst ws)->Fi a=some (.lst ws)\/H3 a=none)->R F' H' [d] [v] A->A.Nodup->(∀a∈A,H3 a=none) ->
     ∃F4,aa F2 F4/\ai B F4 H' σ ah ((d,v)::(.lst true ((((xs.map D.sh).take i).filter p).map f),.ref Dp)::ts)) ->
    lG ax.length g x (fY ax n σ) H3 λfA H4 =>
     (fA.length=(fY ax n σ).length/\∀j,j<ax.length->fA[j]?=(fY ax n σ)[j]?)/\lT tt fA H4 λb H5=>H5 Dp=some (.lst acc) /\
     if b=true then lE te fA H5 λy H6=>H6 Dp=some (.lst acc)/\acc.length<sizeLine/\∃m',m'<xs.length-i /\
      (m'=xs.length-(i+1)/\i+1<=xs.length/\upd H6 Dp (.lst (acc++[y])) Dp=some (.lst (acc++[y]))/\aa H1 (upd H6 Dp (.lst (acc++[y])))/\(acc++[y]).length<=i+1/\∃F2,aa F1 F2 /\
       ai B F2 (upd H6 Dp (.lst (acc++[y]))) σ ah ((.lst true ((((xs.map D.sh).take (i+1)).filter p).map f),.ref Dp)::ts))
     else ∃m',m'<xs.length-i/\(m'=xs.length-(i+1)/\i+1<=xs.length/\H5 Dp=some (.lst acc)/\aa H1 H5/\acc.length<=i+1/\∃F2,aa F1 F2 /\
       ai B F2 H5 σ ah ((.lst true ((((xs.map D.sh).take (i+1)).filter p).map f),.ref Dp)::ts)):=by
   intro Fi hFi hRS hS bx back
   have ci:ai ⟨H3,Fi⟩ Fi H3 (fY ax n σ) (fc ax n ah) []:=⟨hFi,aa.refl _,aa.refl _,λ_ _ q=>.inl q,[],[],.nil,hRS,by simp,by simp⟩
   refine⟨⟨H3,Fi⟩,Fi,fc ax n ah,[],d0,_,ci.pushS hS bx,lQ,λae fA hq1 l1 k1 c4=>⟨⟨l1,k1⟩,⟨H3,Fi⟩,Fi,ae,[],_,c4,hq1,λb iU F5 H5 hb f5 h5 c5=>?_⟩⟩
   obtain⟨hb,ht⟩:=hb
   have BR:H5 Dp=some (.lst acc):=h5 _ _ SG
   refine⟨BR,?_⟩
   by_cases hp:p d0=true
   ·rw[hb,hp]
    refine mU ⟨⟨H3,Fi⟩,F5,iU,[],_,c5,ht hp,λd δ6 v F6 H6 hd f6 h6 c6=>?_⟩
    have SH:H6 Dp=some (.lst acc):=h6 _ _ BR
    obtain⟨A,C,r,s,nd,fr⟩:=c6.own
    obtain⟨F4,kr,c7⟩:=back d v F6 H6 A hd hp c6.b1 c6.b2 c6.ext c6.b3 r (gI.mp nd).1 λa ha=>fr a (eJ _ ha)
    have c8:=c7.do3 SH
    refine⟨SH,by omega,xs.length-(i+1),by omega,rfl,fB,bG,?_,by simpa using hal,F4,kq.trans kr,?_⟩
    ·have SI:=GN.trans c6.b1
     exact⟨λa o q n=>by rw[aQ (dj q hD)];exact SI.get a o q n,λa ps q=>by rw[aQ (dj q hD)];exact SI.tb a ps q⟩
    ·have e9:(((xs.map D.sh).take (i+1)).filter p).map f=(((xs.map D.sh).take i).filter p).map f++[d]:=by
      rw[SD _ p i d0 e0,hp,hd];simp
     rw[e9]
     exact c8
   ·have SJ:p d0=false:=by simpa using hp
    rw[hb,SJ]
    refine jj ⟨xs.length-(i+1),by omega,rfl,fB,BR,GN.trans h5,by omega,F2,kq,?_⟩
    have e9:(((xs.map D.sh).take (i+1)).filter p).map f=(((xs.map D.sh).take i).filter p).map f:=by
     rw[SD _ p i d0 e0,SJ];simp
    rw[e9]
    exact c3.grow h5
  by_cases hA:(sh&&ax.all (ib ah))=true
  ·rw[dB]at hA
   obtain⟨bx,jd⟩:=xI hA.1
   have xn:=km bx
   rw[xn]at e0
   obtain⟨d1,e1,_,r1⟩:=jd.jh i H2 x H3 (kq.trans c2.ext) fB y
   rw[e0]at e1;cases e1
   have dp6:d0.pl=true:=by have:=r1.pl;simpa using this
   refine turn F2 c3.ext (Sz c3 n ax hA.2) ((r1.s).mono kq (aa.refl _)) dp6 λd v F' H' A hd hp hs hf he h3 r nd fr=>⟨F',hf,c3.call hs hf he h3 r nd fr⟩
  ·have dp7:=dU.resolve_left hA
   refine turn H3 (aa.refl _) (SA c3 n ax) ((r0.shared GN (aa.refl _)).s) (by have:=r0.pl;simpa using this) λd v F' H' A hd hp hs hf he h3 r nd fr=>⟨F2,aa.refl _,?_⟩
   exact c3.GC hs (r.rB (by rw[hd];simp[dp7 d0 SF hp]) (c3.ext.trans hf)) nd fr
theorem fq{Y:Cx}:lD Y [] (lT kn):=λ_ _ _ H _ I ⟨B,F,δ,ts,Qd,c,q,k⟩=>cr8 _ _ _ H _ I (k true δ F H q (aa.refl _) (aa.refl _) c)
theorem xK{Y:Cx}{c:Expr}(h:PT Y c (lT tt)):lD Y [c] (lT tt):=cw0 h
end
end L3
namespace L3
open PySem L2 PySem.Spec PyProof.Rows
section
variable{X:Cx}{F H:Hp}{v w:V}
noncomputable def l2(rd:bZ):R2:=λv w H Q=>∃B F σ δ ts x y Qd,ai B F H σ δ ts/\S F H [x] [v]/\S F H [y] [w]/\rd x y Qd/\∀d z H',Qd d->aa H H'->ai B F H' σ δ ((d,z)::ts)->Q z H'
theorem bI.of{f:Value->Value->Sem Value}{rd:bZ}(h:bW X f (l2 rd)):bI X f rd:=⟨_,h,λ{B F H σ δ ts x y v w Q Qd} c sx sy q k=>⟨B,F,σ,δ,ts,x,y,Qd,c,sx,sy,q,k⟩⟩
theorem si{f:Value->Value->Sem Value}{C:Int->Int->Prop}{g:Int->Int->V}{gd:Int->Int->D}(ho:bW X f (rI C g))(hg:∀i j F H,S F H [gd i j] [g i j])(hp:∀i j,(gd i j).pl=true):bI X f λx y Q=>∃i j,x=.int i/\y=.int j/\C i j/\Q (gd i j) :=
 ⟨_,ho,λ{B F H σ δ ts x y v w Q Qd} c sx sy h k=>by
  obtain⟨i,j,rfl,rfl,hc,q⟩:=h
  cases sx;cases sy
  exact⟨i,j,rfl,rfl,hc,k _ _ _ q (aa.refl _) (c.pushS (hg i j F H) (hp i j))⟩⟩
theorem ku{f:Value->Value->Sem Value}{g:Int->Int->V}{gd:Int->Int->D}(ho:bW X f (iM g))(hg:∀i j F H,S F H [gd i j] [g i j])(hp:∀i j,(gd i j).pl=true):bI X f λx y Q=>∃i j,x=.int i/\y=.int j/\Q (gd i j) :=
 ⟨_,ho,λ{B F H σ δ ts x y v w Q Qd} c sx sy h k=>by
  obtain⟨i,j,rfl,rfl,q⟩:=h
  cases sx;cases sy
  exact⟨i,j,rfl,rfl,k _ _ _ q (aa.refl _) (c.pushS (hg i j F H) (hp i j))⟩⟩
theorem ie{o:Bool}{xs:List D}(s:S F H [.lst o xs] [v])(e:aa F H):∃p ws,v=.ref p/\H p=some (.lst ws)/\S F H xs ws:=by
 cases s with
 | shr h r _=>exact⟨_,_,rfl,e _ _ h,r.s⟩
 | own h r _=>exact⟨_,_,rfl,h,r⟩
theorem jK{xs:List D}(s:S F H [.tup xs] [v]):∃p ws,v=.ref p/\H p=some (.tup ws)/\S F H xs ws:=by
 cases s with
 | tup h r _=>exact⟨_,_,rfl,h,r⟩
theorem ky{d:D}{xs:List D}(s:S F H [d] [v])(e:aa F H)(h:jn d=some xs):∃p ws,v=.ref p/\Rd H p (.lst ws)/\S F H xs ws:=by
 cases s with
 | shr h' r _=>cases h;exact⟨_,_,rfl,.inl (e _ _ h'),r.s⟩
 | own h' r _=>cases h;exact⟨_,_,rfl,.inl h',r⟩
 | fz h' r _=>cases h;exact⟨_,_,rfl,.inr ⟨_,e _ _ h'⟩,r.s⟩
 | aj _=>cases h
 | bl _=>cases h
 | int _=>cases h
 | str _=>cases h
 | tup _ _ _=>cases h
 | obj _ _ _ _=>cases h
 | bu _ _=>cases h
theorem S.rep{xs:List D}{ws:List V}(s:S F H xs ws):∀k:Nat,S F H (aw k xs).flatten (aw k ws).flatten
 | 0=>by simpa using S.nil
 | k+1=>by
  rw[nX,nX,qJ,qJ]
  exact s.append (S.rep s k)
noncomputable def pd:bZ:=λx y Q=>match x,y with
 | .int i,.int j=>Q (.int (i+j))
 | .str a,.str b=>a.length+b.length<=sizeLine/\Q (.str (a++b))
 | .lst _ xs,.lst _ ys=>(xs.length+ys.length<=sizeLine/\xs.all D.pl=true/\ys.all D.pl=true)/\Q (.lst true (xs++ys))
 | _,_=>False
theorem cL5:bI X (binaryOp .Add) λx y Q=>∃o xs o' ys,x=.lst o xs/\y=.lst o' ys/\(xs.length+ys.length<=sizeLine/\xs.all D.pl=true/\ys.all D.pl=true)/\Q (.lst true (xs++ys)) :=
 ⟨_,RB,λ{B F H σ δ ts x y v w Q Qd} c sx sy h k=>by
  obtain⟨o,xs,o',ys,rfl,rfl,⟨hz,h1,h2⟩,q⟩:=h
  obtain⟨p,ws,rfl,e1,s1⟩:=ie sx c.ext
  obtain⟨p',fo,rfl,e2,s2⟩:=ie sy c.ext
  refine⟨p,p',ws,fo,rfl,rfl,e1,e2,by rw[<-s1.length,<- s2.length];exact hz,λr hr=>?_⟩
  exact k _ _ _ q (aa.upd hr) (c.mZ hr (s1.append s2) (by simp[h1,h2]))⟩
theorem dp9:bI X (binaryOp .Add) λx y Q=>∃i j,x=.str i/\y=.str j/\i.length+j.length<=sizeLine/\Q (.str (i++j)) :=
 ⟨_,bO4,λ{B F H σ δ ts x y v w Q Qd} c sx sy h k=>by
  obtain⟨i,j,rfl,rfl,hz,q⟩:=h
  cases sx;cases sy
  exact⟨i,j,rfl,rfl,hz,k _ _ _ q (aa.refl _) (c.pushS (.str .nil) rfl)⟩⟩
theorem gh:bI X (binaryOp .Add) pd:=((ku (gd:=λi j=>.int (i+j)) cB1 (λ_ _ _ _=>.int .nil) λ_ _=>rfl).or (dp9.or cL5)).imp λx y Q h=>by
 unfold pd at h
 split at h
 ·exact .inl ⟨_,_,rfl,rfl,h⟩
 ·exact .inr (.inl ⟨_,_,rfl,rfl,h.1,h.2⟩)
 ·exact .inr (.inr ⟨_,_,_,_,rfl,rfl,h.1,h.2⟩)
 ·exact h.elim
noncomputable def iI(C:Int->Int->Prop)(g:Int->Int->D):bZ:=λx y Q=>match x,y with
 | .int i,.int j=>C i j/\Q (g i j)
 | _,_=>False
noncomputable def gi(g:Int->Int->D):bZ:=λx y Q=>match x,y with
 | .int i,.int j=>Q (g i j)
 | _,_=>False
theorem xM{f:Value->Value->Sem Value}{C:Int->Int->Prop}{g:Int->Int->D}(h:bI X f λx y Q=>∃i j,x=.int i/\y=.int j/\C i j/\Q (g i j)):bI X f (iI C g):=h.imp λx y Q h=>by
 unfold iI at h
 split at h
 ·exact⟨_,_,rfl,rfl,h.1,h.2⟩
 ·exact h.elim
theorem lR{f:Value->Value->Sem Value}{g:Int->Int->D}(h:bI X f λx y Q=>∃i j,x=.int i/\y=.int j/\Q (g i j)):bI X f (gi g):=h.imp λx y Q h=>by
 unfold gi at h
 split at h
 ·exact⟨_,_,rfl,rfl,h⟩
 ·exact h.elim
noncomputable def sj:bZ:=gi λi j=>.int (i-j)
theorem fF:bI X (binaryOp .Sub) sj:=lR (ku FI (λ_ _ _ _=>.int .nil) λ_ _=>rfl)
noncomputable def GO(_ j:Int):Prop:=0<j/\j.natAbs.log2<9000
theorem xN{i j:Int}(h1:0<j)(h2:j<1073741824):GO i j:=⟨h1,by
 have h:j.natAbs<2 ^ 30:=by omega
 have:=(EM (show j.natAbs≠0 by omega)).mpr h
 omega⟩
theorem ca2:bW X (binaryOp .FloorDiv) (rI GO λi j=>.int (i/j)):=qX λi j _ _ _ _ _ hc q =>
 floordiv_int (show j≠0 by have:=hc.1;omega) (by rw[Z3 i (by have:=hc.1;omega)];exact q) (.inl (PyProof.noPylong_of_log2 hc.2))
noncomputable def sk:bZ:=iI GO λi j=>.int (i/j)
theorem xO:bI X (binaryOp .FloorDiv) sk:=xM (si ca2 (λ_ _ _ _=>.int .nil) λ_ _=>rfl)
noncomputable def sq:bZ:=iI (λ_ j=>0<j) λi j=>.int (i%j)
theorem dY:bI X (binaryOp .Mod) sq:=xM (si cE9 (λ_ _ _ _=>.int .nil) λ_ _=>rfl)
noncomputable def sr:bZ:=iI QV λi j=>.int (i ^ j.toNat)
theorem cI9:bI X (binaryOp .Pow) sr:=xM (si cG0 (λ_ _ _ _=>.int .nil) λ_ _=>rfl)
noncomputable def su:bZ:=iI R1 λi j=>.int (i*2 ^ j.toNat)
theorem xP:bI X (binaryOp .LShift) su:=xM (si R3 (λ_ _ _ _=>.int .nil) λ_ _=>rfl)
noncomputable def sA:bZ:=iI (λ_ j=>0<=j) λi j=>.int (i/2 ^ j.toNat)
theorem cM2:bI X (binaryOp .RShift) sA:=xM (si cG9 (λ_ _ _ _=>.int .nil) λ_ _=>rfl)
noncomputable def sC:bZ:=gi λi j=>.int (nV i j)
theorem cJ4:bI X (binaryOp .BitAnd) sC:=lR (ku cF4 (λ_ _ _ _=>.int .nil) λ_ _=>rfl)
noncomputable def sD:bZ:=gi λi j=>.int (mJ i j)
theorem SK:bI X (binaryOp .BitXor) sD:=lR (ku cC3 (λ_ _ _ _=>.int .nil) λ_ _=>rfl)
theorem ce5:bW X (binaryOp .Mult) (rI IntMulOk λi j=>.int (i*j)):=qX λ_ _ _ _ _ _ _ hc q=>mul_int q hc
noncomputable def pf:bZ:=λx y Q=>match x,y with
 | .int i,.int j=>IntMulOk i j/\Q (.int (i*j))
 | .lst _ xs,.int k=>(-(2 ^ 63)<=k/\k<2 ^ 63/\xs.length*k.toNat<=sizeLine/\xs.all D.pl=true)/\Q (.lst true (aw k.toNat xs).flatten)
 | _,_=>False
theorem cJ0:bI X (binaryOp .Mult) λx y Q=>∃o xs k,x=.lst o xs/\y=.int k/\(-(2 ^ 63)<=k/\k<2 ^ 63/\xs.length*k.toNat<=sizeLine/\xs.all D.pl=true)/\Q (.lst true (aw k.toNat xs).flatten) :=
 ⟨_,cG7,λ{B F H σ δ ts x y v w Q Qd} c sx sy h k=>by
  obtain⟨o,xs,n,rfl,rfl,⟨b1,b2,hz,h1⟩,q⟩:=h
  obtain⟨p,ws,rfl,e1,s1⟩:=ie sx c.ext
  cases sy
  refine⟨p,n,ws,rfl,rfl,e1,b1,b2,by rw[<-s1.length];exact hz,λr hr=>?_⟩
  refine k _ _ _ q (aa.upd hr) (c.mZ hr (s1.rep _) ?_)
  rw[cS]
  intro x hx
  obtain⟨l,hl,xQ⟩:=List.mem_flatten.mp hx
  rw[(mM.mp hl).2]at xQ
  exact cS.mp h1 x xQ⟩
theorem fG:bI X (binaryOp .Mult) pf:=((si (gd:=λi j=>.int (i*j)) ce5 (λ_ _ _ _=>.int .nil) λ_ _=>rfl).or cJ0).imp λx y Q h=>by
 unfold pf at h
 split at h
 ·exact .inl ⟨_,_,rfl,rfl,h.1,h.2⟩
 ·exact .inr ⟨_,_,_,rfl,rfl,h.1,h.2⟩
 ·exact h.elim
theorem cC9:bI X (inplaceOp .Add) (gi λi j=>.int (i+j)):=lR (ku cq9 (λ_ _ _ _=>.int .nil) λ_ _=>rfl)
theorem BS:bI X (inplaceOp .BitXor) (gi λi j=>.int (mJ i j)):=lR (ku cs9 (λ_ _ _ _=>.int .nil) λ_ _=>rfl)
noncomputable def sE:bZ:=gi λi j=>.bl (decide (i<j))
noncomputable def sF:bZ:=gi λi j=>.bl (decide (i<=j))
noncomputable def sG:bZ:=gi λi j=>.bl (decide (j<i))
noncomputable def sH:bZ:=gi λi j=>.bl (decide (j<=i))
theorem ph:bI X (compareOp .Lt) sE:=lR (ku QX (λ_ _ _ _=>.bl .nil) λ_ _=>rfl)
theorem xR:bI X (compareOp .LtE) sF:=lR (ku cM0 (λ_ _ _ _=>.bl .nil) λ_ _=>rfl)
theorem GP:bI X (compareOp .Gt) sG:=lR (ku QY (λ_ _ _ _=>.bl .nil) λ_ _=>rfl)
theorem SM:bI X (compareOp .GtE) sH:=lR (ku cO3 (λ_ _ _ _=>.bl .nil) λ_ _=>rfl)
noncomputable def lU:D->Bool
 | .aj=>true
 | _=>false
noncomputable def pj:bZ:=λx y Q=>match y with
 | .aj=>Q (.bl (lU x))
 | _=>False
noncomputable def pk:bZ:=λx y Q=>match y with
 | .aj=>Q (.bl (!lU x))
 | _=>False
theorem SN{d:D}(s:S F H [d] [v]):decide (v=.aj)=lU d:=by cases s<;>simp[lU]
theorem SO:bI X (compareOp .Is) pj:=⟨_,cE7,λ{B F H σ δ ts x y v w Q Qd} c sx sy h k=>by
 unfold pj at h
 split at h
 ·cases sy
  refine⟨rfl,?_⟩
  rw[SN sx]
  exact k _ _ _ h (aa.refl _) (c.pushS (.bl .nil) rfl)
 ·exact h.elim⟩
theorem xS:bI X (compareOp .IsNot) pk:=⟨_,cn0,λ{B F H σ δ ts x y v w Q Qd} c sx sy h k=>by
 unfold pk at h
 split at h
 ·cases sy
  refine⟨rfl,?_⟩
  rw[SN sx]
  exact k _ _ _ h (aa.refl _) (c.pushS (.bl .nil) rfl)
 ·exact h.elim⟩
noncomputable def bq:D->D->Bool
 | .aj,.aj=>true
 | .bl a,.bl b=>a==b
 | .bl a,.int b=>(if a then 1 else 0)==b
 | .int a,.bl b=>a==(if b then 1 else 0)
 | .int a,.int b=>a==b
 | .str a,.str b=>a==b
 | .lst _ xs,.lst _ ys=>dZ xs ys
 | .tup xs,.tup ys=>dZ xs ys
 | _,_=>false
where dZ:List D->List D->Bool
 | [],[]=>true
 | x::xs,y::ys=>bq x y&&dZ xs ys
 | _,_=>false
noncomputable def cj:Nat->D->Bool
 | _,.aj=>true
 | _,.bl _=>true
 | _,.int _=>true
 | _,.str _=>true
 | n+1,.lst _ xs=>xs.all (cj n)
 | n+1,.tup xs=>xs.all (cj n)
 | _,_=>false
theorem GQ:∀(xs ys:List D),xs.length=ys.length->bq.dZ xs ys=(bo xs.length).all λj=>bq (xs.getD j .aj) (ys.getD j .aj)
 | [],[],_=>rfl
 | x::xs,y::ys,h=>by
  rw[fP,θ,di,kQ]
  show(bq x y&&bq.dZ xs ys)=_
  rw[GQ xs ys (by simpa using h)]
  rfl
theorem GR:∀(xs ys:List D),xs.length≠ys.length->bq.dZ xs ys=false
 | [],[],h=>absurd rfl h
 | [],_::_,_=>rfl
 | _::_,[],_=>rfl
 | x::xs,y::ys,h=>by
  show(bq x y&&bq.dZ xs ys)=false
  rw[GR xs ys (by simpa using h),Bool.and_false]
noncomputable def ofV:V->D
 | .bl b=>.bl b
 | .int i=>.int i
 | .str z=>.str z
 | _=>.aj
theorem xT{x:D}{v:V}(h:cj 0 x=true)(s:S F H [x] [v]):x=ofV v:=by
 cases s with
 | aj _=>rfl
 | bl _=>rfl
 | int _=>rfl
 | str _=>rfl
 | _=>cases h
theorem SQ{x:D}(h:cj 0 x=true):bq x x=true:=by
 cases x with
 | aj=>rfl
 | bl b=>exact beq_self_eq_true b
 | int i=>exact beq_self_eq_true i
 | str z=>exact beq_self_eq_true z
 | _=>cases h
theorem m6{n:Nat}{x:D}(h:cj (n+1) x=true):cj 0 x=true\/(∃o xs,x=.lst o xs/\xs.all (cj n)=true)\/∃xs,x=.tup xs/\xs.all (cj n)=true:=by
 cases x with
 | lst o xs=>exact .inr (.inl ⟨o,xs,rfl,h⟩)
 | tup xs=>exact .inr (.inr ⟨xs,rfl,h⟩)
 | obj _ _ _=>exact absurd h eC
 | fz _=>exact absurd h eC
 | bu _=>exact absurd h eC
 | _=>exact .inl rfl
theorem BU{x:D}{p:Addr}(h:cj 0 x=true)(s:S F H [x] [.ref p]):False:=by
 rw[xT h s]at s
 cases s
theorem SR:∀(n:Nat) {xs ys:List D} {vs:List V},xs.all (cj n)=true->ys.all (cj n)=true->S F H xs vs->S F H ys vs->aa F H->bq.dZ xs ys=true:=by
 intro n xs
 induction n generalizing xs with
 | zero =>
  induction xs with
  | nil=>intro ys vs _ _ s1 s2 _;cases s1;cases s2;rfl
  | cons x xs ih =>
   intro ys vs h1 h2 s1 s2 e
   obtain⟨v,bS,rfl,q1,r1⟩:=s1.cU
   cases ys with
   | nil=>cases s2
   | cons y ys =>
    obtain⟨v',So,ee,q2,r2⟩:=s2.cU
    obtain⟨rfl,rfl⟩:=kP ee
    rw[di,dB]at h1 h2
    show(bq x y&&bq.dZ xs ys)=true
    rw[ih h1.2 h2.2 r1 r2 e,jx,xT h2.1 q2,<- xT h1.1 q1]
    exact SQ h1.1
 | succ n SS =>
  induction xs with
  | nil=>intro ys vs _ _ s1 s2 _;cases s1;cases s2;rfl
  | cons x xs ih =>
   intro ys vs h1 h2 s1 s2 e
   obtain⟨v,bS,rfl,q1,r1⟩:=s1.cU
   cases ys with
   | nil=>cases s2
   | cons y ys =>
    obtain⟨v',So,ee,q2,r2⟩:=s2.cU
    obtain⟨rfl,rfl⟩:=kP ee
    rw[di,dB]at h1 h2
    show(bq x y&&bq.dZ xs ys)=true
    rw[ih h1.2 h2.2 r1 r2 e,jx]
    have h1:=h1.1
    have h2:=h2.1
    clear ih r1 r2 s1 s2
    rcases m6 h1 with k1 | ⟨o1,a1,rfl,k1⟩ | ⟨a1,rfl,k1⟩
    ·rcases m6 h2 with k2 | ⟨o2,a2,rfl,k2⟩ | ⟨a2,rfl,k2⟩
     ·rw[xT k2 q2,<- xT k1 q1]
      exact SQ k1
     ·obtain⟨p,ws,rfl,_⟩:=ie q2 e
      exact(BU k1 q1).elim
     ·obtain⟨p,ws,rfl,_⟩:=jK q2
      exact(BU k1 q1).elim
    ·obtain⟨p,ws,rfl,e1,t1⟩:=ie q1 e
     rcases m6 h2 with k2 | ⟨o2,a2,rfl,k2⟩ | ⟨a2,rfl,k2⟩
     ·exact(BU k2 q2).elim
     ·obtain⟨p2,GS,ev,e2,t2⟩:=ie q2 e
      cases ev
      cases e1.symm.trans e2
      exact SS k1 k2 t1 t2 e
     ·obtain⟨p2,GS,ev,e2,t2⟩:=jK q2
      cases ev
      cases e1.symm.trans e2
    ·obtain⟨p,ws,rfl,e1,t1⟩:=jK q1
     rcases m6 h2 with k2 | ⟨o2,a2,rfl,k2⟩ | ⟨a2,rfl,k2⟩
     ·exact(BU k2 q2).elim
     ·obtain⟨p2,GS,ev,e2,t2⟩:=ie q2 e
      cases ev
      cases e1.symm.trans e2
     ·obtain⟨p2,GS,ev,e2,t2⟩:=jK q2
      cases ev
      cases e1.symm.trans e2
      exact SS k1 k2 t1 t2 e
end
end L3
namespace L3
open PySem L2 PySem.Spec PyProof.Rows
structure SU(A:Around)(s:Shared)(u w:Value)(b:Bool):Prop where
 rc:SeqAt.RcAt A s u w b
 ne:SeqAt.RcNeAt A s u w (!b)
 eq:EK A s u w b
section
variable{X:Cx}{F H:Hp}{v w:V}
theorem SV{xs:List V}{us:List Value}(r:Vals xs us){j:Nat}(h:j<us.toArray.size):∃x,xs[j]?=some x/\RelV x us.toArray[j]:=by
 have l:=r.length
 have hj:j<xs.length:=by rw[l];simpa using h
 obtain⟨u,e,q⟩:=r.get (aU hj)
 obtain⟨_,z⟩:=i7.mp e
 refine⟨_,aU hj,?_⟩
 have:us.toArray[j]=u:=by simpa using z
 rw[this];exact q
theorem SW{xs:List D}{j:Nat}{d:D}(h:xs[j]?=some d):xs.getD j .aj=d:=by rw[aT,h];rfl
theorem sI{x:D}{v:V}{u:Value}(h:cj 0 x=true)(s:S F H [x] [v])(r:RelV v u):(x=.aj/\u=.none)\/(∃b,x=.bl b/\u=.bool b)\/(∃i t,x=.int i/\u=.int i t)\/∃z t,x=.str z/\u=.str z t:=by
 cases s with
 | aj _=>cases r;exact .inl ⟨rfl,rfl⟩
 | bl _=>cases r;exact .inr (.inl ⟨_,rfl,rfl⟩)
 | int _=>obtain⟨t,rfl⟩:=r;exact .inr (.inr (.inl ⟨_,t,rfl,rfl⟩))
 | str _=>obtain⟨t,rfl⟩:=r;exact .inr (.inr (.inr ⟨_,t,rfl,rfl⟩))
 | _=>exact absurd h eC
theorem SX{x y:D}{u u':Value}{A:Around}{s:Shared}(h1:(x=.aj/\u=.none)\/(∃b,x=.bl b/\u=.bool b)\/(∃i t,x=.int i/\u=.int i t)\/∃z t,x=.str z/\u=.str z t)(h2:(y=.aj/\u'=.none)\/(∃b,y=.bl b/\u'=.bool b)\/(∃i t,y=.int i/\u'=.int i t)\/∃z t,y=.str z/\u'=.str z t):SU A s u u' (bq x y):=by
 rcases h1 with⟨rfl,rfl⟩ | ⟨a,rfl,rfl⟩ | ⟨a,t,rfl,rfl⟩ | ⟨a,t,rfl,rfl⟩<;>rcases h2 with⟨rfl,rfl⟩ | ⟨b,rfl,rfl⟩ | ⟨b,t',rfl,rfl⟩ | ⟨b,t',rfl,rfl⟩
 ·exact⟨.none_none,.none_none,.same _⟩
 ·exact⟨.none_bool _,.none_bool _,.none_bool _⟩
 ·exact⟨.none_int _ _,.none_int _ _,.none_int _ _⟩
 ·exact⟨.none_str _ _,.none_str _ _,.none_str _ _⟩
 ·exact⟨.bool_none _,.bool_none _,.bool_none _⟩
 ·exact⟨.bool_bool _ _,.bool_bool _ _,.bool_bool _ _⟩
 ·exact⟨.bool_int _ _ _,.bool_int _ _ _,.bool_int _ _ _⟩
 ·exact⟨.bool_str _ _ _,.bool_str _ _ _,.bool_str _ _ _⟩
 ·exact⟨.int_none _ _,.int_none _ _,.int_none _ _⟩
 ·exact⟨.int_bool _ _ _,.int_bool _ _ _,.int_bool _ _ _⟩
 ·exact⟨.int_int _ _ _ _,.int_int _ _ _ _,.int_int _ _ _ _⟩
 ·exact⟨.int_str _ _ _ _,.int_str _ _ _ _,.int_str _ _ _ _⟩
 ·exact⟨.str_none _ _,.str_none _ _,.str_none _ _⟩
 ·exact⟨.str_bool _ _ _,.str_bool _ _ _,.str_bool _ _ _⟩
 ·exact⟨.str_int _ _ _ _,.str_int _ _ _ _,.str_int _ _ _ _⟩
 ·exact⟨.str_str _ _ _ _,.str_str _ _ _ _,.str_str _ _ _ _⟩
theorem SY{pins:List (Addr × Obj)}{σ:L2.St}{s:Shared}(I:Inv X pins σ H s)(e:aa F H):∀(n:Nat) (x y:D) (v w:V) (u u':Value) (A:Around),cj n x=true->cj n y=true->S F H [x] [v]->S F H [y] [w]->RelV v u->RelV w u' ->
  A.units+n<cLine->SU A s u u' (bq x y):=by
 intro n
 induction n with
 | zero =>
  intro x y v w u u' A hx hy sx sy rv e5 hu
  exact SX (sI hx sx rv) (sI hy sy e5)
 | succ n ih =>
  intro x y v w u u' A hx hy sx sy rv e5 hu
  have br:A.units<cLine:=gS (Nat.le_add_right ..) hu
  have S0:A.in1.units+n<cLine:=by show A.units+1+n<cLine;rw[Qo,Qg 1];exact hu
  have items:∀{xs ys:List D} {vs ws:List V} {us sJ:List Value},xs.all (cj n)=true->ys.all (cj n)=true->S F H xs vs->S F H ys ws->Vals vs us->Vals ws sJ ->
    ∀j (h1:j<us.toArray.size) (h2:j<sJ.toArray.size),EK A.in1 s us.toArray[j] sJ.toArray[j] (bq (xs.getD j .aj) (ys.getD j .aj)):=by
   intro xs ys vs ws us sJ hx hy sx sy r1 r2 j h1 h2
   obtain⟨a,e1,q1⟩:=SV r1 h1
   obtain⟨b,e2,q2⟩:=SV r2 h2
   obtain⟨d1,g1,t1⟩:=sx.get' e1
   obtain⟨d2,g2,t2⟩:=sy.get' e2
   rw[SW g1,SW g2]
   exact(ih d1 d2 a b _ _ A.in1 (cS.mp hx d1 (qH g1)) (cS.mp hy d2 (qH g2)) t1 t2 q1 q2 S0).eq
  clear ih hu S0
  rcases m6 hx with k1 | ⟨o,xs,rfl,k1⟩ | ⟨xs,rfl,k1⟩
  ·have f:=sI k1 sx rv
   rcases m6 hy with k2 | ⟨o',ys,rfl,k2⟩ | ⟨ys,rfl,k2⟩
   ·exact SX f (sI k2 sy e5)
   ·obtain⟨p',fo,rfl,e2,t2⟩:=ie sy e
    cases e5
    obtain⟨jL,r2,p2,z2⟩:=I.list (bH.of (K:=X.K) e2)
    have p2:=p2.isList
    rcases f with⟨rfl,rfl⟩ | ⟨a,rfl,rfl⟩ | ⟨a,t,rfl,rfl⟩ | ⟨a,t,rfl,rfl⟩
    ·exact⟨.none_list p2 br,.none_list p2 br,.none_list p2 br⟩
    ·exact⟨.bool_list _ p2 br,.bool_list _ p2 br,.bool_list _ p2 br⟩
    ·exact⟨.int_list _ _ p2 br,.int_list _ _ p2 br,.int_list _ _ p2 br⟩
    ·exact⟨.str_list _ _ p2 br,.str_list _ _ p2 br,.str_list _ _ p2 br⟩
   ·obtain⟨p',fo,rfl,e2,t2⟩:=jK sy
    cases e5
    obtain⟨jL,r2,p2,z2⟩:=I.tuple (fV.of (K:=X.K) e2)
    rcases f with⟨rfl,rfl⟩ | ⟨a,rfl,rfl⟩ | ⟨a,t,rfl,rfl⟩ | ⟨a,t,rfl,rfl⟩
    ·exact⟨.none_tuple p2 br,.none_tuple p2 br,.none_tuple p2 br⟩
    ·exact⟨.bool_tuple _ p2 br,.bool_tuple _ p2 br,.bool_tuple _ p2 br⟩
    ·exact⟨.int_tuple _ _ p2 br,.int_tuple _ _ p2 br,.int_tuple _ _ p2 br⟩
    ·exact⟨.str_tuple _ _ p2 br,.str_tuple _ _ p2 br,.str_tuple _ _ p2 br⟩
  ·obtain⟨p,ws,rfl,e1,t1⟩:=ie sx e
   cases rv
   obtain⟨its,r1,p1,z1⟩:=I.list (bH.of (K:=X.K) e1)
   have p1:=p1.isList
   rcases m6 hy with k2 | ⟨o',ys,rfl,k2⟩ | ⟨ys,rfl,k2⟩
   ·rcases sI k2 sy e5 with⟨rfl,rfl⟩ | ⟨a,rfl,rfl⟩ | ⟨a,t,rfl,rfl⟩ | ⟨a,t,rfl,rfl⟩
    ·exact⟨.list_none p1 br,.list_none p1 br,.list_none p1 br⟩
    ·exact⟨.list_bool _ p1 br,.list_bool _ p1 br,.list_bool _ p1 br⟩
    ·exact⟨.list_int _ _ p1 br,.list_int _ _ p1 br,.list_int _ _ p1 br⟩
    ·exact⟨.list_str _ _ p1 br,.list_str _ _ p1 br,.list_str _ _ p1 br⟩
   ·obtain⟨p',fo,rfl,e2,t2⟩:=ie sy e
    cases e5
    obtain⟨jL,r2,p2,z2⟩:=I.list (bH.of (K:=X.K) e2)
    have p2:=p2.isList
    have pq:xs.length=its.length:=t1.length.trans r1.length
    have sM:ys.length=jL.length:=t2.length.trans r2.length
    by_cases hl:xs.length=ys.length
    ·have kb:its.toArray.size=jL.toArray.size:=by rw[dn,dn,<- pq,<- sM];exact hl
     have ev:(bo its.toArray.size).all (λj=>bq (xs.getD j .aj) (ys.getD j .aj))=bq (.lst o xs) (.lst o' ys):=by
      show _=bq.dZ xs ys
      rw[GQ xs ys hl,dn,<- pq]
     have a:=SeqAt.RcAt.lists (e:=λj=>bq (xs.getD j .aj) (ys.getD j .aj)) p1 p2 kb br (items k1 k2 t1 t2 r1 r2)
     have b:=SeqAt.RcNeAt.lists (e:=λj=>bq (xs.getD j .aj) (ys.getD j .aj)) p1 p2 kb br (items k1 k2 t1 t2 r1 r2)
     rw[ev]at a b
     refine⟨a,b,?_⟩
     by_cases pz:p=p'
     ·subst pz
      cases e1.symm.trans e2
      rw[show bq (.lst o xs) (.lst o' ys)=true from SR n k1 k2 t1 t2 e]
      exact .same _
     ·exact .of_refs pz a
    ·have kb:(its.toArray.size != jL.toArray.size)=true:=bne_iff_ne.mpr (by rw[dn,dn,<- pq,<- sM];exact hl)
     rw[show bq (.lst o xs) (.lst o' ys)=false from GR xs ys hl]
     have a:=SeqAt.RcAt.lists_lengths p1 p2 kb br
     refine⟨a,SeqAt.RcNeAt.lists_lengths p1 p2 kb br,.of_refs (λpz=>?_) a⟩
     subst pz
     cases e1.symm.trans e2
     exact hl (t1.length.trans t2.length.symm)
   ·obtain⟨p',fo,rfl,e2,t2⟩:=jK sy
    cases e5
    obtain⟨jL,r2,p2,z2⟩:=I.tuple (fV.of (K:=X.K) e2)
    exact⟨.list_tuple p1 p2 br,.list_tuple p1 p2 br,.list_tuple p1 p2 br⟩
  ·obtain⟨p,ws,rfl,e1,t1⟩:=jK sx
   cases rv
   obtain⟨its,r1,p1,z1⟩:=I.tuple (fV.of (K:=X.K) e1)
   rcases m6 hy with k2 | ⟨o',ys,rfl,k2⟩ | ⟨ys,rfl,k2⟩
   ·rcases sI k2 sy e5 with⟨rfl,rfl⟩ | ⟨a,rfl,rfl⟩ | ⟨a,t,rfl,rfl⟩ | ⟨a,t,rfl,rfl⟩
    ·exact⟨.tuple_none p1 br,.tuple_none p1 br,.tuple_none p1 br⟩
    ·exact⟨.tuple_bool _ p1 br,.tuple_bool _ p1 br,.tuple_bool _ p1 br⟩
    ·exact⟨.tuple_int _ _ p1 br,.tuple_int _ _ p1 br,.tuple_int _ _ p1 br⟩
    ·exact⟨.tuple_str _ _ p1 br,.tuple_str _ _ p1 br,.tuple_str _ _ p1 br⟩
   ·obtain⟨p',fo,rfl,e2,t2⟩:=ie sy e
    cases e5
    obtain⟨jL,r2,p2,z2⟩:=I.list (bH.of (K:=X.K) e2)
    have p2:=p2.isList
    exact⟨.tuple_list p1 p2 br,.tuple_list p1 p2 br,.tuple_list p1 p2 br⟩
   ·obtain⟨p',fo,rfl,e2,t2⟩:=jK sy
    cases e5
    obtain⟨jL,r2,p2,z2⟩:=I.tuple (fV.of (K:=X.K) e2)
    have pq:xs.length=its.length:=t1.length.trans r1.length
    have sM:ys.length=jL.length:=t2.length.trans r2.length
    have ev:((bo (min its.toArray.size jL.toArray.size)).all (λj=>bq (xs.getD j .aj) (ys.getD j .aj))&&its.toArray.size==jL.toArray.size)=bq (.tup xs) (.tup ys):=by
     show _=bq.dZ xs ys
     rw[dn,dn,<- pq,<- sM]
     by_cases hl:xs.length=ys.length
     ·rw[GQ xs ys hl,<- hl,E2,beq_self_eq_true,jx]
     ·rw[GR xs ys hl,beq_false_of_ne hl,Bool.and_false]
    have a:=SeqAt.RcAt.tuples (e:=λj=>bq (xs.getD j .aj) (ys.getD j .aj)) p1 p2 br (items k1 k2 t1 t2 r1 r2)
    have b:=SeqAt.RcNeAt.tuples (e:=λj=>bq (xs.getD j .aj) (ys.getD j .aj)) p1 p2 br (items k1 k2 t1 t2 r1 r2)
    rw[ev]at a b
    refine⟨a,b,?_⟩
    by_cases pz:p=p'
    ·subst pz
     cases e1.symm.trans e2
     rw[show bq (.tup xs) (.tup ys)=true from SR n k1 k2 t1 t2 e]
     exact .same _
    ·exact .of_refs pz a
noncomputable def sN:bZ:=λx y Q=>(cj 6 x=true/\cj 6 y=true)/\Q (.bl (bq x y))
noncomputable def sO:bZ:=λx y Q=>(cj 6 x=true/\cj 6 y=true)/\Q (.bl (!bq x y))
theorem fH(hu:X.A.units+6<cLine):bI X (compareOp .Eq) sN:=bI.of λpins s σ H v w u u' Q I rv e5 zz=>by
 obtain⟨B,F,ay,δ,ts,x,y,Qd,c,sx,sy,⟨⟨hx,hy⟩,q⟩,k⟩:=zz
 exact(SY I c.ext 6 x y v w u u' X.A hx hy sx sy rv e5 hu).rc _ _ _ _ ⟨.bl _,H,I,rfl,k _ _ _ q (aa.refl _) (c.pushS (.bl .nil) rfl)⟩
theorem gj(hu:X.A.units+6<cLine):bI X (compareOp .NotEq) sO:=bI.of λpins s σ H v w u u' Q I rv e5 zz=>by
 obtain⟨B,F,ay,δ,ts,x,y,Qd,c,sx,sy,⟨⟨hx,hy⟩,q⟩,k⟩:=zz
 exact(SY I c.ext 6 x y v w u u' X.A hx hy sx sy rv e5 hu).ne _ _ _ _ ⟨.bl _,H,I,rfl,k _ _ _ q (aa.refl _) (c.pushS (.bl .nil) rfl)⟩
end
end L3
namespace L3
open PySem L2 PySem.Spec PyProof.Rows
section
variable{X:Cx}{F H:Hp}{v w:V}{e a b c o:Expr}{es:List Expr}{pos p p2 apos bM:Pos}{t ta tb tc te:aG}{tr:bY}{x:Str}
theorem bZ7{r r':R2}{rd xU:bZ}(hl:BL r rd)(Fq:BL r' xU):∀σ H Q,lE (oV rd xU ta tb tc) σ H Q->Q0 r r' (lB ta) (lB tb) (lB tc) σ H Q:=λσ H Q ⟨B,F,δ,ts,Qd,c,q,k⟩ =>
 ⟨B,F,δ,ts,_,c,q,λx ah v F1 H1 q1 f1 h1 c1 s1=>⟨B,F1,ah,ts,_,c1,q1,λy aN w F2 H2 q2 f2 h2 c2 s2=>by
  refine hl c2 (s1.mono f2 h2) s2 q2 λd z H' hd hs c3=>?_
  obtain⟨b,rfl,qb⟩:=hd
  have st:=c3.top
  cases st with
  | bl _ =>
   refine⟨b,rfl,?_⟩
   cases b with
   | true =>
    refine mU ⟨B,F2,aN,ts,_,c3.pop,by simpa using qb,λz gJ w3 F3 H3 q3 f3 h3 c4 s3=>?_⟩
    exact Fq c4 (s2.mono f3 (hs.trans h3)) s3 q3 λd z H' hd hs' c5=>k d gJ z F3 H' hd ((f1.trans f2).trans f3) ((((h1.trans h2).trans hs).trans h3).trans hs') c5
   | false=>exact jj (k _ aN _ F2 H' (by simpa using qb) (f1.trans f2) ((h1.trans h2).trans hs) (c3.pop.pushS (.bl .nil) rfl))⟩⟩
theorem GU{op oA:CmpOp}{rd xU:bZ}(ho:bI X (compareOp op) rd)(jy:bI X (compareOp oA) xU)(ha:PE X a (lB ta))(hb:PE X b (lB tb))(hc:PE X c (lB tc))
  (hm:lastMarks [op,oA] [b,c]=false:=by with_unfolding_all rfl):PE X (.Compare a [op,oA] [b,c] pos) (lE (oV rd xU ta tb tc)):=by
 obtain⟨r,h1,h2⟩:=ho
 obtain⟨r',jl,iO⟩:=jy
 exact cG (ch1 h1 jl ha hb hc hm) (bZ7 h2 iO)
noncomputable def sP(t:aG):aG:=λδ Q=>t δ λd ae=>match d with
 | .int i=>Q (.int (-i)) ae
 | _=>False
theorem S1(ha:PE X a (lB ta)):PE X (.UnaryOp .USub a pos) (lE (sP ta)):=cG (cN4 cB0 ha) λσ H Q ⟨B,F,δ,ts,Qd,c,q,k⟩=>⟨B,F,δ,ts,_,c,q,λd ah v F1 H1 q1 f1 h1 c1 s1=>by
 cases s1 with
 | int _=>exact⟨_,rfl,k _ ah _ F1 H1 q1 f1 h1 (c1.pushS (.int .nil) rfl)⟩
 | _=>exact q1.elim⟩
noncomputable abbrev jo:=List D->(D->Prop)->Prop
noncomputable def lc(rd:jo):List V->Hp->VK->Prop:=λvs H Q=>∃B F σ δ ts ds Qd,ai B F H σ δ ts/\S F H ds vs/\rd ds Qd/\∀d z H',Qd d->aa H H'->ai B F H' σ δ ((d,z)::ts)->Q z H'
noncomputable def ig(X:Cx)(f:Value)(rd:jo):Prop:=fW X f (lc rd)
theorem ig.of{f:Value}{r:List V->Hp->VK->Prop}{rd:jo}(h:fW X f r)(m:∀vs H Q,lc rd vs H Q->r vs H Q):ig X f rd:=λpins s σ H xs us Q I r q=>h pins s σ H xs us Q I r (m xs H Q q)
noncomputable def m8(rd:jo)(t:bY):aG:=λδ Q=>t δ λds ae=>rd ds λd=>Q d ae
theorem S2{rd:jo}:∀σ H Q,lE (m8 rd tr) σ H Q->FP (lc rd) (lA tr) σ H Q:=λσ H Q ⟨B,F,δ,ts,Qd,c,q,k⟩=>⟨B,F,δ,ts,_,c,q,λds ah vs F1 H1 q1 f1 h1 c1 s1 =>
 ⟨B,F1,σ,ah,ts,ds,_,c1,s1,q1,λd z H' hd hs c'=>k d ah z F1 H' hd f1 (h1.trans hs) c'⟩⟩
theorem ij{id:String}{rd:jo}(hc:ig X (.builtin id) rd)(hg:Gl X x)(hm:X.mg x=none)(hv:bootBuiltins x=some (.builtin id))(ha:PA X (e::es) (lA tr))(hn:x≠"__name__":=by decide)(cT:(x==("__debug__":Str))=false:=by decide)
  (he:starEach (e::es) X.env=(false,eval e X.env)::starEach es X.env:=by rfl) (bx:(backTo pos (starEach es X.env)).any (·.1)=false:=by rfl):PE X (.Call (.Name x p) (e::es) [] pos) (lE (m8 rd tr)) :=
 cG (Bz hc hg hm hv ha hn cT he bx) S2
theorem BV{T:String}{rd:jo}(hc:ig X (.type T) rd)(hg:Gl X x)(hm:X.mg x=none)(hv:bootBuiltins x=some (.type T))(ha:PA X (e::es) (lA tr))(hn:x≠"__name__":=by decide)(cT:(x==("__debug__":Str))=false:=by decide)
  (he:starEach (e::es) X.env=(false,eval e X.env)::starEach es X.env:=by rfl) (bx:(backTo pos (starEach es X.env)).any (·.1)=false:=by rfl):PE X (.Call (.Name x p) (e::es) [] pos) (lE (m8 rd tr)) :=
 cG (bZ2 hc hg hm hv ha hn cT he bx) S2
theorem kz{d:D}{vs:List V}(s:S F H [d] vs):∃v,vs=[v]/\S F H [d] [v]:=by
 obtain⟨v,bS,rfl,h1,h2⟩:=s.cU
 cases h2
 exact⟨v,rfl,h1⟩
theorem jq{K:PySem.W.Frag}{p:Addr}{ws:List V}(h:Rd H p (.lst ws)):bH K H p ws:=.inl h
noncomputable def pB:jo:=λds Q=>match ds with
 | [.lst _ xs]=>Q (.int xs.length)
 | [.fz xs]=>Q (.int xs.length)
 | [.tup xs]=>Q (.int xs.length)
 | [.str z]=>z.length<=sizeLine/\Q (.int z.length)
 | _=>False
theorem kA:ig X (.builtin "len") pB:=ig.of (Ru.or bA6) λvs H Q zz=>by
 obtain⟨B,F,σ,δ,ts,ds,Qd,c,s,q,k⟩:=zz
 unfold pB at q
 split at q
 ·obtain⟨v,rfl,s1⟩:=kz s
  obtain⟨p,ws,rfl,h,t⟩:=ky s1 c.ext rfl
  refine .inl ⟨p,ws,rfl,.inl (jq h),?_⟩
  rw[<-t.length]
  exact k _ _ _ q (aa.refl _) (c.pushS (.int .nil) rfl)
 ·obtain⟨v,rfl,s1⟩:=kz s
  obtain⟨p,ws,rfl,h,t⟩:=ky s1 c.ext rfl
  refine .inl ⟨p,ws,rfl,.inl (jq h),?_⟩
  rw[<-t.length]
  exact k _ _ _ q (aa.refl _) (c.pushS (.int .nil) rfl)
 ·obtain⟨v,rfl,s1⟩:=kz s
  obtain⟨p,ws,rfl,h,t⟩:=jK s1
  refine .inl ⟨p,ws,rfl,.inr (fV.of h),?_⟩
  rw[<-t.length]
  exact k _ _ _ q (aa.refl _) (c.pushS (.int .nil) rfl)
 ·obtain⟨v,rfl,s1⟩:=kz s
  cases s1
  exact .inr ⟨_,rfl,q.1,k _ _ _ q.2 (aa.refl _) (c.pushS (.int .nil) rfl)⟩
 ·exact q.elim
noncomputable def pE:jo:=λds Q=>match ds with
 | [.lst _ xs]=>xs.all D.pl=true/\Q (.lst true xs)
 | [.fz xs]=>Q (.lst true xs)
 | [.tup xs]=>xs.all D.pl=true/\Q (.lst true xs)
 | _=>False
theorem GV:ig X (.type "list") pE:=ig.of bD9 λvs H Q zz=>by
 obtain⟨B,F,σ,δ,ts,ds,Qd,c,s,q,k⟩:=zz
 unfold pE at q
 split at q
 ·obtain⟨v,rfl,s1⟩:=kz s
  obtain⟨p,ws,rfl,h,t⟩:=ky s1 c.ext rfl
  exact⟨p,ws,rfl,.inl (jq h),λl hl=>k _ _ _ q.2 (aa.upd hl) (c.mZ hl t q.1)⟩
 ·obtain⟨v,rfl,s1⟩:=kz s
  cases s1 with
  | fz h r _=>exact⟨_,_,rfl,.inl (jq (.inr ⟨_,c.ext _ _ h⟩)),λl hl=>k _ _ _ q (aa.upd hl) (c.mZ hl r.s r.pl)⟩
 ·obtain⟨v,rfl,s1⟩:=kz s
  obtain⟨p,ws,rfl,h,t⟩:=jK s1
  exact⟨p,ws,rfl,.inr (fV.of h),λl hl=>k _ _ _ q.2 (aa.upd hl) (c.mZ hl t q.1)⟩
 ·exact q.elim
noncomputable def xV(bs:List Bool):List D:=bs.map D.bl
theorem S3:∀{bs:List Bool} {ws:List V},S F H (xV bs) ws->ws=bs.map V.bl
 | [],_,s=>by cases s;rfl
 | b::bs,_,s=>by
  cases s with
  | bl s=>rw[S3 s];rfl
noncomputable def pF:jo:=λds Q=>match ds with
 | [.lst _ xs]=>∃bs,xs=xV bs/\Q (.bl (bs.all id))
 | _=>False
theorem GW(hc:X.calm=true):ig X (.builtin "all") pF:=ig.of (cf9 hc) λvs H Q zz=>by
 obtain⟨B,F,σ,δ,ts,ds,Qd,c,s,q,k⟩:=zz
 unfold pF at q
 split at q
 ·obtain⟨v,rfl,s1⟩:=kz s
  obtain⟨bs,rfl,q⟩:=q
  obtain⟨p,ws,rfl,h,t⟩:=ky s1 c.ext rfl
  rw[S3 t]at h
  exact⟨p,bs,rfl,jq h,k _ _ _ q (aa.refl _) (c.pushS (.bl .nil) rfl)⟩
 ·exact q.elim
noncomputable def BW:D->Option String
 | .int _=>some "int"
 | .bl _=>some "bool"
 | .aj=>some "NoneType"
 | .str _=>some "str"
 | .lst _ _=>some "list"
 | .fz _=>some "list"
 | .tup _=>some "tuple"
 | _=>none
noncomputable def GX(k n:String):Option Bool:=([("int","int",true),("int","bool",false),("int","list",false),("int","tuple",false),("int","str",false),("bool","int",true),("bool","bool",true),("bool","list",false),("bool","tuple",false),("bool","str",false),
 ("NoneType","int",false),("NoneType","bool",false),("NoneType","list",false),("NoneType","tuple",false),("NoneType","str",false),("str","int",false),("str","bool",false),("str","list",false),("str","tuple",false),("str","str",true),
 ("list","int",false),("list","bool",false),("list","list",true),("list","tuple",false),("list","str",false),("tuple","int",false),("tuple","bool",false),("tuple","list",false),("tuple","tuple",true),("tuple","str",false)].find? λz=>z.1==k&&z.2.1==n).map (·.2.2)
noncomputable def kB(n:String)(d:D):Option Bool:=(BW d).bind λk=>GX k n
theorem cF0{K:PySem.W.Frag}{k n:String}{r:Bool}(h:GX k n=some r):PySem.W.kitOne K (.type k) (.type n)=some r:=by
 unfold GX at h
 obtain⟨z,hz,rfl⟩:=AI.mp h
 have hm:=ι hz
 have hp:=List.find?_some hz
 rw[dB,beq_iff_eq,beq_iff_eq]at hp
 obtain⟨rfl,rfl⟩:=hp
 simp only[cE,kO,or_false]at hm
 repeat' (rcases hm with hm | hm)
 all_goals rfl
theorem lV{K:PySem.W.Frag}{d:D}(s:S F H [d] [v])(e:aa F H){k:String}(h:BW d=some k):fX K H v (.type k):=by
 cases s with
 | int _=>cases h;exact .int _
 | bl _=>cases h;exact .bl _
 | aj _=>cases h;exact .aj
 | str _=>cases h;exact .str _
 | shr h' _ _=>cases h;exact .lst (e _ _ h')
 | own h' _ _=>cases h;exact .lst h'
 | fz h' _ _=>cases h;exact .bt (e _ _ h')
 | tup h' _ _=>cases h;exact .tup h'
 | obj _ _ _ _=>cases h
 | bu _ _=>cases h
theorem cM5{K:PySem.W.Frag}{d:D}(s:S F H [d] [v])(e:aa F H){n:String}{r:Bool}(h:kB n d=some r):∃t,fX K H v t/\PySem.W.kitOne K t (.type n)=some r:=by
 unfold kB at h
 cases hk:BW d with
 | none=>rw[hk]at h;cases h
 | some k=>rw[hk]at h;exact⟨_,lV s e hk,cF0 h⟩
noncomputable def sQ(n:String)(t:aG):aG:=λδ Q=>t δ λd ae=>∃r,kB n d=some r/\Q (.bl r) ae
theorem S4{n:String}{y:Str}{q:Pos}(hg:Gl X "isinstance")(hm:X.mg "isinstance"=none)(xW:Gl X y)(sR:X.mg y=none)(GY:bootBuiltins y=some (.type n))(ha:PE X a (lB ta))
  (hn:y≠"__name__":=by decide) (hd:(y==("__debug__":Str))=false:=by decide)
  (hs:starEach [a,.Name y q] X.env=(false,eval a X.env)::starEach [.Name y q] X.env:=by rfl) (eK:starEach [.Name y q] X.env=(false,eval (.Name y q) X.env)::starEach [] X.env:=by rfl) (bx:(backTo pos (starEach [.Name y q] X.env)).any (·.1)=false:=by rfl) :
  PE X (.Call (.Name "isinstance" p) [a,.Name y q] [] pos) (lE (sQ n ta)) :=
 cG (Bz bs7 hg hm RY (bX ha (bX (R4 xW sR GY hn hd) eF eK) hs) (by decide) (by decide) hs bx) λσ H Q ⟨B,F,δ,ts,Qd,c,q,k⟩=>⟨B,F,δ,ts,_,c,q,λd ah v F1 H1 q1 f1 h1 c1 s1=>by
  obtain⟨r,e,qr⟩:=q1
  obtain⟨t,h2,h3⟩:=cM5 (K:=X.K) s1 c1.ext e
  exact⟨v,n,t,r,rfl,h2,h3,k _ ah _ F1 H1 qr f1 h1 (c1.pushS (.bl .nil) rfl)⟩⟩
theorem GZ{xs:List D}{ws:List V}{i:Int}{d:D}(s:S F H xs ws)(h:eH xs i=some d):∃v,eH ws i=some v/\S F H [d] [v]:=by
 unfold eH at h ⊢
 rw[<-s.length]
 cases e:gE xs.length i with
 | none=>rw[e]at h;cases h
 | some j =>
  rw[e]at h
  exact s.get h
noncomputable def pG(x y:D)(Q:D->Prop):Prop:=match x,y with
 | .lst _ xs,.int i=>∃d,eH xs i=some d/\Q d
 | .fz xs,.int i=>∃d,eH xs i=some d/\Q d
 | .tup xs,.int i=>∃d,eH xs i=some d/\Q d
 | .str z,.int i=>z.length<=sizeLine/\∃ch,eH z.cps.toList i=some ch/\Q (.str ⟨#[ch]⟩)
 | _,_=>False
noncomputable def sS(ta tb:aG):aG:=λδ Q=>ta δ λx ah=>tb ah λy aN=>pG x y λd=>Q d aN
theorem cq(ha:PE X a (lB ta))(hb:PE X b (lB tb))(hs:Rn b):PE X (.Subscript a b pos) (lB (sS ta tb)) :=
 cG (cL0 cG3 ha hb hs) λσ H Q ⟨B,F,δ,ts,Qd,c,q,k⟩=>⟨B,F,δ,ts,_,c,q,λx ah v F1 H1 q1 f1 h1 c1 s1=>⟨B,F1,ah,ts,_,c1,q1,λy aN w F2 H2 q2 f2 h2 c2 s2=>by
  have lW:=s1.mono f2 h2
  have fin:∀d z,Qd d aN->S F2 H2 [d] [z]->Q z H2:=λd z hd s=>k d aN z F2 H2 hd (f1.trans f2) (h1.trans h2) c2 s
  unfold pG at q2
  split at q2
  ·obtain⟨d,ed,qd⟩:=q2
   cases s2
   obtain⟨p,ws,rfl,h,t⟩:=ky lW c2.ext rfl
   obtain⟨z,ez,sz⟩:=GZ t ed
   exact .inl ⟨p,ws,_,z,rfl,rfl,jq h,ez,fin d z qd sz⟩
  ·obtain⟨d,ed,qd⟩:=q2
   cases s2
   obtain⟨p,ws,rfl,h,t⟩:=ky lW c2.ext rfl
   obtain⟨z,ez,sz⟩:=GZ t ed
   exact .inl ⟨p,ws,_,z,rfl,rfl,jq h,ez,fin d z qd sz⟩
  ·obtain⟨d,ed,qd⟩:=q2
   cases s2
   obtain⟨p,ws,rfl,h,t⟩:=jK lW
   obtain⟨z,ez,sz⟩:=GZ t ed
   exact .inr (.inl ⟨p,ws,_,z,rfl,rfl,fV.of h,ez,fin d z qd sz⟩)
  ·obtain⟨hz,ch,ec,qc⟩:=q2
   cases lW
   cases s2
   exact .inr (.inr ⟨_,_,ch,rfl,rfl,hz,ec,fin _ _ qc (.str .nil)⟩)
  ·exact q2.elim⟩⟩
noncomputable abbrev sT:=Dl->(Option Int->Dl->Prop)->Prop
noncomputable def lP(t:sT):TO:=λσ H Q=>∃B F δ ts Qd,ai B F H σ δ ts/\t δ Qd/\∀o ae F' H',Qd o ae->aa F F'->aa H H'->ai B F' H' σ ae ts->Q o H'
theorem S5{oe:Option Expr}{u u':TO}(h:PO X oe u)(m:∀σ H Q,u' σ H Q->u σ H Q):PO X oe u':=λpins s σ H Q I q=>h pins s σ H Q I (m σ H Q q)
noncomputable def sU:sT:=λδ Q=>Q none δ
noncomputable def sV(t:aG):sT:=λδ Q=>t δ λd ae=>match d with
 | .int i=>Q (some i) ae
 | _=>False
theorem S6:PO X none (lP sU):=S5 cq5 λσ H Q ⟨B,F,δ,ts,Qd,c,q,k⟩=>k none δ F H q (aa.refl _) (aa.refl _) c
theorem BX(h:PE X e (lB t)):PO X (some e) (lP (sV t)):=S5 (co9 h) λσ H Q ⟨B,F,δ,ts,Qd,c,q,k⟩=>⟨B,F,δ,ts,_,c,q,λd ah v F1 H1 q1 f1 h1 c1 s1=>by
 cases s1 with
 | int _=>exact⟨_,rfl,k _ ah F1 H1 q1 f1 h1 c1⟩
 | _=>exact q1.elim⟩
noncomputable def eO{α:Type}(xs:List α)(lo hi:Option Int):List α:=(xs.drop (HT.cL xs.length 0 lo)).take (HT.cL xs.length xs.length hi-HT.cL xs.length 0 lo)
theorem S.cut{xs:List D}{ws:List V}(s:S F H xs ws)(lo hi:Option Int):S F H (eO xs lo hi) (q9 ws lo hi):=by
 unfold eO q9
 rw[<-s.length]
 exact(s.drop _).take _
theorem S7{xs:List D}{p:D->Bool}(h:xs.all p=true)(lo hi:Option Int):(eO xs lo hi).all p=true:=by
 rw[cS]at h ⊢
 intro x hx
 exact h x (E3 (E4 hx))
noncomputable def sW(t:aG):aG:=λδ Q=>t δ λd ae=>match d with
 | .int i=>Q (.int (Mf.bl i.natAbs:Nat)) ae
 | _=>False
theorem pH(ho:PE X o (lB t))(jB:attributeBase o "bit_length" X.env (eval o X.env)=eval o X.env:=by rfl)(jC:(apos.endLine==bM.line)=true:=by rfl):PE X (.Call (.Attribute o "bit_length" apos) [] [] bM) (lE (sW t)) :=
 cG (Gi ho jB jC) λσ H Q ⟨B,F,δ,ts,Qd,c,q,k⟩=>⟨B,F,δ,ts,_,c,q,λd ah v F1 H1 q1 f1 h1 c1 s1=>by
  cases s1 with
  | int _=>exact⟨rfl,_,rfl,rfl,k _ ah _ F1 H1 q1 f1 h1 (c1.pushS (.int .nil) rfl)⟩
  | _=>exact q1.elim⟩
end
end L3
namespace L3
open PySem L2 PySem.Spec PyProof.Rows
section
variable{X:Cx}{F H:Hp}{v w:V}{e a b c o tg:Expr}{es:List Expr}{pos p p2 apos bM pos':Pos}{t ta tb tc te ti:aG}{tr:bY}{x:Str}{i:Nat}
noncomputable def sX(i:Nat)(t:aG):cn:=λD δ=>(∃xs,δ[i]?=some (some (.lst true xs)))/\t δ λd ae=>∃xs,ae[i]?=some (some (.lst true xs))/\xs.length<sizeLine/\D.nx (ae.set i (some (.lst true (xs++[d]))))
theorem xX(hN:X.N[i]?=some x)(hv:j8 X.env.scope x)(he:PE X e (lE t))(hd:(x==("__debug__":Str))=false:=by decide)(cF:(x==("__classdict__":Str))=false:=by decide)
  (jB:attributeBase (.Name x p) "append" X.env (eval (.Name x p) X.env)=eval (.Name x p) X.env:=by rfl)
  (xk:((backTo bM (starEach [e] X.env)).all (λx=>!x.1)&&(backToKw bM (keywordEach [] X.env)).all (λx=>x.1.isSome)
   && decide ([e].length+([]:List Keyword).length+(if([]:List Keyword).isEmpty then 0 else 1)<30))=true:=by rfl)
  (jC:(apos.endLine==bM.line)=true:=by rfl) (hs:starEach [e] X.env=(false,eval e X.env)::starEach [] X.env:=by rfl) (xm:(backTo bM (starEach [] X.env)).any (·.1)=false:=by rfl)
  (xY:swapsWith (.Call (.Attribute (.Name x p) "append" apos) [e] [] bM) none pos.line X.env=pure false:=by rfl) :
  PS X (.Expr (.Call (.Attribute (.Name x p) "append" apos) [e] [] bM) pos) (lS X (sX i t)) :=
 jG (w4 (Rx PySem.F.plainAttrs_list PySem.F.slot_list_append PySem.F.type_list_append RA (oo hN hv hd cF) (bX he eF hs) jB xk jC hs xm) xY) λEn σ H zz=>by
  obtain⟨B,F,δ,Dd,c,⟨⟨ys,ey⟩,q⟩,k1,k2,k3,k4⟩:=zz
  obtain⟨p0,GD,g1,g2,g3⟩:=c.ownAt ey
  refine⟨.ref p0,g1,.inl ⟨rfl,_,bH.of g2⟩,B,F,δ,[],_,c,q,λd ae v F' H' hd sf sh c'=>?_⟩
  obtain⟨xs,ex,hl,hn⟩:=hd
  obtain⟨p1,ws,r1,r2,r3⟩:=c'.ownAt ex
  rw[g1]at r1;cases r1
  exact⟨p0,ws,v,rfl,rfl,r2,by omega,k1 _ _ F' _ hn (c'.app ex g1 r2)⟩
noncomputable def sY(i:Nat)(te ti:aG):cn:=λD δ=>te δ λd ah=>∃ys,ah[i]?=some (some (.lst true ys))/\oS ti ah λk aN=>match k with
 | .int n=>∃xs j,aN[i]?=some (some (.lst true xs))/\gE xs.length n=some j/\D.nx (aN.set i (some (.lst true (xs.set j d))))
 | _=>False
theorem m9(hN:X.N[i]?=some x)(hv:j8 X.env.scope x)(he:PE X e (lE te))(hi:PE X b (lB ti))(hd:(x==("__debug__":Str))=false:=by decide)(cF:(x==("__classdict__":Str))=false:=by decide)
  (ha:∀v,assign (.Subscript (.Name x p) b pos') X.env v=(do
   let ov<-holding [v] (eval (.Name x p) X.env)
   let iv<-holding [v,ov] (eval b X.env)
   standAt pos'
   holding [v,ov,iv] (setItem ov iv v)
   release [v,ov,iv] []):=by intro _;rfl)
  (hs:swapsWithSole [.Subscript (.Name x p) b pos'] e pos.line X.env=pure false:=by rfl) (hw:swappedStores [.Subscript (.Name x p) b pos'] e X.env=pure none:=by rfl)
  (h1:(assignEach [.Subscript (.Name x p) b pos'] X.env).map (·.2)=[assign (.Subscript (.Name x p) b pos') X.env]:=by rfl) :
  PS X (.Assign [.Subscript (.Name x p) b pos'] e pos) (lS X (sY i te ti)) :=
 jG (cH8 he (cB8 (oo hN hv hd cF) (cV hi) cc8 ha) hs hw h1) λEn σ H ⟨B,F,δ,Dd,c,q,k1,k2,k3,k4⟩=>⟨B,F,δ,[],_,c,q,λd ah v F1 H1 hq f1 h1 c1=>by
  obtain⟨ys,ey,hq⟩:=hq
  obtain⟨p0,GD,g1,g2,g3⟩:=c1.ownAt ey
  refine⟨.ref p0,g1,B,F1,ah,[(d,v)],_,c1,hq,λkd aN kv F2 H2 hk f2 h2 c2=>?_⟩
  have st:=c2.top
  split at hk
  ·obtain⟨xs,j,ex,ej,hn⟩:=hk
   cases st
   have c3:=c2.pop
   obtain⟨p1,ws,r1,r2,r3⟩:=c3.ownAt ex
   rw[g1]at r1;cases r1
   exact⟨p0,ws,_,j,rfl,rfl,r2,by rw[<-r3];exact ej,k1 _ _ F2 _ hn (c3.do4 ex g1 r2 j)⟩
  ·exact hk.elim⟩
end
end L3
namespace L3
open PySem L2 PySem.Spec PyProof.Rows
theorem cM{A:Around}{k:Nat}(hr:bP k A):A.units+6<cLine:=by have:=hr.un;omega
noncomputable def aC(ns:List Int):List D:=ns.map D.int
noncomputable def G0(o:Obj):Bool:=match o.cls with
 | .type n=>n != "list"
 | _=>true
noncomputable def S8:bf:=λds Q=>∃ns:List Int,ds=[.fz (aC ns)]/\ns.length<=63/\Q (.bl true)
theorem jM{F H:Hp}:∀ns:List Int,R F H (aC ns) (ns.map V.int) []
 | []=>.nil
 | n::ns=>.int (jM ns)
theorem bG0{K:PySem.W.Frag}{a:Addr}{o:Obj}(h:K.lookup a=some o):(a,o)∈K:=by
 induction K with
 | nil=>cases h
 | cons p K ih =>
  obtain⟨b,u⟩:=p
  rw[fg]at h
  split at h
  ·rename_i z
   have:a=b:=by simpa using z
   cases h;subst this;simp
  ·exact gz _ (ih h)
end L3
namespace L3
open PySem L2 PySem.Spec PyProof.Rows
section
variable{B:Bs}{F H:Hp}{σ:L2.St}{δ:Dl}{ts ps:List (D × V)}{i k:Nat}{p q:Addr}{l1 l2 ys Sk:List D}{ws sJ:List V}
end
section
variable{X:Cx}{F H:Hp}{e b:Expr}{pos p pr apos bM G1:Pos}{t ti te:aG}{x y:Str}{i j:Nat}
end
end L3
namespace L3
open PySem L2 PySem.Spec PyProof.Rows
theorem xZ(i:Int):(D.int i).pl=true:=rfl
theorem x6(i:Bool):(D.bl i).pl=true:=rfl
theorem x8(i:Str):(D.str i).pl=true:=rfl
theorem x9:D.aj.pl=true:=rfl
theorem ya(xs:List D):(D.fz xs).pl=true:=rfl
theorem yb(C:Addr)(ns:List Str)(xs:List D):(D.obj C ns xs).pl=true:=rfl
theorem yc(i:Int):(D.int i).fr=true:=rfl
theorem yd(i:Bool):(D.bl i).fr=true:=rfl
theorem ye(i:Str):(D.str i).fr=true:=rfl
theorem yf:D.aj.fr=true:=rfl
theorem kC(i:Int):(D.int i).sh=.int i:=rfl
theorem yg(i:Bool):(D.bl i).sh=.bl i:=rfl
theorem yh(i:Str):(D.str i).sh=.str i:=rfl
theorem yi:D.aj.sh=.aj:=rfl
theorem yj(xs:List D):(D.fz xs).sh=.fz xs:=rfl
theorem yk(C:Addr)(ns:List Str)(xs:List D):(D.obj C ns xs).sh=.obj C ns xs:=rfl
theorem ym{α:Type}(n:Nat)(x:α):(aw n [x]).flatten=aw n x:=by
 induction n with
 | zero=>rfl
 | succ n ih=>rw[nX,qJ,ih];rfl
theorem lY(ns:List Int):(aC ns).length=ns.length:=by simp[aC]
theorem lZ(ns:List Int):(aC ns).all D.pl=true:=by simp[aC,D.pl]
theorem pI(ns:List Int):(aC ns).all D.fr=true:=by simp[aC,D.fr]
theorem jr(ns:List Int):(aC ns).map D.sh=aC ns:=by simp[aC,D.sh]
theorem pJ(a b:List Int):aC a++aC b=aC (a++b):=by simp[aC]
theorem yn(n:Nat)(i:Int):aw n (D.int i)=aC (aw n i):=by simp[aC]
theorem sZ(n:Nat)(ns:List Int):(aC ns).all (cj n)=true:=by
 rw[cS];intro x hx
 obtain⟨i,_,rfl⟩:=cI.mp hx
 cases n<;>rfl
theorem yo(n:Nat)(o:Bool)(ns:List Int):cj (n+1) (.lst o (aC ns))=true:=sZ n ns
theorem pK(n:Nat)(i:Int):cj n (.int i)=true:=by cases n<;>rfl
theorem yp(n:Nat)(i:Str):cj n (.str i)=true:=by cases n<;>rfl
theorem s8(n:Nat):cj n .aj=true:=by cases n<;>rfl
theorem ik(i j:Int):bq (.int i) (.int j)=decide (i=j):=by
 show(i==j)=_
 rw[Bool.beq_eq_decide_eq]
theorem S9:∀(a b:List Int),bq.dZ (aC a) (aC b)=decide (a=b)
 | [],[]=>rfl
 | [],_::_=>by simp[aC,bq.dZ]
 | _::_,[]=>by simp[aC,bq.dZ]
 | x::xs,y::ys=>by
  show(bq (.int x) (.int y)&&bq.dZ (aC xs) (aC ys))=_
  rw[S9 xs ys,ik,wz];simp
theorem s9(o o':Bool)(a b:List Int):bq (.lst o (aC a)) (.lst o' (aC b))=decide (a=b):=S9 a b
theorem b93{ns:List Int}{k:Nat}(h:k<ns.length):(aC ns)[k]?=some (.int ns[k]):=by simp[aC,h]
theorem kD{ns:List Int}{k:Int}(h0:0<=k)(h:k<ns.length):eH (aC ns) k=some (.int (ns.getD k.toNat 0)):=by
 unfold eH gE
 rw[if_pos h0,lY,if_pos h]
 show(aC ns)[k.toNat]?=_
 have hk:k.toNat<ns.length:=by omega
 rw[b93 hk,aT,aU hk];rfl
theorem yq(ns:List Int)(lo hi:Option Int):eO (aC ns) lo hi=aC (eO ns lo hi):=by simp[eO,aC,List.map_drop,List.map_take]
theorem yr(i:Int):kB "int" (.int i)=some true:=by rfl
theorem yt(i:Int):kB "bool" (.int i)=some false:=by rfl
theorem yu(i:Int):kB "list" (.int i)=some false:=by rfl
theorem yv(o:Bool)(xs:List D):kB "list" (.lst o xs)=some true:=by rfl
theorem yw:kB "int" .aj=some false:=by rfl
theorem yx(x:Str):kB "str" (.str x)=some true:=by rfl
theorem yy(xs:List D):kB "tuple" (.tup xs)=some true:=by rfl
theorem sL:sizeLine=16777216:=rfl
theorem yz{p:Prop}[Decidable p]:(decide p=true)=p:=by simp
theorem Ta{α:Type}(xs:List α)(a b:Nat):eO xs (some (a:Int)) (some (b:Int))=(xs.drop a).take (b-a):=by
 unfold eO
 rw[HT.FQ,HT.FQ]
 by_cases h:a<=xs.length
 ·rw[Nat.min_eq_left h]
  apply E5
  intro i
  rw[μ,μ,List.getElem?_drop]
  by_cases hi:i<b-a
  ·rw[if_pos hi]
   by_cases hb:a+i<xs.length
   ·rw[if_pos (by omega)]
   ·rw[fh (by omega)];simp
  ·rw[if_neg hi,if_neg (by omega)]
 ·rw[Nat.min_eq_right (show xs.length<=a by omega),Qp (bB _),Qp (show xs.length<=a by omega)];simp
end L3
namespace L2
open PySem PySem.Spec PyProof.Rows
section
variable{X:Cx}{e:Expr}{te:TE}{lo hi:Option Expr}{st:Expr}{tl th ts:TO}{pos p2:Pos}
theorem Tc(ns:List Int):∀k,k<=ns.length->preSum (λi=>ns.getD i 0) k=(ns.take k).sum
 | 0,_=>rfl
 | k+1,h=>by
  show preSum (λi=>ns.getD i 0) k+ns.getD k 0=_
  rw[Tc ns k (by omega),AH,aU (by omega),List.sum_append,aT,aU (by omega)]
  simp
theorem bV1(hc:X.calm=true):fW X (.builtin "sum") (λxs H Q=>∃(p:Addr) (ns:List Int),xs=[.ref p]/\bH X.K H p (ns.map V.int)/\Q (.int ns.sum) H):=by
 intro pins s σ H xs us Q I r h
 obtain⟨p,ns,rfl,hS,q⟩:=h
 obtain⟨u,rfl,ru⟩:=r.one
 cases ru
 obtain⟨its,rv,pl,hz⟩:=I.list hS
 have hi:=Rl rv
 have hlen:ns.length=its.length:=by have:=rv.length;simpa using this
 have hl:=pl.isList
 have fB:p<s.heap.objs.size:=by obtain⟨_,e,_⟩:=hl;exact bF e
 refine call_sum_walkG (wpAny_pyIter_list hl ?_)
 refine⟨s.heap.objs.size,[s.heap.objs.size,p],[s.heap.objs.size],its.toArray.size,_,_,λi=>ns.getD i 0,rfl,Walks.list (A:=X.A.in1) (I.ok.hd hc) _ p (dQ fB) its.toArray,
  ⟨⟨_,fO _ rfl,rfl,rfl⟩,hl.push _⟩,λb hb=>?_,λi v hP=>?_,λh' tk t' hk=>?_⟩
 ·simp only[qC]
  rcases cE.mp hb with rfl | hb
  ·exact Av _
  ·rw[fS.mp hb];exact Qq fB
 ·have e:its[i]?=some v:=by simpa using hP
  obtain⟨x,ex,q2⟩:∃x,(ns.map V.int)[i]?=some x/\RelV x v:=by
   have gG:i<its.length:=(i7.mp e).1
   obtain⟨u,e2,q2⟩:=rv.get (i:=i) (x:=V.int ns[i]) (by rw[bV,aU (by omega)];rfl)
   rw[e]at e2;cases e2
   exact⟨_,by rw[bV,aU (by omega)];rfl,q2⟩
  rw[bV]at ex
  obtain⟨n,en,rfl⟩:=AI.mp ex
  obtain⟨t,rfl⟩:=q2
  exact⟨t,by show nR n t=nR (ns.getD i 0) t;rw[aT,en];rfl⟩
 ·rw[dn,<- hlen,Tc ns _ (bB _),EX]
  exact⟨.int _,H,I.kept (h':=h') (t':=tk) (R5 hk),⟨_,rfl⟩,q⟩
end
end L2
namespace L3
open PySem L2 PySem.Spec PyProof.Rows
section
variable{X:Cx}{F H:Hp}{e:Expr}{t:aG}{lo hi:Option Expr}{st:Expr}{tl th td:sT}{pos p2:Pos}
theorem G2:∀{a:List Int} {ws:List V},S F H (aC a) ws->ws=a.map V.int
 | [],_,s=>by cases s;rfl
 | b::bs,_,s=>by
  cases s with
  | int s=>rw[G2 s];rfl
noncomputable def pL:jo:=λds Q=>match ds with
 | [.lst _ xs]=>∃a,xs=aC a/\Q (.int a.sum)
 | _=>False
theorem cJ9(hc:X.calm=true):ig X (.builtin "sum") pL:=ig.of (bV1 hc) λvs H Q zz=>by
 obtain⟨B,F,σ,δ,ts,ds,Qd,c,s,q,k⟩:=zz
 unfold pL at q
 split at q
 ·obtain⟨v,rfl,s1⟩:=kz s
  obtain⟨a,rfl,q⟩:=q
  obtain⟨p,ws,rfl,h,t⟩:=ky s1 c.ext rfl
  rw[G2 t]at h
  exact⟨p,a,rfl,jq h,k _ _ _ q (aa.refl _) (c.pushS (.int .nil) rfl)⟩
 ·exact q.elim
noncomputable def G3:Expr->Option Int
 | .Constant (.int i) _ _=>some i
 | _=>none
noncomputable def BY:List Expr->Option (List Int)
 | []=>some []
 | e::es=>(G3 e).bind λi=>(BY es).map (i :: ·)
theorem b99{e:Expr}{i:Int}(h:G3 e=some i):∃a b,e=.Constant (.int i) a b:=by
 cases e with
 | Constant c a b =>
  cases c with
  | int j=>cases h;exact⟨_,_,rfl⟩
  | _=>cases h
 | _=>cases h
noncomputable def cN7(ns:List Int):bY:=λδ Q=>Q (aC ns) δ
theorem Td:∀(es:List Expr) (ns:List Int),BY es=some ns->PA X es (lO (cN7 ns))
 | [],ns,h=>by cases h;exact dv
 | e::es,ns,h=>by
  obtain⟨i,hi,h2⟩:=Option.bind_eq_some_iff.mp (show(G3 e).bind (λi=>(BY es).map (i :: ·))=some ns from h)
  obtain⟨ms,hm,rfl⟩:=AI.mp h2
  obtain⟨a,b,rfl⟩:=b99 hi
  exact xC (cH (av (i:=i)) (Td es ms hm)) λ_ _ _ q=>q
noncomputable def tf(ns:List Int):aG:=λδ Q=>ns.length<=sizeLine/\Q (.lst true (aC ns)) δ
theorem Te{es:List Expr}{ns:List Int}(h:BY es=some ns):PE X (.List es pos) (lE (tf ns)) :=
 cG (eN (Td es ns h)) λ_ _ _ ⟨B,F,δ,ts,Qd,c,q,k⟩=>⟨B,F,δ,ts,Qd,c,by
  show(aC ns).length<=sizeLine/\_
  rw[lY];exact q,k⟩
theorem G4{n:Nat}{g:gK}{tb:cn}{En:oR}{δ:Dl}(Iv:Nat->Dl->Prop)(h0:Iv 0 δ)(ht:∀k ae,k<n->Iv k ae->g (.int k) ae λaN=>tb { En with nx:=Iv (k+1),ct:=Iv (k+1),bk:=En.nx } aN)
  (hf:∀ae,Iv n ae->En.nx ae):fE (AJ (λ(k:Nat)=>D.int (0+(k:Int))) (bo (n:Int).toNat)) g tb En δ:=by
 rw[eD]
 refine fE.mk Iv h0 (λi d ae hd iv=>?_) λae iv=>hf ae (by simpa using iv)
 rw[bV]at hd
 obtain⟨k,hk,rfl⟩:=AI.mp hd
 have hi:i<n:=by have:=(i7.mp hk).1;simpa using this
 rw[jX hi]at hk
 cases hk
 rw[Qr]
 exact ht i ae hi iv
theorem kY{xs:List D}{k:Int}{d:D}(h0:0<=k)(h:xs[k.toNat]?=some d):eH xs k=some d:=by
 unfold eH gE
 have hk:k.toNat<xs.length:=(i7.mp h).1
 rw[if_pos h0,if_pos (by omega)]
 exact h
end
end L3
namespace L3
open PySem L2 PySem.Spec PyProof.Rows
noncomputable abbrev jN:=List D->(D->Prop)->(Addr->Prop)->Prop
noncomputable def nh(sp:jN):Sp:=λvs H Q E=>∃F ds Qd Ed,aa F H/\R F H ds vs []/\sp ds Qd Ed/\(∀d v F' H' A,Qd d->aa H H'->aa F F'->aa F' H'->(∀a ws,F' a=some (.lst ws)->F a=some (.lst ws)\/H a=none)->R F' H' [d] [v] A->A.Nodup->(∀a∈A,H a=none)->Q v H') /\
 ∀C H',Ed C->aa H H'->E (.ref C) none H'
section
variable{P:Program}{w:World}{K:PySem.W.Frag}{mg:Str->Option Value}{base:Heap}
theorem G5{x qual:Str}{st:Stmt}{f:Addr}{fd:FuncData}{N ps:List Str}{k:Nat}{sp:jN}(F:aV K x qual st f fd)(S:bc N ps (ao st))(len:∀ds Q E,sp ds Q E->ds.length=ps.length)
  (gD:∀(aE:Value) (A:Around) (outer:List Env) (s:Shared) (H:Hp) (E:XK),bP k (A.deeper (envOfC qual (ao st) s.heap.objs.size f aE)) ->
   ∃t:cn,PSs (g8 (jk P w) P w K mg base N qual (ao st) f aE A outer s H E) (aS st) (lS (g8 (jk P w) P w K mg base N qual (ao st) f aE A outer s H E) t) /\
    ∀ds Q Ex,sp ds Q Ex->t { nx:=λ_=>Q .aj,rt:=Q,xc:=λC _=>Ex C,xr:=λC _=>Ex C } (jJ N ds)):aK P w K mg base (jk P w) (k+1) f fd ps (nh sp):=by
 obtain⟨oc,od,kV,doc,pm,an,aE,ct,ke,rfl,lk,cF⟩:=F.ex
 refine FN lk cF S (λvs H Q E ⟨F,ds,Qd,Ed,e,r,h,_⟩=>by rw[<-r.length];exact len ds Qd Ed h) λA outer s H vs Q E hr zz=>?_
 obtain⟨F,ds,Qd,Ed,e,r,h,k,kx⟩:=zz
 obtain⟨t,ht,hq⟩:=gD aE A outer s H E hr
 have fin:∀d v ae ay F' H',Qd d->ai ⟨H,F⟩ F' H' ay ae [(d,v)]->Q v H':=λd v ae ay F' H' hd c=>by
  obtain⟨A,C,r',s',nd,fr⟩:=c.own
  exact k d v F' H' A hd c.b1 c.b2 c.ext c.b3 r' (gI.mp nd).1 λa ha=>fr a (eJ _ ha)
 have e1:L2.start N vs=vs.map some++aw (N.length-ds.length) none:=by unfold L2.start;rw[r.length]
 refine⟨_,ht,⟨H,F⟩,F,jJ N ds,_,?_,hq ds Qd Ed h,λae ay F' H' hd c=>fin .aj .aj ae ay F' H' hd (c.pushS (.aj .nil) rfl),fin,λ_ _ _ _ z=>z.elim,λ_ _ _ _ z=>z.elim,λC ae pins ay F' H' s' a T hx c I tr pa pT=>?_,λC ae pins ay F' H' s' h' e vs hx c I hm=>?_⟩
 ·rw[e1]
  exact ai.start e r _
 ·exact bU9 I rfl rfl rfl tr pa pT λh' T' g=>⟨a,T',.ref C,H',rfl,I.os,I.bare,g.un,g.aA,g.rp,g.a0,g.a1,g.t0,g.t1,kx C H' hx c.b1⟩
 ·exact bR9 I rfl rfl rfl hm λh' T' g=>⟨e,T',.ref C,H',rfl,I.os,I.bare,g.un,g.aA,g.rp,g.a0,g.a1,g.t0,g.t1,kx C H' hx c.b1⟩
end
noncomputable abbrev Tf:=L2.St->Hp->VK->(Value->Hp->Prop)->Prop
noncomputable def PX(X:Cx)(e:Expr)(t:Tf):Prop:=∀(pins:List (Addr × Obj)) (s:Shared) (σ:L2.St) (H:Hp) (Q:VK) (Z:Value->Hp->Prop),Inv X pins σ H s ->
 (∀a T cls H' s',Inv X pins σ H' s'->fZ s'.heap a T cls->Apart X pins H' a->Apart X pins H' T->Z cls H'->X.xe (.ref a) s')->t σ H Q Z->wpAny (model X.prog X.w) X.A (eval e X.env) (EP X pins σ Q) X.xe s
noncomputable abbrev BZ:=Dl->(D->Dl->Prop)->(Addr->Dl->Prop)->Prop
noncomputable def lX(t:BZ):Tf:=λσ H Q Z=>∃B F δ Qd Zd,ai B F H σ δ []/\t δ Qd Zd/\(∀d ae v F' H',Qd d ae->aa F F'->aa H H'->ai B F' H' σ ae [(d,v)]->Q v H')/\∀C ae F' H',Zd C ae->aa F F'->aa H H'->ai B F' H' σ ae []->Z (.ref C) H'
section
variable{X:Cx}{n:Nat}{f:Addr}{fd:FuncData}{ps:List Str}{sp:jN}{x:Str}{p pos:Pos}{e:Expr}{es:List Expr}{t:bY}{tx:BZ}
theorem cK8{B:Bs}{F H:Hp}{σ:L2.St}{Dd:oR}{pins:List (Addr × Obj)}(xl:XL X B Dd):∀a T cls H' s',Inv X pins σ H' s'->fZ s'.heap a T cls->Apart X pins H' a->Apart X pins H' T->(∃C ae F',cls=.ref C/\Dd.xc C ae/\ai B F' H' σ ae [])->X.xe (.ref a) s':=by
 rintro a T cls H' s' I tr pa pT ⟨C,ae,F',rfl,hx,c⟩
 exact xl.1 C ae pins σ F' H' s' a T hx c I tr pa pT
noncomputable def tu(t:BZ):cn:=λD δ=>t δ (λ_ ae=>D.nx ae) D.xc
theorem cq1(he:PX X e (lX tx))(hs:swapsWith e none pos.line X.env=pure false:=by rfl):PS X (.Expr e pos) (lS X (tu tx)):=by
 intro pins s σ H D I zz
 obtain⟨B,F,δ,Dd,c,q,k1,k2,k3,k4,xl⟩:=zz
 refine wpAny_Expr_any (aL (he pins s σ H (λ_ H1=>D.nx σ H1) (λcls H'=>∃C ae F',cls=.ref C/\Dd.xc C ae/\ai B F' H' σ ae []) I (cK8 (H:=H) (F:=F) xl) ⟨B,F,δ,_,_,c,q,λd ae v F' H' hd _ _ c'=>k1 ae σ F' H' hd c'.pop,λC ae F' H' hC _ _ c'=>⟨C,ae,F',rfl,hC,c'⟩⟩) λv s1 ⟨x,H1,I1,r1,q1⟩=>⟨σ,H1,I1,q1⟩) I.quiet hs
noncomputable def tw(t:cn):cn:=λD δ=>t { D with xc:=λ_ _=>False,xr:=λ_ _=>False } δ
theorem cK3{st:Stmt}{u:cn}(h:PS X.fw st (lS X.fw u)):PS X st (lS X (tw u)):=by
 intro pins s σ H D I zz
 obtain⟨B,F,δ,Dd,c,q,k1,k2,k3,k4,xl⟩:=zz
 exact wpAny_mono (h pins s σ H D (I.jg _) ⟨B,F,δ,_,c,q,k1,k2,k3,k4,XL.none (λ_ _ z=>z) λ_ _ z=>z⟩) (λ_ _ q=>q.ka) λ_ _ z=>eB z
noncomputable def tD(C:Addr)(t:bY):cn:=λD δ=>t δ λds ae=>ds.length<=9/\D.xr C ae
structure B0(K:PySem.W.Frag)(mg:Str->Option Value)(x:Str)(C:Addr):Prop where
 own:∀h:Heap,K.In h->h.Ns mainGlobals mg->∃newId Bn Tg Th B Ti Tj B4,OwnCls x C B4 newId mg h/\ExcBaseFacts Bn newId Tg Th/\B4.contains (.type Bn)=true/\ExcBaseFacts B Ti Tj B4
theorem G6{C:Addr}{np bM:Pos}(hm:B0 X.K X.mg x C)(hc:X.calm=true)(hg:Gl X x)(ha:PA X (e::es) (lA t))(cT:(x==("__debug__":Str))=false:=by decide)
  (he:starEach (e::es) X.env=(false,eval e X.env)::starEach es X.env:=by rfl) (bx:(backTo bM (starEach es X.env)).any (·.1)=false:=by rfl) :
  PS X (.Raise (some (.Call (.Name x np) (e::es) [] bM)) none pos) (lS X (tD C t)):=by
 intro pins s σ H D I zz
 obtain⟨B,F,δ,Dd,c,q,k1,k2,k3,k4,xl⟩:=zz
 obtain⟨newId,Bn,Tg,Th,B',Ti,Tj,B4,O,Fn,hBn,FB⟩:=hm.own X.base I.ok.mod.j7 I.ok.mod.glob
 obtain⟨tl,N,nm,qn,bs,hdct,sn,sub,ab,col,dd,k0,pq,sM,k3',k5,mN,hC,hN,ni,T⟩:=O.obj
 refine wpAny_Raise_call_subU (k5:=k5) (k3:=k3') (k2:=sM) (k1:=pq) (k0:=k0) (dd:=dd) (col:=col) (ab:=ab) (sub:=sub) (sn:=sn) (hdct:=hdct) (bs:=bs) (N:=N) (q:=qn) (nm:=nm) (C:=C) Fn hBn FB (mN:=mN) (T.hasType FB.hasBase) (I.ok.hd hc) (by rw[he];show(false||(backTo bM (starEach es X.env)).any (·.1))=false;rw[bx];rfl) ni (ot I hg O.bound ⟨rfl,?_⟩ cT)
 have Tn:=ha bM pins s σ H (λvs H1=>vs.length<=9/\∃ae F',Dd.xr C ae/\ai B F' H1 σ ae []) I ⟨B,F,δ,[],_,c,q,λds ah vs F1 H1 q1 f1 h1 c1 s1=>⟨by rw[<-s1.length];exact q1.1,ah,F1,q1.2,c1⟩⟩
 rw[he]at Tn ⊢
 refine Calls.evalArgs_plain (wpAny_mono Tn (λus s2 h2=>?_) λ_ _ y=>y)
 obtain⟨vs,H1,I1,r,hl,ae,F',hx,c'⟩:=h2
 exact⟨rfl,by rw[<-r.length];exact eA hl (by decide),I1.bk _ _ hC,hN.keeps I1.bk,T.keeps I1.bk,λh' e' hm'=>xl.2 C ae pins σ F' H1 s2 h' e' _ hx c' I1 hm'⟩
end
end L3
namespace L3
open PySem L2 PySem.Spec PyProof.Rows
section
variable{X:Cx}{pins qU:List (Addr × Obj)}{σ:L2.St}{H:Hp}{s:Shared}{a:Addr}
noncomputable abbrev tr(X:Cx)(xe:Value->Shared->Prop)(pn:List (Addr × Obj)):Cx:={ X with xe:=xe,pn:=pn }
noncomputable abbrev tE(X:Cx)(A:Around)(xe:Value->Shared->Prop):Cx:={ X with A:=A,calm:=false,xe:=xe }
theorem cK0(ok:X.Ok)(xe:Value->Shared->Prop)(pn:List (Addr × Obj)):(tr X xe pn).Ok :=
 ⟨ok.mod,ok.kind,ok.glob,ok.blt,ok.above,ok.inj,ok.has,ok.kU,ok.hd,ok.frames,ok.oj,ok.om,ok.bs,ok.gX,ok.mO,ok.mP,ok.eZ,ok.gY⟩
theorem cD9(I:Inv X pins σ H s)(xe:Value->Shared->Prop):Inv (tr X xe (X.pn++pins)) [] σ H s :=
 ⟨cK0 I.ok _ _,I.os,I.bare,I.base,I.loc,I.cell,I.free,I.eT,λp hp=>I.pin p (by simpa using hp),I.aA,I.len⟩
theorem yA{xe:Value->Shared->Prop}(ok:X.Ok)(I:Inv (tr X xe (X.pn++pins)) qU σ H s):Inv X pins σ H s :=
 ⟨ok,I.os,I.bare,I.base,I.loc,I.cell,I.free,I.eT,λp hp=>I.pin p (eJ _ hp),I.aA,I.len⟩
theorem To{xe:Value->Shared->Prop}(p:Apart (tr X xe (X.pn++pins)) qU H a):Apart X pins H a:=⟨p.old,p.free,p.loc,p.cell,λq hq=>p.pin q (eJ _ hq),p.fr⟩
theorem cH9(ok:X.Ok){A:Around}(hA:A.frames=X.A.frames)(xe:Value->Shared->Prop):(tE X A xe).Ok :=
 ⟨ok.mod,ok.kind,ok.glob,ok.blt,ok.above,ok.inj,ok.has,ok.kU,(λh=>Bool.noConfusion h),hA.trans ok.frames,ok.oj,ok.om,ok.bs,ok.gX,ok.mO,ok.mP,ok.eZ,ok.gY⟩
theorem Tp(I:Inv X pins σ H s){A:Around}(hA:A.frames=X.A.frames)(xe:Value->Shared->Prop):Inv (tE X A xe) pins σ H s :=
 ⟨cH9 I.ok hA xe,I.os,I.bare,I.base,I.loc,I.cell,I.free,I.eT,I.pin,I.aA,I.len⟩
theorem bW2{A:Around}{xe:Value->Shared->Prop}(ok:X.Ok)(I:Inv (tE X A xe) pins σ H s):Inv X pins σ H s:=⟨ok,I.os,I.bare,I.base,I.loc,I.cell,I.free,I.eT,I.pin,I.aA,I.len⟩
theorem b71{φ:Heap->Prop}(I:Inv X pins σ H s)(pa:Apart X pins H a)(ho:∃o,s.heap.get? a=some o)(h1:φ s.heap)(h2:∀g g':Heap,φ g->(∀o,g.get? a=some o->g'.get? a=some o)->φ g'):Inv X pins σ (upd H a (.ext φ)) s:=by
 have ne:∀{b:Addr} {u:HO},H b=some u->b≠a:=λ{b u} q=>dj q pa.free
 refine⟨I.ok,I.os,I.bare,⟨I.base.keep,I.base.slot,λb o e n hx=>?_,I.base.there,λb xs e=>?_,λb o xs e=>?_,λb ps e=>?_⟩,I.loc,I.cell,?_,λx c e=>?_,λp hp=>?_,λb u e=>?_,I.len⟩
 ·rw[aQ (λz=>by rw[z,pa.old]at e;cases e)];exact I.base.free b o e n hx
 ·have q:=I.base.gB b xs e;rw[aQ (ne q)];exact q
 ·have q:=I.base.fU b o xs e;rw[aQ (ne q)];exact q
 ·obtain⟨m,q⟩:=I.base.fi b ps e;exact⟨m,by rw[aQ (ne q)];exact q⟩
 ·rw[aQ (dR pa.loc)];exact I.free
 ·rw[aQ (pa.cell x c e)];exact I.eT x c e
 ·obtain⟨q1,q2,q3,q4,q5⟩:=I.pin p hp
  exact⟨q1,by rw[aQ (pa.pin p hp)];exact q2,q3,q4,q5⟩
 ·by_cases hb:b=a
  ·subst hb;rw[bG]at e;cases e;exact⟨h1,ho,λg g' p kk=>h2 g g' p λo q=>kk _ o (.inl rfl) q⟩
  ·rw[aQ hb]at e
   exact(I.aA b u e).gW (λ_ _ _ q=>q) (λc q=>by rw[aQ (ne q)];exact q) (λc xs q=>by rw[aQ (ne q)];exact q) λc xs q=>by rw[aQ (ne q)];exact q
end
theorem ai.unset{B:Bs}{F H:Hp}{σ:L2.St}{δ:Dl}{ts:List (D × V)}(c:ai B F H σ δ ts)(i:Nat):ai B F H (σ.set i none) (δ.set i none) ts:=by
 obtain⟨A,C,r,q,nd,fr⟩:=(c.forget i).own
 refine⟨c.ext,c.b1,c.b2,c.b3,A,C,r,q.rD none ?_,nd,fr⟩
 by_cases h:i<δ.length
 ·exact .inl (by rw[As h])
 ·exact .inr (by rw[fh (by simpa using h)])
noncomputable abbrev exc(C:Addr):D:=.bu (.ext λa=>kh a C)
theorem Tq{h:Heap}{a T C:Addr}(t:fZ h a T (.ref C)):kh a C h:=by
 obtain⟨oe,vs,oT,ts,h1,h2,h3,h4,_⟩:=t
 exact⟨oe,h1,h2,by obtain⟨c,d,dt,sl⟩:=oe;cases h4;rfl,h3⟩
theorem cb1{a C:Addr}(g g':Heap)(h:kh a C g)(k:∀o,g.get? a=some o->g'.get? a=some o):kh a C g':=let⟨o,h1,r⟩:=h;⟨o,k o h1,r⟩
section
variable{X:Cx}{tb th:cn}{body G7:List Stmt}{G8:Stmt}{K n:Str}{Kc:Addr}{i:Nat}{kp Tr pos:Pos}
noncomputable def tF(K:PySem.W.Frag)(c:Value)(i:Nat)(tb th:cn):cn:=λD δ=>tb { D with
 xc:=λC ae=>PySem.W.exmOne K (.ref C) c=some true/\th { nx:=λaN=>D.nx (aN.set i none),rt:=λ_=>False } (ae.set i (some (exc C)))
 xr:=λ_ _=>False } δ
theorem cJ8(hb:∀xe pn,PSs (tr X xe pn) body (lS (tr X xe pn) tb))(hsu:∀A' xe,PSs (tE X A' xe) (G8::G7) (lS (tE X A' xe) th))(hg:Gl X K)(hm:X.mg K=some (.ref Kc))(hN:X.N.Nodup)(hi:X.N[i]?=some n)
  (hl:X.env.scope.names.lookup n=some .local) (hex:X.ex=[]) (bU:X.stack=X.env::X.outer) (hf:X.env.frame=some X.env.locals) (cT:(K==("__debug__":Str))=false:=by decide) :
  PS X (.Try body [.ExceptHandler (some (.Name K kp)) (some n) (G8::G7) Tr] [] [] pos) (lS X (tF X.K (.ref Kc) i tb th)):=by
 intro pins s σ H D I zz
 obtain⟨B,F,δ,Dd,c,q,k1,k2,k3,k4,xl⟩:=zz
 refine wpAny_Try_except (wpAny_mono (hb (λe s'=>∃a T C ay F' H' ae,e=.ref a/\Inv X pins ay H' s'/\fZ s'.heap a T (.ref C)/\Apart X pins H' a/\Apart X pins H' T/\ai B F' H' ay ae []/\PySem.W.exmOne X.K (.ref C) (.ref Kc)=some true/\th { nx:=λaN=>Dd.nx (aN.set i none),rt:=λ_=>False } (ae.set i (some (exc C)))) (X.pn++pins) [] s σ H D (cD9 I _) ⟨B,F,δ,_,c,q,k1,k2,k3,k4,λC ae qU ay F' H' s' a T hx c' I' Gq pa pT=>⟨a,T,C,ay,F',H',ae,rfl,yA I.ok I',Gq,To pa,To pT,c',hx⟩,λ_ _ _ _ _ _ _ _ _ _ z=>z.elim⟩) (λf s1 hS=>?_) λe s1 hx=>?_)
 ·cases f with
  | next=>obtain⟨ay,H',I',q'⟩:=hS;exact wZ (X:=X) pins s1 ay H' D (yA I.ok I') q'
  | brk=>obtain⟨ay,H',I',q'⟩:=hS;exact⟨ay,H',yA I.ok I',q'⟩
  | cont=>obtain⟨ay,H',I',q'⟩:=hS;exact⟨ay,H',yA I.ok I',q'⟩
  | ret u=>obtain⟨v,ay,H',I',r',q'⟩:=hS;exact⟨v,ay,H',yA I.ok I',r',q'⟩
 ·obtain⟨a,T,C,ay,F',H',ae,rfl,I1,t1,pa,pT,c1,cm,hth⟩:=hx
  refine cR1 I1 bU hex hf t1 pa pT λh2 T2 I2 t2 pT2=>?_
  refine wpAny_handleBy_cons (codeAny_handlers_test (ot (X:=tE X (X.A.mark (some (.ref a))) X.xe) (Tp (A:=X.A.mark (some (.ref a))) I2 rfl X.xe) hg hm ?_ cT)) (by intro z;cases z)
  have x2:=Tq t2
  obtain⟨o2,e2,hc2,_⟩:=id x2
  have LT:PySem.W.Looks (model X.prog X.w) h2 (typeOf (.ref a)) (.ref C):=hc2 ▸ (PySem.W.Looks.ld e2).andThen .now
  refine(PySem.W.exm_one I2.cw LT cm).here ?_
  refine codeAny_handlers_suite_as (cn1 I2 hex t2 pT2 λh3 I3 t3=>?_)
  have x3:=Tq t3
  have I4:=b71 (φ:=kh a C) I3 pa (x3.imp λo z=>z.1) x3 (λg g' z k=>cb1 g g' z k)
  refine Bd I4 hN hi (.inl hl) (v:=.ref a) rfl (λs5 I5=>?_) (.inr hl)
  refine wpAny_mono (hsu _ _ pins s5 _ _ { nx:=λiK H2=>D.nx (iK.set i none) H2,rt:=λ_ _=>False } (Tp (A:=X.A.mark (some (.ref a))) I5 rfl _) ⟨B,F',ae.set i (some (exc C)),_,?_,hth,λaN iK F2 H2 hn c2=>k1 _ _ F2 H2 hn (c2.unset i),λ_ _ _ _ _ _ z=>z.elim,λ_ _ _ _ z=>z.elim,λ_ _ _ _ z=>z.elim,XL.none (λ_ _ z=>z) λ_ _ z=>z⟩) (λf s6 hS=>?_) λ_ _ z=>z
  ·exact((c1.grow (aa.upd pa.free)).pushS (d:=exc C) (v:=.ref a) (.bu bG .nil) rfl).store i
  ·cases f with
   | next =>
    obtain⟨Bq,H6,I6,q6⟩:=hS
    exact bW9 (bW2 I.ok I6) hN hi hl λs7 I7=>⟨_,H6,I7,q6⟩
   | brk=>obtain⟨_,_,_,z⟩:=hS;exact z.elim
   | cont=>obtain⟨_,_,_,z⟩:=hS;exact z.elim
   | ret u=>obtain⟨_,_,_,_,_,z⟩:=hS;exact z.elim
end
end L3
namespace L3
open PySem L2 PySem.Spec PyProof.Rows
noncomputable def G9:V->Option Value
 | .ref a=>some (.ref a)
 | .ty n=>some (.type n)
 | _=>none
theorem cs7{c:V}{u cv:Value}(h:G9 c=some cv)(r:RelV c u):u=cv:=by
 cases c<;>cases h<;>exact r
inductive B5(K:PySem.W.Frag)(H:Hp):V->Value->Prop where
 | ty {v:V} {t:Value} (h:fX K H v t):B5 K H v t
 | exc {a C:Addr} (e:H a=some (.ext (kh a C))) (x:rq K C):B5 K H (.ref a) (.ref C)
noncomputable def cR4(K:PySem.W.Frag):List V->Hp->VK->Prop:=λxs H Q=>∃x c cv t b,xs=[x,c]/\G9 c=some cv/\B5 K H x t/\PySem.W.kitOne K t cv=some b/\Q (.bl b) H
section
variable{X:Cx}{F H:Hp}{v:V}{a:Expr}{ta:aG}{p pos:Pos}
theorem bX4:fW X (.builtin "isinstance") (cR4 X.K):=by
 intro pins s σ H xs us Q I r h
 obtain⟨x,c,cv,t,b,rfl,hv,ty,e,q⟩:=h
 obtain⟨u,v,rfl,ru,rv⟩:=r.two
 cases cs7 hv rv
 cases ty with
 | ty ty=>exact Q6 I ru ty e λtk=>⟨.bl b,H,I.tok _,rfl,q⟩
 | @exc a C ea x =>
  cases(show u=cu a from ru)
  obtain⟨xa,_,_⟩:=(show dq X.prog X.w H s.heap a (.ext (kh a C)) from I.aA a _ ea)
  exact PySem.W.kia_one (ch2 x) I.cw xa e (λz=>nomatch z) λtk=>⟨.bl b,H,I.tok _,rfl,q⟩
noncomputable def Ha(K:PySem.W.Frag)(cv:Value)(d:D)(r:Bool):Prop:=match d with
 | .bu φ=>∃C,(φ=.ext λa=>kh a C)/\rq K C/\PySem.W.kitOne K (.ref C) cv=some r
 | d=>∃k,BW d=some k/\PySem.W.kitOne K (.type k) cv=some r
theorem cG1{K:PySem.W.Frag}{cv:Value}{d:D}{r:Bool}(s:S F H [d] [v])(e:aa F H)(h:Ha K cv d r):∃t,B5 K H v t/\PySem.W.kitOne K t cv=some r:=by
 cases s with
 | bu h' _=>obtain⟨C,rfl,x,k⟩:=h;exact⟨_,.exc h' x,k⟩
 | int z=>obtain⟨k,hk,h⟩:=h;exact⟨_,.ty (lV (.int .nil) e hk),h⟩
 | bl z=>obtain⟨k,hk,h⟩:=h;exact⟨_,.ty (lV (.bl .nil) e hk),h⟩
 | aj z=>obtain⟨k,hk,h⟩:=h;exact⟨_,.ty (lV (.aj .nil) e hk),h⟩
 | str z=>obtain⟨k,hk,h⟩:=h;exact⟨_,.ty (lV (.str .nil) e hk),h⟩
 | shr h' q z=>obtain⟨k,hk,h⟩:=h;exact⟨_,.ty (lV (.shr h' q .nil) e hk),h⟩
 | own h' q z=>obtain⟨k,hk,h⟩:=h;exact⟨_,.ty (lV (.own h' q .nil) e hk),h⟩
 | fz h' q z=>obtain⟨k,hk,h⟩:=h;exact⟨_,.ty (lV (.fz h' q .nil) e hk),h⟩
 | tup h' q z=>obtain⟨k,hk,h⟩:=h;exact⟨_,.ty (lV (.tup h' q .nil) e hk),h⟩
 | obj _ _ _ _=>obtain⟨k,hk,h⟩:=h;cases hk
noncomputable def nj(K:PySem.W.Frag)(cv:Value)(t:aG):aG:=λδ Q=>t δ λd ae=>∃r,Ha K cv d r/\Q (.bl r) ae
theorem Ts{y:Str}{q:Pos}{c:V}{cv:Value}(hg:Gl X "isinstance")(hm:X.mg "isinstance"=none)(hc:PE X (.Name y q) (tC c))(hcv:G9 c=some cv)(ha:PE X a (lB ta))
  (hs:starEach [a,.Name y q] X.env=(false,eval a X.env)::starEach [.Name y q] X.env) (eK:starEach [.Name y q] X.env=(false,eval (.Name y q) X.env)::starEach [] X.env) (bx:(backTo pos (starEach [.Name y q] X.env)).any (·.1)=false) :
  PE X (.Call (.Name "isinstance" p) [a,.Name y q] [] pos) (lE (nj X.K cv ta)) :=
 cG (Bz bX4 hg hm RY (bX ha (bX hc eF eK) hs) (by decide) (by decide) hs bx) λσ H Q ⟨B,F,δ,ts,Qd,c,q,k⟩=>⟨B,F,δ,ts,_,c,q,λd ah v F1 H1 q1 f1 h1 c1 s1=>by
  obtain⟨r,e,qr⟩:=q1
  obtain⟨t,h2,h3⟩:=cG1 (K:=X.K) s1 c1.ext e
  exact⟨v,_,_,t,r,rfl,hcv,h2,h3,k _ ah _ F1 H1 qr f1 h1 (c1.pushS (.bl .nil) rfl)⟩⟩
theorem Tt{y:Str}{q:Pos}{C:Addr}(hg:Gl X "isinstance")(hm:X.mg "isinstance"=none)(xW:Gl X y)(sR:X.mg y=some (.ref C))(ha:PE X a (lB ta))(hd:(y==("__debug__":Str))=false:=by decide)
  (hs:starEach [a,.Name y q] X.env=(false,eval a X.env)::starEach [.Name y q] X.env:=by rfl) (eK:starEach [.Name y q] X.env=(false,eval (.Name y q) X.env)::starEach [] X.env:=by rfl) (bx:(backTo pos (starEach [.Name y q] X.env)).any (·.1)=false:=by rfl) :
  PE X (.Call (.Name "isinstance" p) [a,.Name y q] [] pos) (lE (nj X.K (.ref C) ta)) :=
 Ts hg hm (co8 (v:=.ref C) xW sR rfl hd) rfl ha hs eK bx
theorem cA6{n:String}{y:Str}{q:Pos}(hg:Gl X "isinstance")(hm:X.mg "isinstance"=none)(xW:Gl X y)(sR:X.mg y=none)(GY:bootBuiltins y=some (.type n))(ha:PE X a (lB ta))
  (hn:y≠"__name__":=by decide) (hd:(y==("__debug__":Str))=false:=by decide)
  (hs:starEach [a,.Name y q] X.env=(false,eval a X.env)::starEach [.Name y q] X.env:=by rfl) (eK:starEach [.Name y q] X.env=(false,eval (.Name y q) X.env)::starEach [] X.env:=by rfl) (bx:(backTo pos (starEach [.Name y q] X.env)).any (·.1)=false:=by rfl) :
  PE X (.Call (.Name "isinstance" p) [a,.Name y q] [] pos) (lE (nj X.K (.type n) ta)) :=
 Ts hg hm (R4 xW sR GY hn hd) rfl ha hs eK bx
end
section
variable{K:PySem.W.Frag}{mg:Str->Option Value}{x:Str}{C:Addr}
theorem Tu(hm:mg x=some (.ref C))(q:PySem.W.excIn K C [.type "ValueError",.type "Exception",.type "BaseException",.type "object"] "ValueError.__new__"=true):B0 K mg x C:=by
 refine⟨λh X G=>⟨"ValueError.__new__","ValueError",_,_,"ValueError",_,_,[.type "ValueError",.type "Exception",.type "BaseException",.type "object"],?_,PySem.F.excBase_ValueError,rfl,PySem.F.excBase_ValueError⟩⟩
 refine⟨hm,?_⟩
 unfold PySem.W.excIn at q
 split at q
 ·rename_i dd cd sl ho
  split at q
  ·rename_i C' bm k0 k1 k2 k3 n k5 hm hs
   simp only[dB,beq_iff_eq,Bool.not_eq_true']at q
   obtain⟨⟨⟨⟨⟨rfl,rfl⟩,Tv⟩,ht⟩,aA⟩,ni⟩:=q
   obtain⟨nm,bs,mro,ns,qn,hd,sn,sub,ab,col,del⟩:=cd
   dsimp only at hm Tv aA ni
   subst hm Tv
   have hsl:sl=#[k0,k1,k2,k3,some (.builtin "ValueError.__new__"),k5]:=by
    obtain⟨l⟩:=sl
    simp only at hs
    rw[hs]
   subst hsl
   exact⟨bm,ns,nm,qn,bs,hd,sn,sub,ab,col,dd,k0,k1,k2,k3,k5,_,X _ _ ho,.of_isNs (PySem.W.isNs_of_in X aA),PySem.W.nsMap_none_of_in X aA ni,PySem.W.tail_of_in X ht⟩
  ·cases q
 ·cases q
open PySem.W in
theorem tG{t:Value}{b:Bool}(iP:(t==.ref C)=false)(h1:(clsIn K C).isSome=true)(h2:typeIn K (.ref C)=some (.type "type"))(h3:subIn K t (.ref C)=some b):kitOne K t (.ref C)=some b:=by
 unfold kitOne kitCls
 rw[iP]
 simp only[n8,if_false]
 rw[h1,h2,if_pos (by rfl),h3]
open PySem.W in
theorem Tw{t:Value}{n:String}{b:Bool}(iP:(t==.type n)=false)(h1:kitMeta n=true)(h3:subIn K t (.type n)=some b):kitOne K t (.type n)=some b:=by
 unfold kitOne kitCls
 rw[iP]
 simp only[n8,if_false]
 rw[if_pos h1,h3]
open PySem.W in
theorem Tx{t:Value}{b:Bool}(h1:(clsIn K C).isSome=true)(h2:typeIn K (.ref C)=some (.type "type"))(h0:subIn K (.ref C) (.type "BaseException")=some true)(h3:subIn K t (.ref C)=some b):exmOne K t (.ref C)=some b:=by
 unfold exmOne kitCls
 rw[h0,if_pos (by rfl)]
 simp only
 rw[h1,h2,if_pos (by rfl),h3]
end
theorem Hb{P:Program}{w:World}{X:Cx}:ji (jk P w) X E0:=by
 rintro _ _ _ _ _ _ _ ⟨_,_,_,_,_,_,_,_,_,_,_,_,_,_,z⟩
 exact z.elim
theorem Hc{P:Program}{w:World}{K:PySem.W.Frag}{mg:Str->Option Value}{base:Heap}{k:Nat}{f:Addr}{fd:FuncData}{ps:List Str}{sp:jN}(h:aK P w K mg base (jk P w) k f fd ps (nh sp)) :
  aK P w K mg base (jk P w) k f fd ps (bh λds Q=>sp ds Q λ_=>False) :=
 h.imp λvs H Q E ⟨F,ds,Qd,e,r,q,k⟩=>⟨F,ds,Qd,_,e,r,q,k,λ_ _ z=>z.elim⟩
end L3
namespace L3
open PySem L2 PySem.Spec PyProof.Rows
theorem yB{CX:dN}{P:Program}{w:World}{K:PySem.W.Frag}{mg:Str->Option Value}{base:Heap}{N:List Str}{q:Str}{sc:Scope}{f:Addr}{aE:Value}{A:Around}{outer:List Env}{s:Shared}{H:Hp}{E:XK}:(g8 CX P w K mg base N q sc f aE A outer s H E).K=K:=rfl
theorem He{K:PySem.W.Frag}{cv:Value}{C:Addr}{r:Bool}(x:rq K C)(h:PySem.W.kitOne K (.ref C) cv=some r):Ha K cv (exc C) r:=⟨C,rfl,x,h⟩
theorem yC(φ:rA):(D.bu φ).pl=true:=rfl
theorem yD(φ:rA):(D.bu φ).sh=.bu φ:=rfl
end L3
namespace L3
open PySem L2 PySem.Spec PyProof.Rows
theorem yE{X:Cx}:X.fw.K=X.K:=rfl
end L3
namespace L3
open PySem L2 PySem.Spec PyProof.Rows
noncomputable def eL(xs ys:List D):List D:=dS (λx y=>D.tup [x,y]) xs ys
noncomputable def dE(xs:List D):List D:=xs.mapIdx λi x=>D.tup [.int i,x]
theorem Tz(xs ys:List D):(eL xs ys).map D.sh=eL (xs.map D.sh) (ys.map D.sh):=by
 unfold eL
 rw[E6,Qs]
 congr 1
theorem cp5{xs ys:List D}(h1:xs.all D.pl=true)(h2:ys.all D.pl=true):(eL xs ys).all D.pl=true:=by
 unfold eL
 rw[cS]at h1 h2 ⊢
 intro d hd
 obtain⟨i,hi,e⟩:=jW hd
 rw[List.getElem_zipWith]at e
 subst e
 rw[ki]
 simp only[di,qN,jx,dB]
 exact⟨h1 _ (eY _),h2 _ (eY _)⟩
theorem cb2(xs:List D):(dE xs).map D.sh=dE (xs.map D.sh):=by
 unfold dE
 apply E5
 intro i
 simp only[bV,oa,Option.map_map]
 cases xs[i]? with
 | none=>rfl
 | some x =>
  show some (D.sh (.tup [.int i,x]))=some (D.tup [.int i,x.sh])
  rw[kj];rfl
theorem cg8{xs:List D}(h1:xs.all D.pl=true):(dE xs).all D.pl=true:=by
 unfold dE
 rw[cS]at h1 ⊢
 intro d hd
 obtain⟨i,hi,e⟩:=jW hd
 rw[List.getElem_mapIdx]at e
 subst e
 rw[ki]
 simp only[di,qN,jx,dB]
 exact⟨rfl,h1 _ (eY _)⟩
theorem pM(xs:List D):(dE xs).length=xs.length:=by simp[dE]
theorem Hf(xs ys:List D):(eL xs ys).length=min xs.length ys.length:=by simp[eL]
section
variable{F H:Hp}{d:D}{v:V}{xs ys:List D}{ws us:List V}{p q:Addr}{K:PySem.W.Frag}
theorem Hg(s:S F H [d] [v])(e2:aa F H)(e:jn d=some xs):∃p ws,v=.ref p/\Rd H p (.lst ws)/\R H H (xs.map D.sh) ws []/\(d.pl=true->xs.all D.pl=true/\Rd F p (.lst ws)/\R F H xs ws []):=by
 cases s with
 | @shr p ws ys _ _ hp r _ =>
  obtain rfl:=cP e
  refine⟨p,ws,rfl,.inl (e2 _ _ hp),?_,λ_=>⟨r.pl,.inl hp,r⟩⟩
  rw[km r.pl]
  exact r.shared e2 (aa.refl _)
 | @own p ws ys _ _ hp r _ =>
  obtain rfl:=cP e
  exact⟨p,ws,rfl,.inl hp,r.frozen e2,λz=>by simp[gb]at z⟩
 | @fz p o ws ys _ _ hp r _ =>
  obtain rfl:=cP e
  refine⟨p,ws,rfl,.inr ⟨o,e2 _ _ hp⟩,?_,λ_=>⟨r.pl,.inr ⟨o,hp⟩,r⟩⟩
  rw[km r.pl]
  exact r.shared e2 (aa.refl _)
 | aj _=>cases e
 | bl _=>cases e
 | int _=>cases e
 | str _=>cases e
 | tup _ _ _=>cases e
 | obj _ _ _ _=>cases e
 | bu _ _=>cases e
theorem Hh(r:R F H xs ws []){i:Nat}(hi:i<xs.length){x:V}(hx:ws[i]?=some x):R F H [xs[i]] [x] []:=by
 obtain⟨v,A1,e2,r1,sub⟩:=r.get (aU hi)
 rw[hx]at e2;cases e2
 have:A1=[]:=ζ.mpr λa ha=>by simpa using sub ha
 subst this
 exact r1
theorem TB(hp:Rd F p (.lst ws))(r:R F H xs ws [])(hq:Rd F q (.lst us))(t:R F H ys us [])(hF:Full F H):JD (Gr K p q) F (eL xs ys) where
 go:=λi H' hs hi=>by
  rw[Hf]at hi
  have l1:=r.length
  have l2:=t.length
  exact⟨ws,us,_,_,.inl (gH hp hs),.inl (gH hq hs),aU (show i<ws.length by omega),aU (show i<us.length by omega)⟩
 jh:=λi H' v H2 hs hi zz=>by
  obtain⟨T,x,y,e1,e2,e3,hx,hy⟩:=zz
  subst e1 e3
  have B6:=hi
  rw[Hf]at B6
  have h1:=Hh (r.full hF hs rfl) (show i<xs.length by omega) (hx ws (.inl (gH hp hs)))
  have h2:=Hh (t.full hF hs rfl) (show i<ys.length by omega) (hy us (.inl (gH hq hs)))
  have sm:=aa.upd (o:=.tup [x,y]) e2
  refine⟨_,aU hi,sm,?_⟩
  have eg:(eL xs ys)[i]=.tup [xs[i]'(by omega),ys[i]'(by omega)]:=by simp[eL]
  rw[eg]
  exact R.tup (A:=[]) (B:=[]) bG ((h1.shared (aa.refl _) sm).cons (h2.shared (aa.refl _) sm)) .nil
 stop:=λi H' hs hi=>by
  rw[Hf]at hi
  have l1:=r.length
  have l2:=t.length
  exact⟨ws,us,.inl (gH hp hs),.inl (gH hq hs),by omega⟩
theorem TC(hp:Rd F p (.lst ws))(r:R F H xs ws [])(hF:Full F H):JD (Gx K p) F (dE xs) where
 go:=λi H' hs hi=>by
  rw[pM]at hi
  have l1:=r.length
  exact⟨ws,_,.inl (gH hp hs),aU (show i<ws.length by omega)⟩
 jh:=λi H' v H2 hs hi zz=>by
  obtain⟨T,x,e1,e2,e3,hx⟩:=zz
  subst e1 e3
  have B6:=hi
  rw[pM]at B6
  have h1:=Hh (r.full hF hs rfl) B6 (hx ws (.inl (gH hp hs)))
  have sm:=aa.upd (o:=.tup [.int i,x]) e2
  refine⟨_,aU hi,sm,?_⟩
  have eg:(dE xs)[i]=.tup [.int i,xs[i]]:=by simp[dE]
  rw[eg]
  exact R.tup (A:=[]) (B:=[]) bG (.int (h1.shared (aa.refl _) sm)) .nil
 stop:=λi H' hs hi=>by
  rw[pM]at hi
  have l1:=r.length
  exact⟨ws,.inl (gH hp hs),by omega⟩
end
section
variable{X:Cx}{a b:Expr}{ta:bY}{p pos oE:Pos}{elts:List Expr}{x1:Nat}
noncomputable def tH(t:bY):iS:=λδ Q=>t δ λds ae=>match ds with
 | [d1,d2]=>∃xs ys,jn d1=some xs/\jn d2=some ys/\Q (d1.pl&&d2.pl) (eL xs ys) ae
 | _=>False
theorem yF(hg:Gl X "zip")(hm:X.mg "zip"=none)(ha:PA X [a,b] (lA ta))(hs:starEach [a,b] X.env=[(false,eval a X.env),(false,eval b X.env)]:=by rfl)(eK:starEach [b] X.env=[(false,eval b X.env)]:=by rfl) :
  PI X (.Tuple elts x1 oE) (.Call (.Name "zip" p) [a,b] [] pos) (lI (tH ta)) :=
 rT (cE0 hg hm ha hs eK) λσ H Q ⟨B,F,δ,ts,Qd,c,q,k⟩=>⟨B,F,δ,ts,_,c,q,λds ah vs F1 H1 hd f1 h1 c1 s=>by
  match ds,hd,s with
  | [d1,d2],⟨xs,ys,i1,i2,hq⟩,s =>
   obtain⟨v1,bS,rfl,s1,s2⟩:=s.cU
   obtain⟨v2,fa5,rfl,s2,s3⟩:=s2.cU
   cases s3
   have e2:=c1.ext
   have sn:=oQ e2
   obtain⟨p1,w1,rfl,r1,t1,u1⟩:=Hg s1 e2 i1
   obtain⟨p2,w2,rfl,r2,t2,u2⟩:=Hg s2 e2 i2
   refine⟨p1,p2,rfl,⟨w1,.inl r1⟩,⟨w2,.inl r2⟩,k _ _ ah _ _ H1 hq (f1.trans sn) h1 c1.snap ?_ λz=>?_⟩
   ·rw[Tz]
    exact TB r1 t1 r2 t2 (Full.refl _)
   ·rw[dB]at z
    obtain⟨a1,a2,a3⟩:=u1 z.1
    obtain⟨b1,b2,b3⟩:=u2 z.2
    exact⟨cp5 a1 b1,TB (gH a2 sn) (a3.shared sn (aa.refl _)) (gH b2 sn) (b3.shared sn (aa.refl _)) rC⟩⟩
noncomputable def tI(t:bY):iS:=λδ Q=>t δ λds ae=>match ds with
 | [d1]=>∃xs,jn d1=some xs/\Q d1.pl (dE xs) ae
 | _=>False
theorem nk(hg:Gl X "enumerate")(hm:X.mg "enumerate"=none)(ha:PA X [a] (lA ta))(hs:starEach [a] X.env=[(false,eval a X.env)]:=by rfl) :
  PI X (.Tuple elts x1 oE) (.Call (.Name "enumerate" p) [a] [] pos) (lI (tI ta)) :=
 rT (cu0 hg hm ha hs) λσ H Q ⟨B,F,δ,ts,Qd,c,q,k⟩=>⟨B,F,δ,ts,_,c,q,λds ah vs F1 H1 hd f1 h1 c1 s=>by
  match ds,hd,s with
  | [d1],⟨xs,i1,hq⟩,s =>
   obtain⟨v1,bS,rfl,s1,s2⟩:=s.cU
   cases s2
   have e2:=c1.ext
   have sn:=oQ e2
   obtain⟨p1,w1,rfl,r1,t1,u1⟩:=Hg s1 e2 i1
   refine⟨p1,rfl,⟨w1,.inl r1⟩,k _ _ ah _ _ H1 hq (f1.trans sn) h1 c1.snap ?_ λz=>?_⟩
   ·rw[cb2]
    exact TC r1 t1 (Full.refl _)
   ·obtain⟨a1,a2,a3⟩:=u1 z
    exact⟨cg8 a1,TC (gH a2 sn) (a3.shared sn (aa.refl _)) rC⟩⟩
end
end L3
namespace L3
open PySem L2 PySem.Spec PyProof.Rows
section
variable{X:Cx}{F H:Hp}{e b:Expr}{pos p p2 p3 pr apos bM G1:Pos}{t ti te:aG}{x y:Str}{i j:Nat}
theorem TF{α:Type}{xs:List α}{k:Nat}{v:α}(h:xs[k]?=some v):eH xs (k:Int)=some v:=by
 unfold eH gE
 have hk:k<xs.length:=(i7.mp h).1
 rw[if_pos (by omega),if_pos (by omega)]
 exact h
end
section
variable{X:Cx}{CX:dN}{k:Nat}{f:Addr}{fd:FuncData}{ps:List Str}{sp:bf}{E:XK}{fn x1 x2 y1 y2:Str}{i1 i2 j1 j2:Nat}{tk:Nat}
 {tp t1 t2 zp fa6 q1 q2 fp fa7 a1 a2 du5 fa8 fa9 cp G1 pr apos bM fb0 pos:Pos}
end
end L3
namespace L3
open PySem L2 PySem.Spec PyProof.Rows
theorem ai.du6{B:Bs}{F H:Hp}{σ:L2.St}{δ:Dl}{ts:List (D × V)}{a b:D}{v:V}(c:ai B F H σ δ ((.tup [a,b],v)::ts)):∃p u w,v=.ref p/\H p=some (.tup [u,w])/\ai B F H σ δ ((a,u)::(b,w)::ts):=by
 obtain⟨A,C,r,s,nd,fr⟩:=c.own
 cases r with
 | @tup p ws xs A1 _ _ B1 hp r1 r2 =>
  obtain⟨u,fo,A2,A3,rfl,rfl,h1,h2⟩:=r1.cU
  obtain⟨w,fb1,A4,A5,rfl,rfl,h3,h4⟩:=h2.cU
  cases h4
  refine⟨p,u,w,rfl,hp,c.ext,c.b1,c.b2,c.b3,A2++(A4++B1),C,h1.cons (h3.cons r2),s,?_,?_⟩
  ·simpa using nd
  ·intro a ha;exact fr a (by simpa using ha)
section
variable{X:Cx}{y1 y2:Str}{i1 i2 tk m:Nat}{t1 t2 tp:Pos}
noncomputable def iq(i1 i2:Nat):gK:=λd δ Q=>match d with
 | .tup [a,b]=>Q ((δ.set i1 (some a)).set i2 (some b))
 | _=>False
theorem iW(hc:X.calm=true)(TH:X.N.Nodup)(m1:X.N[i1]?=some y1)(l1:Loc X.env.scope y1)(m2:X.N[i2]?=some y2)(l2:Loc X.env.scope y2)(hm1:m<=i1:=by decide)(sR:m<=i2:=by decide)
  (f1:X.fn y1=true\/X.env.scope.names.lookup y1=some .local:=by first | exact .inl rfl | exact .inr rfl | assumption) (f2:X.fn y2=true\/X.env.scope.names.lookup y2=some .local:=by first | exact .inl rfl | exact .inr rfl | assumption)
  (hag:(assignEach [.Name y1 t1,.Name y2 t2] X.env).map (·.2)=assign (.Name y1 t1) X.env::(assignEach [.Name y2 t2] X.env).map (·.2):=by rfl) (du8:(assignEach [.Name y2 t2] X.env).map (·.2)=assign (.Name y2 t2) X.env::(assignEach [] X.env).map (·.2):=by rfl)
  (hn:(assignEach [.Name y1 t1,.Name y2 t2] X.env).length=2:=by rfl) (bU:(assignEach [.Name y1 t1,.Name y2 t2] X.env).findIdx? (·.1)=none:=by rfl) :
  PG X (.Tuple [.Name y1 t1,.Name y2 t2] tk tp) (lG m (iq i1 i2)) :=
 Sw (cA5 hc (QP (Bl TH m1 l1 f1) (QP (Bl TH m2 l2 f2) cp1 du8) hag) hn bU) λv σ H Q zz=>by
  obtain⟨B,F,δ,ts,d,Qd,c,q,k⟩:=zz
  obtain⟨a,b,rfl,q⟩:∃a b,d=D.tup [a,b]/\Qd ((δ.set i1 (some a)).set i2 (some b)):=by
   unfold iq at q
   split at q
   ·exact⟨_,_,rfl,q⟩
   ·exact q.elim
  obtain⟨p,u,w,rfl,hp,c2⟩:=c.du6
  refine⟨p,[u,w],rfl,fV.of hp,rfl,u,[w],rfl,w,[],rfl,rfl,k _ _ q (by simp) (λj hj=>?_) ((c2.store i1).store i2)⟩
  rw[nU (by omega),nU (by omega)]
end
open Classical in
theorem gM{α:Type}{sh:Bool}{xs:List D}{ax:List (Str × Nat)}{n m:Nat}{te:aG}{ah:Dl}{Q:D->Dl->Prop}(l:List α)(e g:α->D)(ir:xs.map D.sh=l.map e)(inj:∀a b,e a=e b->a=b)
  (hx:∀a∈l,te ((fc ax n ah).set m (some (e a))) λd _=>d=g a) (dU:(sh&&ax.all (ib ah))=true\/∀a∈l,(g a).fr=true) (hl:l.length<=sizeLine) (hq:Q (.lst true (l.map g)) ah):sg sh xs ax n (gN m) kn te ah Q:=by
 let f:D->D:=λx=>if h:∃a∈l,e a=x then g h.choose else .aj
 have hf:∀a∈l,f (e a)=g a:=λa ha=>by
  have h:∃b∈l,e b=e a:=⟨a,ha,rfl⟩
  show(if h:∃b∈l,e b=e a then g h.choose else .aj)=g a
  rw[dif_pos h]
  exact congrArg g (inj _ _ h.choose_spec.2)
 refine cg5 f (λx h=>?_) (dU.imp id λh x hx=>?_) ?_ ?_
 ·rw[ir]at h
  obtain⟨a,ha,rfl⟩:=cI.mp h
  rw[hf a ha];exact hx a ha
 ·rw[ir]at hx
  obtain⟨a,ha,rfl⟩:=cI.mp hx
  rw[hf a ha];exact h a ha
 ·have:=congrArg EI ir
  simp at this
  omega
 ·rw[ir,dD,show l.map (f ∘ e)=l.map g from og λa ha=>hf a ha]
  exact hq
end L3
namespace L3
open PySem L2 PySem.Spec PyProof.Rows
end L3
namespace L2
open PySem PySem.Spec PyProof.Rows
section
variable{X:Cx}
end
end L2
namespace L3
open PySem L2 PySem.Spec PyProof.Rows
noncomputable abbrev tx(l:List Nat):D:=.str ⟨l.toArray⟩
section
variable{X:Cx}{F H:Hp}{e:Expr}{es:List Expr}{t:aG}{pos p p2 apos bM:Pos}
noncomputable def pO(x:D)(lo hi:Option Int)(Q:D->Prop):Prop:=match x with
 | .lst _ xs=>xs.all D.pl=true/\Q (.lst true (eO xs lo hi))
 | .fz xs=>Q (.lst true (eO xs lo hi))
 | .str z=>z.length<=sizeLine/\Q (tx (eO z.cps.toList lo hi))
 | _=>False
noncomputable def tJ(t:aG)(tl th:sT):aG:=λδ Q=>t δ λx ah=>tl ah λl aN=>th aN λu gJ=>pO x l u λd=>Q d gJ
theorem Hi{lo hi:Option Expr}{tl th:sT}(he:PE X e (lB t))(hl:PO X lo (lP tl))(hu:PO X hi (lP th)):PE X (.Subscript e (.Slice lo hi none p2) pos) (lE (tJ t tl th)) :=
 cG (cf4 (da8.or cI2) he hl hu) λσ H Q ⟨B,F,δ,ts,Qd,c,q,k⟩=>⟨B,F,δ,ts,_,c,q,λx ah v F1 H1 q1 f1 h1 c1 s1=>⟨B,F1,ah,ts,_,c1,q1,λl aN F2 H2 q2 f2 h2 c2=>⟨B,F2,aN,ts,_,c2,q2,λu gJ F3 H3 q3 f3 h3 c3=>by
  have lW:=s1.mono (f2.trans f3) (h2.trans h3)
  unfold pO at q3
  split at q3
  ·obtain⟨p,ws,rfl,h,t⟩:=ky lW c3.ext rfl
   exact .inl ⟨p,ws,rfl,jq h,λr hr=>k _ gJ _ F3 _ q3.2 ((f1.trans f2).trans f3) (((h1.trans h2).trans h3).trans (aa.upd hr)) (c3.mZ hr (t.cut _ _) (S7 q3.1 _ _))⟩
  ·obtain⟨p,ws,rfl,h,t⟩:=ky lW c3.ext rfl
   cases lW with
   | fz h' r _=>exact .inl ⟨_,_,rfl,jq (.inr ⟨_,c3.ext _ _ h'⟩),λr' hr=>k _ gJ _ F3 _ q3 ((f1.trans f2).trans f3) (((h1.trans h2).trans h3).trans (aa.upd hr)) (c3.mZ hr (r.s.cut _ _) (S7 r.pl _ _))⟩
  ·cases lW with
   | str _=>exact .inr ⟨_,rfl,q3.1,k _ gJ _ F3 H3 q3.2 ((f1.trans f2).trans f3) ((h1.trans h2).trans h3) (c3.pushS (.str .nil) rfl)⟩
  ·exact q3.elim⟩⟩⟩
noncomputable def yG:bZ:=λx y Q=>match x,y with
 | .str z,.int n=>(-(2 ^ 63)<=n/\n<2 ^ 62/\z.length*n.toNat<=sizeLine)/\Q (tx (aw n.toNat z.cps.toList).flatten)
 | _,_=>False
noncomputable def pP:jo:=λds Q=>match ds with
 | [.int i]=>i.natAbs.log2<1920/\Q (.str (toString i))
 | _=>False
theorem cO5:ig X (.type "str") pP:=ig.of bC7 λvs H Q zz=>by
 obtain⟨B,F,σ,δ,ts,ds,Qd,c,s,q,k⟩:=zz
 unfold pP at q
 split at q
 ·obtain⟨v,rfl,s1⟩:=kz s
  cases s1
  exact⟨_,rfl,q.1,k _ _ _ q.2 (aa.refl _) (c.pushS (.str .nil) rfl)⟩
 ·exact q.elim
end
end L3
namespace L3
open PySem L2 PySem.Spec PyProof.Rows
noncomputable def aq(l:List Nat):List D:=aC (l.map λ(n:Nat)=>(n:Int))
theorem eP(l:List Nat):(aq l).length=l.length:=by unfold aq;rw[lY,bK]
theorem eo(l:List Nat):aq l=l.map λ(n:Nat)=>D.int (n:Int):=by unfold aq aC;rw[dD];rfl
theorem tK(l:List Nat):(aq l).map D.sh=l.map λ(n:Nat)=>D.int (n:Int):=by unfold aq;rw[jr];exact eo l
theorem nq(a b:Nat)(h:D.int (a:Int)=D.int (b:Int)):a=b:=by injection h with h;omega
theorem me(l:List Nat):(aq l).all D.pl=true:=lZ _
theorem pQ(l:List Nat):(aq l).map D.sh=aq l:=jr _
theorem nr(a b:List Nat):aq a++aq b=aq (a++b):=by unfold aq;rw[pJ,iG]
theorem bI0{α:Type}(xs:List α)(b:Nat):eO xs none (some (b:Int))=xs.take b:=by
 have:=Ta xs 0 b
 unfold eO at this ⊢
 simpa[HT.cL]using this
theorem cc3{α:Type}(xs:List α)(a:Nat):eO xs (some (a:Int)) none=xs.drop a:=by
 unfold eO
 rw[HT.FQ]
 show(xs.drop (min a xs.length)).take (xs.length-min a xs.length)=_
 by_cases h:a<=xs.length
 ·rw[Nat.min_eq_left h,E1 (by rw[Az];exact bB _)]
 ·rw[Nat.min_eq_right (by omega),List.drop_length,Qp (by omega)];simp
end L3
namespace L2
open PySem PySem.Spec PyProof.Rows
section
variable{X:Cx}{tg l o e:Expr}{tl to te:TE}{apos bM:Pos}
end
end L2
namespace L3
open PySem L2 PySem.Spec PyProof.Rows
section
variable{X:Cx}{F H:Hp}{tg l e:Expr}{te t tb:aG}{apos bM pos:Pos}
variable{o:Expr}
theorem Hj:∀{ns:List Int} {ws:List V},S F H (aC ns) ws->ws=ns.map V.int
 | [],_,s=>by cases s;rfl
 | n::ns,_,s=>by
  cases s with
  | int s=>rw[Hj s];rfl
end
end L3
namespace L3
open PySem L2 PySem.Spec PyProof.Rows
end L3
namespace L2
open PySem PySem.Spec PyProof.Rows
noncomputable def Tb(ts:List Addr)(H:Hp):Prop:=∀P∈ts,∃ps,H P=some (.cX ps)
structure tL(ts:List Addr)(H:Hp):Prop where
 any:∀b,H b=none\/(∃o xs,H b=some (.bt o (.lst xs)))\/(b∈ts/\H b=some (.cX #[]))
 tab:∀P∈ts,H P=some (.cX #[])
theorem tL.tb{ts:List Addr}{H:Hp}(h:tL ts H):Tb ts H:=λP hP=>⟨#[],h.tab P hP⟩
noncomputable def Bm(mg:Str->Option Value)(base:Heap):Prop:=∃bm o,mg "__builtins__"=some (.ref bm)/\bm≠builtinsNs/\bm≠mainGlobals/\base.get? bm=some o/\o.cls=.type "module"/\o.dict=some builtinsNs/\o.data=.plain
theorem bU6{P:Program}{w:World}{K:PySem.W.Frag}{mg mb:Str->Option Value}{CX:dN}{k:Nat}{fa a:Addr}{fd:FuncData}{x:Str}{sp:Sp}{bw:Shared}{vs:List Value}{ns:List Int}{ts:List Addr}
  (KX:K.In bw.heap) (B7:bw.heap.Ns mainGlobals mg) (hb:bw.heap.Ns builtinsNs mb) (hbb:∀x:Str,x≠"__name__"->mb x=bootBuiltins x) (dv4:bw.heap.NoLimit) (hg:bw.gens=#[])
  (ht:∀P∈ts,bw.heap.get? P=some (PySem.W.tabObj #[])) (Hk:∀P∈ts,isCodeTable bw.heap P) (hkt:∀P∈ts,K.lookup P=none)
  (ha:bw.heap.get? a=some { cls:=.type "list",data:=.seq vs.toArray }) (hi:IntsAre vs ns) (hl:ns.length<=sizeLine) (hr:bP k callerA)
  (yH:Bm mg bw.heap) (F:∀base:Heap,K.In base->base.Ns mainGlobals mg->Bm mg base->aK P w K mg base CX k fa fd [x] sp) (dv6:∀(s:Shared) (u:Value),BindsTo s fd ⟨[u],[]⟩ [(x,u)])
  (g9:∀H:Hp,tL ts H->bH K H a (ns.map V.int)->sp [.ref a] H (λv _=>v=.bl true) λ_ _ _=>False)
  (Hl:∀H e s',CX [] H bw (λ_ _ _=>False) e s'->False) :
  codeAny (model P w) callerA (.call (.ref fa) ⟨[.ref a],[]⟩) (λr s'=>r=.ok (.ret (.bool true))/\OldK bw.heap s'.heap/\s'.os=bw.os/\AllBare s'.gens) bw:=by
 have rv:=RD hi
 have dv7:=hi.length
 have nat:a ∉ ts:=λz=>by
  have:=ht a z
  rw[ha]at this
  cases this
 have core:∀H:Hp,tL ts H->bH K H a (ns.map V.int)->cA P w H bw.heap->(∀b,H b≠none->b=a\/b∈ts)->(H a≠none->K.lookup a=none) ->
   codeAny (model P w) callerA (.call (.ref fa) ⟨[.ref a],[]⟩) (λr s'=>r=.ok (.ret (.bool true))/\OldK bw.heap s'.heap/\s'.os=bw.os/\AllBare s'.gens) bw:=by
  intro H hO hS aA hA hK
  have Hm:∀{b:Addr} {o:Obj},bw.heap.get? b=some o->H b=none->(j6 bw.heap H).get? b=some o:=λe n=>Ψ e n
  have xi:∀{b:Addr} {o:Obj} {es:Array DictEntry} {ep:Nat},bw.heap.get? b=some o->o.data=.dict es ep->H b=none:=λ{b o es ep} e d=>by
   cases q:H b with
   | none=>rfl
   | some u =>
    rcases hA b (by rw[q];simp)with e' | e'
    ·subst e'
     rw[ha]at e;cases e
     have d':Data.seq vs.toArray _=Data.dict es ep:=d
     cases d'
    ·rw[ht b e']at e;cases e
     have d':Data.fields #[]=Data.dict es ep:=d
     cases d'
  have B8:∀{b:Addr} {m:Str->Option Value},bw.heap.Ns b m->(j6 bw.heap H).Ns b m:=λ{b m} ⟨o,es,ep,e,d,r⟩=>⟨o,es,ep,Hm e (xi e d),d,r⟩
  have TK:K.In (j6 bw.heap H):=λb o e=>Hm (KX b o e) (by
   cases q:H b with
   | none=>rfl
   | some u =>
    rcases hA b (by rw[q];simp)with e' | e'
    ·subst e'
     rw[hK (by rw[q];simp)]at e;cases e
    ·rw[hkt b e']at e;cases e)
  have hBm:Bm mg (j6 bw.heap H):=by
   obtain⟨bm,o,b1,b2,b3,b4,b5,b6,b7⟩:=yH
   refine⟨bm,o,b1,b2,b3,Hm b4 ?_,b5,b6,b7⟩
   cases q:H bm with
   | none=>rfl
   | some u =>
    rcases hA bm (by rw[q];simp)with e' | e'
    ·rw[e',ha]at b4;cases b4
     have d':Data.seq vs.toArray _=Data.plain:=b7
     cases d'
    ·rw[ht bm e']at b4;cases b4
     have d':Data.fields #[]=Data.plain:=b7
     cases d'
  have hM:Mod K mg (j6 bw.heap H):=⟨TK,B8 B7,⟨mb,B8 hb,hbb⟩,let⟨mc,h1,h2⟩:=dv4;⟨mc,B8 h1,h2⟩⟩
  have e0:g7 P w K mg (j6 bw.heap H) callerA [] bw H:=⟨rfl,hM,λb o e=>Ω e,EH (Φ _ _),trivial,λb hb=>absurd (show b∈([]:List Addr) from hb) (by simp),aA,.of_eq hg⟩
  refine codeAny_mono ((F _ TK (B8 B7) hBm).run callerA [] bw H ⟨[.ref a],[]⟩ [.ref a] [.ref a] _ _ hr e0 (dv6 bw (.ref a)) (.cons rfl .nil) (g9 H hO hS)) λr s' h=>?_
  cases r with
  | error e=>exact(Hl H e s' h).elim
  | ok fl =>
   cases fl with
   | next=>exact eB h
   | brk=>exact eB h
   | cont=>exact eB h
   | ret u =>
    obtain⟨v,H',os,bare,un,TL,r',q⟩:=h
    have q':v=.bl true:=q
    subst q'
    obtain rfl:u=EG true:=r'
    have each:∀b o,bw.heap.get? b=some o->asItWas bw.heap s'.heap b o/\∃o',s'.heap.get? b=some o':=λb o e=>by
     cases q:H b with
     | none =>
      have z:=un.keep b o e q (by intro z;exact absurd (show b∈([]:List Addr) from z) (by simp)) (by simp)
      exact⟨.inl z,o,z⟩
     | some u =>
      rcases hO.any b with z | ⟨ob,xs,z⟩ | ⟨iX,z⟩
      ·rw[q]at z;cases z
      ·have z2:=un.fU b ob _ z
       obtain⟨e1,_⟩:=aA b _ z
       obtain⟨e2,_⟩:=TL b _ z2
       rw[e]at e1;cases e1
       exact⟨.inl e2,_,e2⟩
      ·obtain⟨more,z2⟩:=un.fi b _ z
       have e2:=(TL b _ z2).1
       rw[ht b iX]at e;cases e
       exact⟨.inr (.inl ⟨Hk b iX,rfl,#[],more,rfl,e2⟩),_,e2⟩
    exact⟨rfl,⟨λb o e=>(each b o e).1,λb o e=>(each b o e).2⟩,os,bare⟩
 have tok:∀(H:Hp) (b:Addr),b∈ts->dq P w H bw.heap b (.cX #[]):=λH b hb=>⟨ht b hb,trivial,λpos cv q=>by cases q⟩
 cases hk:K.lookup a with
 | some o =>
  have e:=KX a o hk
  rw[ha]at e
  cases e
  refine core (λb=>if b∈ts then some (.cX #[])else none) ⟨λb=>?_,λb hb=>if_pos hb⟩ (.inr ⟨_,vs.toArray,_,hk,rfl,rfl,rfl,by rw[dn,dv7];exact hl,by simpa using rv⟩) (λb u z=>?_) (λb z=>?_) λz=>absurd (if_neg nat) z
  ·by_cases hb:b∈ts
   ·exact .inr (.inr ⟨hb,if_pos hb⟩)
   ·exact .inl (if_neg hb)
  ·by_cases hb:b∈ts
   ·have z':=(if_pos hb).symm.trans z
    cases z'
    exact tok _ b hb
   ·have z':=(if_neg hb).symm.trans z
    cases z'
  ·by_cases hb:b∈ts
   ·exact .inr hb
   ·exact absurd (if_neg hb) z
 | none =>
  refine core (λb=>if b=a then some (.bt { cls:=.type "list",data:=.seq vs.toArray } (.lst (ns.map V.int)))else if b∈ts then some (.cX #[])else none) ⟨λb=>?_,λb hb=>?_⟩ (.inl (.inr ⟨{ cls:=.type "list",data:=.seq vs.toArray },if_pos rfl⟩)) (λb u z=>?_) (λb z=>?_) λ_=>hk
  ·by_cases hb:b=a
   ·exact .inr (.inl ⟨_,_,if_pos hb⟩)
   ·by_cases iX:b∈ts
    ·exact .inr (.inr ⟨iX,(if_neg hb).trans (if_pos iX)⟩)
    ·exact .inl ((if_neg hb).trans (if_neg iX))
  ·have iP:b≠a:=λz=>nat (z ▸ hb)
   exact(if_neg iP).trans (if_pos hb)
  ·by_cases hb:b=a
   ·have z':=(if_pos hb).symm.trans z
    cases z'
    subst hb
    exact⟨ha,by rw[bK];exact hl,vs,_,rv,ha⟩
   ·by_cases iX:b∈ts
    ·have z':=((if_neg hb).trans (if_pos iX)).symm.trans z
     cases z'
     exact tok _ b iX
    ·have z':=((if_neg hb).trans (if_neg iX)).symm.trans z
     cases z'
  ·by_cases hb:b=a
   ·exact .inl hb
   ·by_cases iX:b∈ts
    ·exact .inr iX
    ·exact absurd ((if_neg hb).trans (if_neg iX)) z
theorem dv9{l:PySem.W.OpenLaw}{n k:Nat}{q:Program}{loose:List Str}{XP:(Str->Option Value)->Heap->Prop}{YP:World->Heap->Prop}{d:DefRec}{K:Params->PySem.W.Frag}{CX:World->dN}{sp:World->Sp}{x:Str}{ts:List Addr}
  (hn:l.most=some n) (Bu:n<=sizeLine) (xo:d.params.defaults=[]) (hr:bP k callerA)
  (hY:∀(w:World) (h:Heap),YP w h->(K w.params).In h/\∀P∈ts,h.get? P=some (PySem.W.tabObj #[]))
  (hC:∀(w:World) (h:Heap),(K w.params).In h->∀P∈ts,(K w.params).lookup P=none/\∃c,PySem.W.CodeHd h c P)
  (F:∀(w:World) (mg:Str->Option Value) (fa:Addr) (h:Heap),(K w.params).In h->h.Ns mainGlobals mg->mg d.name=some (.ref fa) ->
   ∃fd:FuncData,(∀(s:Shared) (u:Value),BindsTo s fd ⟨[u],[]⟩ [(x,u)]) /\
    ∀base:Heap,(K w.params).In base->base.Ns mainGlobals mg->Bm mg base->aK l.prog w (K w.params) mg base (CX w) k fa fd [x] (sp w))
  (g9:∀(w:World) (H:Hp) (a:Addr) (ns:List Int),ns.length<=n->tL ts H->bH (K w.params) H a (ns.map V.int)->sp w [.ref a] H (λv _=>v=.bl true) λ_ _ _=>False)
  (Hl:∀(w:World) (H:Hp) (s:Shared) (e:Value) (s':Shared),CX w [] H s (λ_ _ _=>False) e s'->False) :
  PySem.W.WalkO q loose XP YP l.row.toRowW d [] (λf vs=>PySem.call f vs):=by
 refine Att.de2 hn xo λw ck bw mg mb fa o pm cd doc a vs ns G Y ho hd cF xp FY hints hlen hg=>?_
 obtain⟨KX,hT⟩:=hY w _ Y
 obtain⟨fd,hb,hF⟩:=F w mg fa _ KX G.T.g xp
 have Hk:∀P∈ts,isCodeTable bw.heap P:=λP hP=>by
  obtain⟨_,c,C⟩:=hC w _ KX P hP
  exact(C.tab (hT P hP)).isCodeTable
 have yH:Bm mg bw.heap:=by
  obtain⟨bm,ob,b1,b2,b3,b4,b5,b6⟩:=G.T.bmain
  refine⟨bm,ob,b1,b2,λq=>?_,b3,b4,b5,b6⟩
  obtain⟨o,es,ep,e,hd,_⟩:=G.T.g
  rw[q,e]at b3;cases b3;rw[hd]at b6;cases b6
 exact bU6 KX G.T.g G.T.b G.T.builtins G.T.nolimit hg hT Hk (λP hP=>(hC w _ KX P hP).1) FY hints (eA hlen Bu) hr yH hF hb (λH hO hS=>g9 w H a ns hlen hO hS) λH e s'=>Hl w H bw e s'
end L2
namespace L3
open PySem L2 PySem.Spec PyProof.Rows
noncomputable def tM(ts:List Addr)(sp:Sp):Sp:=λvs H Q E=>Tb ts H/\sp vs H Q E
theorem Ho{X:Cx}{pins:List (Addr × Obj)}{σ:L2.St}{H:Hp}{s:Shared}{ts:List Addr}(I:Inv X pins σ H s)(h:Tb ts X.je):Tb ts H:=λP hP=>by
 obtain⟨ps,e⟩:=h P hP
 obtain⟨m,e2⟩:=I.base.fi P ps e
 exact⟨_,e2⟩
noncomputable def B9(ts:List Addr)(K:PySem.W.Frag):Sp:=λvs H Q _=>∃(a:Addr) (ns:List Int),vs=[.ref a]/\tL ts H/\bH K H a (ns.map V.int)/\ns.length<=63/\∀H',Q (.bl true) H'
theorem cc6{ts:List Addr}{K:PySem.W.Frag}(nl:K.all (λp=>G0 p.2)=true){vs:List V}{H:Hp}{Q:VK}{E:XK}(h:B9 ts K vs H Q E):tM ts (bh S8) vs H Q E:=by
 obtain⟨a,ns,rfl,hO,hS,hl,q⟩:=h
 have hz:∃o,H a=some (.bt o (.lst (ns.map V.int))):=by
  rcases hS with (hS | hS) | ⟨o,its,n,hk,hc,_⟩
  ·rcases hO.any a with z | ⟨o,xs,z⟩ | ⟨_,z⟩
   ·rw[hS]at z;cases z
   ·rw[hS]at z;cases z
   ·rw[hS]at z;cases z
  ·exact hS
  ·have hm:=bG0 hk
   have:=cS.mp nl _ hm
   simp[G0,hc]at this
 obtain⟨o,ho⟩:=hz
 refine⟨hO.tb,H,[.fz (aC ns)],λd=>d=.bl true,aa.refl _,.fz ho (jM ns) .nil,⟨ns,rfl,hl,rfl⟩,λd v F' H' A hd hs hf he h3 r nd fr=>?_⟩
 subst hd
 cases r
 exact q H'
end L3
namespace L2
open PySem PySem.Spec PyProof.Rows
noncomputable def rem(H:Hp)(f c:Addr):Hp:=λb=>if b=f\/b=c then none else H b
noncomputable def mf(H H':Hp)(f c:Addr):Hp:=λb=>if b=f\/b=c then H b else H' b
section
variable{P:Program}{w:World}{H H':Hp}{h:Heap}{a b f c:Addr}{o:HO}{of oc:Obj}
theorem TM:rem H f c f=none:=if_pos (.inl rfl)
theorem Ca:rem H f c c=none:=if_pos (.inr rfl)
theorem gk(h1:b≠f)(h2:b≠c):rem H f c b=H b:=if_neg (by simp[h1,h2])
theorem tN(e:H b=none):rem H f c b=none:=by unfold rem;split;rfl;exact e
theorem TN(e:rem H f c b=some o):b≠f/\b≠c/\H b=some o:=by
 unfold rem at e
 split at e
 ·cases e
 ·rename_i n
  exact⟨λz=>n (.inl z),λz=>n (.inr z),e⟩
theorem nt(h1:b≠f)(h2:b≠c):mf H H' f c b=H' b:=if_neg (by simp[h1,h2])
theorem TQ:mf H H' f c f=H f:=if_pos (.inl rfl)
theorem Hq:mf H H' f c c=H c:=if_pos (.inr rfl)
theorem dq.rem{φ:Heap->Prop}(x:dq P w H h a o)(ha:a≠f)(hf:H f=some (.ext φ))(hc:H c=some (.own f)\/H c=none)(Hr:¬ ∀h',φ h'->∃q,h'.CodeRec (.ref f) q):dq P w (rem H f c) h a o:=by
 have own:∀b,H b=some (.own a)->L2.rem H f c b=some (.own a):=λb e=>by
  rw[gk (λz=>by subst z;rw[hf]at e;cases e) (λz=>by subst z;rcases hc with hc | hc<;>(rw[hc]at e;cases e);exact ha rfl)];exact e
 have tup:∀b xs,H b=some (.tup xs)->L2.rem H f c b=some (.tup xs):=λb xs e=>by
  rw[gk (λz=>by subst z;rw[hf]at e;cases e) (λz=>by subst z;rcases hc with hc | hc<;>(rw[hc]at e;cases e))];exact e
 induction o with
 | lst xs=>exact x
 | tup xs=>exact x
 | dK da=>exact x
 | dT da =>
  obtain⟨z,y,xs,r,ob⟩:=x
  exact⟨z,y,xs,Paired.Fm r λp q z=>⟨z.1,tup _ _ z.2.1,z.2.2⟩,ob⟩
 | set S n=>exact x
 | ins C dx fs =>
  obtain⟨d,r⟩:=x
  exact⟨own _ d,r⟩
 | own y=>exact x
 | xd fs=>exact x
 | wQ lo hi=>exact x
 | bt ob u ih=>obtain⟨e,q⟩:=x;exact⟨e,ih q⟩
 | cX ps =>
  obtain⟨e,t,cc⟩:=x
  refine⟨e,t,λpos cv q=>?_⟩
  obtain⟨d,φ,e1,e2,e3⟩:=cc pos cv q
  refine⟨d,φ,e1,?_,e3⟩
  rw[gk (λz=>?_) (λz=>by subst z;rcases hc with hc | hc<;>(rw[hc]at e2;cases e2))]
  ·exact e2
  ·subst z
   rw[hf]at e2;cases e2
   exact Hr e3
 | met f y=>exact x
 | ext φ=>obtain⟨p,r,st⟩:=x;exact⟨p,r,λh1 h2 p1 kk=>st h1 h2 p1 λb o hb q=>kk b o (hb.imp id (own b)) q⟩
theorem TR{φ:Heap->Prop}{fd:FuncData}(p:φ h)(g:∀h',φ h'->h'.get? f=some of)(hd:of.data=.func fd):¬ ∀h',φ h'->∃q,h'.CodeRec (.ref f) q:=λz=>by
 obtain⟨q,k,ok,vs,t,q1,q2,q3,_⟩:=z h p
 cases q1
 rw[g h p]at q2;cases q2
 rw[hd]at q3;cases q3
theorem cA.lam(ok:cA P w H h)(hf:H f=some (.ext (L3.iQ of oc c f))):L3.iQ of oc c f h:=(ok f _ hf).1
theorem cA.rem{fd:FuncData}(ok:cA P w H h)(hf:H f=some (.ext (L3.iQ of oc c f)))(hc:H c=some (.own f))(hd:of.data=.func fd):cA P w (rem H f c) h:=λb o e =>
 let⟨h1,_,h3⟩:=TN e;(ok b o h3).rem h1 hf (.inl hc) (TR (ok.lam hf) (λ_ p=>p.1) hd)
end
theorem g7.rem{P:Program}{w:World}{K:PySem.W.Frag}{mg:Str->Option Value}{base:Heap}{A:Around}{outer:List Env}{s:Shared}{H:Hp}{f c:Addr}{of oc:Obj}{fd:FuncData}(e:g7 P w K mg base A outer s H)
  (hf:H f=some (.ext (L3.iQ of oc c f))) (hc:H c=some (.own f)) (hd:of.data=.func fd):g7 P w K mg base A outer s (rem H f c) :=
 ⟨e.frames,e.mod,λb o q=>⟨(e.bs b o q).1,tN (e.bs b o q).2⟩,e.gX,e.eZ,λb hb=>tN (e.gY b hb),e.aA.rem hf hc hd,e.bare⟩
theorem CE.add{P:Program}{w:World}{K:PySem.W.Frag}{mg:Str->Option Value}{base:Heap}{A:Around}{outer:List Env}{s s':Shared}{H:Hp}{f c:Addr}{of oc:Obj}{Q Q':VK}{u:Value}(e0:g7 P w K mg base A outer s H)
  (hf:H f=some (.ext (L3.iQ of oc c f))) (hc:H c=some (.own f)) (h:CE outer P w (rem H f c) s Q u s') (hQ:∀v H',Q v H'->H' f=none->H' c=none->Q' v (mf H H' f c)):CE outer P w H s Q' u s':=by
 obtain⟨v,H',os,bare,un,aA,r,q⟩:=h
 obtain⟨gf,gc⟩:=e0.aA.lam hf
 have TU:∀{b o},H b=some o->b ∉ de outer:=λ{b o} e z=>by rw[e0.gY b z]at e;cases e
 have nf:H' f=none:=un.free f _ gf TM (by simp)
 have nc:H' c=none:=un.free c _ gc Ca (by simp)
 have kf:=un.keep f _ gf TM (TU hf) (by simp)
 have kc:=un.keep c _ gc Ca (TU hc) (by simp)
 refine⟨v,mf H H' f c,os,bare,⟨λb o e n=>un.keep b o e (tN n),λb o e n=>un.slot b o e (tN n),λb o e n x=>?_,un.there,λb xs e=>?_,λb ob xs e=>?_,λb ps e=>?_⟩,λb o e=>?_,r,hQ v H' q nf nc⟩
 ·rw[nt (λz=>by subst z;rw[hf]at n;cases n) (λz=>by subst z;rw[hc]at n;cases n)]
  exact un.free b o e (tN n) x
 ·have n1:b≠f:=λz=>by subst z;rw[hf]at e;cases e
  have n2:b≠c:=λz=>by subst z;rw[hc]at e;cases e
  rw[nt n1 n2]
  exact un.gB b xs (by rw[gk n1 n2];exact e)
 ·have n1:b≠f:=λz=>by subst z;rw[hf]at e;cases e
  have n2:b≠c:=λz=>by subst z;rw[hc]at e;cases e
  rw[nt n1 n2]
  exact un.fU b ob xs (by rw[gk n1 n2];exact e)
 ·have n1:b≠f:=λz=>by subst z;rw[hf]at e;cases e
  have n2:b≠c:=λz=>by subst z;rw[hc]at e;cases e
  rw[nt n1 n2]
  exact un.fi b ps (by rw[gk n1 n2];exact e)
 ·by_cases z:b=f
  ·subst z
   rw[TQ,hf]at e;cases e
   refine⟨⟨kf,kc⟩,⟨_,kf⟩,λh1 h2 p kk=>⟨kk b _ (.inl rfl) p.1,kk c _ (.inr ?_) p.2⟩⟩
   rw[Hq];exact hc
  ·by_cases z2:b=c
   ·subst z2
    rw[Hq,hc]at e;cases e
    exact⟨_,kc⟩
   ·rw[nt z z2]at e
    have up:∀{b' o'},H' b'=some o'->mf H H' f c b'=some o':=λ{b' o'} q=>by
     rw[nt (λz=>by subst z;rw[nf]at q;cases q) (λz=>by subst z;rw[nc]at q;cases q)];exact q
    exact(aA b o e).gW (λ_ _ _ q=>q) (λ_ q=>up q) (λ_ _ q=>up q) λ_ _ q=>up q
theorem ca1{prog:Program}{w:World}{A:Around}{R:Result->Shared->Prop}{s:Shared}{a:Addr}{args:Args}{o:Obj}{fd:FuncData}{body:Expr}{q:Str}(dw2:A.depth<recursionLimit)
  (ho:s.heap.get? a=some o)
  (wR:o.data=.func fd) (hco:fd.scope.isCoroutine=false) (dw4:fd.scope.isGenerator=false) (gD:fd.body=.expr body) (cF:s.heap.CodeRec fd.code q)
  (h:wpAny (model prog w) A.in1 (bindArgs fd args) (λbinds bw =>
   wpAny (model prog w) A.in1 (newFunctionEnv fd.scope fd.globals fd.closure binds (q++".<locals>.") (some a) fd.code none fd.builtins)
    (λenv iJ=>iJ.heap.NoLimit/\codeAny (model prog w) A (.expr body env) R iJ) (λe s'=>R (.error e) s') bw) (λe s'=>R (.error e) s') s) :
  codeAny (model prog w) A (.call (.ref a) args) R s:=by
 refine codeAny_of_tree ?_
 show wpAny _ A.in1 (callAny (.ref a) args) _ _ s
 simp only[callAny]
 refine wpAny_bind (wpAny_load ho ?_)
 obtain⟨c,oc,vs,tq,hc,gZ,Hs,hq⟩:=cF
 simp only[wR,callFunction,hco,dw4,gD,hc]
 rw[hc]at h
 refine wpAny_bind (m:=field (.ref c) 1) (wpAny_field gZ Hs hq (wpAny_bind (wpAny_pure ?_)))
 exact wpAny_bind (wpAny_mono h (λbinds bw Cb=>wpAny_bind (wpAny_mono Cb (λenv iJ TV=>wpAny_bind (wpAny_enterFrame TV.1 dw2
  (wpAny_pure (And.intro rfl TV.2)))) λ_ _ h'=>h')) λ_ _ h'=>h')
structure TX(p1 p2 x:Str)(sc:Scope):Prop where
 kind:sc.kind=.function
 co:sc.isCoroutine=false
 gen:sc.isGenerator=false
 nd:[p1,p2,x].Nodup
 l1:sc.names.lookup p1=some .local
 l2:sc.names.lookup p2=some .local
 TY:∀y∈sc.names,y.2≠.cell
 only:∀y∈sc.names,y.2=.free->y.1=x
 lx:sc.names.lookup x=some .free
noncomputable def pS(CX:dN)(P:Program)(w:World)(K:PySem.W.Frag)(mg:Str->Option Value)(base:Heap)(N:List Str)(qual:Str)(scope:Scope)(f:Addr)(cd:Value)(cl:List (Str × Addr))(A:Around)(outer:List Env)(s:Shared)(H:Hp)(E:XK):Cx where
 prog:=P
 w:=w
 K:=K
 mg:=mg
 base:=base
 A:=A.deeper (PySem.W.envX qual scope s.heap.objs.size f cd cl)
 N:=N
 ck:=s
 je:=H
 env:=PySem.W.envX qual scope s.heap.objs.size f cd cl
 outer:=outer
 stack:=PySem.W.envX qual scope s.heap.objs.size f cd cl::outer
 ex:=[]
 calm:=true
 fn:=λ_=>false
 pn:=[]
 xe:=λe s'=>wpAny (model P w) (A.deeper (PySem.W.envX qual scope s.heap.objs.size f cd cl)) (leaving (PySem.W.envX qual scope s.heap.objs.size f cd cl) e) (λ_ oG=>CX outer H s E e oG) (λe' oG=>CX outer H s E e' oG) s'
theorem cr6{CX:dN}{P:Program}{w:World}{K:PySem.W.Frag}{mg:Str->Option Value}{base:Heap}{p1 p2 x qn q:Str}{params:Arguments}{body:Expr}{scope:Scope}{pm iu:Value}{f c c':Addr}{k:Nat}{A:Around}{outer:List Env}{s:Shared}{H:Hp}{E:XK}
  {u1 u2 uc:Value} {v1 v2 vc:V} {Q:VK} {t:TE} {args:Args} (S:TX p1 p2 x scope) (e0:g7 P w K mg base A outer s H) (hr:bP (k+1) A)
  (hf:s.heap.get? f=some (PySem.W.kla_obj "<lambda>" qn params body scope [(x,c)] pm c' iu)) (hc:s.heap.IsCell c (some uc)) (rc:RelV vc uc) (hH:H c=none) (cF:s.heap.CodeRec (.ref c') q)
  (hb:bindArgs (PySem.W.kla_fn "<lambda>" qn params body scope [(x,c)] pm (.ref c') iu) args=pure [(p1,u1),(p2,u2)]) (r1:RelV v1 u1) (r2:RelV v2 u2)
  (ht:PE (pS CX P w K mg base [p1,p2,x] q scope f (.ref c') [(x,c)] A outer s H E) body t) (h:t [some v1,some v2,some vc] H Q) :
  codeAny (model P w) A (.call (.ref f) args) (CR CX outer P w H s Q E) s:=by
 have lim:s.heap.NoLimit:=e0.mod.nolimit.keeps λb o e=>(e0.bs b o e).1
 refine ca1 hr.depth hf rfl S.co S.gen rfl cF ?_
 rw[hb]
 have dw6:∀y∈[(p1,u1),(p2,u2)],scope.names.lookup y.1=some .local:=λy hy=>by
  simp at hy
  rcases hy with rfl | rfl
  ·exact S.l1
  ·exact S.l2
 refine wpAny_pure (wpAny_newFunctionEnv S.TY dw6 (λCb B7 TZ=>⟨lim.fresh _ TZ,?_⟩) S.kind)
 show codeAny _ _ (.expr body (PySem.W.envX q scope s.heap.objs.size f (.ref c') [(x,c)])) _ _
 have hk:∀b o,s.heap.get? b=some o->Cb.get? b=some o:=λb o e=>TZ.extBut b o (dQ (bF e)) (eM _ e)
 have cm:p1≠p2/\p1≠x/\p2≠x:=by have:=S.nd;simp at this;exact⟨this.1.1,this.1.2,this.2⟩
 have look:∀y d,([(x,c)]:List (Str × Addr)).lookup y=some d->y=x/\d=c:=λy d e=>by
  rw[fg]at e
  split at e
  ·rename_i z;exact⟨beq_iff_eq.mp z,(cP e).symm⟩
  ·cases e
 have I:Inv (pS CX P w K mg base [p1,p2,x] q scope f (.ref c') [(x,c)] A outer s H E) [] [some v1,some v2,some vc] H { s with heap:=Cb,toks:=s.toks+[(p1,u1),(p2,u2)].length }:=by
  refine⟨⟨e0.mod,S.kind,rfl,rfl,bB _,λy z d h1 h2=>?_,λy hy=>?_,λy d z _=>absurd z (by simp[pS]),λ_=>hr.hd,Around.frames_deeper e0.frames,.inr ⟨rfl,rfl⟩,λb z=>absurd z (by simp[pS]),e0.bs,e0.gX,λb _ _=>by simp[pS],λb z=>absurd z (by simp[pS]),e0.eZ,e0.gY⟩,
   rfl,e0.bare,Un.kept hk,⟨_,B7,λi y v h1 h2 h3=>?_⟩,λy d h=>?_,e0.aA.fresh (bB _),λy d h=>?_,λp hp=>absurd (show p∈([]:List (Addr × Obj)) from hp) (by simp),e0.aA.kept hk,rfl⟩
  ·exact(look y d h1).1.trans (look z d h2).1.symm
  ·have hy:scope.names.lookup y=some .cell\/scope.names.lookup y=some .free:=hy
   rcases hy with hy | hy
   ·exact absurd rfl (S.TY _ (PySem.mem_of_lookup hy))
   ·obtain rfl:y=x:=S.only _ (PySem.mem_of_lookup hy) rfl
    exact⟨c,by show([(y,c)]:List (Str × Addr)).lookup y=_;rw[fg,beq_self_eq_true]⟩
  ·match i,h1,h2 with
   | 0,h1,h2 =>
    cases h1;cases h2
    exact⟨u1,r1,.inl ⟨S.l1,by
     show([(p1,u1),(p2,u2)]:List (Str × Value)).reverse.lookup p1=_
     simp[fg,beq_eq_false_iff_ne.mpr cm.1]⟩⟩
   | 1,h1,h2 =>
    cases h1;cases h2
    exact⟨u2,r2,.inl ⟨S.l2,by
     show([(p1,u1),(p2,u2)]:List (Str × Value)).reverse.lookup p2=_
     simp[fg]⟩⟩
   | 2,h1,h2 =>
    cases h1;cases h2
    exact⟨uc,rc,.inr ⟨.inr S.lx,c,by show([(x,c)]:List (Str × Addr)).lookup x=_;rw[fg,beq_self_eq_true],hc.keeps hk⟩⟩
   | n+3,h1,h2=>cases h2
  ·obtain⟨rfl,rfl⟩:=look y d h
   exact⟨_,hc.keeps hk⟩
  ·obtain⟨rfl,rfl⟩:=look y d h
   exact hH
 refine PySem.W.kla_codeExpr (wpAny_mono (ht [] _ _ H _ I h) (λu s' hs=>?_) λe s' hs=>hs)
 obtain⟨v,H',J,rv,q⟩:=hs
 exact⟨v,H',J.os,J.bare,J.base,J.aA,rv,q⟩
end L2
namespace L3
open PySem L2 PySem.Spec PyProof.Rows
theorem aa.mf{H H':Hp}{f c:Addr}{o1 o2:HO}(h:aa (rem H f c) H')(h1:H f=some o1)(n1:hW o1=true)(h2:H c=some o2)(n2:hW o2=true):aa H (mf H H' f c) where
 get b o e n:=by
  by_cases z:b=f
  ·rw[z,TQ,<- z];exact e
  ·by_cases z2:b=c
   ·rw[z2,Hq,<- z2];exact e
   ·rw[nt z z2];exact h.get b o (by rw[gk z z2];exact e) n
 tb b ps e:=by
  have z:b≠f:=λz=>by subst z;rw[h1]at e;cases e;cases n1
  have z2:b≠c:=λz=>by subst z;rw[h2]at e;cases e;cases n2
  rw[nt z z2]
  exact h.tb b ps (by rw[gk z z2];exact e)
noncomputable abbrev tO:=Int->Int->(Int->Prop)->Prop
structure yI(P:Program)(w:World)(K:PySem.W.Frag)(mg:Str->Option Value)(base:Heap)(n:Nat)(of oc:Obj)(c k:Addr)(sp:tO):Prop where
 fn:∃o1 od fd sl,of=⟨o1,od,.func fd,sl⟩
 run:∀(A:Around) (outer:List Env) (s:Shared) (H:Hp) (f:Addr) (t u:Tok) (i j:Int) (Qd:Int->Prop),bP n A->g7 P w K mg base A outer s H->s.heap.get? f=some of->s.heap.get? c=some oc->H c=none->(∃q,s.heap.CodeRec (.ref k) q)->sp i j Qd ->
  codeAny (model P w) A (.call (.ref f) ⟨[.int i t,.int j u],[]⟩) (CR aR outer P w H s (λv H'=>∃r,v=.int r/\Qd r/\aa H H') (λ_ _ _=>False)) s
noncomputable def tP(L:Obj->Obj->Addr->Addr->tO->Prop)(i:Nat)(ta:bY):aG:=λδ Q=>∃of oc c k sp,δ[i]?=some (some (.bu (.lam of oc c k)))/\L of oc c k sp/\ta δ λds ae=>∃a b,ds=[.int a,.int b]/\sp a b λr=>Q (.int r) ae
theorem T1{X:Cx}{n i:Nat}{x:Str}{p pos:Pos}{e1 e2:Expr}{ta:bY}(hN:X.N[i]?=some x)(hv:j8 X.env.scope x)(hr:bP n X.A)(ha:PA X [e1,e2] (lA ta))
  (hd:(x==("__debug__":Str))=false:=by decide) (cF:(x==("__classdict__":Str))=false:=by decide) (he:starEach [e1,e2] X.env=(false,eval e1 X.env)::starEach [e2] X.env:=by rfl) (bx:(backTo pos (starEach [e2] X.env)).any (·.1)=false:=by rfl) :
  PE X (.Call (.Name x p) [e1,e2] [] pos) (lE (tP (yI X.prog X.w X.K X.mg X.base n) i ta)):=by
 intro pins s σ H Q I zz
 obtain⟨B,F,δ,ts,Qd,c,⟨of,oc,cc,k,sp,ed,L,q⟩,kk⟩:=zz
 obtain⟨v,ev,sv⟩:=c.look ed
 obtain⟨f,rfl,lam⟩:∃f,v=.ref f/\jm H f of oc cc k:=by
  cases sv with
  | bu h _=>exact⟨_,rfl,h⟩
 refine wpAny_Call_Name_kw (aL (oo hN hv hd cF pins s σ H (λv' H'=>v'=.ref f/\H'=H) I ⟨_,ev,rfl,rfl⟩) λu s1 zz=>?_)
 obtain⟨v',H',I1,r1,e1,e2⟩:=zz
 subst e1 e2
 obtain rfl:u=.ref f:=r1
 have fnAt:∀{H1:Hp} {s2:Shared},Inv X pins σ H1 s2->jm H1 f of oc cc k->PySem.W.FnAt f s2.heap:=λ{H1 s2} J l=>by
  obtain⟨o1,od,fd,sl,e⟩:=L.fn
  exact⟨o1,od,fd,sl,by rw[<-e];exact(J.aA.lam l.fn).1⟩
 refine PySem.W.callWith_F (fnAt I1 lam) (aL (ha pos pins s1 σ H' (λvs H2=>∃a b ae F',vs=[.int a,.int b]/\(sp a b λr=>Qd (.int r) ae)/\aa F F'/\aa H' H2/\ai B F' H2 σ ae ts) I1
  ⟨B,F,δ,ts,_,c,q,λds ae vs F' H2 ⟨a,b,eds,q2⟩ f1 h1 c1 s1=>?_⟩) λus s2 ⟨vs,H2,I2,r2,a,b,ae,F',evs,q2,f1,h1,c1⟩=>⟨fnAt I2 ((show oM H' f (.lam of oc cc k) from lam).mono λa o e _ t=>h1.get a o e t),?_⟩) he bx
 ·subst eds
  refine⟨a,b,ae,F',?_,q2,f1,h1,c1⟩
  cases s1 with
  | int s1=>cases s1 with
   | int s1=>cases s1;rfl
 ·subst evs
  have nu:jm H2 f of oc cc k:=(show oM H' f (.lam of oc cc k) from lam).mono λa o e _ t=>h1.get a o e t
  obtain⟨o1,od,fd,sl,eof⟩:=L.fn
  have dw9:of.data=.func fd:=by rw[eof]
  obtain⟨gf,gc⟩:=I2.aA.lam nu.fn
  obtain⟨ψ,eψ,yJ⟩:=nu.GA
  obtain⟨u1,u2,t1,t2,rfl⟩:∃(u1 u2:Unit) (t1 t2:Tok),us=[.int a t1,.int b t2]:=by
   cases r2 with
   | cons ra r2=>cases r2 with
    | cons rb r2 =>
     cases r2
     obtain⟨t1,rfl⟩:=ra
     obtain⟨t2,rfl⟩:=rb
     exact⟨(),(),t1,t2,rfl⟩
  refine wpAny_call (codeAny_mono (L.run X.A X.stack s2 (rem H2 f cc) f t1 t2 a b _ hr (I2.q0.rem nu.fn nu.cell dw9) gf gc Ca (yJ _ (I2.aA k _ eψ).1) q2) λr s' hq=>?_)
  cases r with
  | error e=>exact hq.elim
  | ok fl =>
   cases fl with
   | ret u =>
    refine I2.after (CE.add I2.q0 nu.fn nu.cell hq (Q':=Q) ?_)
    rintro v H3 ⟨r,rfl,hqd,hs⟩ nf nc
    have sm:=hs.mf nu.fn rfl nu.cell rfl
    exact kk _ ae _ F' _ hqd f1 (h1.trans sm) ((c1.grow sm).pushS (.int .nil) rfl)
   | next=>exact eB hq
   | brk=>exact eB hq
   | cont=>exact eB hq
end L3
namespace L2
open PySem PySem.Spec PyProof.Rows
theorem bD1{p:Pos}{c:Value}(l:List Value)(h:TriplesOk l):TriplesOk (l++[rawInt p.line,rawInt p.col,c]):=by
 fun_induction TriplesOk l with
 | case1=>simp[TriplesOk,rawInt]
 | case2 a b d e f rest ih=>exact ih h
 | case3=>exact h.elim
theorem bO0{p q:Pos}{c cv:Value}(l:List Value)(h:TriplesOk l)(e:codeAmong q (l++[rawInt p.line,rawInt p.col,c])=some cv):codeAmong q l=some cv\/cv=c:=by
 fun_induction TriplesOk l with
 | case1 =>
  simp only[nY,rawInt,codeAmong]at e
  split at e
  ·exact .inr (cP e).symm
  ·cases e
 | case2 a b d e' f rest ih =>
  simp only[wB,codeAmong]at e ⊢
  split at e
  ·rename_i z;rw[if_pos z];exact .inl e
  ·rename_i z;rw[if_neg z];exact ih h e
 | case3=>exact h.elim
noncomputable def mh(f:Addr)(o:Obj):Heap->Prop:=λh=>h.get? f=some o
noncomputable def cR3(P c:Addr)(x:Str)(params:Arguments)(body:Expr)(scope:Scope):TE:=λ_ H Q=>(∃ps,H P=some (.cX ps)) /\
 ∀f k qn pm iu H',H f=none->H' f=some (.ext (mh f (PySem.W.kla_obj "<lambda>" qn params body scope [(x,c)] pm k iu)))->L3.Gz H' k->k≠f->L3.aa H H'->(∀a ws,H' a=some (.lst ws)->H a=some (.lst ws))->Q (.ref f) H'
theorem T3{X:Cx}{P c cc:Addr}{x:Str}{params:Arguments}{body:Expr}{scope:Scope}{pos:Pos}(eV:closureFor scope X.env=pure [(x,c)])(Cc:X.env.code=.ref cc)(hK:PySem.W.codeHdIn X.K cc P=true)(yH:Bm X.mg X.base)
  (dx5:defaultsOf params X.env=([],[]):=by rfl):PE X (.Lambda params body scope pos) (cR3 P c x params body scope):=by
 intro pins s σ H Q I zz
 obtain⟨⟨ps,hP⟩,q⟩:=zz
 obtain⟨bm,ob,b1,b2,b3,b4,b5,b6,b7⟩:=yH
 have C:=PySem.W.codeHd_of_K I.cw hK
 obtain⟨oP,Cd,codes⟩:=I.aA P _ hP
 have hg:=I.mod.glob.keeps I.bk
 have T4:∀{b o},X.base.get? b=some o->b≠P:=λ{b o} e z=>by
  have:=(I.bs b o e).2
  rw[z,hP]at this;cases this
 have hgP:mainGlobals≠P:=by
  obtain⟨o,es,ep,e,_⟩:=I.mod.glob
  exact T4 e
 have T5:s.heap.BuiltinsAt X.mg P:=⟨bm,ob,b1,b2,b3,T4 b4,I.bk _ _ b4,b5,b6,b7⟩
 refine PySem.W.kla_eval dx5 ?_
 have fresh:∀{b:Addr},s.heap.objs.size<=b->H b=none:=λ{b} h=>I.aA.fresh h
 cases Ht:codeAmong pos ps.toList with
 | none =>
  refine PySem.W.kla_makeFunction (mg:=X.mg) eV I.ok.glob hg Cc C oP Cd Ht hgP T5 λk iu h' tk hx yK fB dx7 T6=>?_
  have Hu:P<s.heap.objs.size:=bF oP
  have hPk:k≠P:=λz=>by rw[z]at yK;exact absurd Hu (wC.mpr yK)
  have pU:s.heap.objs.size<=h'.objs.size:=eA yK (qw fB)
  have hPf:h'.objs.size≠P:=λz=>by rw[<-z]at Hu;exact absurd Hu (wC.mpr pU)
  have T7:k≠h'.objs.size:=dQ fB
  generalize T8:PySem.W.kla_obj "<lambda>" (X.env.qual++"<lambda>") params body scope [(x,c)] ((X.mg "__name__").getD .none) k iu=obj
  have dU:obj.isFreed=false:=by rw[<-T8];rfl
  have yL:∀b,b≠P->b≠k->b≠h'.objs.size->upd (upd (upd H P (.cX (ps++#[rawInt pos.line,rawInt pos.col,.ref k]))) k (.ext λh=>∃q,h.CodeRec (.ref k) q)) h'.objs.size (.ext (mh h'.objs.size obj)) b=H b:=λb n1 n2 n3=>by
   rw[aQ n3,aQ n2,aQ n1]
  have Ce:upd (upd (upd H P (.cX (ps++#[rawInt pos.line,rawInt pos.col,.ref k]))) k (.ext λh=>∃q,h.CodeRec (.ref k) q)) h'.objs.size (.ext (mh h'.objs.size obj)) h'.objs.size=some (.ext (mh h'.objs.size obj)):=bG
  have atK:upd (upd (upd H P (.cX (ps++#[rawInt pos.line,rawInt pos.col,.ref k]))) k (.ext λh=>∃q,h.CodeRec (.ref k) q)) h'.objs.size (.ext (mh h'.objs.size obj)) k=some (.ext λh=>∃q,h.CodeRec (.ref k) q):=by rw[aQ T7,bG]
  have Cf:upd (upd (upd H P (.cX (ps++#[rawInt pos.line,rawInt pos.col,.ref k]))) k (.ext λh=>∃q,h.CodeRec (.ref k) q)) h'.objs.size (.ext (mh h'.objs.size obj)) P=some (.cX (ps++#[rawInt pos.line,rawInt pos.col,.ref k])):=by rw[aQ hPf.symm,aQ hPk.symm,bG]
  generalize hHn:upd (upd (upd H P (.cX (ps++#[rawInt pos.line,rawInt pos.col,.ref k]))) k (.ext λh=>∃q,h.CodeRec (.ref k) q)) h'.objs.size (.ext (mh h'.objs.size obj))=Hn at yL Ce atK Cf
  have old:∀{b o},H b=some o->b≠P->Hn b=some o:=λ{b o} e n=>by
   have hb:b<s.heap.objs.size:=I.aA.lt e
   rw[yL b n (λz=>absurd hb (wC.mpr (z ▸ yK))) (λz=>absurd hb (wC.mpr (z ▸ pU)))];exact e
  have kept:∀b o,b≠P->s.heap.get? b=some o->(h'.push obj).get? b=some o:=λb o n e=>eM _ (hx b o n e)
  have un:Un X.fs [] H Hn s.heap (h'.push obj):=by
   refine⟨λb o e n _ _=>kept b o (λz=>by rw[z,hP]at n;cases n) e,λb o e n _ _=>⟨o.slots,kept b o (λz=>by rw[z,hP]at n;cases n) e⟩,λb o e n _=>?_,λb o e _=>?_,λb xs e=>old e (λz=>by rw[z,hP]at e;cases e),λb ob xs e=>old e (λz=>by rw[z,hP]at e;cases e),λb T9 e=>?_⟩
   ·have hb:=bF e
    rw[yL b (λz=>by rw[z,hP]at n;cases n) (λz=>absurd hb (wC.mpr (z ▸ yK))) (λz=>absurd hb (wC.mpr (z ▸ pU)))];exact n
   ·by_cases z:b=P
    ·rw[z];exact⟨_,eM _ T6⟩
    ·exact⟨o,kept b o z e⟩
   ·by_cases z:b=P
    ·subst z
     rw[hP]at e;cases e
     exact⟨_,Cf⟩
    ·exact⟨#[],by rw[old e z];simp⟩
  have aA:cA X.prog X.w Hn (h'.push obj):=λb o e=>by
   by_cases z1:b=h'.objs.size
   ·subst z1
    rw[Ce]at e;cases e
    exact⟨fO _ dU,⟨_,fO _ dU⟩,λh1 h2 p kk=>kk _ _ (.inl rfl) p⟩
   ·by_cases z2:b=k
    ·subst z2
     rw[atK]at e;cases e
     have hr:=dx7.push obj
     refine⟨⟨_,hr⟩,?_,λh1 h2 ⟨q,c1,o1,vs,t,e1,e2,r⟩ kk=>?_⟩
     ·obtain⟨c1,o1,vs,t,e1,e2,_⟩:=hr
      cases e1
      exact⟨o1,e2⟩
     ·cases e1
      exact⟨q,_,o1,vs,t,rfl,kk _ _ (.inl rfl) e2,r⟩
    ·by_cases z3:b=P
     ·subst z3
      rw[Cf]at e;cases e
      refine⟨eM _ T6,by rw[ν];exact bD1 _ Cd,λp' cv e'=>?_⟩
      rw[ν]at e'
      rcases bO0 _ Cd e' with e' | e'
      ·obtain⟨d,φ,e1,e2,e3⟩:=codes p' cv e'
       exact⟨d,φ,e1,old e2 (λz=>by rw[z,hP]at e2;cases e2),e3⟩
      ·exact⟨k,_,e',atK,λh' p=>p⟩
     ·rw[yL b z3 z2 z1]at e
      have nP:∀{b' o'},H b'=some o'->(∀ps,o'≠.cX ps)->b'≠P:=λ{b' o'} e n z=>by rw[z,hP]at e;cases e;exact n _ rfl
      refine(I.aA b o e).gW (λb' u tQ e'=>kept b' u ?_ e') (λb' e'=>old e' (nP e' (λps z=>by cases z))) (λb' xs e'=>old e' (nP e' (λps z=>by cases z))) λb' φ e'=>old e' (nP e' (λps z=>by cases z))
      rcases tQ with rfl | tQ
      ·exact z3
      ·exact nP tQ (λps z=>by cases z)
  refine⟨.ref h'.objs.size,Hn,I.un un aA,rfl,q _ k _ _ _ _ (fresh pU) (by rw[T8];exact Ce) ⟨_,atK,λh p=>p⟩ T7 ⟨λb o e n=>old e (λz=>by rw[z,hP]at e;cases e;cases n),λb T9 e=>?_⟩ λa ws e=>?_⟩
  ·exact un.fi b T9 e
  ·by_cases z1:a=h'.objs.size
   ·subst z1;rw[Ce]at e;cases e
   ·by_cases z2:a=k
    ·subst z2;rw[atK]at e;cases e
    ·by_cases z3:a=P
     ·subst z3;rw[Cf]at e;cases e
     ·rw[yL a z3 z2 z1]at e;exact e
 | some cv =>
  obtain⟨k,φ,rfl,hk,Hr⟩:=codes pos cv Ht
  refine PySem.W.kla_makeFunctionHit (mg:=X.mg) eV I.ok.glob hg Cc C oP Cd Ht T5 λiu h' tk hx pU=>?_
  have hf:=fresh pU
  refine⟨.ref h'.objs.size,upd H h'.objs.size (.ext (mh h'.objs.size (PySem.W.kla_obj "<lambda>" (X.env.qual++"<lambda>") params body scope [(x,c)] ((X.mg "__name__").getD .none) k iu))),I.laid (λb u e=>eM _ (hx b u e)) pU ?_,rfl,q _ k (X.env.qual++"<lambda>") ((X.mg "__name__").getD .none) iu _ hf bG ⟨φ,?_,Hr⟩ (dj hk hf) (L3.aa.of λb o e=>?_) λa ws e=>?_⟩
  ·exact⟨fO _ rfl,⟨_,fO _ rfl⟩,λh1 h2 p kk=>kk _ _ (.inl rfl) p⟩
  ·rw[aQ (dj hk hf)];exact hk
  ·rw[aQ (dj e hf)];exact e
  ·by_cases z:a=h'.objs.size
   ·subst z;rw[bG]at e;cases e
   ·rw[aQ z]at e;exact e
end L2
namespace L2
open PySem PySem.Spec PyProof.Rows
structure tR(K:PySem.W.Frag)(C:Addr)(m:Str)(f:Addr):Prop where
 ga:PySem.W.specialIn K (.ref C) "__getattribute__"=some (some (.builtin "type.__getattribute__"))
 rd:PySem.W.readsIn K C (.type "type")=true
 at_:PySem.W.findCls K (.ref C) (.type "type") m=some (.val (.ref f))
 kp:PySem.W.keepIn K (.ref f)=true
section
variable{X:Cx}{CX:dN}{k:Nat}{f C:Addr}{fd:FuncData}{ps:List Str}{sp:Sp}{E:XK}{x m:Str}{p pos apos:Pos}{e o:Expr}{es:List Expr}{ta:TE}{t:TA}
theorem ce1{pins:List (Addr × Obj)}{σ:St}{H:Hp}{s:Shared}{pl:Sem Bool}{A:Around}{E':Value->Shared->Prop}{Q:Value × List Value->Shared->Prop}(I:Inv X pins σ H s)(M:tR X.K C m f)(h:∀s',Inv X pins σ H s'->Q (.ref f,[]) s') :
  wpAny (model X.prog X.w) A (getMethod (.ref C) m pl) Q E' s :=
 PySem.W.method_cls I.cw M.ga (PySem.W.cls_value (mc:=.type "type") I.cw M.rd M.at_ rfl (h _ (I.tok _)))
theorem Ua{pins:List (Addr × Obj)}{σ:St}{H:Hp}{s:Shared}{pl:Sem Bool}{Q:Value->Shared->Prop}{QA:List V->Hp->Prop}(I:Inv X pins σ H s)(M:tR X.K C m f)(hg:Gl X x)(hm:X.mg x=some (.ref C))(ha:PA X (e::es) t)(h:t σ H QA)
  (hq:∀us s1 vs H1,Inv X pins σ H1 s1->Vals vs us->QA vs H1->wpAny (model X.prog X.w) X.A (call (.ref f) us) Q X.xe s1)
  (cT:(x==("__debug__":Str))=false:=by decide) (bU:starEach (e::es) X.env=(false,eval e X.env)::starEach es X.env:=by rfl) (bx:(backTo pos (starEach es X.env)).any (·.1)=false:=by rfl)
  (ht:eval (.Call (.Attribute (.Name x p) m apos) (e::es) [] pos) X.env=(do
   let ov<-eval (.Name x p) X.env
   standAt apos.atName
   let (f,first)<-holding [ov] (getMethod ov m pl)
   callWith pos f first (backTo pos (starEach (e::es) X.env)) (backToKw pos (keywordEach [] X.env))):=by rfl) :
  wpAny (model X.prog X.w) X.A (eval (.Call (.Attribute (.Name x p) m apos) (e::es) [] pos) X.env) Q X.xe s:=by
 refine PySem.W.methodCall_KW (pl:=pl) (ot I hg hm ?_ cT) ht
 refine ce1 I M λs1 I1=>?_
 refine PySem.W.callWith_K (first:=[]) (h₀:=X.base) I.ok.mod.j7 M.kp (aL (ha pos pins s1 σ H _ I1 h) λus s2 ⟨vs,H2,I2,r,q2⟩=>⟨I2.cw,?_⟩) bU bx
 exact hq us s2 vs H2 I2 r q2
noncomputable def cN3(sp:Sp)(E:XK)(c:Addr)(i:Nat)(t:TA):TE:=λσ H Q=>t σ H λvs H1=>∃f of fd v,H1 f=some (.ext (mh f of))/\of.data=.func fd/\σ[i]?=some (some v) /\
 ∀oc u,oc.data=.cell (some u)->RelV v u->H1 c=none->c≠f->sp vs (upd (upd H1 f (.ext (L3.iQ of oc c f))) c (.own f)) (λr H2=>H2 f=some (.ext (L3.iQ of oc c f))/\H2 c=some (.own f)/\Q r (rem H2 f c)) E
theorem Ub{pl:Sem Bool}{y:Str}{c:Addr}{i:Nat}(M:tR X.K C m f)(F:aK X.prog X.w X.K X.mg X.base aR k f fd ps sp)(hr:bP k X.A)(hb:Binds X.K fd ps [])(hg:Gl X x)(hm:X.mg x=some (.ref C))
  (hN:X.N[i]?=some y) (hy:X.env.scope.names.lookup y=some .cell) (eV:X.env.cells.lookup y=some c) (wX:X.fn y=true) (ha:PA X (e::es) t)
  (cT:(x==("__debug__":Str))=false:=by decide) (bU:starEach (e::es) X.env=(false,eval e X.env)::starEach es X.env:=by rfl) (bx:(backTo pos (starEach es X.env)).any (·.1)=false:=by rfl)
  (ht:eval (.Call (.Attribute (.Name x p) m apos) (e::es) [] pos) X.env=(do
   let ov<-eval (.Name x p) X.env
   standAt apos.atName
   let (f,first)<-holding [ov] (getMethod ov m pl)
   callWith pos f first (backTo pos (starEach (e::es) X.env)) (backToKw pos (keywordEach [] X.env))):=by rfl) :
  PE X (.Call (.Attribute (.Name x p) m apos) (e::es) [] pos) (cN3 sp E c i t):=by
 intro pins s σ H Q I h
 refine Ua (pl:=pl) I M hg hm ha h (λus s1 vs H1 I1 r ⟨fa,of,fdd,v,hf,hd,hv,hq⟩=>?_) cT bU bx ht
 obtain⟨ml,_,hl⟩:=I1.loc
 obtain⟨u,rv,lk⟩:=hl i y v hN hv (.inr (.inl hy))
 obtain⟨oc,gc,gZ⟩:∃oc,s1.heap.get? c=some oc/\oc.data=.cell (some u):=by
  rcases lk with⟨hk,_⟩ | ⟨_,c',wY,ic⟩
  ·rw[show X.env.kindOf y=some .cell from hy]at hk;cases hk
  ·rw[eV]at wY;cases wY;exact ic
 have nc:H1 c=none:=I1.eT y c eV
 have nv:c≠fa:=λz=>by rw[z,hf]at nc;cases nc
 have gf:s1.heap.get? fa=some of:=(I1.aA fa _ hf).1
 have gC:=hq oc u gZ rv nc nv
 have Uc:=I1.ok.kU y c wX eV
 generalize hH:upd (upd H1 fa (.ext (L3.iQ of oc c fa))) c (.own fa)=Hp at gC
 have Ud:Hp c=some (.own fa):=by rw[<-hH,bG]
 have atf:Hp fa=some (.ext (L3.iQ of oc c fa)):=by rw[<-hH,aQ nv.symm,bG]
 have kE:∀b,b≠fa->b≠c->Hp b=H1 b:=λb n1 n2=>by rw[<-hH,aQ n2,aQ n1]
 have nfs:c ∉ X.fs:=λhb=>by
  obtain⟨_,o,ho,_⟩:=I1.ok.eZ.mem hb
  exact absurd (cy (bF ho) Uc) (fM _)
 have nst:∀b∈de X.stack,b≠c:=λb hb z=>by
  rcases cE.mp (I1.wU b hb)with e | hb
  ·exact I1.jf y c eV (z ▸ e)
  ·exact nfs (z ▸ hb)
 have dy5:cA X.prog X.w Hp s1.heap:=λb ob q=>by
  by_cases z1:b=c
  ·subst z1;rw[Ud]at q;cases q;exact⟨_,gc⟩
  ·by_cases z2:b=fa
   ·subst z2;rw[atf]at q;cases q
    exact⟨⟨gf,gc⟩,⟨_,gf⟩,λh1 h2 p kk=>⟨kk _ _ (.inl rfl) p.1,kk _ _ (.inr Ud) p.2⟩⟩
   ·rw[kE b z2 z1]at q
    have x1:=(I1.aA b ob q).rem (f:=fa) (c:=c) z2 hf (.inr nc) (TR gf (λ_ p=>p) hd)
    have up:∀{b' o'},rem H1 fa c b'=some o'->Hp b'=some o':=λ{b' o'} q=>by
     obtain⟨n1,n2,q'⟩:=TN q
     rw[kE b' n1 n2];exact q'
    exact x1.gW (λ_ _ _ q=>q) (λ_ q=>up q) (λ_ _ q=>up q) λ_ _ q=>up q
 have e0:g7 X.prog X.w X.K X.mg X.base X.A X.stack s1 Hp:=by
  have e1:=I1.q0
  refine⟨e1.frames,e1.mod,λb ob q=>⟨(e1.bs b ob q).1,?_⟩,e1.gX,e1.eZ,λb hb=>?_,dy5,e1.bare⟩
  ·have hb0:=(I1.ok.bs b ob q).1
   rw[kE b (λz=>by have:=(e1.bs b ob q).2;rw[z,hf]at this;cases this) (λz=>absurd (cy (bF hb0) (z ▸ Uc)) (fM _))]
   exact(e1.bs b ob q).2
  ·have nb:=e1.gY b hb
   rw[kE b (λz=>by rw[z,hf]at nb;cases nb) (nst b hb)];exact nb
 have hlen:us.length=ps.length:=by rw[<-r.length];exact F.len _ _ _ _ gC
 refine wpAny_call (codeAny_mono (F.run X.A X.stack s1 Hp ⟨us,[]⟩ us vs _ E hr e0 (by have:=hb s1 us I1.cw (by rw[fQ];exact hlen);rwa [fQ]at this) r gC) λrr s' hz=>?_)
 cases rr with
 | error e=>exact hz.elim
 | ok fl =>
  cases fl with
  | next=>exact eB hz
  | brk=>exact eB hz
  | cont=>exact eB hz
  | ret u' =>
   obtain⟨v',H2,os,bare,un,Ue,rv',q1,q2,q3⟩:=hz
   obtain⟨_,Ug⟩:=Ue.lam q1
   refine I1.after ⟨v',rem H2 fa c,os,bare,⟨λb ob g n hb hx=>?_,λb ob g n hb hx=>?_,λb ob g n hx=>?_,un.there,λb xs g=>?_,λb ob xs g=>?_,λb ps g=>?_⟩,Ue.rem q1 q2 hd,rv',q3⟩
   ·by_cases z:b=c
    ·rw[z,gc]at g;cases g;rw[z];exact Ug
    ·exact un.keep b ob g (by rw[kE b (λz=>by rw[z,hf]at n;cases n) z];exact n) hb hx
   ·by_cases z:b=c
    ·rw[z,gc]at g;cases g;rw[z];exact⟨_,Ug⟩
    ·exact un.slot b ob g (by rw[kE b (λz=>by rw[z,hf]at n;cases n) z];exact n) hb hx
   ·by_cases z:b=c
    ·rw[z];exact Ca
    ·exact tN (un.free b ob g (by rw[kE b (λz=>by rw[z,hf]at n;cases n) z];exact n) hx)
   ·have n1:b≠fa:=λz=>by rw[z,hf]at g;cases g
    have n2:b≠c:=λz=>by rw[z,nc]at g;cases g
    rw[gk n1 n2]
    exact un.gB b xs (by rw[kE b n1 n2];exact g)
   ·have n1:b≠fa:=λz=>by rw[z,hf]at g;cases g
    have n2:b≠c:=λz=>by rw[z,nc]at g;cases g
    rw[gk n1 n2]
    exact un.fU b ob xs (by rw[kE b n1 n2];exact g)
   ·have n1:b≠fa:=λz=>by rw[z,hf]at g;cases g
    have n2:b≠c:=λz=>by rw[z,nc]at g;cases g
    rw[gk n1 n2]
    exact un.fi b ps (by rw[kE b n1 n2];exact g)
end
end L2
namespace L3
open PySem L2 PySem.Spec PyProof.Rows
theorem yM{ts:List Addr}{H H':Hp}(h:Tb ts H)(s:aa H H'):Tb ts H':=λP hP=>by
 obtain⟨ps,e⟩:=h P hP
 obtain⟨m,e2⟩:=s.tb P ps e
 exact⟨_,e2⟩
theorem Uh{P:Program}{w:World}{K:PySem.W.Frag}{mg:Str->Option Value}{base:Heap}{n:Nat}{p1 p2 x qn:Str}{params:Arguments}{body:Expr}{scope:Scope}{pm iu:Value}{oc:Obj}{c k:Addr}{m:Int}{tm:Tok}{sp:tO}(S:TX p1 p2 x scope)
  (gZ:oc.data=.cell (some (.int m tm))) (hb:∀u1 u2:Value,bindArgs (PySem.W.kla_fn "<lambda>" qn params body scope [(x,c)] pm (.ref k) iu) ⟨[u1,u2],[]⟩=pure [(p1,u1),(p2,u2)])
  (gD:∀(q:Str) (f:Addr) (A:Around) (outer:List Env) (s:Shared) (H:Hp) (E:XK),bP n (A.deeper (PySem.W.envX q scope s.heap.objs.size f (.ref k) [(x,c)])) ->
   ∃t:aG,PE (pS aR P w K mg base [p1,p2,x] q scope f (.ref k) [(x,c)] A outer s H E).fw body (lE t)/\∀i j Qd,sp i j Qd->t [some (.int i),some (.int j),some (.int m)] λd _=>∃r,d=.int r/\Qd r) :
  yI P w K mg base (n+1) (PySem.W.kla_obj "<lambda>" qn params body scope [(x,c)] pm k iu) oc c k sp where
 fn:=⟨_,_,_,_,rfl⟩
 run A outer s H f t u i j Qd hr e0 gf gc hH cF h:=by
  obtain⟨q,cF⟩:=cF
  obtain⟨tt,ht,hq⟩:=gD q f A outer s H (λ_ _ _=>False) (hr.deeper _)
  refine cr6 (v1:=.int i) (v2:=.int j) (vc:=.int m) (E:=λ_ _ _=>False) S e0 hr gf ⟨oc,gc,gZ⟩ ⟨tm,rfl⟩ hH cF (hb _ _) ⟨t,rfl⟩ ⟨u,rfl⟩ ht.fw ?_
  refine⟨⟨H,H⟩,H,_,[],_,?_,hq i j Qd h,λd ae v F' H' hd f1 h1 c1=>?_⟩
  ·exact ai.start (ds:=[.int i,.int j,.int m]) (vs:=[.int i,.int j,.int m]) (aa.refl H) (.int (.int (.int .nil))) 0
  ·obtain⟨r,rfl,hd⟩:=hd
   have s1:=c1.top
   cases s1
   exact⟨r,rfl,hd,h1⟩
section
variable{X:Cx}{CX:dN}{n:Nat}{f:Addr}{fd:FuncData}{ps:List Str}{sp:bf}{E:XK}{x:Str}{p pos:Pos}{e:Expr}{es:List Expr}{t:bY}{tl:List Addr}
theorem Ui(hT:Tb tl X.je)(F:aK X.prog X.w X.K X.mg X.base CX n f fd ps (tM tl (bh sp)))(hr:bP n X.A)(hg:Gl X x)(hm:X.mg x=some (.ref f))(hk:PySem.W.keepIn X.K (.ref f)=true)(hb:Binds X.K fd ps [])(hx:ji CX X E)
  (ha:PA X (e::es) (lA t)) (cT:(x==("__debug__":Str))=false:=by decide) (he:starEach (e::es) X.env=(false,eval e X.env)::starEach es X.env:=by rfl) (bx:(backTo pos (starEach es X.env)).any (·.1)=false:=by rfl) :
  PE X (.Call (.Name x p) (e::es) [] pos) (lE (o5 sp t)):=by
 intro pins s σ H Q I zz
 obtain⟨B,F',δ,ts,Qd,c,q,k⟩:=zz
 have tb:=Ho I hT
 refine iN F hr hg hm hk hb .nil hx ha cT he bx pins s σ H Q I ⟨B,F',δ,ts,_,c,q,λds ah vs F1 H1 q1 f1 h1 c1 s1=>?_⟩
 refine⟨yM tb h1,?_⟩
 rw[fQ]
 exact xF c1 s1 q1 λd v F' H' hd hf hs c'=>k d ah v F' H' hd (f1.trans hf) (h1.trans hs) c'
end
section
variable{P:Program}{w:World}{K:PySem.W.Frag}{mg:Str->Option Value}{base:Heap}
theorem Hv{x qual:Str}{st:Stmt}{f:Addr}{fd:FuncData}{N ps:List Str}{k:Nat}{sp:bf}{tl:List Addr}(F:aV K x qual st f fd)(S:bc N ps (ao st))(len:∀ds Q,sp ds Q->ds.length=ps.length)
  (gD:∀(aE:Value) (A:Around) (outer:List Env) (s:Shared) (H:Hp) (E:XK),Tb tl H->bP k (A.deeper (envOfC qual (ao st) s.heap.objs.size f aE)) ->
   ∃t:cn,PSs (g8 aR P w K mg base N qual (ao st) f aE A outer s H E).fw (aS st) (lS (g8 aR P w K mg base N qual (ao st) f aE A outer s H E).fw t)/\∀ds Q,sp ds Q->t { nx:=λ_=>Q .aj,rt:=Q } (jJ N ds)):aK P w K mg base aR (k+1) f fd ps (tM tl (bh sp)):=by
 refine F.ok S (λvs H Q E ⟨_,F,ds,Qd,e,r,h,_⟩=>by rw[<-r.length];exact len ds Qd h) λaE A outer s H vs Q E hr zz=>?_
 obtain⟨tb,F,ds,Qd,e,r,h,k⟩:=zz
 obtain⟨t,ht,hq⟩:=gD aE A outer s H E tb hr
 have fin:∀d v ae ay F' H',Qd d->ai ⟨H,F⟩ F' H' ay ae [(d,v)]->Q v H':=λd v ae ay F' H' hd c=>by
  obtain⟨A,C,r',s',nd,fr⟩:=c.own
  exact k d v F' H' A hd c.b1 c.b2 c.ext c.b3 r' (gI.mp nd).1 λa ha=>fr a (eJ _ ha)
 have e1:L2.start N vs=vs.map some++aw (N.length-ds.length) none:=by unfold L2.start;rw[r.length]
 refine⟨_,ht,⟨H,F⟩,F,jJ N ds,_,?_,hq ds Qd h,λae ay F' H' hd c=>fin .aj .aj ae ay F' H' hd (c.pushS (.aj .nil) rfl),fin,λ_ _ _ _ z=>z.elim,λ_ _ _ _ z=>z.elim,XL.none (λ_ _ z=>z) λ_ _ z=>z⟩
 rw[e1]
 exact ai.start e r _
theorem Uj{x qual:Str}{st:Stmt}{f cc:Addr}{fd:FuncData}{N ps:List Str}{k:Nat}{sp:Sp}(F:aV K x qual st f fd)(Cc:fd.code=.ref cc)(S:bc N ps (ao st))(len:∀vs H Q E,sp vs H Q E->vs.length=ps.length)
  (gD:∀(A:Around) (outer:List Env) (s:Shared) (H:Hp) (vs:List V) (Q:VK) (E:XK),bP k (A.deeper (envOfC qual (ao st) s.heap.objs.size f (.ref cc)))->sp vs H Q E ->
   ∃t,PSs (g8 aR P w K mg base N qual (ao st) f (.ref cc) A outer s H E).fw (aS st) t/\t { nx:=λ_ H'=>Q .aj H',rt:=Q } (L2.start N vs) H):aK P w K mg base aR (k+1) f fd ps sp:=by
 obtain⟨oc,od,kV,doc,pm,an,aE,ct,ke,rfl,lk,cF⟩:=F.ex
 obtain rfl:aE=.ref cc:=Cc
 refine FN lk cF S len λA outer s H vs Q E hr g9=>?_
 obtain⟨t,h,q⟩:=gD A outer s H vs Q E hr g9
 exact⟨t,h.fw,q⟩
end
end L3
namespace L3
open PySem L2 PySem.Spec PyProof.Rows
theorem bO9{ns:List Str}{xs:List D}{ws:List V}{F H:Hp}{f:Str}{d:D}(r:R F H xs ws [])(h:(ns.zip xs).lookup f=some d):∃w,(ns.zip ws).lookup f=some w/\R F H [d] [w] []:=by
 generalize e:([]:List Addr)=A at r
 induction ns generalizing xs ws A with
 | nil=>simp at h
 | cons n ns ih =>
  cases xs with
  | nil=>simp at h
  | cons x xs =>
   obtain⟨v,bS,A1,A2,rfl,rfl,h1,h2⟩:=R.cU r
   obtain⟨rfl,rfl⟩:=AG.mp e.symm
   rw[ξ]at h ⊢
   by_cases z:f=n
   ·subst z
    rw[fg,beq_self_eq_true]at h
    cases h
    refine⟨v,?_,h1⟩
    rw[fg,beq_self_eq_true]
   ·have z':(f==n)=false:=beq_eq_false_iff_ne.mpr z
    rw[fg,z']at h
    obtain⟨w,e1,e2⟩:=ih h [] rfl h2
    refine⟨w,?_,e2⟩
    rw[fg,z']
    exact e1
theorem Hw{ns:List Str}{ws:List V}{f:Str}(h:f ∉ ns):(ns.zip ws).lookup f=none:=by
 induction ns generalizing ws with
 | nil=>simp
 | cons n ns ih =>
  cases ws with
  | nil=>simp
  | cons w ws =>
   rw[ξ,fg]
   have hn:(f==n)=false:=beq_eq_false_iff_ne.mpr λz=>h (by rw[z];simp)
   simp only[hn]
   exact ih λz=>h (by simp[z])
theorem Cg{F H:Hp}{C:Addr}{ns:List Str}{xs:List D}{v:V}(s:S F H [.obj C ns xs] [v]):∃p dx ws,v=.ref p/\H p=some (.ins C dx (ns.zip ws))/\ns.length=ws.length/\R F H xs ws []:=by
 cases s with
 | obj h l r _=>exact⟨_,_,_,rfl,h,l,r⟩
section
variable{X:Cx}{e o:Expr}{es:List Expr}{f m x:Str}{pos p apos:Pos}{t to:aG}{ta:bY}{n:Nat}
noncomputable def pV(K:PySem.W.Frag)(t:aG)(f:Str):aG:=λδ Q=>t δ λd ae=>∃C ns xs v,d=.obj C ns xs/\dk K C/\aY K C f/\(ns.zip xs).lookup f=some v/\Q v ae
theorem cN5(he:PE X e (lB t))(hb:attributeBase e f X.env (eval e X.env)=eval e X.env:=by rfl):PE X (.Attribute e f pos) (lB (pV X.K t f)) :=
 cG (oF he hb) λσ H Q ⟨B,F,δ,ts,Qd,c,q,k⟩=>⟨B,F,δ,ts,_,c,q,λd ae v F' H' ⟨C,ns,xs,w,ed,hc,hn,hl,hq⟩ f1 h1 c1 s1=>by
  subst ed
  obtain⟨p,dx,ws,rfl,hp,_,r⟩:=Cg s1
  obtain⟨u,hu,ru⟩:=bO9 r hl
  exact⟨p,C,dx,_,u,rfl,hp,hc,hn,hu,k w ae u F' H' hq f1 h1 c1 ru.s⟩⟩
structure jO(P:Program)(w:World)(K:PySem.W.Frag)(mg:Str->Option Value)(base:Heap)(n:Nat)(m:Str)(C:Addr)(sp:bf):Prop where
 cls:dk K C
 ex:∃f fd ps,Meth K C m f/\aK P w K mg base aR n f fd ps (bh sp)/\Binds K fd ps []
noncomputable def pW(MO:Addr->bf->Prop)(m:Str)(to:aG)(ta:bY):aG:=λδ Q=>to δ λd ah=>∃C ns xs sp,d=.obj C ns xs/\MO C sp/\m ∉ ns/\ta ah λds aN=>sp ((D.obj C ns xs::ds).map D.sh) λr=>((D.obj C ns xs::ds).all D.pl||r.fr)=true/\Q r aN
theorem cD3{pl:Sem Bool}(ho:PE X o (lB to))(hr:bP n X.A)(ha:PA X (e::es) (lA ta))
  (bU:starEach (e::es) X.env=(false,eval e X.env)::starEach es X.env:=by rfl) (bx:(backTo pos (starEach es X.env)).any (·.1)=false:=by rfl)
  (ht:eval (.Call (.Attribute o m apos) (e::es) [] pos) X.env=(do
   let ov<-eval o X.env
   standAt apos.atName
   let (f,first)<-holding [ov] (getMethod ov m pl)
   callWith pos f first (backTo pos (starEach (e::es) X.env)) (backToKw pos (keywordEach [] X.env))):=by rfl) :
  PE X (.Call (.Attribute o m apos) (e::es) [] pos) (lE (pW (jO X.prog X.w X.K X.mg X.base n m) m to ta)):=by
 intro pins s σ H Q I zz
 obtain⟨B,F,δ,ts,Qd,c,q,k⟩:=zz
 refine PySem.W.methodCall_KW (pl:=pl) (aL (ho pins s σ H (λx H1=>∃d ah F1,S F1 H1 [d] [x]/\ai B F1 H1 σ ah ts/\aa F F1/\aa H H1/\∃C ns xs sp,d=.obj C ns xs/\jO X.prog X.w X.K X.mg X.base n m C sp/\m ∉ ns/\ta ah λds aN=>sp ((D.obj C ns xs::ds).map D.sh) λr=>((D.obj C ns xs::ds).all D.pl||r.fr)=true/\Qd r aN) I
  ⟨B,F,δ,ts,_,c,q,λd ah v F1 H1 hq f1 h1 c1 s1=>⟨d,ah,F1,s1,c1,f1,h1,hq⟩⟩) λu s1 ⟨x,H1,I1,rx,d,ah,F1,sd,c1,f1,h1,C,ns,xs,sp,ed,M,hm,hq⟩=>?_) ht
 subst ed
 obtain⟨a,dx,ws,rfl,ea,hl,r0⟩:=Cg sd
 obtain rfl:u=cu a:=rx
 obtain⟨f,fd,ps,ny,FO,hb⟩:=M.ex
 refine Bw I1 ea M.cls ny (Hw hm) ?_
 refine PySem.W.callWith_K (first:=[.ref a]) (h₀:=X.base) I.ok.mod.j7 ny.kp (aL (ha pos pins s1 σ H1 (λvs H2=>∃ds aN F2,S F2 H2 ds vs/\ai B F2 H2 σ aN ts/\aa F1 F2/\aa H1 H2/\sp ((D.obj C ns xs::ds).map D.sh) λr=>((D.obj C ns xs::ds).all D.pl||r.fr)=true/\Qd r aN) I1
  ⟨B,F1,ah,ts,_,c1,hq,λds aN vs F2 H2 hq f2 h2 c2 s2=>⟨ds,aN,F2,s2,c2,f2,h2,hq⟩⟩) λus s2 ⟨vs,H2,I2,r,ds,aN,F2,Hx,c2,f2,h2,g9⟩=>⟨I2.cw,?_⟩) bU bx
 refine q8 (us:=.ref a::us) (vs:=.ref a::vs) (eG:=[]) FO hr hb .nil bC I2 (.cons rfl r) ?_
 rw[fQ]
 exact xF c2 (.obj (h2 _ _ ea) hl (r0.shared f2 h2) Hx) g9 λd v F' H' hd hf hs c'=>k d aN v F' H' hd (f1.trans (f2.trans hf)) (h1.trans (h2.trans hs)) c'
noncomputable def pX(MO:Addr->bf->Prop)(m:Str)(to:aG):aG:=λδ Q=>to δ λd ah=>∃C ns xs sp,d=.obj C ns xs/\MO C sp/\m ∉ ns/\sp [D.obj C ns xs] λr=>Q r ah
theorem cs6{pl:Sem Bool}(ho:PE X o (lB to))(hr:bP n X.A)
  (ht:eval (.Call (.Attribute o m apos) [] [] pos) X.env=(do
   let ov<-eval o X.env
   standAt apos.atName
   let (f,first)<-holding [ov] (getMethod ov m pl)
   callWith pos f first (backTo pos (starEach [] X.env)) (backToKw pos (keywordEach [] X.env))):=by rfl) :
  PE X (.Call (.Attribute o m apos) [] [] pos) (lE (pX (jO X.prog X.w X.K X.mg X.base n m) m to)):=by
 intro pins s σ H Q I zz
 obtain⟨B,F,δ,ts,Qd,c,q,k⟩:=zz
 refine PySem.W.methodCall_KW (pl:=pl) (aL (ho pins s σ H (λx H1=>∃d ah F1,S F1 H1 [d] [x]/\ai B F1 H1 σ ah ts/\aa F F1/\aa H H1/\∃C ns xs sp,d=.obj C ns xs/\jO X.prog X.w X.K X.mg X.base n m C sp/\m ∉ ns/\sp [D.obj C ns xs] λr=>Qd r ah) I
  ⟨B,F,δ,ts,_,c,q,λd ah v F1 H1 hq f1 h1 c1 s1=>⟨d,ah,F1,s1,c1,f1,h1,hq⟩⟩) λu s1 ⟨x,H1,I1,rx,d,ah,F1,sd,c1,f1,h1,C,ns,xs,sp,ed,M,hm,hq⟩=>?_) ht
 subst ed
 obtain⟨a,dx,ws,rfl,ea,hl,r0⟩:=Cg sd
 obtain rfl:u=cu a:=rx
 obtain⟨f,fd,ps,ny,FO,hb⟩:=M.ex
 refine Bw I1 ea M.cls ny (Hw hm) ?_
 refine PySem.W.callWith_K0 (first:=[.ref a]) I1.cw ny.kp (q8 (us:=[.ref a]) (vs:=[.ref a]) (eG:=[]) FO hr hb .nil bC I1 (.cons rfl .nil) ?_)
 show bh sp [.ref a] H1 Q E0
 exact xF (Qd:=λr=>Qd r ah) c1 (.obj ea hl r0 .nil) (by simpa[D.sh,D.pl]using hq) λd v F' H' hd hf hs c'=>k d ah v F' H' hd (f1.trans hf) (h1.trans hs) c'
end
structure bR(x:Addr)(H H':Hp):Prop where
 get:∀b o,b≠x->H b=some o->hW o=true->H' b=some o
 tb:∀b ps,H b=some (.cX ps)->∃more,H' b=some (.cX (ps++more))
theorem bR.trans{x:Addr}{H H1 H2:Hp}(a:bR x H H1)(b:bR x H1 H2):bR x H H2 :=
 ⟨λc o n h t=>b.get c o n (a.get c o n h t) t,λc ps h=>by
  obtain⟨m1,e1⟩:=a.tb c ps h
  obtain⟨m2,e2⟩:=b.tb c _ e1
  exact⟨m1++m2,by rw[e2,qy]⟩⟩
theorem aa.x{x:Addr}{H H':Hp}(h:aa H H'):bR x H H':=⟨λb o _ e n=>h.get b o e n,h.tb⟩
theorem bR.upd{x C dx:Addr}{H:Hp}{o o':HO}(h:H x=some o)(n:hW o=true):bR x H (upd H x o') :=
 ⟨λb o z e _=>by rw[aQ z];exact e,λb ps e=>⟨#[],by rw[aQ (λz=>by rw[z,h]at e;cases e;cases n),e];simp⟩⟩
noncomputable def Hy(tl:List Addr)(C:Addr)(iY:List D->List Str->List D->Prop):Sp:=λvs H Q _=>∃x dx bS ds ns xs,vs=.ref x::bS/\Tb tl H/\H x=some (.ins C dx [])/\R H H ds bS []/\iY ds ns xs /\
 ∀H' ws A,bR x H H'->H' x=some (.ins C dx (ns.zip ws))->ns.length=ws.length->R (λ_=>none) H' xs ws A->A.Nodup->(∀a∈A,H a=none)->Q .aj H'
noncomputable def tS(C:Addr)(iY:List D->List Str->List D->Prop)(ta:bY):aG:=λδ Q=>ta δ λds ae=>∃ns xs,iY (ds.map D.sh) ns xs/\Q (.obj C ns (xs.map D.sh)) ae
theorem ai.made{B:Bs}{F H H':Hp}{σ:L2.St}{δ:Dl}{ts:List (D × V)}{C dx x:Addr}{ns:List Str}{xs:List D}{ws:List V}{A:List Addr}(c:ai B F H σ δ ts)(hs:aa H H')(hx:H' x=some (.ins C dx (ns.zip ws)))(hl:ns.length=ws.length)
  (r:R (λ_=>none) H' xs ws A) (fr:∀a∈A,H a=none):aa F (L3.bt F H' A)/\ai B (L3.bt F H' A) H' σ δ ((.obj C ns (xs.map D.sh),.ref x)::ts):=by
 have c1:=c.grow hs
 have hF:∀a∈A,F a=none:=λa ha=>c.ext.free (fr a ha)
 have r1:R F H' xs ws A:=r.keep (aa.of λb o e=>by cases e) (fm.same (aa.refl _)) gg.nil hF (by simp)
 have r2:=r1.bt c1.ext A (λ_ h=>h)
 have fs:aa F (L3.bt F H' A):=ia c1.ext
 obtain⟨A',C',r',s',nd,tT⟩:=c.own
 have out:∀a,(∃ws,H a=some (.lst ws))/\F a=none->L3.bt F H' A a=none:=λa zz=>by
  obtain⟨⟨ws,h⟩,hf⟩:=zz
  rw[oO (λz=>by rw[fr a z]at h;cases h)];exact hf
 have g1:=r'.grow fs hs λa ha=>out a (r'.lists a ha)
 have g2:=s'.keep fs (fm.same hs) gg.nil (λa ha=>out a (s'.lists a ha)) (by simp)
 refine⟨fs,oN c1.ext,c1.b1,c1.b2.trans fs,λa ws h=>?_,A',C',?_,g2,nd,tT⟩
 ·by_cases z:a∈A
  ·exact .inr (c.b1.free (fr a z))
  ·rw[oO z]at h;exact c.b3 a ws h
 ·exact R.obj hx hl r2 g1
section
variable{X:Cx}{CX:dN}{n:Nat}{f C:Addr}{fd:FuncData}{ps:List Str}{iY:List D->List Str->List D->Prop}{E:XK}{x:Str}{p pos:Pos}{e:Expr}{es:List Expr}{t:bY}{tl:List Addr}
theorem Uk(hT:Tb tl X.je)(M:Mk X.K C f)(F:aK X.prog X.w X.K X.mg X.base CX n f fd ps (Hy tl C iY))(hr:bP (n+1) X.A)(hg:Gl X x)(hm:X.mg x=some (.ref C))(hb:Binds X.K fd ps [])(hx:ji CX X E)
  (ha:PA X (e::es) (lA t)) (cT:(x==("__debug__":Str))=false:=by decide) (he:starEach (e::es) X.env=(false,eval e X.env)::starEach es X.env:=by rfl) (bx:(backTo pos (starEach es X.env)).any (·.1)=false:=by rfl) :
  PE X (.Call (.Name x p) (e::es) [] pos) (lE (tS C iY t)):=by
 intro pins s σ H Q I zz
 obtain⟨B,F',δ,ts,Qd,c,q,k⟩:=zz
 have tb:=Ho I hT
 refine Ra M F hr hg hm hb .nil hx ha cT he bx pins s σ H Q I ⟨B,F',δ,ts,_,c,q,λds ah vs F1 H1 q1 f1 h1 c1 s1=>?_⟩
 intro x dx cm dW iP
 obtain⟨ns,xs,hI,hq⟩:=q1
 have sm:aa H1 (upd (upd H1 dx (.own x)) x (.ins C dx [])):=.of λb o e=>by rw[aQ (dj e cm),aQ (dj e dW)];exact e
 refine⟨x,dx,vs,ds.map D.sh,ns,xs,by rw[fQ],yM (yM tb h1) sm,bG,(s1.frozen c1.ext).shared sm sm,hI,λH' ws A yN du hl r nd fr=>⟨rfl,?_⟩⟩
 have s2:aa H1 H':=⟨λb o e n=>yN.get b o (dj e cm) (sm.get b o e n) n,λb ps e=>by
  obtain⟨m1,e1⟩:=sm.tb b ps e
  obtain⟨m2,e2⟩:=yN.tb b _ e1
  exact⟨m1++m2,by rw[e2,qy]⟩⟩
 obtain⟨fs,c2⟩:=c1.made s2 du hl r λa ha=>sm.free (fr a ha)
 exact k _ ah _ _ H' hq (f1.trans fs) (h1.trans s2) c2
end
end L3
namespace Mf
open PySem L2 L3
noncomputable def gm(m:Bool × Nat)(a b:Nat):Nat:=if m.1 then md (cl a b) m.2 else a*b%m.2
noncomputable def ag(m:Bool × Nat):Nat:=if m.1 then 2 ^ (bl m.2-1)else m.2
noncomputable def Ci(g:Nat->Nat->Nat)(a:Nat):Nat->Nat->List Int->Option (List Int)
 | 0,_,_=>none
 | f+1,p,acc=>if p=1 then some acc else if p<64 then Ci g a f (g p a) (acc++[(p:Int)])else none
noncomputable def Hz(g:Nat->Nat->Nat)(a:Nat):Option (List Int):=Ci g a 64 (g 1 a) [1]
noncomputable def Cj(g:Nat->Nat->Nat)(many:Nat):Nat->Nat->List Int->Option (List Int)
 | 0,_,_=>none
 | f+1,st,l=>if l.length+1<many then(match Hz g (st+1)with | some l'=>Cj g many f (st+1) l' | none=>none)else some l
noncomputable def yO(g:Nat->Nat->Nat)(many:Nat):Option (List Int):=match Hz g 1 with | some l=>Cj g many 62 1 l | none=>none
noncomputable def yP(g:Nat->Nat->Nat):tO:=λi j Q=>∃a b:Nat,i=a/\j=b/\a<64/\b<64/\Q (g a b:Nat)
noncomputable def fI:List Nat:=[7,11,13,19,25,31,37,41,47,55,59,61,67,73,87,91,97,103,109,115,117]
noncomputable def mi:List Nat:=[2,3,5,7,11,13,17,19,23,29,31,37,41,43,47,53,59,61]
noncomputable def aM:List (Bool × Nat):=fI.map (λn=>(true,n))++mi.map λn=>(false,n)
noncomputable def mj(l:List Int):Nat->List Int
 | 0=>aw (l.length+1) 0
 | i+1=>(mj l i).set (l.getD i 0).toNat (i:Int)
noncomputable def dF(l:List Int):List Int:=mj l l.length
theorem yQ(l:List Int):∀i,(mj l i).length=l.length+1
 | 0=>by simp[mj]
 | i+1=>by simp[mj,yQ l i]
noncomputable def nz(l g:List Int)(a:Nat):List Int:=if a=0 then aw (l.length+1) 0 else 0::(bo l.length).map λ(b:Nat)=>l.getD ((g.getD a 0+g.getD (b+1) 0)%(l.length:Int)).toNat 0
noncomputable def tU(l g:List Int)(n:Nat):List D:=(bo n).map λa=>D.lst true (aC (nz l g a))
noncomputable def nB(l g:List Int):List D:=tU l g (l.length+1)
end Mf
namespace L3
open PySem L2 Mf
noncomputable def LI(H:Hp)(p:Addr)(ns:List Int):Prop:=H p=some (.lst (ns.map V.int))
theorem LI.same{H H':Hp}{p:Addr}{ns:List Int}(h:LI H p ns)(s:aa H H'):LI H' p ns:=s.get _ _ h
theorem LI.upd{H:Hp}{p x:Addr}{ns:List Int}{o o':HO}(h:LI H p ns)(hx:H x=some o)(n:∀ws,o≠.lst ws):LI (upd H x o') p ns:=by
 unfold LI
 rw[aQ (λz=>by rw[z]at h;unfold LI at h;rw[hx]at h;cases h;exact n _ rfl)];exact h
theorem Ul{F' H' H:Hp}{v:V}{A:List Addr}{ns:List Int}(r:R F' H' [.lst true (aC ns)] [v] A)(fr:∀a∈A,H a=none):∃p,v=.ref p/\LI H' p ns/\H p=none:=by
 cases r with
 | @own p ws xs A1 _ _ B1 hp hf r1 r2 =>
  have:=G2 r1.s
  subst this
  exact⟨p,rfl,hp,fr p (by simp)⟩
structure dz2(K:PySem.W.Frag)(C f:Addr):Prop where
 cls:dk K C
 many:aY K C "many"
 wide:aY K C "wide"
 HA:aY K C "powers"
 dz3:aY K C "logs"
 step:aY K C "step"
 sp:Meth K C "step_power" f
structure Um(g:Nat->Nat->Nat)(many:Nat)(l:List Int)(st:Int):Prop where
 lo:2<=many
 hi:many<=64
 step:yO g many=some l
 len:l.length+1=many
 ins:∀x∈l,0<=x/\x.toNat<=l.length
 st:l[((1:Int)%((many:Int)-1)).toNat]?=some st
noncomputable def gn(b:Str):List Str:=[b,"many","wide","powers","logs","step"]
noncomputable def Ck(n0:Int)(many:Nat)(p1 p2:Addr)(st:Int):List V:=[.int n0,.int many,.int ((bl many:Nat)-1),.ref p1,.ref p2,.int st]
theorem tV{f:Str}{v:V}:∀{fs:List (Str × V)},(∀p∈fs,p.1≠f)->bL f v fs=fs++[(f,v)]
 | [],_=>rfl
 | (g,x)::r,h=>by
  unfold bL
  rw[if_neg (h (g,x) (by simp)),tV λp hp=>h p (by simp[hp])];rfl
theorem jm.tW{H:Hp}{x C dx f c k:Addr}{fs:List (Str × V)}{o':HO}{of oc:Obj}(h:jm H f of oc c k)(hx:H x=some (.ins C dx fs)):jm (L2.upd H x o') f of oc c k:=by
 obtain⟨ψ,e,yJ⟩:=h.GA
 exact⟨by rw[aQ (λz=>by rw[<-z,h.fn]at hx;cases hx)];exact h.fn,by rw[aQ (λz=>by rw[<-z,h.cell]at hx;cases hx)];exact h.cell,ψ,by rw[aQ (λz=>by rw[<-z,e]at hx;cases hx)];exact e,yJ⟩
theorem yR{H:Hp}{x p:Addr}{o o':HO}(hx:H x=some o)(h:L2.upd H x o' p=none):H p=none:=by
 by_cases z:p=x
 ·subst z;rw[bG]at h;cases h
 ·rw[aQ z]at h;exact h
theorem Cm{α:Type}{b f:Str}{v:α}{r:List (Str × α)}(h:b≠f):((b,v)::r).lookup f=r.lookup f:=by
 rw[fg,beq_eq_false_iff_ne.mpr (dR h)]
section
variable{H2 H3 H':Hp}{x f c p:Addr}{o1 o2:HO}
theorem yS{b:Addr}{o:HO}(e:H3 b=some o)(nb:b≠f)(nc:H3 c=none):L2.upd (L2.upd H3 f o1) c o2 b=some o:=by
 rw[aQ (dj e nc),aQ nb];exact e
theorem Uo(hs:aa H2 H3)(nf:H2 f=none)(nc:H3 c=none)(s:bR x (L2.upd (L2.upd H3 f o1) c o2) H'):bR x H2 (rem H' f c) where
 get b o n e t:=by
  have z1:=dj e nf
  have e3:=hs.get b o e t
  rw[gk z1 (dj e3 nc)]
  exact s.get b o n (yS e3 z1 nc) t
 tb b ps e:=by
  have z1:=dj e nf
  obtain⟨m,e3⟩:=hs.tb b ps e
  obtain⟨m2,e4⟩:=s.tb b _ (yS e3 z1 nc)
  exact⟨m++m2,by rw[gk z1 (dj e3 nc),e4,qy]⟩
theorem Cn(hs:aa H2 H3)(h:L2.upd (L2.upd H3 f o1) c o2 p=none):H2 p=none:=by
 refine hs.free ?_
 by_cases z:p=c
 ·subst z;rw[bG]at h;cases h
 ·rw[aQ z]at h
  by_cases z2:p=f
  ·subst z2;rw[bG]at h;cases h
  ·rw[aQ z2]at h;exact h
theorem LI.rem{l:List Int}{φ:Heap->Prop}{y:Addr}(h:LI H' p l)(hf:H' f=some (.ext φ))(hc:H' c=some (.own y)):LI (rem H' f c) p l:=by
 unfold LI at h ⊢
 rw[gk (λz=>by rw[z,hf]at h;cases h) (λz=>by rw[z,hc]at h;cases h)];exact h
theorem Up{of oc:Obj}{k:Addr}(iP:c≠f)(nc:H3 c=none)(hk:Gz H3 k)(kf:k≠f):jm (L2.upd (L2.upd H3 f (.ext (iQ of oc c f))) c (.own f)) f of oc c k:=by
 obtain⟨ψ,e,yJ⟩:=hk
 exact⟨by rw[aQ iP.symm,bG],bG,ψ,yS e kf nc,yJ⟩
end
noncomputable def fl(m:Bool × Nat):List Int:=(yO (gm m) (ag m)).getD []
noncomputable def fst(m:Bool × Nat):Int:=(fl m).getD ((1:Int)%((ag m:Int)-1)).toNat 0
noncomputable def Uq(m:Bool × Nat):Bool:=decide (2<=ag m)&&decide (ag m<=64)&&(yO (gm m) (ag m)).isSome&&decide ((fl m).length+1=ag m)&&(fl m).all (λx=>decide (0<=x)&&decide (x.toNat<=(fl m).length))&&decide (((1:Int)%((ag m:Int)-1)).toNat<(fl m).length)
theorem cp9:aM.all Uq=true:=by decide +kernel
theorem eI{m:Bool × Nat}(h:m∈aM):Um (gm m) (ag m) (fl m) (fst m):=by
 have h:=cS.mp cp9 m h
 simp only[Uq,dB,decide_eq_true_eq,cS]at h
 obtain⟨⟨⟨⟨⟨h1,h2⟩,h3⟩,h4⟩,h5⟩,h6⟩:=h
 obtain⟨l,e⟩:=Aw.mp h3
 have el:fl m=l:=by unfold fl;rw[e];rfl
 refine⟨h1,h2,by rw[e,el],h4,λx hx=>h5 x hx,?_⟩
 unfold fst
 rw[aT,aU h6];rfl
theorem ce3:∀p∈mi,(decide (2<=(p:Int))&&decide ((p:Int)<=61)&&(bo ((p:Int).toNat-2)).all λi=>(p:Int)%(2+(i:Int)) != 0)=true:=by decide +kernel
theorem co0:∀p∈fI,(decide (4<=(p:Int))&&decide ((p:Int)<=127)&&al (p:Int).toNat)=true:=by decide +kernel
theorem R.tW{F H:Hp}{x C dx:Addr}{fs:List (Str × V)}{o':HO}{ds:List D}{vs:List V}{A:List Addr}(r:R F H ds vs A)(hx:H x=some (.ins C dx fs))(hd:ds.all D.fr=true):R F (L2.upd H x o') ds vs A:=by
 have up:∀{a o},H a=some o->(∀C dx fs,o≠.ins C dx fs)->L2.upd H x o' a=some o:=λ{a o} e n=>by
  rw[aQ (λz=>by rw[z,hx]at e;cases e;exact n _ _ _ rfl)];exact e
 induction r with
 | nil=>exact .nil
 | aj _ ih=>exact .aj (ih (by simpa[D.fr]using hd))
 | bl _ ih=>exact .bl (ih (by simpa[D.fr]using hd))
 | int _ ih=>exact .int (ih (by simpa[D.fr]using hd))
 | str _ ih=>exact .str (ih (by simpa[D.fr]using hd))
 | shr h x _ i1 ih=>simp[e7]at hd
 | own h f _ _ i1 i2 =>
  rw[di,e7,dB,i8]at hd
  exact .own (up h λ_ _ _ z=>by cases z) f (i1 hd.1) (i2 hd.2)
 | tup h _ _ i1 i2 =>
  rw[di,mY,dB]at hd
  exact .tup (up h λ_ _ _ z=>by cases z) (i1 hd.1) (i2 hd.2)
 | obj h l x _ i1 ih=>simp[D.fr]at hd
 | fz h x _ i1 ih=>simp[D.fr]at hd
 | @bu p z _ _ _ h r ih =>
  refine .bu ?_ (ih (by simpa[D.fr]using hd))
  cases z with
  | ext φ=>exact up h λ_ _ _ z=>by cases z
  | lam of oc c k=>exact jm.tW h hx
theorem Ur(l g:List Int):(nB l g).all D.fr=true:=by
 unfold nB tU
 rw[kQ,cS]
 intro a _
 show(D.lst true (aC _)).fr=true
 rw[e7,pI];rfl
theorem bR.free{x a:Addr}{H H':Hp}(s:bR x H H')(hx:H' x≠none)(h:H' a=none):H a=none:=by
 cases q:H a with
 | none=>rfl
 | some o =>
  by_cases z:a=x
  ·subst z;exact absurd h hx
  ·cases n:hW o with
   | true=>rw[s.get a o z q n]at h;cases h
   | false =>
    obtain⟨ps,rfl⟩:=Gy n
    obtain⟨m,e⟩:=s.tb a ps q
    rw[e]at h;cases h
theorem Us(l:List Int):∀i,∀x∈mj l i,0<=x
 | 0=>λx hx=>by rw[(mM.mp hx).2];exact Int.le_refl _
 | i+1=>λx hx=>by
  unfold mj at hx
  rcases AK hx with h | h
  ·exact Us l i x h
  ·rw[h];exact Qe _
theorem ca6:∀p∈fI,bl p<=7:=by decide +kernel
theorem bR4:∀p∈fI,1<=bl p:=by decide +kernel
theorem cb0(a b:Nat):bl (cl a b)<=bl a+bl b:=by
 by_cases ha:a=0
 ·subst ha;rw[mV];exact qD _
 ·by_cases hb:b=0
  ·subst hb
   have:cl a 0=0:=rfl
   rw[this];exact qD _
  ·rw[RP ha hb];omega
noncomputable def mm(l g:List Int):List D:=(bo (l.length+1)).map λa=>D.lst false (aC (nz l g a))
theorem ce4(l g:List Int):(D.lst true (nB l g)).sh=.lst false (mm l g):=by
 rw[dX]
 unfold nB tU mm
 rw[dD]
 congr 1
 apply og
 intro a _
 show D.sh (.lst true (aC _))=_
 rw[dX,jr]
theorem bV4(l g:List Int):(mm l g).all D.pl=true:=by
 unfold mm
 rw[kQ,cS]
 intro a _
 show(D.lst false (aC _)).pl=true
 rw[gb,lZ];rfl
noncomputable abbrev pD(m:Bool × Nat):List D:=[.int m.2,.int (ag m),.int ((bl (ag m):Nat)-1),.lst false (aC (fl m)),.lst false (aC (dF (fl m))),.int (fst m)]
noncomputable def tX(C:Addr)(p:Nat):D:=.obj C (gn "prime") (pD (false,p))
noncomputable def tY(C:Addr)(p:Nat):D:=.obj C (gn "bits"++[("products":Str)]) (pD (true,p)++[.lst false (mm (fl (true,p)) (dF (fl (true,p))))])
noncomputable def fD(cb cp:Addr)(m:Bool × Nat):D:=if m.1 then tY cb m.2 else tX cp m.2
end L3
namespace L3
open PySem L2 Mf
theorem Ut{u p:Nat}(h:bl u<bl p):md u p=u:=xw (q:=0) (by rw[mV,n6]) h
theorem b70{u v n:Nat}(hu:bl u<n)(hv:bl v<n):bl (u ^^^ v)<n:=by
 have h1:u<2 ^ (n-1):=fk.mp (by omega)
 have h2:v<2 ^ (n-1):=fk.mp (by omega)
 have:=fk.mpr (rj h1 h2)
 omega
theorem Uu{p:Nat}(hp:p≠0)(u v:Nat):md (u ^^^ v) p=md u p ^^^ md v p:=by
 obtain⟨⟨q1,e1⟩,l1⟩:=xv hp u
 obtain⟨⟨q2,e2⟩,l2⟩:=xv hp v
 refine xw (q:=q1 ^^^ q2) ?_ (b70 l1 l2)
 rw[oI,<- RH,<- e1,<- e2]
theorem cv0{p:Nat}(hp:p≠0)(w:Nat):md (cl p w) p=0:=by rw[xu];exact cJ7 w hp
theorem dP:∀m∈aM,0<m.2:=by decide +kernel
theorem kF(m:Bool × Nat)(a b:Nat):gm m a b=gm m b a:=by
 unfold gm
 split
 ·rw[xu]
 ·rw[kM]
theorem Uv{n:Nat}(hn:n≠0)(u c:Nat):md (cl (md u n) c) n=md (cl u c) n:=by
 obtain⟨⟨q,e⟩,_⟩:=xv hn u
 have h:cl u c=cl n (cl q c) ^^^ cl (md u n) c:=by
  conv=>lhs;rw[e]
  rw[oI,xu n q,RW]
 rw[h,Uu hn,cv0 hn,n6]
theorem mn{m:Bool × Nat}(h:0<m.2)(a b c:Nat):gm m (gm m a b) c=gm m a (gm m b c):=by
 unfold gm
 split
 ·rw[Uv (by omega),xu (md (cl b c) m.2) a,Uv (by omega),RW a b c,xu (cl b c) a]
 ·rw[wD,Qt,<- wD,wD a (b*c%m.2),Qt,<- wD,qM]
theorem Uw{m:Bool × Nat}(h:m.1=true){a:Nat}:a<ag m↔bl a<=bl m.2-1:=by
 unfold ag
 rw[if_pos h];exact fk.symm
theorem nC{m:Bool × Nat}{a:Nat}(ha:a<ag m):gm m 1 a=a:=by
 obtain⟨k,n⟩:=m
 cases k with
 | true =>
  show md (cl 1 a) n=a
  rw[Gb]
  have h1:=(Uw (m:=(true,n)) rfl).mp ha
  have h1:bl a<=bl n-1:=h1
  by_cases z:bl n=0
  ·have a0:a=0:=by
    have:=fk (n:=a) (m:=0)
    have:=this.mp (by omega)
    omega
   subst a0
   have n0:n=0:=by
    have:=(fk (n:=n) (m:=0)).mp (by omega)
    omega
   subst n0
   decide
  ·exact Ut (by omega)
 | false=>show 1*a%n=a;rw[Nat.one_mul];exact wF ha
theorem tZ{m:Bool × Nat}{a:Nat}(ha:a<ag m):gm m a 1=a:=by rw[kF];exact nC ha
noncomputable def lg(m:Bool × Nat)(a:Nat):Int:=(dF (fl m)).getD a 0
noncomputable def pw(m:Bool × Nat)(k:Nat):Int:=(fl m).getD k 0
noncomputable def HB(m:Bool × Nat):Bool:=((bo (ag m-1)).all λk=>decide (1<=pw m k)&&decide (pw m k<ag m)&&decide (lg m (pw m k).toNat=k))&&((bo (ag m-1)).all λa=>decide (0<=lg m (a+1))&&decide (lg m (a+1)<(ag m:Int)-1)&&decide (pw m (lg m (a+1)).toNat=((a+1:Nat):Int)))
theorem Ux:aM.all HB=true:=by decide +kernel
theorem HC{m:Bool × Nat}(hm:m∈aM){k:Nat}(hk:k<ag m-1):1<=pw m k/\pw m k<ag m/\lg m (pw m k).toNat=k:=by
 have h:=cS.mp Ux m hm
 simp only[HB,dB,cS,decide_eq_true_eq,dz]at h
 have:=h.1 k hk
 exact⟨this.1.1,this.1.2,this.2⟩
theorem HD{m:Bool × Nat}(hm:m∈aM){a:Nat}(h1:1<=a)(h2:a<ag m):0<=lg m a/\lg m a<(ag m:Int)-1/\pw m (lg m a).toNat=a:=by
 have h:=cS.mp Ux m hm
 simp only[HB,dB,cS,decide_eq_true_eq,dz]at h
 have:=h.2 (a-1) (by omega)
 rw[show a-1+1=a by omega]at this
 exact⟨this.1.1,this.1.2,this.2⟩
theorem iw(m:Bool × Nat)(b:Nat)(h:0<m.2):gm m 0 b=0:=by
 unfold gm
 split
 ·rw[mV];exact Ut (by rw[xq];exact jD (by omega))
 ·rw[Nat.zero_mul,Nat.zero_mod]
theorem t7(m:Bool × Nat)(b:Nat)(h:0<m.2):gm m b 0=0:=by rw[kF];exact iw m b h
noncomputable def stC(m:Bool × Nat):Bool:=decide (pw m 0=1)&&(bo (ag m-1)).all λk=>decide (gm m (pw m k).toNat (pw m (1%(ag m-1))).toNat=(pw m ((k+1)%(ag m-1))).toNat)
theorem Uy:aM.all stC=true:=by decide +kernel
theorem cv9(m:Bool × Nat)(hm:m∈aM):pw m 0=1:=by
 have h:=cS.mp Uy m hm
 simp only[stC,dB,decide_eq_true_eq]at h
 exact h.1
noncomputable def pN(m:Bool × Nat)(k:Nat):Nat:=(pw m (k%(ag m-1))).toNat
theorem cJ3{m:Bool × Nat}(hm:m∈aM)(k:Nat):pN m k<ag m:=by
 have gF:=(eI hm).lo
 have:=HC hm (qO k (show 0<ag m-1 by omega))
 unfold pN
 omega
theorem Uz{m:Bool × Nat}(hm:m∈aM)(k:Nat):gm m (pN m k) (pN m 1)=pN m (k+1):=by
 have gF:=(eI hm).lo
 have h:=cS.mp Uy m hm
 simp only[stC,dB,decide_eq_true_eq,cS,dz]at h
 have h2:=h.2 (k%(ag m-1)) (qO k (by omega))
 rw[wG]at h2
 exact h2
theorem UA{m:Bool × Nat}(hm:m∈aM)(i:Nat):∀j,gm m (pN m i) (pN m j)=pN m (i+j)
 | 0=>by
  have e:pN m 0=1:=by unfold pN;rw[Nat.zero_mod,cv9 m hm];rfl
  rw[e,tZ (cJ3 hm i)];rfl
 | j+1=>by rw[<-Uz hm j,<- mn (dP m hm),UA hm i j,Uz hm];rfl
theorem UB{m:Bool × Nat}(hm:m∈aM){a b:Nat}(a1:1<=a)(a2:a<ag m)(b1:1<=b)(b2:b<ag m):((gm m a b:Nat):Int)=pw m ((lg m a+lg m b)%((ag m:Int)-1)).toNat:=by
 have gF:=(eI hm).lo
 obtain⟨g0,g1,g2⟩:=HD hm a1 a2
 obtain⟨f0,f1,f2⟩:=HD hm b1 b2
 have ea:pN m (lg m a).toNat=a:=by unfold pN;rw[wF (by omega),g2];rfl
 have eb:pN m (lg m b).toNat=b:=by unfold pN;rw[wF (by omega),f2];rfl
 have e:=UA hm (lg m a).toNat (lg m b).toNat
 rw[ea,eb]at e
 rw[e]
 have ei:((lg m a+lg m b)%((ag m:Int)-1)).toNat=((lg m a).toNat+(lg m b).toNat)%(ag m-1):=by
  have:(((lg m a).toNat+(lg m b).toNat)%(ag m-1):Nat)=((lg m a+lg m b)%((ag m:Int)-1)):=by
   rw[wH,Qu,qP g0,qP f0,Int.natCast_sub (by omega)];rfl
  omega
 rw[ei]
 have:=HC hm (qO ((lg m a).toNat+(lg m b).toNat) (show 0<ag m-1 by omega))
 unfold pN
 omega
theorem cq7{p a:Nat}(hp:p∈fI)(ha:a<ag (true,p)):nz (fl (true,p)) (dF (fl (true,p))) a=(bo (ag (true,p))).map λb=>((gm (true,p) a b:Nat):Int):=by
 have hm:(true,p)∈aM:=eJ _ (E7 hp)
 have h0:=dP _ hm
 have hF:=eI hm
 have hlen:=hF.len
 unfold nz
 split
 ·rename_i h
  subst h
  rw[hlen]
  refine AL (by simp) λi h1 h2=>?_
  simp[iw _ _ h0]
 ·rename_i h
  rw[<-hlen,θ,dh,dD,t7 _ _ h0]
  congr 1
  apply og
  intro b hb
  have hb:=dz.mp hb
  show(fl (true,p)).getD (((dF (fl (true,p))).getD a 0+(dF (fl (true,p))).getD (b+1) 0)%((fl (true,p)).length:Int)).toNat 0=((gm (true,p) a (b+1):Nat):Int)
  rw[UB hm (by omega) ha (by omega) (by omega),show(((fl (true,p)).length:Nat):Int)=(ag (true,p):Int)-1 by omega]
  rfl
theorem HE{p a b:Nat}(hp:p∈fI)(ha:a<ag (true,p))(hb:b<ag (true,p)):eH (aC (nz (fl (true,p)) (dF (fl (true,p))) a)) (b:Int)=some (.int (gm (true,p) a b:Nat)):=by
 refine kY (by omega) ?_
 rw[cq7 hp ha]
 unfold aC
 rw[eD,bV,bV,jX hb];rfl
theorem HF{p a:Nat}(hp:p∈fI)(ha:a<ag (true,p)):eH (mm (fl (true,p)) (dF (fl (true,p)))) (a:Int)=some (.lst false (aC (nz (fl (true,p)) (dF (fl (true,p))) a))):=by
 have hF:=eI (m:=(true,p)) (eJ _ (E7 hp))
 refine kY (by omega) ?_
 unfold mm
 rw[eD,bV,jX (by rw[hF.len];exact ha)];rfl
end L3
namespace L3
open PySem L2 Mf
theorem cE4(C:Addr)(p:Nat):D.obj C (gn "bits"++[("products":Str)]) (AJ D.sh [.int p,.int (ag (true,p)),.int ((bl (ag (true,p)):Nat)-1),.lst true (aC (fl (true,p))),.lst true (aC (dF (fl (true,p)))),.int (fst (true,p)),.lst true (nB (fl (true,p)) (dF (fl (true,p))))])=tY C p:=by
 simp only[dh,jV]
 rw[ce4]
 simp only[dX,kC,jr];rfl
theorem b97(C:Addr)(p:Nat):D.obj C (gn "prime") (AJ D.sh [.int p,.int p,.int ((bl p:Nat)-1),.lst true (aC (fl (false,p))),.lst true (aC (dF (fl (false,p)))),.int (fst (false,p))])=tX C p:=by
 simp only[dh,jV,dX,kC,jr];rfl
theorem Co{n:Nat}(h:(true,n)∈aM):n∈fI:=by
 rcases cO.mp h with h | h
 ·obtain⟨x,hx,e⟩:=cI.mp h
  cases e;exact hx
 ·obtain⟨x,hx,e⟩:=cI.mp h
  cases e
theorem bH3{n:Nat}(h:(false,n)∈aM):n∈mi:=by
 rcases cO.mp h with h | h
 ·obtain⟨x,hx,e⟩:=cI.mp h
  cases e
 ·obtain⟨x,hx,e⟩:=cI.mp h
  cases e;exact hx
open Classical in
theorem UC{α:Type}{sh:Bool}{xs:List D}{ax:List (Str × Nat)}{n:Nat}{g0:gK}{te:aG}{ah:Dl}{Q:D->Dl->Prop}(l:List α)(e g:α->D)(ir:xs.map D.sh=l.map e)(inj:∀a b,e a=e b->a=b)
  (hx:∀a∈l,g0 (e a) (fc ax n ah) λaN=>te aN λd _=>d=g a) (hg:∀d δ (P P':Dl->Prop),(∀ae,P ae->P' ae)->g0 d δ P->g0 d δ P') (dU:(sh&&ax.all (ib ah))=true\/∀a∈l,(g a).fr=true) (hl:l.length<=sizeLine) (hq:Q (.lst true (l.map g)) ah):sg sh xs ax n g0 kn te ah Q:=by
 let f:D->D:=λx=>if h:∃a∈l,e a=x then g h.choose else .aj
 have hf:∀a∈l,f (e a)=g a:=λa ha=>by
  have h:∃b∈l,e b=e a:=⟨a,ha,rfl⟩
  show(if h:∃b∈l,e b=e a then g h.choose else .aj)=g a
  rw[dif_pos h]
  exact congrArg g (inj _ _ h.choose_spec.2)
 refine⟨λ_=>true,f,λx h=>?_,dU.imp id λh x hx _=>?_,?_,?_⟩
 ·rw[ir]at h
  obtain⟨a,ha,rfl⟩:=cI.mp h
  rw[hf a ha]
  exact hg _ _ _ _ (λae h=>⟨rfl,λ_=>h⟩) (hx a ha)
 ·rw[ir]at hx
  obtain⟨a,ha,rfl⟩:=cI.mp hx
  rw[hf a ha];exact h a ha
 ·have:=congrArg EI ir
  simp at this
  omega
 ·rw[ir,η.mpr (λ_ _=>rfl),dD,show l.map (f ∘ e)=l.map g from og λa ha=>hf a ha]
  exact hq
theorem UD{i1 i2:Nat}(d:D)(δ:Dl)(P P':Dl->Prop)(h:∀ae,P ae->P' ae)(q:iq i1 i2 d δ P):iq i1 i2 d δ P':=by
 unfold iq at q ⊢
 split at q
 ·exact h _ q
 ·exact q
theorem UE(xs ys:List Int):(eL (aC xs) (aC ys)).map D.sh=(xs.zip ys).map λz=>D.tup [.int z.1,.int z.2]:=by
 rw[Tz,jr,jr]
 unfold eL aC
 rw[Qs,List.zip,E6]
end L3
namespace L3
open PySem L2 PySem.Spec PyProof.Rows
structure Cp(P:Program)(w:World)(K:PySem.W.Frag)(mg:Str->Option Value)(base:Heap)(n:Nat)(m:Str)(C:Addr)(sp:jN):Prop where
 cls:dk K C
 ex:∃f fd ps,Meth K C m f/\aK P w K mg base (jk P w) n f fd ps (nh sp)/\Binds K fd ps []
section
variable{X:Cx}{e o:Expr}{es:List Expr}{f m x:Str}{pos p apos:Pos}{to:aG}{ta:bY}{n:Nat}
noncomputable def pY(MO:Addr->jN->Prop)(m:Str)(to:aG)(ta:bY):aG:=λδ Q=>to δ λd ah=>∃C ns xs sp,d=.obj C ns xs/\MO C sp/\m ∉ ns/\ta ah λds aN=>sp ((D.obj C ns xs::ds).map D.sh) (λr=>((D.obj C ns xs::ds).all D.pl||r.fr)=true/\Q r aN) λ_=>False
theorem cq2{pl:Sem Bool}(ho:PE X o (lB to))(hr:bP n X.A)(ha:PA X (e::es) (lA ta))
  (bU:starEach (e::es) X.env=(false,eval e X.env)::starEach es X.env:=by rfl) (bx:(backTo pos (starEach es X.env)).any (·.1)=false:=by rfl)
  (ht:eval (.Call (.Attribute o m apos) (e::es) [] pos) X.env=(do
   let ov<-eval o X.env
   standAt apos.atName
   let (f,first)<-holding [ov] (getMethod ov m pl)
   callWith pos f first (backTo pos (starEach (e::es) X.env)) (backToKw pos (keywordEach [] X.env))):=by rfl) :
  PE X (.Call (.Attribute o m apos) (e::es) [] pos) (lE (pY (Cp X.prog X.w X.K X.mg X.base n m) m to ta)):=by
 intro pins s σ H Q I zz
 obtain⟨B,F,δ,ts,Qd,c,q,k⟩:=zz
 refine PySem.W.methodCall_KW (pl:=pl) (aL (ho pins s σ H (λx H1=>∃d ah F1,S F1 H1 [d] [x]/\ai B F1 H1 σ ah ts/\aa F F1/\aa H H1/\∃C ns xs sp,d=.obj C ns xs/\Cp X.prog X.w X.K X.mg X.base n m C sp/\m ∉ ns/\ta ah λds aN=>sp ((D.obj C ns xs::ds).map D.sh) (λr=>((D.obj C ns xs::ds).all D.pl||r.fr)=true/\Qd r aN) λ_=>False) I
  ⟨B,F,δ,ts,_,c,q,λd ah v F1 H1 hq f1 h1 c1 s1=>⟨d,ah,F1,s1,c1,f1,h1,hq⟩⟩) λu s1 ⟨x,H1,I1,rx,d,ah,F1,sd,c1,f1,h1,C,ns,xs,sp,ed,M,hm,hq⟩=>?_) ht
 subst ed
 obtain⟨a,dx,ws,rfl,ea,hl,r0⟩:=Cg sd
 obtain rfl:u=cu a:=rx
 obtain⟨f,fd,ps,ny,FO,hb⟩:=M.ex
 refine Bw I1 ea M.cls ny (Hw hm) ?_
 refine PySem.W.callWith_K (first:=[.ref a]) (h₀:=X.base) I.ok.mod.j7 ny.kp (aL (ha pos pins s1 σ H1 (λvs H2=>∃ds aN F2,S F2 H2 ds vs/\ai B F2 H2 σ aN ts/\aa F1 F2/\aa H1 H2/\sp ((D.obj C ns xs::ds).map D.sh) (λr=>((D.obj C ns xs::ds).all D.pl||r.fr)=true/\Qd r aN) λ_=>False) I1
  ⟨B,F1,ah,ts,_,c1,hq,λds aN vs F2 H2 hq f2 h2 c2 s2=>⟨ds,aN,F2,s2,c2,f2,h2,hq⟩⟩) λus s2 ⟨vs,H2,I2,r,ds,aN,F2,Hx,c2,f2,h2,g9⟩=>⟨I2.cw,?_⟩) bU bx
 refine q8 (us:=.ref a::us) (vs:=.ref a::vs) (eG:=[]) (Hc FO) hr hb .nil Hb I2 (.cons rfl r) ?_
 rw[fQ]
 exact xF (sp:=λds Q=>sp ds Q λ_=>False) c2 (.obj (h2 _ _ ea) hl (r0.shared f2 h2) Hx) g9 λd v F' H' hd hf hs c'=>k d aN v F' H' hd (f1.trans (f2.trans hf)) (h1.trans (h2.trans hs)) c'
end
section
variable{X:Cx}{tb th:cn}{body G7:List Stmt}{G8:Stmt}{K:Str}{Kc:Addr}{kp Tr pos:Pos}
end
structure HG(K:PySem.W.Frag)(C:Addr):Prop where
 cls:dk K C
 ha:PySem.W.findIn K (.ref C) "__class__"=some (some (.builtin "object.__class__"))
 hn:PySem.W.specialIn K (.builtin "object.__class__") "__get__"=some (some (.builtin "getset_descriptor.__get__"))
 FL:PySem.W.takesIn K (.builtin "object.__class__")=some true
 hm:PySem.W.mroIn K C (.type "object")=some true
end L3
namespace L3
open PySem L2 Mf
theorem UG{m:Bool × Nat}(hm:m∈aM){a b:Nat}(a1:1<=a)(a2:a<ag m)(b1:1<=b)(b2:b<ag m):∃r:Nat,pw m ((lg m a-lg m b)%((ag m:Int)-1)).toNat=r/\r<ag m/\gm m r b=a:=by
 have hF:=eI hm
 have gF:=hF.lo
 have n0:=jY (lg m a-lg m b) (show(ag m:Int)-1≠0 by omega)
 have n1:=jZ (lg m a-lg m b) (show(0:Int)<(ag m:Int)-1 by omega)
 obtain⟨p1,p2,p3⟩:=HC hm (k:=((lg m a-lg m b)%((ag m:Int)-1)).toNat) (by omega)
 obtain⟨g0,g1,g2⟩:=HD hm a1 a2
 refine⟨(pw m ((lg m a-lg m b)%((ag m:Int)-1)).toNat).toNat,by omega,by omega,?_⟩
 have e:=UB hm (a:=(pw m ((lg m a-lg m b)%((ag m:Int)-1)).toNat).toNat) (by omega) (by omega) b1 b2
 rw[p3,qP n0,Int.emod_add_emod,Int.sub_add_cancel,Int.emod_eq_of_lt g0 g1,g2]at e
 omega
end L3
namespace L3
open PySem L2 PySem.Spec PyProof.Rows
section
variable{X:Cx}{e o a:Expr}{es:List Expr}{f m y:Str}{pos p apos q:Pos}{t to ta':aG}{ta:bY}{n:Nat}{P:Program}{w:World}{K:PySem.W.Frag}{mg:Str->Option Value}{base:Heap}
theorem cW(he:PE X e (lB t))(hK:K=X.K:=by rfl)(hb:attributeBase e f X.env (eval e X.env)=eval e X.env:=by rfl):PE X (.Attribute e f pos) (lB (pV K t f)):=by
 subst hK;exact cN5 he hb
theorem fJ{pl:Sem Bool}(ho:PE X o (lB to))(hr:bP n X.A)(ha:PA X (e::es) (lA ta))(hP:P=X.prog:=by rfl)(hw:w=X.w:=by rfl)(hK:K=X.K:=by rfl)(hm:mg=X.mg:=by rfl)(hb:base=X.base:=by rfl)
  (bU:starEach (e::es) X.env=(false,eval e X.env)::starEach es X.env:=by rfl) (bx:(backTo pos (starEach es X.env)).any (·.1)=false:=by rfl)
  (ht:eval (.Call (.Attribute o m apos) (e::es) [] pos) X.env=(do
   let ov<-eval o X.env
   standAt apos.atName
   let (f,first)<-holding [ov] (getMethod ov m pl)
   callWith pos f first (backTo pos (starEach (e::es) X.env)) (backToKw pos (keywordEach [] X.env))):=by rfl) :
  PE X (.Call (.Attribute o m apos) (e::es) [] pos) (lE (pW (jO P w K mg base n m) m to ta)):=by
 subst hP hw hK hm hb;exact cD3 ho hr ha bU bx ht
theorem yT{pl:Sem Bool}(ho:PE X o (lB to))(hr:bP n X.A)(hP:P=X.prog:=by rfl)(hw:w=X.w:=by rfl)(hK:K=X.K:=by rfl)(hm:mg=X.mg:=by rfl)(hb:base=X.base:=by rfl)
  (ht:eval (.Call (.Attribute o m apos) [] [] pos) X.env=(do
   let ov<-eval o X.env
   standAt apos.atName
   let (f,first)<-holding [ov] (getMethod ov m pl)
   callWith pos f first (backTo pos (starEach [] X.env)) (backToKw pos (keywordEach [] X.env))):=by rfl) :
  PE X (.Call (.Attribute o m apos) [] [] pos) (lE (pX (jO P w K mg base n m) m to)):=by
 subst hP hw hK hm hb;exact cs6 ho hr ht
theorem cc9{pl:Sem Bool}(ho:PE X o (lB to))(hr:bP n X.A)(ha:PA X (e::es) (lA ta))(hP:P=X.prog:=by rfl)(hw:w=X.w:=by rfl)(hK:K=X.K:=by rfl)(hm:mg=X.mg:=by rfl)(hb:base=X.base:=by rfl)
  (bU:starEach (e::es) X.env=(false,eval e X.env)::starEach es X.env:=by rfl) (bx:(backTo pos (starEach es X.env)).any (·.1)=false:=by rfl)
  (ht:eval (.Call (.Attribute o m apos) (e::es) [] pos) X.env=(do
   let ov<-eval o X.env
   standAt apos.atName
   let (f,first)<-holding [ov] (getMethod ov m pl)
   callWith pos f first (backTo pos (starEach (e::es) X.env)) (backToKw pos (keywordEach [] X.env))):=by rfl) :
  PE X (.Call (.Attribute o m apos) (e::es) [] pos) (lE (pY (Cp P w K mg base n m) m to ta)):=by
 subst hP hw hK hm hb;exact cq2 ho hr ha bU bx ht
end
theorem cv3:∀m∈Mf.aM,1<=Mf.bl m.2/\Mf.bl m.2<=7:=by decide +kernel
end L3
namespace L3
open PySem L2 Mf
noncomputable def gp(m:Bool × Nat)(a b:Nat):Nat:=if m.1 then a ^^^ b else(a+b)%m.2
noncomputable def gl(m:Bool × Nat)(a b:Nat):Int:=if m.1 then(a ^^^ b:Nat)else((a:Int)-b)%m.2
noncomputable def gd(m:Bool × Nat)(xs ys:List Nat):Nat:=(dS (gm m) xs ys).foldl (gp m) 0
noncomputable def nD(c:Int):Bool × Nat:=if c%2=0 then(true,fI.getD (c/2%21).toNat 0)else(false,mi.getD (c/2%18).toNat 0)
theorem cf6(c:Int):nD c∈aM:=by
 unfold nD
 split
 ·refine eJ _ (cI.mpr ⟨_,?_,rfl⟩)
  have h:(c/2%21).toNat<fI.length:=by
   have:=jZ (c/2) (show(0:Int)<21 by decide)
   show _<21
   omega
  rw[aT,aU h]
  exact eY _
 ·refine dA _ (cI.mpr ⟨_,?_,rfl⟩)
  have h:(c/2%18).toNat<mi.length:=by
   have:=jZ (c/2) (show(0:Int)<18 by decide)
   show _<18
   omega
  rw[aT,aU h]
  exact eY _
noncomputable def gq(m:Bool × Nat):D:=.tup [.bl m.1,.int m.2]
theorem Cq(cb cp:Addr)(m:Bool × Nat):fD cb cp m=.obj (if m.1 then cb else cp) (if m.1 then gn "bits"++[("products":Str)]else gn "prime") (if m.1 then pD (true,m.2)++[.lst false (mm (fl (true,m.2)) (dF (fl (true,m.2))))]else pD (false,m.2)):=by
 obtain⟨k,n⟩:=m
 cases k<;>rfl
theorem cK4(m:Bool × Nat)(x:Str)(h:x ∉ (["bits","prime","many","wide","powers","logs","step","products"]:List Str)):x ∉ (if m.1 then gn "bits"++[("products":Str)]else gn "prime"):=by
 obtain⟨k,n⟩:=m
 intro z
 apply h
 cases k
 ·have z:x∈gn "prime":=z
  simp[gn]at z
  simp only[cE]
  rcases z with z | z | z | z | z | z<;>simp[z]
 ·have z:x∈gn "bits"++[("products":Str)]:=z
  simp[gn]at z
  simp only[cE]
  rcases z with z | z | z | z | z | z | z<;>simp[z]
theorem t9(cb cp:Addr)(m:Bool × Nat):(fD cb cp m).sh=fD cb cp m:=by rw[Cq];rfl
theorem UH(cb cp:Addr)(m:Bool × Nat):(fD cb cp m).pl=true:=by rw[Cq];rfl
theorem cs5(m:Bool × Nat):(gq m).sh=gq m:=rfl
theorem cp3(m:Bool × Nat):(gq m).pl=true:=rfl
noncomputable def MOf(P:Program)(w:World)(K:PySem.W.Frag)(mg:Str->Option Value)(base:Heap)(n:Nat)(cb cp:Addr)(m:Bool × Nat)(x:Str)(ds:List D)(Q:D->Prop):Prop:=∃C ns xs sp,fD cb cp m=.obj C ns xs/\jO P w K mg base n x C sp/\x ∉ ns/\sp (.obj C ns xs::ds) Q
theorem UI{p:Nat}(hp:0<p):∀(l:List Nat) (acc:Nat),acc<p->l.foldl (gp (false,p)) acc=(acc+l.sum)%p
 | [],acc,h=>by simp[wF h]
 | x::l,acc,h=>by
  rw[qK,show gp (false,p) acc x=(acc+x)%p from rfl,UI hp l _ (qO _ hp),Qv]
  show((acc+x)%p+l.sum)%p=_
  rw[wG,Qo]
theorem UJ(p:Nat):∀xs ys:List Nat,(dS (gm (false,p)) xs ys).sum%p=(dS (· * ·) xs ys).sum%p
 | [],_=>by simp
 | _::_,[]=>by simp
 | x::xs,y::ys=>by
  simp only[Qw,Qv]
  show(x*y%p+_)%p=_
  rw[wG,Nat.add_mod,UJ p xs ys,<- Nat.add_mod]
theorem UK:∀xs ys:List Nat,(dS (· * ·) (xs.map λ(n:Nat)=>(n:Int)) (ys.map λ(n:Nat)=>(n:Int))).sum=(((dS (· * ·) xs ys).sum:Nat):Int)
 | [],_=>by simp
 | _::_,[]=>by simp
 | x::xs,y::ys=>by
  simp only[dh,Qw,Qv]
  rw[UK xs ys,Qu,E8]
theorem yU(m:Bool × Nat)(a b:Nat):gp m a b=gp m b a:=by
 unfold gp
 split
 ·rw[Qh]
 ·rw[Qg]
theorem b95(m:Bool × Nat)(a b c:Nat):gp m (gp m a b) c=gp m a (gp m b c):=by
 unfold gp
 split
 ·rw[qL]
 ·rw[wG,Nat.add_mod_mod,Qo]
theorem UL{m:Bool × Nat}(h:0<m.2)(a b c:Nat):gm m (gp m a b) c=gp m (gm m a c) (gm m b c):=by
 unfold gm gp
 split
 ·rw[oI,Uu (by omega)]
 ·rw[wD,Qt,<- wD,Nat.add_mul,wG,Nat.add_mod_mod]
theorem cF9{m:Bool × Nat}(h:0<m.2)(a b c:Nat):gm m c (gp m a b)=gp m (gm m c a) (gm m c b):=by rw[kF,UL h,kF m a,kF m b]
theorem cb9:∀m∈aM,m.1=true->2<=bl m.2:=by decide +kernel
theorem cO0{m:Bool × Nat}(hm:m∈aM){a b:Nat}(ha:a<ag m)(hb:b<ag m):gp m a b<ag m:=by
 have h0:=dP m hm
 obtain⟨k,n⟩:=m
 cases k with
 | true=>exact rj ha hb
 | false=>exact qO _ h0
theorem gr{m:Bool × Nat}(hm:m∈aM)(a b:Nat):gm m a b<ag m:=by
 have h0:=dP m hm
 obtain⟨k,n⟩:=m
 cases k with
 | true =>
  have h2:=cb9 (true,n) hm rfl
  have:=(xv (show n≠0 by have:0<n:=h0;omega) (cl a b)).2
  refine(Uw rfl).mpr ?_
  show bl (md (cl a b) n)<=bl n-1
  omega
 | false=>exact qO _ h0
theorem HH{m:Bool × Nat}{a:Nat}(ha:a<ag m):gp m 0 a=a:=by
 obtain⟨k,n⟩:=m
 cases k with
 | true=>exact n6 a
 | false=>show(0+a)%n=a;rw[Qx];exact wF ha
theorem cc7{m:Bool × Nat}{a:Nat}(ha:a<ag m):gp m a 0=a:=by rw[yU];exact HH ha
theorem cM6{m:Bool × Nat}(hm:m∈aM){a b:Nat}(ha:a<ag m)(hb:b<ag m):∃r:Nat,gl m a b=r/\r<ag m/\gp m r b=a:=by
 have h0:=dP m hm
 obtain⟨k,n⟩:=m
 cases k with
 | true=>exact⟨a ^^^ b,rfl,rj ha hb,by show a ^^^ b ^^^ b=a;rw[qL,AF,nZ]⟩
 | false =>
  have h0:0<n:=h0
  have ha:a<n:=ha
  have hb:b<n:=hb
  refine⟨(a+(n-b))%n,?_,qO _ h0,?_⟩
  ·show((a:Int)-b)%n=_
   rw[wH,Qu,Int.natCast_sub (by omega),show((a:Int)+((n:Int)-b))=((a:Int)-b)+n by omega,Int.add_emod_right]
  ·show((a+(n-b))%n+b)%n=a
   rw[wG,show a+(n-b)+b=a+n by omega,Nat.add_mod_right,wF ha]
end L3
namespace L2
open PySem PySem.Spec PyProof.Rows
section
variable{X:Cx}{a:Expr}{ta:TA}{p pos:Pos}{tg:Expr}
end
end L2
namespace L3
open PySem L2 PySem.Spec PyProof.Rows
section
variable{F H:Hp}{K:PySem.W.Frag}{p:Addr}{ws:List V}{xs:List D}
end
section
variable{X:Cx}{a:Expr}{ta:bY}{p pos:Pos}{tg:Expr}
end
end L3
namespace L3
open PySem L2 Mf
noncomputable def AllLt(n:Nat)(l:List Nat):Prop:=∀a∈l,a<n
theorem AllLt.getD{n:Nat}{l:List Nat}(h:AllLt n l)(h0:0<n)(k:Nat):l.getD k 0<n:=by
 rw[aT]
 cases e:l[k]? with
 | none=>exact h0
 | some v=>exact h v (qH e)
end L3
namespace L3
open PySem L2 PySem.Spec PyProof.Rows
theorem HI{n:Nat}(ih:∀d,cj n d=true->bq d d=true):∀xs:List D,xs.all (cj n)=true->bq.dZ xs xs=true
 | [],_=>rfl
 | x::xs,h=>by
  rw[di,dB]at h
  show(bq x x&&bq.dZ xs xs)=true
  rw[ih x h.1,HI ih xs h.2];rfl
theorem HJ:∀(n:Nat) (d:D),cj n d=true->bq d d=true
 | _,.aj,_=>rfl
 | _,.bl a,_=>by show(a==a)=true;simp
 | _,.int a,_=>by show(a==a)=true;simp
 | _,.str a,_=>by show(a==a)=true;simp
 | n+1,.lst o xs,h=>by
  have h:xs.all (cj n)=true:=h
  exact HI (HJ n) xs h
 | n+1,.tup xs,h=>by
  have h:xs.all (cj n)=true:=h
  exact HI (HJ n) xs h
 | 0,.lst _ _,h=>by cases h
 | 0,.tup _,h=>by cases h
 | 0,.obj _ _ _,h=>by cases h
 | 0,.fz _,h=>by cases h
 | 0,.bu _,h=>by cases h
 | n+1,.obj _ _ _,h=>by cases h
 | n+1,.fz _,h=>by cases h
 | n+1,.bu _,h=>by cases h
theorem bT8(n:Nat)(l:List Nat):(aq l).all (cj n)=true:=by
 rw[eo,kQ,cS]
 intro a _
 exact pK n _
theorem pZ(n:Nat)(o:Bool)(l:List Nat):cj (n+1) (.lst o (aq l))=true:=bT8 n l
theorem p5(o o':Bool)(a b:List Nat):bq (.lst o (aq a)) (.lst o' (aq b))=decide (a=b):=by
 unfold aq
 rw[s9]
 congr 1
 apply propext
 constructor
 ·intro h
  have:=congrArg (AJ wI) h
  have e:(wI ∘ λ(n:Nat)=>(n:Int))=id:=by funext x;rfl
  rw[dD,dD,e,List.map_id,List.map_id]at this
  exact this
 ·intro h;rw[h]
theorem ua{l:List Nat}{k:Int}(h0:0<=k)(h:k.toNat<l.length):eH (aq l) k=some (.int ((l.getD k.toNat 0:Nat):Int)):=by
 refine kY h0 ?_
 rw[eo,bV,aU h,aT,aU h];rfl
theorem p7{n:Nat}{k:Int}(h0:0<=k)(h:k.toNat<n):gE n k=some k.toNat:=by
 unfold gE
 rw[if_pos h0,if_pos (by omega)]
theorem HK{n:Nat}(k:Int)(h:k=n):(((bo k.toNat).map λ(k:Nat)=>D.int (0+(k:Int))).map D.sh)=(bo n).map λ(i:Nat)=>D.int (i:Int):=by
 subst h
 rw[xH,eD]
 simp
theorem yV(l:List Nat)(k v:Nat):(aq l).set k (.int (v:Nat))=aq (l.set k v):=by
 rw[eo,eo,E9]
theorem cc0(l:List Nat):(aq l).all D.fr=true:=pI _
theorem yW(o:Bool)(l:List Nat):(D.lst o (aq l)).sh=.lst false (aq l):=by rw[dX,pQ]
theorem iy(l:List Nat):(D.lst true (aq l)).fr=true:=by rw[e7,cc0];rfl
theorem cu8{xs:List D}{i:Nat}{d:D}(h:(dE xs)[i]?=some d):∃hi:i<xs.length,d=.tup [.int i,xs[i]]:=by
 have hi:i<(dE xs).length:=(i7.mp h).1
 rw[pM]at hi
 refine⟨hi,?_⟩
 unfold dE at h
 rw[oa,aU hi]at h
 exact(cP h).symm
theorem UM{l:List Nat}{i:Nat}{d:D}(h:(dE (aq l))[i]?=some d):∃hi:i<l.length,d=.tup [.int i,.int (l[i]:Nat)]:=by
 obtain⟨hi,e⟩:=cu8 h
 rw[eP]at hi
 refine⟨hi,?_⟩
 rw[e]
 simp only[eo,qQ]
theorem ch4{l:List Nat}{i:Nat}{d:D}(h:(aq l)[i]?=some d):∃hi:i<l.length,d=.int (l[i]:Nat):=by
 have hi:i<l.length:=by
  have:=(i7.mp h).1
  rw[eP]at this;exact this
 refine⟨hi,?_⟩
 rw[eo,bV,aU hi]at h
 exact(cP h).symm
section
variable{X:Cx}
end
end L3
namespace L3
open PySem L2 Mf
noncomputable def bQ(m:Bool × Nat)(a b:Nat):Nat:=(gl m a b).toNat
theorem js{m:Bool × Nat}(hm:m∈aM){a b:Nat}(ha:a<ag m)(hb:b<ag m):gl m a b=(bQ m a b:Nat)/\bQ m a b<ag m/\gp m (bQ m a b) b=a:=by
 obtain⟨r,e,h1,h2⟩:=cM6 hm ha hb
 have:bQ m a b=r:=by unfold bQ;rw[e];rfl
 rw[this]
 exact⟨e,h1,h2⟩
theorem UN{n:Nat}{f:Nat->Nat->Nat}:∀{a b:List Nat},(∀x∈a,∀y∈b,f x y<n)->AllLt n (dS f a b)
 | [],_,_=>by intro x hx;simp at hx
 | _::_,[],_=>by intro x hx;simp at hx
 | x::a,y::b,h=>by
  intro z hz
  rw[Qw]at hz
  rcases cE.mp hz with rfl | hz
  ·exact h x (by simp) y (by simp)
  ·exact UN (λx hx y hy=>h x (by simp[hx]) y (by simp[hy])) z hz
theorem bN5(xs ys:List Nat):(eL (aq xs) (aq ys)).map D.sh=(xs.zip ys).map λz=>D.tup [.int (z.1:Int),.int (z.2:Int)]:=by
 unfold aq
 rw[UE,List.zip_map,dD];rfl
theorem UO{sh:Bool}{ax:List (Str × Nat)}{n i1 i2:Nat}{te:aG}{ah:Dl}{Q:D->Dl->Prop}(f:Nat->Nat->Nat){A B:List Nat}(hx:∀x∈A,∀y∈B,iq i1 i2 (.tup [.int (x:Int),.int (y:Int)]) (fc ax n ah) λaN=>te aN λd _=>d=.int ((f x y:Nat):Int))
  (hl:A.length<=100000) (hq:Q (.lst true (aq (dS f A B))) ah):sg sh (eL (aq A) (aq B)) ax n (iq i1 i2) kn te ah Q:=by
 refine UC (A.zip B) (λz=>D.tup [.int (z.1:Int),.int (z.2:Int)]) (λz=>D.int ((f z.1 z.2:Nat):Int)) (bN5 A B) (λa b h=>?_) (λz hz=>hx z.1 (qE hz).1 z.2 (qE hz).2) UD (.inr λ_ _=>rfl) (by rw[Fb,sL];omega) ?_
 ·injection h with h
  simp at h
  exact Prod.ext (by omega) (by omega)
 ·rw[show((A.zip B).map λz=>D.int ((f z.1 z.2:Nat):Int))=aq (dS f A B) by rw[eo,List.zip,E6,E6]]
  exact hq
end L3
namespace L3
open PySem L2 PySem.Spec PyProof.Rows
theorem ai.dC9{B:Bs}{F H:Hp}{σ:L2.St}{δ:Dl}{ps ts:List (D × V)}{p:Addr}{o:HO}{A1:List Addr}(c:ai B F H σ δ (ps++ts))(hp:H p=none)(r:R F (upd H p o) (ps.map (·.1)) (ps.map (·.2)) A1):p ∉ A1:=λh=>by
 obtain⟨A,C,r0,_,_,_⟩:=c.own
 rw[iG,iG]at r0
 obtain⟨v1,v2,B1,B2,e,rfl,h1,h2⟩:=R.split r0
 have l1:(ps.map (·.2)).length=v1.length:=by rw[<-h1.length];simp
 obtain⟨rfl,rfl⟩:=EY e l1
 have g1:=h1.grow (aa.refl F) (aa.upd (o:=o) hp) λa ha=>(h1.lists a ha).2
 have:A1=B1:=R.inj r g1
 subst this
 obtain⟨ws,e⟩:=(h1.lists p h).1
 rw[hp]at e;cases e
theorem ai.join{B:Bs}{F H:Hp}{σ:L2.St}{δ:Dl}{ts:List (D × V)}{p p' r:Addr}{xs ys:List D}{ws fo:List V}(c:ai B F H σ δ ((.lst true ys,.ref p')::(.lst true xs,.ref p)::ts))(e1:H p=some (.lst ws))(e2:H p'=some (.lst fo))(hr:H r=none) :
  ai B F (upd H r (.lst (ws++fo))) σ δ ((.lst true (xs++ys),.ref r)::ts):=by
 refine ai.pack (ps:=[(.lst true ys,.ref p'),(.lst true xs,.ref p)]) c (aa.upd hr) λA1 r1 nd=>?_
 have nin:=ai.dC9 (ps:=[(.lst true ys,.ref p'),(.lst true xs,.ref p)]) (ts:=ts) c hr r1
 have n1:p≠r:=λz=>by rw[z,hr]at e1;cases e1
 have n2:p'≠r:=λz=>by rw[z,hr]at e2;cases e2
 have r1:R F (upd H r (.lst (ws++fo))) [.lst true ys,.lst true xs] [.ref p',.ref p] A1:=r1
 cases r1 with
 | @own _ wy _ Ay _ _ By hy fy ry rb =>
  cases rb with
  | @own _ wx _ Ax _ _ Bx hx fx rx rc =>
   cases rc
   rw[aQ n2,e2]at hy;cases hy
   rw[aQ n1,e1]at hx;cases hx
   refine⟨r::(Ax++Ay),by simpa using R.own bG (c.ext.free hr) (rx.append ry) .nil,?_,λa ha=>?_⟩
   ·refine jU.mpr ⟨λz=>nin ?_,?_⟩
    ·rcases cO.mp z with z | z<;>simp[z]
    ·have sl:(Ay++Ax).Sublist (p'::Ay++(p::Ax++[])):=by
      rw[fQ]
      exact(((ο p Ax).append_left Ay).trans (ο p' _))
     exact mL.nodup_iff.mp (nd.sublist sl)
   ·simp only[cE,cO]at ha ⊢
    rcases ha with rfl | ha | ha
    ·exact .inr hr
    ·simp[ha]
    ·simp[ha]
section
variable{X:Cx}{a b:Expr}{ta tb:aG}{pos:Pos}
noncomputable def ub(ta tb:aG):aG:=λδ Q=>ta δ λx ah=>tb ah λy aN=>∃xs ys,x=.lst true xs/\y=.lst true ys/\xs.length+ys.length<=sizeLine/\Q (.lst true (xs++ys)) aN
theorem cF8(ha:PE X a (lE ta))(hb:PE X b (lE tb)):PE X (.BinOp a .Add b pos) (lE (ub ta tb)) :=
 cG (xh RB ha hb) λσ H Q ⟨B,F,δ,ts,Qd,c,q,k⟩ =>
  ⟨B,F,δ,ts,_,c,q,λx ah v F1 H1 q1 f1 h1 c1=>⟨B,F1,ah,(x,v)::ts,_,c1,q1,λy aN w F2 H2 q2 f2 h2 c2=>by
   obtain⟨xs,ys,rfl,rfl,hz,hq⟩:=q2
   obtain⟨p',fo,rfl,e2,s2⟩:=ie c2.top c2.ext
   obtain⟨p,ws,rfl,e1,s1⟩:=ie c2.pop.top c2.ext
   refine⟨p,p',ws,fo,rfl,rfl,e1,e2,by rw[<-s1.length,<- s2.length];exact hz,λr hr=>?_⟩
   exact k _ aN _ F2 _ hq (f1.trans f2) ((h1.trans h2).trans (aa.upd hr)) (c2.join e1 e2 hr)⟩⟩
end
theorem bZ5{a b:List Nat}(h:aq a=aq b):a=b:=by
 have:=p5 true true a b
 rw[h,show bq (D.lst true (aq b)) (D.lst true (aq b))=true from(p5 _ _ _ _).trans (decide_eq_true rfl)]at this
 exact of_decide_eq_true this.symm
theorem ud{o:Bool}(a b:List Nat)(h:D.lst o (aq a)=D.lst o (aq b)):a=b:=bZ5 (by injection h)
end L3
namespace L3
open PySem L2 Mf
end L3
namespace L2
open PySem PySem.Spec PyProof.Rows
end L2
namespace L3
open PySem L2 PySem.Spec PyProof.Rows Mf
end L3
namespace L3
open PySem L2 Mf
noncomputable def cf(l:List Nat)(k:Nat):Nat:=l.getD k 0
theorem yX{l:List Nat}{k:Nat}(h:l.length<=k):cf l k=0:=by
 unfold cf;rw[aT,fh h];rfl
theorem gu{m:Bool × Nat}(hm:m∈aM){l:List Nat}(h:AllLt (ag m) l)(k:Nat):cf l k<ag m:=h.getD (by have:=(eI hm).lo;omega) k
theorem UP(m:Bool × Nat)(x:Nat):bQ m x x=0:=by
 obtain⟨k,n⟩:=m
 cases k with
 | true=>show(((x ^^^ x:Nat):Int)).toNat=0;rw[AF];rfl
 | false=>show(((x:Int)-(x:Int))%(n:Int)).toNat=0;rw[Int.sub_self,Int.zero_emod];rfl
end L3
namespace L3
open PySem L2 PySem.Spec PyProof.Rows
section
variable{B:Bs}{F H:Hp}{σ:L2.St}{δ:Dl}{ts ps:List (D × V)}{i k:Nat}{p q:Addr}{l1 l2 ys Sk:List D}{ws sJ:List V}
end
section
variable{X:Cx}{F H:Hp}{e b:Expr}{pos p p2 p3 pr apos bM G1:Pos}{t ti te:aG}{x y:Str}{i j:Nat}
end
end L3
namespace L3
structure Rg(N:Nat)(p q:Nat->Nat->Nat):Prop where
 pc:∀a b,p a b=p b a
 pa:∀a b c,p (p a b) c=p a (p b c)
 mc:∀a b,q a b=q b a
 ma:∀{a b c},a<N->b<N->c<N->q (q a b) c=q a (q b c)
 dl:∀a b c,q a (p b c)=p (q a b) (q a c)
 z:∀{a},a<N->p 0 a=a
 qz:∀a,q a 0=0
 one:∀{a},a<N->q 1 a=a
 lp:∀{a b},a<N->b<N->p a b<N
 lq:∀a b,q a b<N
 ng:∀{a},a<N->∃b,b<N/\p a b=0
section
variable{N:Nat}{p q:Nat->Nat->Nat}
noncomputable def sm(p:Nat->Nat->Nat):Nat->(Nat->Nat)->Nat
 | 0,_=>0
 | n+1,f=>p (sm p n f) (f n)
theorem Rg.pos(r:Rg N p q):0<N:=gS (qD _) (r.lq 0 0)
theorem Rg.z'(r:Rg N p q){a:Nat}(h:a<N):p a 0=a:=by rw[r.pc];exact r.z h
theorem Rg.can(r:Rg N p q){a b c:Nat}(ha:a<N)(hb:b<N)(hc:c<N)(h:p a c=p b c):a=b:=by
 obtain⟨d,_,e⟩:=r.ng hc
 have:=congrArg (λx=>p x d) h
 simp only[r.pa,e]at this
 rw[r.z' ha,r.z' hb]at this
 exact this
theorem iz{f g:Nat->Nat}:∀{n:Nat},(∀j,j<n->f j=g j)->sm p n f=sm p n g
 | 0,_=>rfl
 | n+1,h=>by rw[sm,sm,iz λj hj=>h j (by omega),h n (by omega)]
theorem nE(r:Rg N p q){f:Nat->Nat}:∀{n:Nat},(∀j,j<n->f j=0)->sm p n f=0
 | 0,_=>rfl
 | n+1,h=>by rw[sm,nE r λj hj=>h j (by omega),h n (by omega)];exact r.z r.pos
theorem Rg.four(r:Rg N p q)(a b c d:Nat):p (p a b) (p c d)=p (p a c) (p b d):=by
 rw[r.pa,r.pa,<- r.pa b,<- r.pa c,r.pc b c]
theorem ue(r:Rg N p q)(f g:Nat->Nat):∀n,sm p n (λj=>p (f j) (g j))=p (sm p n f) (sm p n g)
 | 0=>(r.z r.pos).symm
 | n+1=>by rw[sm,ue r f g n,sm,sm,r.four]
theorem uf(r:Rg N p q)(c:Nat)(f:Nat->Nat):∀n,sm p n (λj=>q c (f j))=q c (sm p n f)
 | 0=>(r.qz c).symm
 | n+1=>by rw[sm,uf r c f n,sm,r.dl]
theorem UQ(r:Rg N p q)(F:Nat->Nat->Nat)(k:Nat):∀n,sm p n (λi=>sm p k λj=>F i j)=sm p k λj=>sm p n λi=>F i j
 | 0=>(nE r λ_ _=>rfl).symm
 | n+1=>by
  rw[sm,UQ r F k n,<- ue r];rfl
end
end L3
namespace L3
section
variable{N:Nat}{p q:Nat->Nat->Nat}
end
end L3
namespace L3
open PySem L2 Mf
theorem rg{m:Bool × Nat}(hm:m∈aM):Rg (ag m) (gp m) (gm m) where
 pc:=yU m
 pa:=b95 m
 mc:=kF m
 ma:=λ_ _ _=>mn (dP m hm) _ _ _
 dl:=λa b c=>cF9 (dP m hm) b c a
 z:=HH
 qz:=λa=>t7 m a (dP m hm)
 one:=nC
 lp:=cO0 hm
 lq:=gr hm
 ng:=λ{a} ha=>by
  have g:=js hm (a:=0) (b:=a) (by omega) ha
  exact⟨_,g.2.1,(yU m _ _).trans g.2.2⟩
theorem cf2(p:Nat->Nat->Nat)(l:List Nat):l.foldl p 0=sm p l.length λj=>l.getD j 0:=by
 have key:∀n,n<=l.length->(l.take n).foldl p 0=sm p n λj=>l.getD j 0:=by
  intro n
  induction n with
  | zero=>intro _;rfl
  | succ n ih =>
   intro h
   rw[AH,aU (by omega),Fc,ih (by omega),sm,aT,aU (show n<l.length by omega)]
   rfl
 have:=key l.length (bB _)
 rw[EX]at this
 exact this
theorem cC2{m:Bool × Nat}(hm:m∈aM)(f:Nat)(b:List Nat)(j:Nat):cf (b.map (gm m f)) j=gm m f (cf b j):=by
 unfold cf
 rw[aT,bV,aT]
 cases b[j]? with
 | none=>exact(t7 m f (dP m hm)).symm
 | some x=>rfl
theorem cS4{m:Bool × Nat}(hm:m∈aM){a b:Nat}(ha:a<ag m)(hb:b<ag m)(h0:b≠0):∃r,r<ag m/\gm m r b=a:=by
 by_cases a0:a=0
 ·exact⟨0,by have:=(eI hm).lo;omega,by rw[a0];exact iw m b (dP m hm)⟩
 ·obtain⟨r,_,h1,h2⟩:=UG hm (show 1<=a by omega) ha (show 1<=b by omega) hb
  exact⟨r,h1,h2⟩
end L3
namespace L3
open PySem L2 PySem.Spec PyProof.Rows
section
variable{X:Cx}{i j:Nat}{x y:Str}{p pos pos' apos bM:Pos}
end
section
variable{X:Cx}{e:Expr}{t:aG}{p pos:Pos}
end
section
variable{X:Cx}
theorem ce7(i:Int)(ns:List Int):BA (.int i) (ns.map V.int)=decide (i∈ns):=by
 unfold BA
 rw[List.any_map,wz,List.any_eq_true,decide_eq_true_iff]
 exact⟨λ⟨x,hx,he⟩=>(show x=i by simpa[kg]using he) ▸ hx,λhx=>⟨i,hx,by simp[kg]⟩⟩
noncomputable def p8:bZ:=λx y Q=>match x,y with
 | .int i,.lst _ xs=>∃ns:List Int,xs=aC ns/\Q (.bl (!decide (i∈ns)))
 | _,_=>False
theorem cD0:bI X (compareOp .NotIn) p8 :=
 ⟨_,bF0,λ{B F H σ δ ts x y v w Q Qd} c sx sy h k=>by
  unfold p8 at h
  split at h
  ·rename_i i o xs
   obtain⟨ns,rfl,q⟩:=h
   obtain⟨p,ws,rfl,e1,s1⟩:=ie sy c.ext
   have e:=Hj s1
   subst e
   cases sx
   refine⟨p,_,rfl,.inl (bH.of e1),rfl,by simp[lh],?_⟩
   rw[if_pos rfl,ce7]
   exact k _ _ _ q (aa.refl _) (c.pushS (.bl .nil) rfl)
  ·exact h.elim⟩
end
end L3
namespace L3
open PySem L2 Mf
noncomputable def aH(o:Bool)(T:List (List Nat)):List D:=T.map λr=>.lst o (aq r)
theorem nF(o:Bool)(T:List (List Nat)):(aH o T).length=T.length:=by unfold aH;rw[bK]
theorem eW(o:Bool)(T:List (List Nat)):(aH o T).map D.sh=aH false T:=by
 unfold aH
 rw[dD]
 exact og λr _=>yW o r
theorem yY(T:List (List Nat)):(aH false T).all D.pl=true:=by
 unfold aH
 rw[kQ,cS]
 intro r _
 show(D.lst false (aq r)).pl=true
 rw[gb,me];rfl
theorem yZ(T:List (List Nat)):(aH true T).all D.fr=true:=by
 unfold aH
 rw[kQ,cS]
 intro r _
 exact iy r
theorem Cr(o:Bool)(S T:List (List Nat)):aH o S++aH o T=aH o (S++T):=by unfold aH;rw[iG]
theorem y0(o:Bool)(T:List (List Nat))(lo hi:Option Int):eO (aH o T) lo hi=aH o (eO T lo hi):=by
 unfold aH eO
 rw[bK,List.map_take,List.map_drop]
theorem HL(o:Bool){T:List (List Nat)}{i:Nat}(h:i<T.length):eH (aH o T) (i:Int)=some (.lst o (aq T[i])):=by
 refine L3.TF ?_
 unfold aH
 rw[bV,aU h];rfl
theorem bX7(n:Nat)(o:Bool)(T:List (List Nat)):(aH o T).all (cj (n+1))=true:=by
 unfold aH
 rw[kQ,cS]
 intro r _
 exact pZ _ _ _
theorem y6(n:Nat)(o o':Bool)(T:List (List Nat)):cj (n+2) (.lst o (aH o' T))=true:=bX7 n o' T
theorem UR(o o':Bool):∀(a b:List (List Nat)),bq.dZ (aH o a) (aH o' b)=decide (a=b)
 | [],[]=>rfl
 | [],_::_=>by simp[aH,bq.dZ]
 | _::_,[]=>by simp[aH,bq.dZ]
 | x::xs,y::ys=>by
  show(bq (.lst o (aq x)) (.lst o' (aq y))&&bq.dZ (aH o xs) (aH o' ys))=_
  rw[UR o o' xs ys,p5,wz];simp
theorem HM(o o' o1 o2:Bool)(a b:List (List Nat)):bq (.lst o (aH o1 a)) (.lst o' (aH o2 b))=decide (a=b):=UR o1 o2 a b
open Classical in
theorem y7{α:Type}{sh:Bool}{xs:List D}{ax:List (Str × Nat)}{n:Nat}{g0:gK}{tt:eU}{te:aG}{ah:Dl}{Q:D->Dl->Prop}(l:List α)(e g:α->D)(kp:α->Bool)(ir:xs.map D.sh=l.map e)(inj:∀a b,e a=e b->a=b)
  (hx:∀a∈l,g0 (e a) (fc ax n ah) λaN=>tt aN λb gJ=>b=kp a/\(kp a=true->te gJ λd _=>d=g a)) (dU:(sh&&ax.all (ib ah))=true\/∀a∈l,kp a=true->(g a).fr=true) (hl:l.length<=sizeLine) (hq:Q (.lst true ((l.filter kp).map g)) ah):sg sh xs ax n g0 tt te ah Q:=by
 have pick:∀{β:Type} (h:α->β) (z:β),∃f:D->β,∀a∈l,f (e a)=h a:=λh z=>⟨λx=>if w:∃a∈l,e a=x then h w.choose else z,λa ha=>by
  have w:∃b∈l,e b=e a:=⟨a,ha,rfl⟩
  show(if w:∃b∈l,e b=e a then h w.choose else z)=h a
  rw[dif_pos w]
  exact congrArg h (inj _ _ w.choose_spec.2)⟩
 obtain⟨f,hf⟩:=pick g .aj
 obtain⟨p,hp⟩:=pick kp false
 refine⟨p,f,λx h=>?_,dU.imp id λh x du=>?_,?_,?_⟩
 ·rw[ir]at h
  obtain⟨a,ha,rfl⟩:=cI.mp h
  rw[hp a ha,hf a ha]
  exact hx a ha
 ·rw[ir]at du
  obtain⟨a,ha,rfl⟩:=cI.mp du
  rw[hp a ha,hf a ha];exact h a ha
 ·have:=congrArg EI ir
  simp at this
  omega
 ·rw[ir,List.filter_map,dD,show l.filter (p ∘ e)=l.filter kp from Fd λa ha=>hp a ha,show(l.filter kp).map (f ∘ e)=(l.filter kp).map g from og λa ha=>hf a (mH.mp ha).1]
  exact hq
theorem ce8{o:Bool}{G:List (List Nat)}{i:Nat}{d:D}(h:(dE (aH o G))[i]?=some d):∃hi:i<G.length,d=.tup [.int i,.lst o (aq G[i])]:=by
 unfold dE aH at h
 rw[oa,bV]at h
 by_cases hi:i<G.length
 ·rw[aU hi]at h
  exact⟨hi,(cP h).symm⟩
 ·rw[fh (by omega)]at h;cases h
theorem ce6(r:List Nat):(dE (aq r)).map D.sh=(bo r.length).map λ(i:Nat)=>D.tup [.int (i:Int),.int ((r.getD i 0:Nat):Int)]:=by
 apply E5
 intro i
 unfold dE
 rw[eo,bV,oa,bV,bV]
 by_cases hi:i<r.length
 ·have e:r.getD i 0=r[i]:=by rw[aT,aU hi];rfl
  rw[aU hi,jX hi]
  show _=some (D.tup [D.int (i:Int),D.int ((r.getD i 0:Nat):Int)])
  rw[e];rfl
 ·rw[fh (show r.length<=i by omega),fh (show(bo r.length).length<=i by simpa using hi)];rfl
theorem b77{r:List Nat}(h:∃x∈r,x≠0):((bo r.length).filter λi=>r.getD i 0 != 0)[0]?=some (r.findIdx (· != 0)):=by
 obtain⟨x,hx,h0⟩:=h
 have hl:r.findIdx (· != 0)<r.length:=π ⟨x,hx,by simpa using h0⟩
 rw[<-List.head?_eq_getElem?,List.head?_filter,List.find?_range_eq_some]
 refine⟨?_,dz.mpr hl,λj hj=>?_⟩
 ·rw[aT,aU hl]
  exact List.findIdx_getElem (w:=hl)
 ·have:=List.not_of_lt_findIdx hj
  rw[aT,aU (by omega)]
  simpa using this
noncomputable def aW(T:List (List Nat)):Nat:=(T.headD []).length
noncomputable def iZ(T:List (List Nat))(j:Nat):Option Nat:=T.findIdx? λr=>r.getD j 0 != 0
noncomputable def ft(m:Bool × Nat)(T:List (List Nat))(l:List Nat)(j:Nat):List (List Nat):=T.map λr=>dS (λx y=>bQ m x (gm m (r.getD j 0) y)) r l
noncomputable def y8(m:Bool × Nat)(b:Nat):Nat:=((bo (ag m)).find? λr=>gm m r b==1).getD 0
theorem US{m:Bool × Nat}(hm:m∈aM){b r:Nat}(hr:r<ag m)(h:gm m r b=1):y8 m b=r:=by
 have m0:=dP m hm
 unfold y8
 cases e:(bo (ag m)).find? λr=>gm m r b==1 with
 | none =>
  have:=List.find?_eq_none.mp e r (dz.mpr hr)
  simp[h]at this
 | some r' =>
  have h':gm m r' b=1:=by simpa using List.find?_some e
  have l':r'<ag m:=dz.mp (ι e)
  show r'=r
  rw[<-tZ hr,<- h',<- mn m0,kF m r r',mn m0,h,tZ l']
noncomputable def RT(N w:Nat)(T:List (List Nat)):Prop:=∀r∈T,r.length=w/\AllLt N r
theorem RT.app{N w:Nat}{S T:List (List Nat)}(a:RT N w S)(b:RT N w T):RT N w (S++T):=λr hr=>(cO.mp hr).elim (a r) (b r)
theorem UT{m:Bool × Nat}(hm:m∈aM){w j:Nat}{T:List (List Nat)}{l:List Nat}(h:RT (ag m) w T)(hl:l.length=w):RT (ag m) w (ft m T l j):=λr hr=>by
 obtain⟨r,h1,rfl⟩:=cI.mp hr
 obtain⟨a,b⟩:=h r h1
 exact⟨by rw[wJ,a,hl,E2],UN λx hx y hy=>(js hm (b x hx) (gr hm _ y)).2.1⟩
noncomputable def dw(m:Bool × Nat)(T:List (List Nat))(i p:Nat):List Nat:=(T.getD i []).map (gm m (y8 m ((T.getD i []).getD p 0)))
noncomputable def gv(m:Bool × Nat)(s:List (List Nat) × List (List Nat))(p:Nat):List (List Nat) × List (List Nat):=match iZ s.2 p with
 | none=>s
 | some i=>(ft m s.1 (dw m s.2 i p) p++[dw m s.2 i p],ft m (s.2.take i++s.2.drop (i+1)) (dw m s.2 i p) p)
noncomputable def i3(m:Bool × Nat)(G:List (List Nat))(k:Nat):List (List Nat) × List (List Nat):=(bo k).foldl (gv m) ([],G)
noncomputable def et(m:Bool × Nat)(G:List (List Nat)):List (List Nat):=(i3 m G (aW G)).1
theorem HN(m:Bool × Nat)(G:List (List Nat))(k:Nat):i3 m G (k+1)=gv m (i3 m G k) k:=by
 unfold i3
 rw[AM,Fc];rfl
theorem Cs{T:List (List Nat)}{j i:Nat}(h:iZ T j=some i):∃hi:i<T.length,T[i].getD j 0≠0/\T.getD i []=T[i]:=by
 obtain⟨hi,h1,_⟩:=ρ.mp h
 exact⟨hi,by simpa using h1,by rw[aT,aU hi];rfl⟩
structure y9(N w n:Nat)(s:List (List Nat) × List (List Nat)):Prop where
 a:RT N w s.1
 b:RT N w s.2
 l:s.1.length+s.2.length<=n
theorem cg2{m:Bool × Nat}(hm:m∈aM){w n p:Nat}{s:List (List Nat) × List (List Nat)}(h:y9 (ag m) w n s):y9 (ag m) w n (gv m s p):=by
 unfold gv
 split
 ·exact h
 ·rename_i i e
  obtain⟨hi,h1,h2⟩:=Cs e
  have hl:(dw m s.2 i p).length=w:=by unfold dw;rw[bK,h2];exact(h.b _ (eY hi)).1
  have hr:RT (ag m) w [dw m s.2 i p]:=λr hr=>by
   rw[fS]at hr
   refine⟨by rw[hr];exact hl,λx hx=>?_⟩
   rw[hr]at hx
   obtain⟨y,_,rfl⟩:=cI.mp hx
   exact gr hm _ _
  refine⟨(UT hm h.a hl).app hr,UT hm (λr hr=>h.b r ?_) hl,?_⟩
  ·rcases cO.mp hr with hr | hr
   ·exact E4 hr
   ·exact E3 hr
  ·have:=h.l
   unfold ft
   rw[gA,bK,bK,gA,qF,Az]
   show s.1.length+1+_<=n
   omega
theorem Ct{m:Bool × Nat}(hm:m∈aM){w:Nat}{G:List (List Nat)}(h:RT (ag m) w G):∀k,y9 (ag m) w G.length (i3 m G k)
 | 0=>⟨(λr hr=>nomatch hr),h,EH (Qx _)⟩
 | k+1=>by rw[HN];exact cg2 hm (Ct hm h k)
theorem cf7(j:Nat)(l:List Nat):decide ((j:Int)∈l.map λ(n:Nat)=>(n:Int))=l.contains j:=by
 rw[wz,decide_eq_true_iff,Fe,cI]
 exact⟨λ⟨a,h,e⟩=>(show a=j by omega) ▸ h,λh=>⟨j,h,rfl⟩⟩
theorem cs8{o:Bool}{G:List (List Nat)}{f:List Nat->Nat}{k:Nat}{d:D}(h:(eL (aq (G.map f)) (aH o G))[k]?=some d):∃hk:k<G.length,d=.tup [.int ((f G[k]:Nat):Int),.lst o (aq G[k])]:=by
 unfold eL aH at h
 rw[eo,wK,bV,bV,bV]at h
 by_cases hk:k<G.length
 ·rw[aU hk]at h
  exact⟨hk,(cP h).symm⟩
 ·rw[fh (by omega)]at h;cases h
theorem UU{α:Type}(a:α->Nat)(b:α->Nat):∀(l:List α) (x:List Nat),(l.foldl (λx z=>x.set (a z) (b z)) x).length=x.length
 | [],_=>rfl
 | z::l,x=>by rw[qK,UU a b l,gR]
end L3
namespace L2
open PySem PySem.Spec PyProof.Rows
theorem bP1{M:Model}{A:Around}{E:Value->Shared->Prop}{s:Shared}{scope:Scope}{globals:Addr}{cl:List (Str × Addr)}{qual:Str}{env:Env}{bi:Addr}{Q:Env->Shared->Prop}
  (hQ:Q (newEnv scope s.heap.objs.size globals (cellsFrom (s.heap.objs.size+1) scope.names cl) qual none .none (some env) bi) { s with heap:=pushCells (s.heap.push { cls:=.type "dict",data:=.dict #[] }) scope.names }) :
  wpAny M A (newFunctionEnv scope globals cl [] qual none .none (some env) bi) Q E s:=by
 simp only[newFunctionEnv,Option.isSome_some,if_true]
 refine wpAny_bind (wpAny_alloc (wpAny_bind (wpAny_layCells _ (λname kind cells=>by cases e:kind==Ff<;>simp[e]) _ _ _ _ ?_)))
 rw[List.forIn_nil]
 refine wpAny_bind (wpAny_pure (wpAny_pure ?_))
 have z:({ s with heap:=s.heap.push { cls:=.type "dict",data:=.dict #[] } }:Shared).heap.objs.size=s.heap.objs.size+1:=qC ..
 rw[z]
 exact hQ
theorem za:∀(ns:List (Str × NameKind)) (n:Nat) (acc:List (Str × Addr)) (y:Str) (c:Addr),(cellsFrom n ns acc).lookup y=some c->(n<=c/\(y,Ff)∈ns)\/acc.lookup y=some c
 | [],_,_,_,_,h=>.inr h
 | (z,k)::r,n,acc,y,c,h=>by
  unfold cellsFrom at h
  split at h
  ·rename_i hk
   rcases za r (n+1) _ y c h with⟨h1,h2⟩ | h1
   ·exact .inl ⟨by omega,gz _ h2⟩
   ·rw[fg]at h1
    cases q:y==z with
    | true =>
     rw[q]at h1;cases h1
     exact .inl ⟨bB _,by rw[eq_of_beq q,eq_of_beq hk];exact mI⟩
    | false=>rw[q]at h1;exact .inr h1
  ·rcases za r n acc y c h with⟨h1,h2⟩ | h1
   ·exact .inl ⟨h1,gz _ h2⟩
   ·exact .inr h1
theorem HP:∀(ns:List (Str × NameKind)) (n:Nat) (acc:List (Str × Addr)),(∀y z c,acc.lookup y=some c->acc.lookup z=some c->y=z)->(∀y c,acc.lookup y=some c->c<n) ->
  ∀y z c,(cellsFrom n ns acc).lookup y=some c->(cellsFrom n ns acc).lookup z=some c->y=z
 | [],_,_,i,_,y,z,c,h1,h2=>i y z c h1 h2
 | (u,k)::r,n,acc,i,b,y,z,c,h1,h2=>by
  unfold cellsFrom at h1 h2
  split at h1
  ·rw[if_pos (by assumption)]at h2
   refine HP r (n+1) ((u,n)::acc) (λy z c e1 e2=>?_) (λy c e=>?_) y z c h1 h2
   ·rw[fg]at e1 e2
    cases q1:y==u with
    | true =>
     rw[q1]at e1;cases e1
     cases q2:z==u with
     | true=>rw[eq_of_beq q1,eq_of_beq q2]
     | false=>rw[q2]at e2;exact absurd (b _ _ e2) (fM _)
    | false =>
     rw[q1]at e1
     cases q2:z==u with
     | true=>rw[q2]at e2;cases e2;exact absurd (b _ _ e1) (fM _)
     | false=>rw[q2]at e2;exact i y z c e1 e2
   ·rw[fg]at e
    cases q:y==u with
    | true=>rw[q]at e;cases e;exact Av _
    | false=>rw[q]at e;exact Qq (b _ _ e)
  ·rw[if_neg (by assumption)]at h2
   exact HP r n acc i b y z c h1 h2
theorem HQ:∀(ns:List (Str × NameKind)) (n:Nat) (acc:List (Str × Addr)) (y:Str) (c:Addr),(y,Ff)∈ns->(cellsFrom n ns acc).lookup y=some c->n<=c
 | [],_,_,_,_,m,_=>nomatch m
 | (z,k)::r,n,acc,y,c,m,h=>by
  unfold cellsFrom at h
  split at h
  ·rename_i hk
   rcases cE.mp m with e | m
   ·have e1:y=z:=(Prod.mk.inj e).1
    rcases za r (n+1) _ y c h with⟨h1,_⟩ | h1
    ·exact AN h1
    ·rw[fg,e1,beq_self_eq_true]at h1
     exact EH (cP h1)
   ·exact AN (HQ r (n+1) _ y c m h)
  ·rename_i hk
   rcases cE.mp m with e | m
   ·cases e;exact absurd rfl hk
   ·exact HQ r n acc y c m h
noncomputable def dy(X:Cx)(scope:Scope)(N:List Str)(cl:List (Str × Addr))(C:Addr)(s:Shared)(H:Hp)(fp:List Addr):Cx :=
 { BF X scope N (cellsFrom (C+1) scope.names cl) C s H fp with fn:=λy=>scope.names.contains (y,Ff) }
section
variable{X:Cx}{scope:Scope}{cl:List (Str × Addr)}
theorem cb7{pins:List (Addr × Obj)}{σ:St}{H:Hp}{s:Shared}{fp:List Addr}{C:Addr}(I:Inv X pins σ H s)(hJ:scope.kind=.function)(hC:s.heap.objs.size<=C)
  (eV:∀y c,cl.lookup y=some c->X.env.cells.lookup y=some c) (dE8:∀y,((relabel scope X.env).names.lookup y=some .cell\/(relabel scope X.env).names.lookup y=some .free)->∃c,(cellsFrom (C+1) scope.names cl).lookup y=some c)
  (hf:∀b∈fp,g5 X pins H b) (ho:∀b∈fp,∃o,s.heap.get? b=some o/\∀v,o.data≠.cell v) (N:List Str):(dy X scope N cl C s H fp).Ok where
 mod:=I.ok.mod
 kind:=hJ
 glob:=I.ok.glob
 blt:=I.ok.blt
 above:=hC
 inj:=HP scope.names (C+1) cl (λy z c h1 h2=>I.ok.inj y z c (eV _ _ h1) (eV _ _ h2)) λy c e=>by
  obtain⟨v,o,ho,_⟩:=I.cell y c (eV y c e)
  exact Nat.lt_succ_of_le (qw (cy (bF ho) hC))
 has:=dE8
 kU:=λy c h e=>eA hC (AN (HQ _ _ _ y c (Fe.mp h) e))
 hd:=I.ok.hd
 frames:=I.ok.frames
 oj:=.inl rfl
 om:=λb hb=>⟨by
  obtain⟨o,e,_⟩:=ho b hb
  exact dQ (cy (bF e) hC),λy c e z=>by
  rcases za _ _ _ y c e with⟨h1,_⟩ | h1
  ·obtain⟨o,e,_⟩:=ho b hb
   rw[z]at h1
   exact absurd (cy (bF e) (eA hC (AN h1))) (fM _)
  ·exact(hf b hb).2.2.2.2.1 y c (eV _ _ h1) z⟩
 bs:=I.bs
 gX:=eA I.ok.gX I.sz
 mO:=λb o e hb=>by
  rcases(hf b hb).2.2.2.1 with z | z
  ·exact I.ok.mO b o e z
  ·exact absurd (cy (bF (I.ok.bs b o e).1) z) (fM _)
 mP:=λb hb z=>(cE.mp (I.wU b z)).elim (hf b hb).2.1 (hf b hb).2.2.1
 eZ:=I.stack
 gY:=I.Bc
end
theorem HR:∀(ns:List (Str × NameKind)) (h:Heap) (acc:List (Str × Addr)) (y:Str) (c:Addr),(cellsFrom h.objs.size ns acc).lookup y=some c->(∃o,(pushCells h ns).get? c=some o/\o.data=.cell none)\/acc.lookup y=some c
 | [],_,_,_,_,e=>.inr e
 | (z,k)::r,h,acc,y,c,e=>by
  unfold cellsFrom at e
  unfold pushCells
  split at e
  ·rename_i hk
   rw[if_pos hk]
   rw[<-qC h { cls:=.type "cell",data:=.cell none }]at e
   rcases HR r _ _ y c e with h1 | h1
   ·exact .inl h1
   ·rw[fg]at h1
    cases q:y==z with
    | true =>
     rw[q]at h1;cases h1
     exact .inl ⟨_,pushCells_keeps _ _ _ _ (fO _ rfl),rfl⟩
    | false=>rw[q]at h1;exact .inr h1
  ·rename_i hk
   rw[if_neg hk]
   exact HR r h acc y c e
end L2
namespace L2
open PySem PySem.Spec PyProof.Rows
section
variable{X:Cx}{elt iter tg:Expr}{pos:Pos}{ifs:List Expr}{scope:Scope}{cl:List (Str × Addr)}{wi:TI}{tt:TT}{te:TE}{g:TG}
theorem UW(ax:List (Str × Nat))(bN:List Str)(hc:X.calm=true)(hi:PI X tg iter wi)
  (hg:∀C s H fp,PG (dy X scope (ax.map (·.1)++bN) cl C s H fp) tg g)
  (ht:∀C s H fp,lD (dy X scope (ax.map (·.1)++bN) cl C s H fp) ifs tt) (he:∀C s H fp,PE (dy X scope (ax.map (·.1)++bN) cl C s H fp) elt te)
  (mq:closureFor scope X.env=pure cl) (mr:lF X cl) (mw:∀C:Addr,lH (cellsFrom (C+1) scope.names cl) (relabel scope X.env).names) (mx:∀C:Addr,lC X scope (cellsFrom (C+1) scope.names cl) ax)
  (hJ:scope.kind=.function) (my:∀y∈scope.names,y.2=.local->scope.names.lookup y.1=some .local)
  (hs:∀x,foldedSetIterable iter X.env x=pure x:=by intro _;rfl) {pins:List (Addr × Obj)} {s:Shared} {σ:L2.St} {H:Hp} {Q:VK} {use:Option (Value->Sem Unit)} {bM:Pos} {Rf:Value->Shared->Prop} (I:Inv X pins σ H s) (h:BG wi ax bN.length g tt te σ H Q)
  (dE9:∀(s':Shared) (H':Hp) (C Da:Addr) (m:Str->Option Value),Inv X pins σ H' s'->s'.heap.Ns C m->H' C=none->C≠X.env.locals->X.ck.heap.objs.size<=C->(∀x c,X.env.cells.lookup x=some c->c≠C)->(∀p∈X.pn++pins,p.1≠C)->C ∉ X.fs->Q (.ref Da) H' ->
   compPost (model X.prog X.w) X.A X.xe use Rf (.ref Da) C (.ok .next) s') :
  wpAny (model X.prog X.w) X.A (comprehension (.ListComp elt [⟨tg,iter,ifs,0⟩] scope pos) scope X.env bM (newList []) false (eval iter X.env) use) Rf X.xe s:=by
 have eV:=mr.all
 refine wpAny_comprehension_free (use:=use) rfl hs mq hJ my (aL (hi pins s σ H _ I h) λv s1 h1=>aL h1 λFA s2 h2=>?_)
 obtain⟨it,fp,tn,J,H2,e,I2,T,xb,f2,q⟩:=h2
 subst e
 refine wpAny_newList ?_
 refine bP1 ?_
 have hD:H2 s2.heap.objs.size=none:=I2.aA.fresh (bB _)
 obtain⟨W,⟨m0,w0⟩,turn⟩:=q s2.heap.objs.size hD
 generalize HS:s2.heap.push { cls:=.type "list",data:=.seq ([]:List Value).toArray }=g0 at ⊢
 have hCs:g0.objs.size=s2.heap.objs.size+1:=by rw[<-HS,qC]
 have hDC:s2.heap.objs.size≠g0.objs.size:=by omega
 have hle:s2.heap.objs.size<=g0.objs.size:=by omega
 have qT:∀b o,s2.heap.get? b=some o->b≠g0.objs.size:=λb o e=>dQ (cy (bF e) hle)
 obtain⟨g1,Cu⟩:∃g1,g1=pushCells (g0.push { cls:=.type "dict",data:=.dict #[] }) scope.names:=⟨_,rfl⟩
 have ns1:g1.Ns g0.objs.size (λ_=>none):=by rw[Cu];exact(Heap.Ns.new g0 (.type "dict")).keeps (pushCells_keeps _ _)
 have UX:∀b o,g0.get? b=some o->g1.get? b=some o:=λb o e=>by rw[Cu];exact pushCells_keeps _ _ b o (eM _ e)
 have old:∀b o,s2.heap.get? b=some o->g1.get? b=some o:=λb o e=>UX b o (HS ▸ eM _ e)
 rw[<-Cu]
 have hDg:g1.get? s2.heap.objs.size=some { cls:=.type "list",data:=.seq ([]:List Value).toArray }:=UX _ _ (HS ▸ fO _ rfl)
 have UY:∀b∈fp,∃o,s2.heap.get? b=some o/\∀v,o.data≠.cell v:=T.obj _ _ xb
 have Cv:=cb7 (scope:=scope) (cl:=cl) (C:=g0.objs.size) I2 hJ hle eV (mw g0.objs.size).all f2 UY (ax.map (·.1)++bN)
 have I4:Inv (dy X scope (ax.map (·.1)++bN) cl g0.objs.size s2 H2 fp) [] (fY ax bN.length σ) (upd H2 s2.heap.objs.size (.lst [])) { s2 with heap:=g1 }:=by
  refine⟨Cv,rfl,I2.bare,Un.laid old (bB _) hD,⟨_,ns1,λi y v h1 h2 h3=>?_⟩,λy c e=>?_,?_,λy c e=>?_,λp hp=>absurd hp (by simp[dy,BF]),I2.aA.laid old (bB _) ⟨qD _,[],0,.nil,hDg⟩,by simp[fY,dy,BF]⟩
  ·by_cases HU:i<ax.length
   case neg =>
    have iO:((ax.map λp=>(σ[p.2]?).getD none)++aw bN.length none)[i]?=some (some v):=h2
    rw[qG (by simpa using HU),iF]at iO
    split at iO<;>cases iO
   case pos =>
    have jl:(ax.map (·.1))[i]?=some y:=by
     have z:(ax.map (·.1)++bN)[i]?=some y:=h1
     rwa [wo (by simpa using HU)]at z
    have iO:(ax.map λp=>(σ[p.2]?).getD none)[i]?=some (some v):=by
     have z:((ax.map λp=>(σ[p.2]?).getD none)++aw bN.length none)[i]?=some (some v):=h2
     rwa [wo (by simpa using HU)]at z
    rw[bV]at jl iO
    cases hj:ax[i]? with
    | none=>rw[hj]at jl;cases jl
    | some p =>
     rw[hj]at jl iO
     have ey:p.1=y:=cP jl
     have ev:(σ[p.2]?).getD none=some v:=cP iO
     obtain⟨hN,hk,UZ,c,e1,e2⟩:=(mx g0.objs.size).at p (qH hj)
     obtain⟨m,hn,hl⟩:=I2.loc
     have es:σ[p.2]?=some (some v):=by
      cases z:σ[p.2]? with
      | none=>rw[z]at ev;cases ev
      | some o=>rw[z]at ev;exact congrArg some ev
     obtain⟨u,ru,lk⟩:=hl p.2 p.1 v hN es (hk.elim (λz=>.inr (.inl z)) λz=>.inr (.inr z))
     refine⟨u,ru,?_⟩
     rcases lk with⟨lk,_⟩ | ⟨_,c',e3,ic⟩
     ·rcases hk with hk | hk
      ·have:=hk.symm.trans lk;cases this
      ·have:=hk.symm.trans lk;cases this
     ·rw[e2]at e3
      cases e3
      subst ey
      obtain⟨oc,gZ,Hs⟩:=ic
      exact .inr ⟨UZ,c,e1,oc,old _ _ gZ,Hs⟩
  ·rcases HR _ _ _ y c (show(cellsFrom (g0.push { cls:=.type "dict",data:=.dict #[] }).objs.size scope.names cl).lookup y=some c by rw[qC];exact e)with h1 | h1
   ·rw[<-Cu]at h1
    exact⟨none,h1⟩
   ·obtain⟨v,o,ho,hd⟩:=I2.cell y c (eV y c h1)
    exact⟨v,o,old _ _ ho,hd⟩
  ·show upd H2 _ _ g0.objs.size=none
   rw[aQ (dR hDC)]
   exact I2.aA.fresh hle
  ·rcases za _ _ _ y c e with⟨h1,_⟩ | h1
   ·rw[aQ (Qc (gS hle h1))]
    exact I2.aA.fresh (eA hle (AN h1))
   ·obtain⟨v,o,ho,hd⟩:=I2.cell y c (eV y c h1)
    rw[aQ (dQ (bF ho))]
    exact I2.eT y c (eV y c h1)
 have fin:∀(s':Shared) (H':Hp) (ay:L2.St),Inv (dy X scope (ax.map (·.1)++bN) cl g0.objs.size s2 H2 fp) [] ay H' s'->Q (.ref s2.heap.objs.size) H' ->
   compPost (model X.prog X.w) X.A X.xe use Rf (.ref s2.heap.objs.size) g0.objs.size (.ok .next) s':=by
  intro s' H' ay I' q'
  obtain⟨m,hn,_⟩:=I'.loc
  have u:=I'.base
  have hC':H' g0.objs.size=none:=I'.free
  have IX:Inv X pins σ H' s':=I2.QK (s':=s') (ch:=fp) I'.os ⟨u.keep,u.slot,u.free,u.there,u.gB,u.fU,u.fi⟩ I'.aA I'.bare λb hb=>by
   obtain⟨_,y1,y2,y3,y4,y5⟩:=f2 b hb
   exact⟨y3,y1,y4,y5⟩
  have U0:∀b,(∃o,s2.heap.get? b=some o)->b≠g0.objs.size:=λb ⟨o,e⟩=>qT b o e
  refine dE9 s' H' g0.objs.size s2.heap.objs.size m IX hn hC' (λz=>?_) (eA I2.sz hle) (λx c e z=>?_) (λp hp z=>?_) (λz=>?_) q'
  ·have h0:X.env.locals<s2.heap.objs.size:=I2.lt
   rw[<-z]at h0
   exact fM _ (cy h0 hle)
  ·obtain⟨v,o,ho,_⟩:=I2.cell x c e
   exact U0 c ⟨o,ho⟩ z
  ·exact U0 p.1 ⟨_,(I2.pin p hp).1⟩ z
  ·exact I2.QE hle z
 have HV:∀(H':Hp),(∀b∈fp,H' b=none)->∀b∈fp,g5 (dy X scope (ax.map (·.1)++bN) cl g0.objs.size s2 H2 fp) [] H' b:=λH' hn b hb =>
  ⟨hn b hb,(Cv.om b hb).1,Cv.mP b hb,.inl hb,(Cv.om b hb).2,λp hp=>absurd hp (by simp[dy,BF])⟩
 have loop:codeAny (model X.prog X.w) X.A (.compLoop (.ListComp elt [⟨tg,iter,ifs,0⟩] scope pos) 0 (.ref it) (.ref s2.heap.objs.size) (compEnvC scope (cellsFrom (g0.objs.size+1) scope.names cl) g0.objs.size X.env))
   (compPost (model X.prog X.w) X.A X.xe use Rf (.ref s2.heap.objs.size) g0.objs.size) { s2 with heap:=g1 }:=by
  refine bF1 (λn s'=>∃i acc H',Inv (dy X scope (ax.map (·.1)++bN) cl g0.objs.size s2 H2 fp) [] (fY ax bN.length σ) H' s'/\tn i s'.heap/\(∀b∈fp,H' b=none)/\W i n acc H') ?_ m0
   ⟨0,[],_,I4,T.keep _ _ _ xb λb hb o e=>old b o e,λb hb=>?_,w0⟩
  ·rintro n s' ⟨i,acc,H',I',mS,tT,w'⟩
   obtain⟨GK,⟨stop,qn⟩ | ⟨go,step⟩⟩:=turn i n acc H' w'
   ·refine aL (T.done (dy X scope (ax.map (·.1)++bN) cl g0.objs.size s2 H2 fp) rfl rfl rfl hc i [] s' _ H' (λ_ _=>False) I' (HV H' tT) mS stop) λr t1 zz=>?_
    obtain⟨hr,I1⟩:=zz
    subst hr
    exact fin _ _ _ I1 qn
   ·refine aL (T.item (dy X scope (ax.map (·.1)++bN) cl g0.objs.size s2 H2 fp) rfl rfl rfl hc i [] s' _ H' (λ_ _=>False) I' (HV H' tT) mS go) λr t1 zz=>?_
    obtain⟨u,hr,h4⟩:=zz
    subst hr
    refine aL h4 λ_ t2 zz=>?_
    obtain⟨x5,H5,I5,r5,y5,oy,xf⟩:=zz
    obtain⟨BR,st6⟩:=step x5 H5 y5
    have FF:=I5.pinned (HV H5 xf) (T.obj _ _ oy)
    refine aL (hg _ _ _ _ _ t2 _ H5 x5 u _ FF r5 st6) λ_ t3 zz=>?_
    obtain⟨Bq,H6,I6,⟨dF5,dF6⟩,st7⟩:=zz
    have back:∀(s7:Shared) (H7:Hp) (HW:List V) (m7:Nat),Inv (dy X scope (ax.map (·.1)++bN) cl g0.objs.size s2 H2 fp) ([]++w6 fp t2.heap) Bq H7 s7->W (i+1) m7 HW H7 ->
      ∃i acc H',Inv (dy X scope (ax.map (·.1)++bN) cl g0.objs.size s2 H2 fp) [] (fY ax bN.length σ) H' s7/\tn i s7.heap/\(∀b∈fp,H' b=none)/\W i m7 acc H':=λs7 H7 HW m7 I7 w7 =>
     ⟨i+1,HW,H7,(I7.w9).weak dF5.symm λj v z=>by
       by_cases hj:j<ax.length
       ·rw[dF6 j hj];exact z
       ·have z':((ax.map λp=>(σ[p.2]?).getD none)++aw bN.length none)[j]?=some (some v):=z
        rw[qG (by simpa using hj),iF]at z'
        split at z'<;>(cases z'),
      T.keep _ _ _ oy λb hb o e=>(I7.pin (b,o) (dA _ (dA _ (Bp hb e)))).1,λb hb=>by
       obtain⟨o,e,d⟩:=T.obj _ _ oy b hb
       exact(I7.pin (b,o) (dA _ (dA _ (Bp hb e)))).2.1,w7⟩
    refine aL (ht _ _ _ _ _ t3 _ H6 _ I6 st7) λok t4 zz=>?_
    obtain⟨H7,I7,hD7,q7⟩:=zz
    cases ok with
    | false =>
     obtain⟨m',hm,w7⟩:=(show ∃m',m'<n/\W (i+1) m' acc H7 from q7)
     exact⟨m',hm,back t4 H7 acc m' I7 w7⟩
    | true =>
     refine aL (he _ _ _ _ _ t4 _ H7 _ I7 q7) λy t5 zz=>?_
     obtain⟨v8,H8,I8,r8,hD8,hl8,m',hm,w8⟩:=zz
     exact aL (RA _ t5 _ H8 (.ref s2.heap.objs.size) [v8] (.ref s2.heap.objs.size) [y] (λ_ H9=>H9=upd H8 s2.heap.objs.size (.lst (acc++[v8]))) I8 rfl (.cons r8 .nil) ⟨_,acc,v8,rfl,rfl,hD8,hl8,rfl⟩) λ_ t6 zz=>by
      obtain⟨_,H9,I9,_,e9⟩:=zz
      subst e9
      exact⟨m',hm,back t6 _ _ m' I9 w8⟩
  ·obtain⟨o,e,_⟩:=UY b hb
   rw[aQ (dQ (bF e))]
   exact(f2 b hb).1
 exact codeAny_compStart_list loop (T.self _ 0 _ _ _ (T.keep _ _ _ xb λb hb o e=>old b o e) loop)
theorem ce0(ax:List (Str × Nat))(bN:List Str)(hc:X.calm=true)(hi:PI X tg iter wi)
  (hg:∀C s H fp,PG (dy X scope (ax.map (·.1)++bN) cl C s H fp) tg g)
  (ht:∀C s H fp,lD (dy X scope (ax.map (·.1)++bN) cl C s H fp) ifs tt) (he:∀C s H fp,PE (dy X scope (ax.map (·.1)++bN) cl C s H fp) elt te)
  (mq:closureFor scope X.env=pure cl) (mr:lF X cl) (mw:∀C:Addr,lH (cellsFrom (C+1) scope.names cl) (relabel scope X.env).names) (mx:∀C:Addr,lC X scope (cellsFrom (C+1) scope.names cl) ax)
  (hJ:scope.kind=.function) (my:∀y∈scope.names,y.2=.local->scope.names.lookup y.1=some .local)
  (hs:∀x,foldedSetIterable iter X.env x=pure x:=by intro _;rfl):PE X (.ListComp elt [⟨tg,iter,ifs,0⟩] scope pos) (BG wi ax bN.length g tt te):=by
 intro pins s σ H Q I h
 rw[eval_ListComp]
 refine UW ax bN hc hi hg ht he mq mr mw mx hJ my hs I h λs' H' C Da m IX hn hC hL h1 h2 h3 h4 q'=>?_
 exact⟨m,hn,λh' sb=>⟨.ref Da,H',IX.turned (t':=s'.toks) (λb o hb e=>sb.extBut b o hb e) hC hL (.inr h1) h2 h3,rfl,q'⟩⟩
theorem ca5{i:Nat}{x:Str}{pos' apos:Pos}(hN:X.N.Nodup)(ni:X.N[i]?=some x)(hx:Loc X.env.scope x)(hf:X.fn x=true\/X.env.scope.names.lookup x=some .local)(ax:List (Str × Nat))(bN:List Str)(hc:X.calm=true)(hi:PI X tg iter wi)
  (hg:∀C s H fp,PG (dy X scope (ax.map (·.1)++bN) cl C s H fp) tg g)
  (ht:∀C s H fp,lD (dy X scope (ax.map (·.1)++bN) cl C s H fp) ifs tt) (he:∀C s H fp,PE (dy X scope (ax.map (·.1)++bN) cl C s H fp) elt te)
  (mq:closureFor scope X.env=pure cl) (mr:lF X cl) (mw:∀C:Addr,lH (cellsFrom (C+1) scope.names cl) (relabel scope X.env).names) (mx:∀C:Addr,lC X scope (cellsFrom (C+1) scope.names cl) ax)
  (hJ:scope.kind=.function) (my:∀y∈scope.names,y.2=.local->scope.names.lookup y.1=some .local)
  (xY:swapsWith (.ListComp elt [⟨tg,iter,ifs,0⟩] scope pos) (some (.Name x pos')) apos.line X.env=pure true) (hs:∀x,foldedSetIterable iter X.env x=pure x:=by intro _;rfl):PS X (.Assign [.Name x pos'] (.ListComp elt [⟨tg,iter,ifs,0⟩] scope pos) apos) (Fy (BG wi ax bN.length g tt te) (Bk i)):=by
 intro pins s σ H D I h
 rw[exec_Assign_Name_used x pos' _ apos xY]
 refine wpAny_bind (wpAny_standAt (wpAny_bind ?_))
 have hh:BG wi ax bN.length g tt te σ H λv H1=>D.nx (σ.set i (some v)) H1:=h
 show wpAny _ _ (comprehension (.ListComp elt [⟨tg,iter,ifs,0⟩] scope pos) scope X.env (firstIterPos [⟨tg,iter,ifs,0⟩] pos) (newList []) false (eval iter X.env) (some (assign (.Name x pos') X.env)) >>= λ_=>pure ()) _ _ _
 refine wpAny_bind (UW (use:=some (assign (.Name x pos') X.env)) (pos:=pos) ax bN hc hi hg ht he mq mr mw mx hJ my hs I hh λs' H' C Da m IX hn hC hL h1 h2 h3 h4 q'=>?_)
 obtain⟨oC,es,ep,hoC,U1,rest⟩:=id hn
 have IP:Inv X (pins++[(C,oC)]) σ H' s':=⟨IX.ok,IX.os,IX.bare,IX.base,IX.loc,IX.cell,IX.free,IX.eT,λp hp=>by
  rcases cO.mp hp with z | z
  ·exact IX.pin p (eJ _ z)
  ·rcases cO.mp z with z | z
   ·exact IX.pin p (dA _ z)
   ·obtain rfl:=fS.mp z
    exact⟨hoC,hC,hL,h4,λv w=>by rw[U1]at w;cases w⟩,IX.aA,IX.len⟩
 refine aL (Bl (X:=X) hN ni hx hf _ s' σ H' (.ref Da) (.ref Da) (λiK H2=>iK=σ.set i (some (.ref Da))/\H2=H') IP rfl ⟨rfl,rfl⟩) λ_ s2 zz=>?_
 obtain⟨iK,H2,I2,e1,e2⟩:=zz
 subst e1 e2
 have pC:=I2.pin (C,oC) (dA _ (dA _ (by simp)))
 refine⟨m,⟨oC,es,ep,pC.1,U1,rest⟩,λh' sb=>wpAny_pure (wpAny_pure ?_)⟩
 exact⟨σ.set i (some (.ref Da)),H2,(I2.w9).turned (t':=s2.toks) (λb o hb e=>sb.extBut b o hb e) hC hL (.inr h1) h2 h3,q'⟩
end
end L2
namespace L3
open PySem L2 PySem.Spec PyProof.Rows
section
variable{X:Cx}{elt iter tg:Expr}{pos:Pos}{ifs:List Expr}{scope:Scope}{cl:List (Str × Addr)}{ti:iS}{tt:eU}{te:aG}{g:gK}
theorem eQ(ax:List (Str × Nat))(bN:List Str)(hc:X.calm=true)(hi:PI X tg iter (lI ti))
  (hg:∀C s H fp,PG (dy X scope (ax.map (·.1)++bN) cl C s H fp) tg (lG ax.length g))
  (ht:∀C s H fp,lD (dy X scope (ax.map (·.1)++bN) cl C s H fp) ifs (lT tt)) (he:∀C s H fp,PE (dy X scope (ax.map (·.1)++bN) cl C s H fp) elt (lE te))
  (mq:closureFor scope X.env=pure cl) (mr:lF X cl) (mw:∀C:Addr,lH (cellsFrom (C+1) scope.names cl) (relabel scope X.env).names) (mx:∀C:Addr,lC X scope (cellsFrom (C+1) scope.names cl) ax)
  (hJ:scope.kind=.function) (my:∀y∈scope.names,y.2=.local->scope.names.lookup y.1=some .local)
  (hs:∀x,foldedSetIterable iter X.env x=pure x:=by intro _;rfl):PE X (.ListComp elt [⟨tg,iter,ifs,0⟩] scope pos) (lE (o8 ti ax bN.length g tt te)) :=
 cG (ce0 ax bN hc hi hg ht he mq mr mw mx hJ my hs) λσ H Q ⟨B,F,δ,ts,Qd,c,q,k⟩=>⟨B,F,δ,ts,_,c,q,λsh xs ah J F1 H1 hq f1 h1 c1 o9 xI=>by
  obtain⟨p,f,hx,dU,hlen,hQ⟩:=hq
  exact SE c1 o9 xI p f hx dU hlen hQ λd ae v F' H' hd hf hs c'=>k d ae v F' H' hd (f1.trans hf) (h1.trans hs) c'⟩
theorem U2{i:Nat}{x:Str}{pos' apos:Pos}(hN:X.N.Nodup)(ni:X.N[i]?=some x)(hx:L2.Loc X.env.scope x)(ax:List (Str × Nat))(bN:List Str)(hc:X.calm=true)(hi:PI X tg iter (lI ti))
  (hg:∀C s H fp,PG (dy X scope (ax.map (·.1)++bN) cl C s H fp) tg (lG ax.length g))
  (ht:∀C s H fp,lD (dy X scope (ax.map (·.1)++bN) cl C s H fp) ifs (lT tt)) (he:∀C s H fp,PE (dy X scope (ax.map (·.1)++bN) cl C s H fp) elt (lE te))
  (mq:closureFor scope X.env=pure cl) (mr:lF X cl) (mw:∀C:Addr,lH (cellsFrom (C+1) scope.names cl) (relabel scope X.env).names) (mx:∀C:Addr,lC X scope (cellsFrom (C+1) scope.names cl) ax)
  (hJ:scope.kind=.function) (my:∀y∈scope.names,y.2=.local->scope.names.lookup y.1=some .local)
  (xY:swapsWith (.ListComp elt [⟨tg,iter,ifs,0⟩] scope pos) (some (.Name x pos')) apos.line X.env=pure true:=by rfl) (hf:X.fn x=true\/X.env.scope.names.lookup x=some .local:=by first | exact .inl rfl | exact .inr rfl)
  (hs:∀x,foldedSetIterable iter X.env x=pure x:=by intro _;rfl):PS X (.Assign [.Name x pos'] (.ListComp elt [⟨tg,iter,ifs,0⟩] scope pos) apos) (lS X (o7 i (o8 ti ax bN.length g tt te))) :=
 jG (ca5 hN ni hx hf ax bN hc hi hg ht he mq mr mw mx hJ my xY hs) λEn σ H ⟨B,F,δ,Dd,c,q,k1,k2,k3,k4⟩=>⟨B,F,δ,[],_,c,q,λsh xs ah J F1 H1 hq f1 h1 c1 o9 xI=>by
  obtain⟨p,f,hx,dU,hlen,hQ⟩:=hq
  exact SE (Qd:=λd ae=>Dd.nx (ae.set i (some d))) c1 o9 xI p f hx dU hlen hQ λd ae v F' H' hd hf hs c'=>k1 _ _ F' H' hd (c'.store i)⟩
end
end L3
namespace L3
open PySem L2 Mf
theorem lo1{m:Bool × Nat}(hm:m∈aM):1<ag m:=by have:=(eI hm).lo;omega
inductive Sp(N:Nat)(p q:Nat->Nat->Nat)(S:(Nat->Nat)->Prop):(Nat->Nat)->Prop
 | mem {f:Nat->Nat}:S f->Sp N p q S f
 | zero:Sp N p q S λ_=>0
 | add {f g:Nat->Nat}:Sp N p q S f->Sp N p q S g->Sp N p q S λk=>p (f k) (g k)
 | mul {f:Nat->Nat} (c:Nat):c<N->Sp N p q S f->Sp N p q S λk=>q c (f k)
theorem Sp.trans{N:Nat}{p q:Nat->Nat->Nat}{S S':(Nat->Nat)->Prop}(h:∀f,S f->Sp N p q S' f){f:Nat->Nat}(s:Sp N p q S f):Sp N p q S' f:=by
 induction s with
 | mem a=>exact h _ a
 | zero=>exact .zero
 | add _ _ a b=>exact .add a b
 | mul c hc _ a=>exact .mul c hc a
noncomputable def Gn(T:List (List Nat))(f:Nat->Nat):Prop:=∃r∈T,f=cf r
noncomputable def cB(m:Bool × Nat)(T:List (List Nat))(f:Nat->Nat):Prop:=Sp (ag m) (gp m) (gm m) (Gn T) f
theorem cB.of{m:Bool × Nat}{T:List (List Nat)}{r:List Nat}(h:r∈T):cB m T (cf r):=.mem ⟨r,h,rfl⟩
theorem cg9{m:Bool × Nat}(hm:m∈aM){a:Nat}(ha:a<ag m){f f' l:Nat->Nat}(hf':∀k,f' k<ag m)(hl:∀k,l k<ag m)(h:∀k,gp m (f' k) (gm m a (l k))=f k):∃b,b<ag m/\f'=λk=>gp m (f k) (gm m b (l k)):=by
 have r:=rg hm
 obtain⟨b,hb,e⟩:=r.ng ha
 refine⟨b,hb,funext λk=>?_⟩
 rw[<-h k,r.pa,r.mc a,r.mc b,<- r.dl,e,r.qz,r.z' (hf' k)]
theorem HX{m:Bool × Nat}(hm:m∈aM){r l:List Nat}{w:Nat}(hr:r.length=w)(hl:l.length=w)(a k:Nat):cf (dS (λx y=>bQ m x (gm m a y)) r l) k=bQ m (cf r k) (gm m a (cf l k)):=by
 by_cases h:k<w
 ·unfold cf
  rw[aT,wK,aU (by omega),aU (by omega),aT,aU (by omega),aT,aU (by omega)]
  rfl
 ·rw[yX (by rw[wJ];omega),yX (l:=r) (by omega),yX (l:=l) (by omega),t7 m _ (dP m hm),UP]
theorem HY{m:Bool × Nat}(hm:m∈aM){r l:List Nat}{w a:Nat}(hr:r.length=w)(hl:l.length=w)(ar:AllLt (ag m) r)(k:Nat):gp m (cf (dS (λx y=>bQ m x (gm m a y)) r l) k) (gm m a (cf l k))=cf r k:=by
 rw[HX hm hr hl]
 exact(js hm (gu hm ar k) (gr hm _ _)).2.2
theorem U3{m:Bool × Nat}(hm:m∈aM){r l:List Nat}{w:Nat}(hr:r.length=w)(hl:l.length=w)(ar:AllLt (ag m) r)(a k:Nat):cf (dS (λx y=>bQ m x (gm m a y)) r l) k<ag m:=by
 rw[HX hm hr hl]
 exact(js hm (gu hm ar k) (gr hm _ _)).2.1
theorem U4{m:Bool × Nat}(hm:m∈aM){w p i:Nat}{T:List (List Nat)}(hT:RT (ag m) w T)(e:iZ T p=some i):∃(g:List Nat) (c:Nat),g∈T/\T.getD i []=g/\g.length=w/\AllLt (ag m) g/\c<ag m/\gm m c (cf g p)=1/\(dw m T i p).length=w/\AllLt (ag m) (dw m T i p)/\(∀k,cf (dw m T i p) k=gm m c (cf g k))/\cf (dw m T i p) p=1/\∀k,gm m (cf g p) (cf (dw m T i p) k)=cf g k:=by
 obtain⟨hi,h1,h2⟩:=Cs e
 obtain⟨a,b⟩:=hT _ (eY hi)
 have l1:1<ag m:=lo1 hm
 obtain⟨c,hc,Cw⟩:=cS4 hm l1 (gu hm b p) h1
 have ec:y8 m (cf T[i] p)=c:=US hm hc Cw
 have el:dw m T i p=T[i].map (gm m c):=by unfold dw;rw[h2,<- ec];rfl
 have ek:∀k,cf (dw m T i p) k=gm m c (cf T[i] k):=λk=>by rw[el];exact cC2 hm _ _ _
 refine⟨T[i],c,eY hi,h2,a,b,hc,Cw,by rw[el,bK,a],λx hx=>?_,ek,by rw[ek];exact Cw,λk=>?_⟩
 ·rw[el]at hx
  obtain⟨y,_,rfl⟩:=cI.mp hx
  exact gr hm _ _
 ·rw[ek,<- mn (dP m hm),kF m _ c,Cw,nC (gu hm b k)]
theorem U5{m:Bool × Nat}{s:List (List Nat) × List (List Nat)}{p i:Nat}(e:iZ s.2 p=some i):gv m s p=(ft m s.1 (dw m s.2 i p) p++[dw m s.2 i p],ft m (s.2.take i++s.2.drop (i+1)) (dw m s.2 i p) p):=by unfold gv;rw[e]
theorem U6{m:Bool × Nat}{s:List (List Nat) × List (List Nat)}{p:Nat}(e:iZ s.2 p=none):gv m s p=s:=by unfold gv;rw[e]
theorem Cy{α:Type}{T:List α}{i:Nat}{r:α}(h:r∈T.take i++T.drop (i+1)):r∈T:=(cO.mp h).elim E4 E3
theorem b98{α:Type}{T:List α}{i:Nat}{r:α}(h:r∈T)(hi:i<T.length):r=T[i]\/r∈T.take i++T.drop (i+1):=by
 obtain⟨j,hj,rfl⟩:=jW h
 rcases Nat.lt_trichotomy j i with h | h | h
 ·exact .inr (cO.mpr (.inl (List.mem_take_iff_getElem.mpr ⟨j,by omega,rfl⟩)))
 ·subst h;exact .inl rfl
 ·exact .inr (cO.mpr (.inr (List.mem_drop_iff_getElem.mpr ⟨j-(i+1),by omega,by congr 1;omega⟩)))
theorem bO6{m:Bool × Nat}(hm:m∈aM){w n p:Nat}{s:List (List Nat) × List (List Nat)}(h:y9 (ag m) w n s)(f:Nat->Nat):cB m (s.1++s.2) f↔cB m ((gv m s p).1++(gv m s p).2) f:=by
 cases e:iZ s.2 p with
 | none=>rw[U6 e]
 | some i =>
  obtain⟨g,c,g1,g2,g3,g4,c1,c2,l1,l2,l3,l4,l5⟩:=U4 hm h.b e
  obtain⟨hi,_,hg⟩:=Cs e
  rw[U5 e]
  generalize dw m s.2 i p=l at l1 l2 l3 l4 l5
  have ll:=gu hm l2
  have row:∀{T:List (List Nat)},RT (ag m) w T->∀r'∈ft m T l p,∃r∈T,∃b,b<ag m/\cf r'=λk=>gp m (cf r k) (gm m b (cf l k)):=λ{T} hT r' bz=>by
   obtain⟨r,hr,rfl⟩:=cI.mp bz
   obtain⟨a1,a2⟩:=hT r hr
   exact⟨r,hr,cg9 hm (gu hm a2 p) (U3 hm a1 l1 a2 _) ll (HY hm a1 l1 a2)⟩
  have U7:∀{T:List (List Nat)},RT (ag m) w T->∀r∈T,∃r'∈ft m T l p,cf r=λk=>gp m (cf r' k) (gm m (cf r p) (cf l k)):=λ{T} hT r hr=>by
   obtain⟨a1,a2⟩:=hT r hr
   exact⟨_,cI.mpr ⟨r,hr,rfl⟩,funext λk=>(HY hm a1 l1 a2 k).symm⟩
  have hB:RT (ag m) w (s.2.take i++s.2.drop (i+1)):=λr hr=>h.b r (Cy hr)
  constructor
  ·refine Sp.trans ?_
   rintro f ⟨r,hr,rfl⟩
   have hl:cB m ((ft m s.1 l p++[l])++ft m (s.2.take i++s.2.drop (i+1)) l p) (cf l):=cB.of (by simp)
   rcases cO.mp hr with hr | hr
   ·obtain⟨r',h1,h2⟩:=U7 h.a r hr
    rw[h2]
    exact .add (cB.of (by simp[h1])) (.mul _ (gu hm (h.a r hr).2 p) hl)
   ·rcases b98 hr hi with e' | bz
    ·have:cf r=λk=>gm m (cf g p) (cf l k):=funext λk=>by rw[l5 k,e',<- hg,g2]
     rw[this]
     exact .mul _ (gu hm g4 p) hl
    ·obtain⟨r',h1,h2⟩:=U7 hB r bz
     rw[h2]
     exact .add (cB.of (by simp[h1])) (.mul _ (gu hm (h.b r hr).2 p) hl)
  ·refine Sp.trans ?_
   rintro f ⟨r,hr,rfl⟩
   have hl:cB m (s.1++s.2) (cf l):=by
    have:cf l=λk=>gm m c (cf g k):=funext l3
    rw[this]
    exact .mul _ c1 (cB.of (dA _ g1))
   rcases cO.mp hr with hr | hr
   ·rcases cO.mp hr with hr | hr
    ·obtain⟨r1,h1,b,hb,h2⟩:=row h.a r hr
     rw[h2]
     exact .add (cB.of (eJ _ h1)) (.mul _ hb hl)
    ·rw[fS]at hr
     rw[hr];exact hl
   ·obtain⟨r1,h1,b,hb,h2⟩:=row hB r hr
    rw[h2]
    exact .add (cB.of (dA _ (Cy h1))) (.mul _ hb hl)
structure RR(w:Nat)(R:List (List Nat))(H:Nat->Nat):Prop where
 u:∀i j,i<R.length->j<R.length->cf (R.getD i []) (H j)=if i=j then 1 else 0
 z:∀i,i<R.length->∀t,t<H i->cf (R.getD i []) t=0
 i:∀i j,i<j->j<R.length->H i<H j
 l:∀i,i<R.length->H i<w
theorem HZ{α β:Type}(f:α->β){l:List α}{i:Nat}(h:i<l.length)(a:α)(b:β):(l.map f).getD i b=f (l.getD i a):=by
 rw[aT,bV,aT,aU h];rfl
theorem fu{α:Type}{l:List α}{i:Nat}(h:i<l.length)(a:α):l.getD i a∈l:=by
 rw[aT,aU h];exact eY h
theorem bH2{m:Bool × Nat}(hm:m∈aM){w n p:Nat}{s:List (List Nat) × List (List Nat)}(h:y9 (ag m) w n s){H:Nat->Nat}(I:RR p s.1 H)(e2:∀r∈s.2,∀t,t<p->cf r t=0):∃H',RR (p+1) (gv m s p).1 H'/\∀r∈(gv m s p).2,∀t,t<p+1->cf r t=0:=by
 cases e:iZ s.2 p with
 | none =>
  rw[U6 e]
  refine⟨H,⟨I.u,I.z,I.i,λi hi=>Qq (I.l i hi)⟩,λr hr t ht=>?_⟩
  rcases AO t p with h1 | h1
  ·exact e2 r hr t h1
  ·have:=τ.mp e r hr
   have z:r.getD p 0=0:=by simpa using this
   rw[show t=p by omega]
   exact z
 | some i0 =>
  obtain⟨g,c,g1,g2,g3,g4,c1,c2,l1,l2,l3,l4,l5⟩:=U4 hm h.b e
  rw[U5 e]
  generalize dw m s.2 i0 p=l at l1 l2 l3 l4 l5
  have m0:=dP m hm
  have lz:∀t,t<p->cf l t=0:=λt ht=>by rw[l3,e2 g g1 t ht,t7 m _ m0]
  have zb:∀{r:List Nat},r.length=w->AllLt (ag m) r->(∀t,t<p->cf (dS (λx y=>bQ m x (gm m (r.getD p 0) y)) r l) t=cf r t)/\cf (dS (λx y=>bQ m x (gm m (r.getD p 0) y)) r l) p=0:=λ{r} a1 a2=>by
   constructor
   ·intro t ht
    have:=HY hm (a:=r.getD p 0) a1 l1 a2 t
    rw[lz t ht,t7 m _ m0,cc7 (U3 hm a1 l1 a2 _ _)]at this
    exact this
   ·rw[HX hm a1 l1,l4]
    show bQ m (r.getD p 0) (gm m (r.getD p 0) 1)=0
    rw[tZ (show r.getD p 0<ag m from gu hm a2 p),UP]
  have nl:(ft m s.1 l p).length=s.1.length:=by unfold ft;rw[bK]
  have U8:∀i,i<s.1.length->∃r,s.1.getD i []=r/\r.length=w/\AllLt (ag m) r/\(ft m s.1 l p++[l]).getD i []=dS (λx y=>bQ m x (gm m (r.getD p 0) y)) r l:=λi hi=>by
   refine⟨_,rfl,(h.a _ (fu hi [])).1,(h.a _ (fu hi [])).2,?_⟩
   rw[aT,wo (by omega),<- aT]
   exact HZ _ hi [] []
  have U9:(ft m s.1 l p++[l]).getD s.1.length []=l:=by
   rw[aT,qG (by omega),nl,Nat.sub_self];rfl
  have le:(ft m s.1 l p++[l]).length=s.1.length+1:=by rw[gA,nl];rfl
  refine⟨λi=>if i<s.1.length then H i else p,⟨λi j hi hj=>?_,λi hi t ht=>?_,λi j zc hj=>?_,λi hi=>?_⟩,λr hr t ht=>?_⟩
  ·show cf ((ft m s.1 l p++[l]).getD i []) _=_
   dsimp only at hi hj ⊢
   rw[le]at hi hj
   by_cases h1:i<s.1.length
   ·obtain⟨r,r1,r2,r3,r4⟩:=U8 i h1
    rw[r4]
    by_cases h2:j<s.1.length
    ·rw[if_pos h2,(zb r2 r3).1 _ (I.l j h2),<- r1]
     exact I.u i j h1 h2
    ·rw[if_neg h2,(zb r2 r3).2,if_neg (by omega)]
   ·have e1:i=s.1.length:=by omega
    rw[e1,U9]
    by_cases h2:j<s.1.length
    ·rw[if_pos h2,lz _ (I.l j h2),if_neg (by omega)]
    ·rw[if_neg h2,l4,if_pos (by omega)]
  ·dsimp only at hi ht ⊢
   rw[le]at hi
   by_cases h1:i<s.1.length
   ·rw[if_pos h1]at ht
    obtain⟨r,r1,r2,r3,r4⟩:=U8 i h1
    rw[r4,(zb r2 r3).1 _ (by have:=I.l i h1;omega),<- r1]
    exact I.z i h1 t ht
   ·rw[if_neg h1]at ht
    have e1:i=s.1.length:=by omega
    rw[e1,U9];exact lz t ht
  ·dsimp only at hj ⊢
   rw[le]at hj
   rw[if_pos (by omega)]
   by_cases h2:j<s.1.length
   ·rw[if_pos h2];exact I.i i j zc h2
   ·rw[if_neg h2];exact I.l i (by omega)
  ·dsimp only at hi ⊢
   rw[le]at hi
   split
   ·have:=I.l i (by omega);omega
   ·omega
  ·obtain⟨r1,Cz,rfl⟩:=cI.mp hr
   obtain⟨a1,a2⟩:=h.b r1 (Cy Cz)
   rcases AO t p with h1 | h1
   ·rw[(zb a1 a2).1 t h1];exact e2 _ (Cy Cz) t h1
   ·rw[show t=p by omega];exact(zb a1 a2).2
theorem Va{m:Bool × Nat}(hm:m∈aM){w:Nat}{G:List (List Nat)}(h:RT (ag m) w G):∀k,(∃H,RR k (i3 m G k).1 H/\∀r∈(i3 m G k).2,∀t,t<k->cf r t=0)/\∀f,cB m G f↔cB m ((i3 m G k).1++(i3 m G k).2) f
 | 0=>⟨⟨λ_=>0,⟨(λ_ _ h=>nomatch h),(λ_ h=>nomatch h),(λ_ _ _ h=>nomatch h),(λ_ h=>nomatch h)⟩,λr _ t ht=>nomatch ht⟩,λf=>.rfl⟩
 | k+1=>by
  obtain⟨⟨H,h1,h2⟩,h3⟩:=Va hm h k
  have D:=Ct hm h k
  rw[HN]
  exact⟨bH2 hm D h1 h2,λf=>(h3 f).trans (bO6 hm D f)⟩
theorem zd{m:Bool × Nat}(hm:m∈aM){G:List (List Nat)}(h:RT (ag m) (aW G) G):(∃H,RR (aW G) (et m G) H)/\RT (ag m) (aW G) (et m G)/\(et m G).length<=G.length/\∀f,cB m G f↔cB m (et m G) f:=by
 obtain⟨⟨H,h1,h2⟩,h3⟩:=Va hm h (aW G)
 have D:=Ct hm h (aW G)
 refine⟨⟨H,h1⟩,D.a,by have:=D.l;show(i3 m G (aW G)).1.length<=_;omega,λf=>(h3 f).trans ⟨Sp.trans ?_,Sp.trans ?_⟩⟩
 ·rintro f ⟨r,hr,rfl⟩
  rcases cO.mp hr with hr | hr
  ·exact cB.of hr
  ·have:cf r=λ_=>0:=funext λt=>by
    rcases AO t (aW G)with h4 | h4
    ·exact h2 r hr t h4
    ·exact yX (by rw[(D.b r hr).1];exact h4)
   rw[this];exact .zero
 ·rintro f ⟨r,hr,rfl⟩
  exact cB.of (eJ _ hr)
theorem p9{N:Nat}{p q:Nat->Nat->Nat}(r:Rg N p q){f:Nat->Nat}{j0:Nat}(hf:f j0<N):∀{n:Nat},j0<n->(∀j,j<n->j≠j0->f j=0)->sm p n f=f j0
 | 0,h,_=>nomatch h
 | n+1,h,hz=>by
  rw[sm]
  by_cases e:j0=n
  ·subst e
   rw[nE r λj hj=>hz j (by omega) (by omega),r.z hf]
  ·rw[p9 r hf (by omega) λj hj=>hz j (by omega),hz n (by omega) (by omega),r.z' hf]
theorem RR.own{m:Bool × Nat}(hm:m∈aM){w:Nat}{R:List (List Nat)}{H:Nat->Nat}(hR:RT (ag m) w R)(I:RR w R H){f:Nat->Nat}(s:cB m R f):∀k,f k=sm (gp m) R.length λi=>gm m (f (H i)) (cf (R.getD i []) k):=by
 have r:=rg hm
 have m0:=dP m hm
 induction s with
 | mem a =>
  intro k
  obtain⟨x,hx,rfl⟩:=a
  obtain⟨i,hi,rfl⟩:=jW hx
  have ei:R[i]=R.getD i []:=by rw[aT,aU hi];rfl
  have one:gm m (cf R[i] (H i)) (cf (R.getD i []) k)=cf R[i] k:=by
   rw[ei,I.u i i hi hi,if_pos rfl]
   exact nC (gu hm (hR _ (fu hi [])).2 k)
  refine((p9 r (f:=λa=>gm m (cf R[i] (H a)) (cf (R.getD a []) k)) (j0:=i) (gr hm _ _) hi λj hj hn=>?_).trans one).symm
  rw[ei,I.u i j hi hj,if_neg (by omega),iw m _ m0]
 | zero=>exact λk=>(nE r λj _=>iw m _ m0).symm
 | add _ _ a b =>
  intro k
  dsimp only
  rw[a k,b k,<- ue r]
  refine iz λj _=>?_
  rw[r.mc (gp m _ _),r.dl,r.mc _ (cf _ k),r.mc _ (cf _ k)]
 | mul c hc _ a =>
  intro k
  dsimp only
  rw[a k,<- uf r]
  refine iz λj _=>?_
  rw[mn m0]
theorem cB.sum{m:Bool × Nat}(hm:m∈aM){w:Nat}{R:List (List Nat)}(hR:RT (ag m) w R){f:Nat->Nat}(s:cB m R f):∃c:Nat->Nat,(∀i,c i<ag m)/\∀k,f k=sm (gp m) R.length λi=>gm m (c i) (cf (R.getD i []) k):=by
 have r:=rg hm
 have m0:=dP m hm
 have l1:=lo1 hm
 induction s with
 | mem a =>
  obtain⟨x,hx,rfl⟩:=a
  obtain⟨i,hi,rfl⟩:=jW hx
  have ei:R[i]=R.getD i []:=by rw[aT,aU hi];rfl
  refine⟨λj=>if j=i then 1 else 0,λj=>by dsimp only;split<;>omega,λk=>?_⟩
  refine((p9 r (f:=λa=>gm m (if a=i then 1 else 0) (cf (R.getD a []) k)) (j0:=i) (gr hm _ _) hi λj hj hn=>?_).trans ?_).symm
  ·rw[if_neg hn,iw m _ m0]
  ·rw[if_pos rfl,ei]
   exact nC (gu hm (hR _ (fu hi [])).2 k)
 | zero=>exact⟨λ_=>0,λ_=>r.pos,λk=>(nE r λj _=>iw m _ m0).symm⟩
 | add _ _ a b =>
  obtain⟨c,hc,a⟩:=a
  obtain⟨d,hd,b⟩:=b
  refine⟨λi=>gp m (c i) (d i),λi=>r.lp (hc i) (hd i),λk=>?_⟩
  dsimp only
  rw[a k,b k,<- ue r]
  refine iz λj _=>?_
  rw[r.mc (gp m _ _),r.dl,r.mc _ (cf _ k),r.mc _ (cf _ k)]
 | mul e he _ a =>
  obtain⟨c,hc,a⟩:=a
  refine⟨λi=>gm m e (c i),λi=>gr hm _ _,λk=>?_⟩
  dsimp only
  rw[a k,<- uf r]
  refine iz λj _=>?_
  rw[mn m0]
theorem cB.ann{m:Bool × Nat}(hm:m∈aM){R:List (List Nat)}{n:Nat}{y:Nat->Nat}(h:∀x∈R,sm (gp m) n (λj=>gm m (cf x j) (y j))=0){f:Nat->Nat}(s:cB m R f):sm (gp m) n (λj=>gm m (f j) (y j))=0:=by
 have r:=rg hm
 have m0:=dP m hm
 induction s with
 | mem a=>obtain⟨x,hx,rfl⟩:=a;exact h x hx
 | zero=>exact nE r λj _=>iw m _ m0
 | @add f g _ _ a b =>
  rw[iz (g:=λj=>gp m (gm m (f j) (y j)) (gm m (g j) (y j))) λj _=>by dsimp only;rw[r.mc (gp m _ _),r.dl,r.mc (y j),r.mc (y j)],ue r,a,b,r.z r.pos]
 | @mul f e he _ a =>
  rw[iz (g:=λj=>gm m e (gm m (f j) (y j))) λj _=>mn m0 _ _ _,uf r,a,r.qz]
theorem RR.Ia{m:Bool × Nat}(hm:m∈aM){w:Nat}{R:List (List Nat)}{H:Nat->Nat}(hR:RT (ag m) w R)(I:RR w R H){i:Nat}(hi:i<R.length):(R.getD i []).findIdx (· != 0)=H i/\∃x∈R.getD i [],x≠0:=by
 have a:=(hR _ (fu hi [])).1
 have l:=I.l i hi
 have u:=I.u i i hi hi
 rw[if_pos rfl]at u
 have eu:(R.getD i [])[H i]'(by omega)=1:=by
  unfold cf at u
  rw[aT (l:=R.getD i []),aU (by omega)]at u
  exact u
 refine⟨?_,_,eY (show H i<(R.getD i []).length by omega),by rw[eu];decide⟩
 rw[List.findIdx_eq (by omega)]
 refine⟨by rw[eu];rfl,λj hj=>?_⟩
 have z:=I.z i hi j hj
 unfold cf at z
 rw[aT (l:=R.getD i []),aU (by omega)]at z
 simpa using z
theorem CA{a b:List Nat}{w:Nat}(ha:a.length=w)(hb:b.length=w)(h:∀k,k<w->cf a k=cf b k):a=b:=by
 refine AL (ha.trans hb.symm) λk h1 h2=>?_
 have:=h k (by omega)
 unfold cf at this
 rw[aT,aT,aU h1,aU h2]at this
 exact this
theorem Vb(f:Nat->Nat){w k:Nat}(h:k<w):cf ((bo w).map f) k=f k:=by
 unfold cf
 rw[aT,bV,jX h];rfl
theorem Vc(m:Bool × Nat){xs ys:List Nat}(h:xs.length=ys.length):gd m xs ys=sm (gp m) xs.length λj=>gm m (cf xs j) (cf ys j):=by
 unfold gd
 rw[cf2,wJ,h,E2]
 refine iz λj hj=>?_
 unfold cf
 rw[aT,wK,aU (by omega),aU (by omega),aT,aU (by omega),aT,aU (by omega)]
 rfl
noncomputable def nG(m:Bool × Nat)(xs:List Nat)(T:List (List Nat))(w:Nat):List Nat:=(bo w).map λk=>gd m xs (T.map λr=>r.getD k 0)
theorem cG4{T:List (List Nat)}(k i:Nat):cf (T.map λr=>r.getD k 0) i=cf (T.getD i []) k:=by
 by_cases h:i<T.length
 ·exact HZ (λr:List Nat=>r.getD k 0) h [] 0
 ·rw[yX (by rw[bK];omega),aT,fh (by omega)];rfl
theorem cp2(m:Bool × Nat)(xs:List Nat)(T:List (List Nat))(w:Nat):(nG m xs T w).length=w:=by unfold nG;rw[bK,eE]
theorem cB7(m:Bool × Nat){xs:List Nat}{T:List (List Nat)}{w k:Nat}(h:xs.length=T.length)(hk:k<w):cf (nG m xs T w) k=sm (gp m) T.length λi=>gm m (cf xs i) (cf (T.getD i []) k):=by
 unfold nG
 rw[Vb _ hk,Vc m (by rw[bK,h]),h]
 exact iz λj _=>by rw[cG4]
theorem cB9{m:Bool × Nat}{xs u:List Nat}{T:List (List Nat)}{w:Nat}(h:xs.length=T.length)(hu:u.length=w)(hk:∀k,k<w->cf u k=sm (gp m) T.length λi=>gm m (cf xs i) (cf (T.getD i []) k)):nG m xs T w=u :=
 CA (cp2 m xs T w) hu λk h1=>by rw[cB7 m h h1,hk k h1]
noncomputable def cN(r:List Nat):Nat:=r.findIdx (· != 0)
theorem CB{α:Type}(a b:α->Nat){j:Nat}:∀(l:List α) (x:List Nat),(∀z∈l,a z≠j)->cf (l.foldl (λx z=>x.set (a z) (b z)) x) j=cf x j
 | [],_,_=>rfl
 | z::l,x,h=>by
  rw[qK,CB a b l _ λy hy=>h y (gz _ hy)]
  unfold cf
  rw[aT,nU (h z mI),<- aT]
theorem Vd{α:Type}(a b:α->Nat):∀(l:List α) (x:List Nat),l.Pairwise (λy z=>a y≠a z)->∀z∈l,a z<x.length->cf (l.foldl (λx z=>x.set (a z) (b z)) x) (a z)=b z
 | [],_,_,_,h,_=>nomatch h
 | y::l,x,hp,z,hz,hl=>by
  rw[qK]
  rw[List.pairwise_cons]at hp
  rcases cE.mp hz with rfl | hz
  ·rw[CB a b l _ λy hy=>dR (hp.1 y hy)]
   unfold cf
   rw[aT,As hl];rfl
  ·exact Vd a b l _ hp.2 z hz (by rw[gR];exact hl)
theorem Ve{α:Type}(a b:α->Nat):∀(l:List α) (x:List Nat),(l.foldl (λx z=>x.set (a z) (b z)) x).length=x.length
 | [],_=>rfl
 | z::l,x=>by rw[qK,Ve a b l,gR]
noncomputable def ug(T:List (List Nat)):List (List Nat):=(bo (aW T)).map λj=>T.map λr=>r.getD j 0
end L3
namespace L3
open PySem L2 Mf
noncomputable def eR(T:List (List Nat))(w:Nat):List Nat:=(bo w).filter λj=>!(T.map cN).contains j
noncomputable def gO(m:Bool × Nat)(T:List (List Nat))(w f:Nat):List Nat:=(((T.map cN).zip T).foldl (λx z=>x.set z.1 (bQ m 0 (z.2.getD f 0))) ((aw w 0).set f 1))
noncomputable def nH(m:Bool × Nat)(T:List (List Nat))(w:Nat):List (List Nat):=(eR T w).map (gO m T w)
theorem RR.heads{m:Bool × Nat}(hm:m∈aM){w:Nat}{R:List (List Nat)}{H:Nat->Nat}(hR:RT (ag m) w R)(I:RR w R H):R.map cN=(bo R.length).map H:=by
 refine AL (by rw[bK,bK,eE]) λi h1 h2=>?_
 rw[bK]at h1
 rw[qQ,qQ,Fg,<- (I.Ia hm hR h1).1,aT,aU h1];rfl
theorem RR.mem{m:Bool × Nat}(hm:m∈aM){w:Nat}{R:List (List Nat)}{H:Nat->Nat}(hR:RT (ag m) w R)(I:RR w R H)(j:Nat):j∈R.map cN↔∃i,i<R.length/\H i=j:=by
 rw[I.heads hm hR,cI]
 exact⟨λ⟨i,a,b⟩=>⟨i,dz.mp a,b⟩,λ⟨i,a,b⟩=>⟨i,dz.mpr a,b⟩⟩
theorem RR.free{m:Bool × Nat}(hm:m∈aM){w:Nat}{R:List (List Nat)}{H:Nat->Nat}(hR:RT (ag m) w R)(I:RR w R H)(j:Nat):j∈eR R w↔j<w/\∀i,i<R.length->H i≠j:=by
 unfold eR
 rw[mH,dz,Bool.not_eq_true',<- Bool.not_eq_true,Fe,I.mem hm hR]
 exact and_congr_right λ_=>⟨λh i a b=>h ⟨i,a,b⟩,λh ⟨i,a,b⟩=>h i a b⟩
theorem RR.dH2{m:Bool × Nat}(hm:m∈aM){w:Nat}{R:List (List Nat)}{H:Nat->Nat}(hR:RT (ag m) w R)(I:RR w R H):(eR R w).length+R.length=w:=by
 have nd:(R.map cN).Nodup:=by
  rw[I.heads hm hR]
  unfold List.Nodup
  rw[υ]
  intro i j hi hj zc
  rw[bK,eE]at hi hj
  rw[qQ,qQ,Fg,Fg]
  have:=I.i i j zc hj
  omega
 have pe:((bo w).filter λj=>(R.map cN).contains j).Perm (R.map cN):=by
  refine(List.perm_ext_iff_of_nodup (List.Pairwise.filter _ List.nodup_range) nd).mpr λj=>?_
  rw[mH,Fe,dz]
  refine⟨λh=>h.2,λh=>⟨?_,h⟩⟩
  obtain⟨i,hi,rfl⟩:=(I.mem hm hR j).mp h
  exact I.l i hi
 have l1:=pe.length_eq
 rw[bK]at l1
 have l2:=List.length_eq_countP_add_countP (λj=>(R.map cN).contains j) (l:=bo w)
 rw[eE,χ,χ,l1]at l2
 unfold eR
 have e:((bo w).filter λa=>decide ¬(R.map cN).contains a=true)=(bo w).filter λj=>!(R.map cN).contains j:=Fd λx _=>by
  cases(R.map cN).contains x<;>rfl
 rw[e]at l2
 omega
theorem CC{m:Bool × Nat}(hm:m∈aM){w f:Nat}{R:List (List Nat)}{H:Nat->Nat}(hR:RT (ag m) w R)(I:RR w R H)(hf:f∈eR R w):(gO m R w f).length=w/\AllLt (ag m) (gO m R w f)/\cf (gO m R w f) f=1/\(∀i,i<R.length->cf (gO m R w f) (H i)=bQ m 0 (cf (R.getD i []) f))/\∀j,j≠f->(∀i,i<R.length->H i≠j)->cf (gO m R w f) j=0:=by
 obtain⟨f1,f2⟩:=(I.free hm hR f).mp hf
 have l1:=lo1 hm
 have zl:((R.map cN).zip R).length=R.length:=by rw[Fb,bK,E2]
 have zg:∀i (h:i<R.length),((R.map cN).zip R)[i]'(by omega)=(H i,R.getD i []):=λi h=>by
  rw[List.getElem_zip,qQ]
  have e:R.getD i []=R[i]:=by rw[aT,aU h];rfl
  have:=(I.Ia hm hR h).1
  rw[e]at this ⊢
  exact Prod.ext this rfl
 have zm:∀z∈(R.map cN).zip R,∃i,i<R.length/\z=(H i,R.getD i []):=λz hz=>by
  obtain⟨i,hi,rfl⟩:=jW hz
  exact⟨i,by omega,zg i (by omega)⟩
 have mz:∀i,i<R.length->(H i,R.getD i [])∈(R.map cN).zip R:=λi h=>by
  rw[<-zg i h];exact eY _
 have bd:∀z∈(R.map cN).zip R,bQ m 0 (z.2.getD f 0)<ag m:=λz hz=>by
  obtain⟨i,hi,rfl⟩:=zm z hz
  exact(js hm (by omega) (gu hm (hR _ (fu hi [])).2 f)).2.1
 refine⟨?_,?_,?_,λi hi=>?_,λj hj hj2=>?_⟩
 ·unfold gO
  rw[Ve (λz:Nat × List Nat=>z.1) (λz=>bQ m 0 (z.2.getD f 0)),gR,cK]
 ·have key:∀(l:List (Nat × List Nat)) (x:List Nat),(∀z∈l,bQ m 0 (z.2.getD f 0)<ag m)->AllLt (ag m) x->AllLt (ag m) (l.foldl (λx z=>x.set z.1 (bQ m 0 (z.2.getD f 0))) x):=by
   intro l
   induction l with
   | nil=>exact λx _ h=>h
   | cons z l ih =>
    intro x hz h
    rw[qK]
    refine ih _ (λy hy=>hz y (gz _ hy)) λy hy=>?_
    rcases AK hy with h1 | h1
    ·exact h y h1
    ·rw[h1];exact hz z mI
  refine key _ _ bd λx hx=>?_
  rcases AK hx with h1 | h1
  ·rw[(mM.mp h1).2];omega
  ·omega
 ·unfold gO
  rw[CB (λz:Nat × List Nat=>z.1) (λz=>bQ m 0 (z.2.getD f 0)) _ _ λz hz=>?_]
  ·unfold cf
   rw[aT,As (by rw[cK];exact f1)];rfl
  ·obtain⟨i,hi,rfl⟩:=zm z hz
   exact f2 i hi
 ·have hp:((R.map cN).zip R).Pairwise (λy z:Nat × List Nat=>y.1≠z.1):=by
   rw[υ]
   intro i j hi hj zc
   rw[zg i (by omega),zg j (by omega)]
   have:=I.i i j zc (by omega)
   show H i≠H j
   omega
  exact Vd (λz:Nat × List Nat=>z.1) (λz=>bQ m 0 (z.2.getD f 0)) _ _ hp _ (mz i hi) (by rw[gR,cK];exact I.l i hi)
 ·unfold gO
  rw[CB (λz:Nat × List Nat=>z.1) (λz=>bQ m 0 (z.2.getD f 0)) _ _ λz hz=>?_]
  ·unfold cf
   rw[aT,nU (dR hj),iF]
   split<;>rfl
  ·obtain⟨i,hi,rfl⟩:=zm z hz
   exact hj2 i hi
theorem Vf{N:Nat}{p q:Nat->Nat->Nat}(r:Rg N p q){f:Nat->Nat}{a b n:Nat}(ha:a<n)(hb:b<n)(hn:a≠b)(fa:f a<N)(fb:f b<N)(hz:∀j,j<n->j≠a->j≠b->f j=0):sm p n f=p (f a) (f b):=by
 have h1:=p9 r (f:=λj=>if j=a then f a else 0) (j0:=a) (n:=n) (by rw[if_pos rfl];exact fa) ha λj _ h=>if_neg h
 have h2:=p9 r (f:=λj=>if j=b then f b else 0) (j0:=b) (n:=n) (by rw[if_pos rfl];exact fb) hb λj _ h=>if_neg h
 rw[if_pos rfl]at h1 h2
 rw[<-h1,<- h2,<- ue r]
 refine iz λj hj=>?_
 by_cases ja:j=a
 ·rw[if_pos ja,if_neg (by omega),r.z' fa,ja]
 ·by_cases jb:j=b
  ·rw[if_neg ja,if_pos jb,r.z fb,jb]
  ·rw[if_neg ja,if_neg jb,hz j hj ja jb,r.z r.pos]
noncomputable def dt(m:Bool × Nat)(w:Nat)(x y:Nat->Nat):Nat:=sm (gp m) w λj=>gm m (x j) (y j)
theorem cz5{m:Bool × Nat}(hm:m∈aM){w f:Nat}{R:List (List Nat)}{H:Nat->Nat}(hR:RT (ag m) w R)(I:RR w R H)(hf:f∈eR R w){i:Nat}(hi:i<R.length):dt m w (cf (R.getD i [])) (cf (gO m R w f))=0:=by
 have r:=rg hm
 obtain⟨f1,f2⟩:=(I.free hm hR f).mp hf
 obtain⟨k1,k2,k3,k4,k5⟩:=CC hm hR I hf
 have il:=gu hm (hR _ (fu hi [])).2
 have g:=js hm (a:=0) r.pos (il f)
 unfold dt
 rw[Vf r (f:=λj=>gm m (cf (R.getD i []) j) (cf (gO m R w f) j)) (a:=H i) (b:=f) (I.l i hi) f1 (f2 i hi) (gr hm _ _) (gr hm _ _) λj hj ja jb=>?_]
 ·rw[k3,k4 i hi,I.u i i hi hi,if_pos rfl,nC g.2.1,tZ (il f)]
  exact g.2.2
 ·by_cases c:∃i',i'<R.length/\H i'=j
  ·obtain⟨i',h1,rfl⟩:=c
   rw[I.u i i' hi h1,if_neg (λz:i=i'=>ja (by rw[z])),iw m _ (dP m hm)]
  ·rw[k5 j jb λi' h1 h2=>c ⟨i',h1,h2⟩,r.qz]
theorem cB.dt{m:Bool × Nat}(hm:m∈aM){R:List (List Nat)}{n:Nat}{y:Nat->Nat}(h:∀i,i<R.length->dt m n (cf (R.getD i [])) y=0){f:Nat->Nat}(s:cB m R f):dt m n f y=0:=by
 refine s.ann hm λx hx=>?_
 obtain⟨i,hi,rfl⟩:=jW hx
 have:=h i hi
 rw[aT,aU hi]at this
 exact this
theorem Vg{N n:Nat}{M:List (List Nat)}(h:RT N n M)(h0:M≠[]):aW M=n:=by
 cases M with
 | nil=>exact absurd rfl h0
 | cons g M=>exact(h g mI).1
theorem cJ6{m:Bool × Nat}(hm:m∈aM){n:Nat}{M:List (List Nat)}(h:RT (ag m) n M)(hl:M.length<n):∃(x:Nat->Nat) (f:Nat),f<n/\(∀k,x k<ag m)/\x f=1/\∀i,i<M.length->dt m n (cf (M.getD i [])) x=0:=by
 by_cases h0:M=[]
 ·subst h0
  exact⟨λ_=>1,0,hl,λ_=>lo1 hm,rfl,λi hi=>nomatch hi⟩
 ·have hw:=Vg h h0
  obtain⟨⟨H,I⟩,iR,il,sp⟩:=zd hm (G:=M) (by rw[hw];exact h)
  rw[hw]at I iR
  have fl:=I.dH2 hm iR
  have f0:0<(eR (et m M) n).length:=by omega
  have hf:=fu f0 0
  obtain⟨k1,k2,k3,k4,k5⟩:=CC hm iR I hf
  refine⟨cf (gO m (et m M) n ((eR (et m M) n).getD 0 0)),_,((I.free hm iR _).mp hf).1,gu hm k2,k3,λi hi=>?_⟩
  exact cB.dt hm (λi' gG=>cz5 hm iR I hf gG) ((sp _).mp (cB.of (fu hi [])))
theorem RR.Vh{m:Bool × Nat}(hm:m∈aM){w v:Nat}{S R:List (List Nat)}{H:Nat->Nat}(hS:RT (ag m) w S)(I:RR w S H)(hR:RT (ag m) v R)(h:∀i,i<S.length->cB m R (cf (S.getD i []))):S.length<=R.length:=by
 have r:=rg hm
 refine EL λhl=>?_
 have hc:∀i,∃c:Nat->Nat,i<S.length->(∀j,c j<ag m)/\∀k,cf (S.getD i []) k=sm (gp m) R.length λj=>gm m (c j) (cf (R.getD j []) k):=λi=>by
  by_cases hi:i<S.length
  ·obtain⟨c,a,b⟩:=(h i hi).sum hm hR
   exact⟨c,λ_=>⟨a,b⟩⟩
  ·exact⟨λ_=>0,λz=>absurd z hi⟩
 obtain⟨C,hC⟩:=Classical.axiomOfChoice hc
 have cl:∀i,i<S.length->∀j,C i j<ag m:=λi hi=>(hC i hi).1
 obtain⟨x,f,f1,x1,x2,x3⟩:=cJ6 hm (n:=S.length) (M:=(bo R.length).map λj=>(bo S.length).map λi=>C i j) (λy hy=>by
  obtain⟨j,_,rfl⟩:=cI.mp hy
  refine⟨by rw[bK,eE],λz hz=>?_⟩
  obtain⟨i,hi,rfl⟩:=cI.mp hz
  exact cl i (dz.mp hi) j) (by rw[bK,eE];exact hl)
 rw[bK,eE]at x3
 have x4:∀j,j<R.length->sm (gp m) S.length (λi=>gm m (C i j) (x i))=0:=λj hj=>by
  rw[<-x3 j hj]
  refine iz λi hi=>?_
  rw[HZ (λj=>(bo S.length).map λi=>C i j) (by rw[eE];exact hj) 0 [],Vb _ hi,aT,jX hj];rfl
 have x5:∀k,sm (gp m) S.length (λi=>gm m (x i) (cf (S.getD i []) k))=0:=λk=>by
  rw[iz (g:=λi=>sm (gp m) R.length λj=>gm m (gm m (C i j) (x i)) (cf (R.getD j []) k)) λi hi=>?_,UQ r,nE r λj hj=>?_]
  ·rw[iz (g:=λi=>gm m (cf (R.getD j []) k) (gm m (C i j) (x i))) λi hi=>kF m _ _,uf r,x4 j hj,r.qz]
  ·rw[(hC i hi).2 k,<- uf r]
   exact iz λj _=>by rw[<-mn (dP m hm),kF m (x i)]
 have:=x5 (H f)
 rw[p9 r (f:=λi=>gm m (x i) (cf (S.getD i []) (H f))) (gr hm _ _) f1 λj hj hn=>by rw[I.u j f hj f1,if_neg hn,r.qz],I.u f f f1 f1,if_pos rfl,x2,nC (lo1 hm)]at this
 omega
theorem Ib{T:List (List Nat)}{i:Nat}(h:i<T.length):T.getD i []=T[i]:=by rw[aT,aU h];rfl
end L3
namespace L3
open PySem L2 PySem.Spec PyProof.Rows
section
variable{X:Cx}{F H:Hp}{e b:Expr}{pos pos' p p2 p3 apos bM:Pos}{ti te:aG}{x y:Str}{i j:Nat}
end
section
variable{X:Cx}
end
section
variable{X:Cx}{es:List Expr}{tr:bY}{pos:Pos}
theorem qa(h:PA X es (lA tr)):PE X (.List es pos) (lB (oZ tr)) :=
 cG (Q8 h) λσ H Q ⟨B,F,δ,ts,Qd,c,q,k⟩=>⟨B,F,δ,ts,_,c,q,λds ah vs F1 H1 q1 f1 h1 c1 s1=>⟨by rw[<-s1.length];exact q1.1,λp hp=>k _ ah _ F1 _ q1.2 f1 (h1.trans (aa.upd hp)) (c1.grow (aa.upd hp)) (.own bG (s1.mono (aa.refl _) (aa.upd hp)) .nil)⟩⟩
end
end L3
namespace L3
open PySem L2 Mf
theorem RR.lead{m:Bool × Nat}(hm:m∈aM){w:Nat}{R:List (List Nat)}{H:Nat->Nat}(hR:RT (ag m) w R)(I:RR w R H){f:Nat->Nat}(s:cB m R f){t:Nat}(h1:f t≠0)(h2:∀j,j<t->f j=0):∃i,i<R.length/\H i=t:=by
 refine Z8 λc=>h1 ?_
 rw[I.own hm hR s t]
 refine nE (rg hm) λi hi=>?_
 rcases Nat.lt_trichotomy (H i) t with h | h | h
 ·rw[h2 _ h,iw m _ (dP m hm)]
 ·exact absurd ⟨i,hi,h⟩ c
 ·rw[I.z i hi t h,(rg hm).qz]
theorem RR.same{m:Bool × Nat}(hm:m∈aM){w:Nat}{R R':List (List Nat)}{H H':Nat->Nat}(hR:RT (ag m) w R)(I:RR w R H)(CD:RT (ag m) w R')(I':RR w R' H')(h:∀x∈R,cB m R' (cf x))(h':∀x∈R',cB m R (cf x)):R=R':=by
 have l:R.length=R'.length:=Nat.le_antisymm (I.Vh hm hR CD λi hi=>h _ (fu hi [])) (I'.Vh hm CD hR λi hi=>h' _ (fu hi []))
 have a:∀i,i<R.length->∃j,j<R'.length/\H' j=H i:=λi hi=>I'.lead hm CD (h _ (fu hi [])) (by rw[I.u i i hi hi,if_pos rfl];decide) λj hj=>I.z i hi j hj
 have a':∀i,i<R'.length->∃j,j<R.length/\H j=H' i:=λi hi=>I.lead hm hR (h' _ (fu hi [])) (by rw[I'.u i i hi hi,if_pos rfl];decide) λj hj=>I'.z i hi j hj
 have e:∀n i,i<n->i<R.length->H i=H' i:=by
  intro n
  induction n with
  | zero=>exact λi hi=>nomatch hi
  | succ n ih =>
   intro i hi hl
   by_cases hn:i<n
   ·exact ih i hn hl
   obtain rfl:i=n:=by omega
   obtain⟨j,j1,j2⟩:=a i hl
   obtain⟨j',j3,j4⟩:=a' i (by omega)
   have b1:i<=j:=EL λc=>by
    have:=ih j c (by omega)
    have:=I.i j i c hl
    omega
   have b2:i<=j':=EL λc=>by
    have:=ih j' c (by omega)
    have:=I'.i j' i c (by omega)
    omega
   have c1:H' i<=H' j:=by
    rcases AO i j with c | c
    ·exact qw (I'.i i j c j1)
    ·rw[show i=j by omega];exact bB _
   have c2:H i<=H j':=by
    rcases AO i j' with c | c
    ·exact qw (I.i i j' c j3)
    ·rw[show i=j' by omega];exact bB _
   omega
 refine AL l λi h1 h2=>?_
 rw[<-Ib h1,<- Ib h2]
 refine CA (hR _ (fu h1 [])).1 (CD _ (fu h2 [])).1 λk _=>?_
 rw[I.own hm hR (h' _ (fu h2 [])) k,p9 (rg hm) (f:=λj=>gm m (cf (R'.getD i []) (H j)) (cf (R.getD j []) k)) (gr hm _ _) h1 λj hj hn=>?_]
 ·rw[e (i+1) i (by omega) h1,I'.u i i h2 h2,if_pos rfl,nC (gu hm (hR _ (fu h1 [])).2 k)]
 ·rw[e (j+1) j (by omega) hj,I'.u i j h2 (by omega),if_neg (λz:i=j=>hn z.symm),iw m _ (dP m hm)]
theorem cF1{m:Bool × Nat}(hm:m∈aM){A T:List (List Nat)}{H:Nat->Nat}(hT:RT (ag m) (aW T) T)(hA:RT (ag m) (aW T) A)(I:RR (aW T) A H)(h:∀x∈T,cB m A (cf x))(h':∀x∈A,cB m T (cf x)):et m T=A:=by
 obtain⟨⟨H1,I1⟩,iR,il,sp⟩:=zd hm hT
 refine I1.same hm iR hA I (λx hx=>?_) λx hx=>(sp _).mp (h' x hx)
 refine Sp.trans (λf hf=>?_) ((sp _).mpr (cB.of hx))
 obtain⟨y,hy,rfl⟩:=hf
 exact h y hy
end L3
namespace L3
open PySem L2 Mf
end L3
namespace L3
open PySem L2 Mf
theorem Vi{r:List Nat}{k v:Nat}(hk:k<r.length)(j:Nat):cf (r.set k v) j=if j=k then v else cf r j:=by
 unfold cf
 rw[aT,List.getElem?_set,aT]
 by_cases h:k=j
 ·subst h
  rw[if_pos rfl,if_pos rfl,if_pos hk];rfl
 ·rw[if_neg h,if_neg (dR h)]
end L3
namespace L2
open PySem PySem.Spec PyProof.Rows
section
variable{X:Cx}
end
end L2
namespace L3
open PySem L2 PySem.Spec PyProof.Rows
section
variable{X:Cx}
end
end L3
namespace L2
open PySem PySem.Spec PyProof.Rows
section
variable{X:Cx}{a:Expr}{ta:TE}{p p2 pos ze:Pos}
end
end L2
namespace L3
open PySem L2 PySem.Spec PyProof.Rows
section
variable{X:Cx}{a:Expr}{t:aG}{p p2 pos ze:Pos}
end
end L3
namespace L3
open PySem L2 PySem.Spec PyProof.Rows
section
variable{F H:Hp}
end
section
variable{X:Cx}{e:Expr}{t:aG}{p2 pos:Pos}
end
end L3
namespace L3
open PySem L2 PySem.Spec PyProof.Rows
section
variable{F H:Hp}
end
section
variable{P:Program}{w:World}{K:PySem.W.Frag}{mg:Str->Option Value}{base:Heap}
end
section
variable{X:Cx}{CX:dN}{n i:Nat}{f:Addr}{fd:FuncData}{ps:List Str}{sp:bf}{E:XK}{fn x:Str}{e:Expr}{te:aG}{p p2 pos pos' ze:Pos}
end
end L3
namespace L2
section
variable{α:Type}{P:List α->Prop}
theorem cI1(h:P []):∀us:List α,us.length=0->P us:=by
 intro us hl;rcases us with _ | ⟨a,t⟩
 ·exact h
 ·cases hl
theorem eS(h:∀a,P [a]):∀us:List α,us.length=1->P us:=by
 intro us hl;rcases us with _ | ⟨a,t⟩
 ·cases hl
 ·exact cI1 (P:=λt=>P (a::t)) (h a) t (Fh hl)
theorem dm(h:∀a b,P [a,b]):∀us:List α,us.length=2->P us:=by
 intro us hl;rcases us with _ | ⟨a,t⟩
 ·cases hl
 ·exact eS (P:=λt=>P (a::t)) (h a) t (Fh hl)
theorem iA(h:∀a b c,P [a,b,c]):∀us:List α,us.length=3->P us:=by
 intro us hl;rcases us with _ | ⟨a,t⟩
 ·cases hl
 ·exact dm (P:=λt=>P (a::t)) (h a) t (Fh hl)
theorem zf(h:∀a b c d,P [a,b,c,d]):∀us:List α,us.length=4->P us:=by
 intro us hl;rcases us with _ | ⟨a,t⟩
 ·cases hl
 ·exact iA (P:=λt=>P (a::t)) (h a) t (Fh hl)
end
end L2
namespace L3
open PySem L2 PySem.Spec PyProof.Rows
section
variable{B:Bs}{F H:Hp}{σ:L2.St}{δ:Dl}{ts:List (D × V)}
end
section
variable{X:Cx}{elt iter tg:Expr}{pos:Pos}{scope:Scope}{cl:List (Str × Addr)}{ti:iS}{te:aG}{g:gK}
end
end L3
namespace L2
open PySem PySem.Spec PyProof.Rows
section
variable{X:Cx}
end
end L2
namespace L3
open PySem L2 PySem.Spec PyProof.Rows
section
variable{X:Cx}
end
end L3
namespace L3
open PySem L2 Mf
end L3
namespace L3
open PySem L2 Mf
section
variable{m:Bool × Nat}{C:Nat->Nat->Nat}{w:Nat}
end
end L3
namespace L3
open PySem L2 Mf
section
variable{m:Bool × Nat}{C:Nat->Nat->Nat}{w:Nat}
end
end L3
namespace L3
open PySem L2 Mf
section
variable{m:Bool × Nat}{C:Nat->Nat->Nat}
end
end L3
namespace L3
open PySem L2 PySem.Spec PyProof.Rows
section
variable{B:Bs}{F H:Hp}{σ:L2.St}{δ:Dl}{ts:List (D × V)}
end
section
variable{X:Cx}{a:Expr}{ta:aG}{pos p2:Pos}{tk:Nat}
end
end L3
namespace L3
open PySem L2 PySem.Spec PyProof.Rows
section
variable{X:Cx}{a b:Expr}{ta tb:aG}{elts:List Expr}{x1:Nat}{oE p pos:Pos}
end
end L3
namespace L3
open PySem L2 Mf
section
variable{m:Bool × Nat}
end
end L3
namespace L2
open PySem PySem.Spec PyProof.Rows
section
variable{X:Cx}
theorem bZ6:xj X "list.count" (λx xs H Q=>∃(p:Addr) (ns:List Int) (k:Int),x=.ref p/\xs=[.int k]/\bH X.K H p (ns.map V.int)/\Q (.int (ns.count k:Nat)) H):=by
 intro pins s σ H x xs v us Q I rx r h
 obtain⟨p,ns,k,rfl,rfl,hS,q⟩:=h
 cases rx
 obtain⟨u,rfl,ru⟩:=r.one
 obtain⟨t,rfl⟩:=ru
 obtain⟨its,rv,pl,hz⟩:=I.list hS
 exact count_list_ints pl.isList (Rl rv) ⟨.int _,H,I.tok _,⟨_,rfl⟩,q⟩
end
end L2
namespace L3
open PySem L2 PySem.Spec PyProof.Rows
section
variable{X:Cx}{o e:Expr}{t tb:aG}{apos bM:Pos}
noncomputable def uh(t tb:aG):aG:=λδ Q=>t δ λd ah=>∃(o:Bool) (ns:List Int),d=.lst o (aC ns)/\tb ah λb aN=>∃k,b=.int k/\Q (.int (ns.count k:Nat)) aN
theorem cr5(ho:PE X o (lB t))(he:PE X e (lB tb))(jB:attributeBase o "count" X.env (eval o X.env)=eval o X.env:=by rfl)
  (xk:((backTo bM (starEach [e] X.env)).all (λx=>!x.1)&&(backToKw bM (keywordEach [] X.env)).all (λx=>x.1.isSome)
   && decide ([e].length+([]:List Keyword).length+(if([]:List Keyword).isEmpty then 0 else 1)<30))=true:=by rfl)
  (jC:(apos.endLine==bM.line)=true:=by rfl) (hs:starEach [e] X.env=(false,eval e X.env)::starEach [] X.env:=by rfl) (xm:(backTo bM (starEach [] X.env)).any (·.1)=false:=by rfl) :
  PE X (.Call (.Attribute o "count" apos) [e] [] bM) (lE (uh t tb)) :=
 cG (Rx PySem.F.plainAttrs_list PySem.F.slot_list_count PySem.F.type_list_count bZ6 ho (bX he eF hs) jB xk jC hs xm) λσ H Q ⟨B,F,δ,ts,Qd,c,q,k⟩=>⟨B,F,δ,ts,_,c,q,λd ah v F1 H1 q1 f1 h1 c1 s1=>by
  obtain⟨o,ns,rfl,q1⟩:=q1
  obtain⟨p,ws,rfl,h,t⟩:=ky s1 c1.ext rfl
  rw[Hj t]at h
  exact⟨.inl ⟨rfl,_,jq h⟩,B,F1,ah,ts,_,c1,q1,λb aN w F2 H2 q2 f2 h2 c2 s2=>by
   obtain⟨n,rfl,q3⟩:=q2
   cases s2
   exact⟨p,ns,n,rfl,rfl,jq (h.elim (λz=>.inl (h2 _ _ z)) λ⟨o,z⟩=>.inr ⟨o,h2 _ _ z⟩),k _ aN _ F2 H2 q3 (f1.trans f2) (h1.trans h2) (c2.pushS (.int .nil) rfl)⟩⟩⟩
end
section
variable{X:Cx}{i:Nat}{x:Str}{p pos apos bM du5 ze:Pos}{a b:List Stmt}{t u:cn}{k:Int}{j}
end
end L3
namespace L3
open PySem L2 Mf
section
variable{N:Nat}{p q:Nat->Nat->Nat}
variable{ng:Nat->Nat}{c:Nat}
end
section
variable{m:Bool × Nat}
end
end L3
namespace L2
open PySem PySem.Spec PyProof.Rows
section
variable{prog:Program}{w:World}{A:Around}{E:Value->Shared->Prop}{s:Shared}
end
section
variable{X:Cx}{e:Expr}{ta:TA}{p p2 pos ze:Pos}
end
end L2
namespace L3
open PySem L2 PySem.Spec PyProof.Rows
section
variable{X:Cx}{e:Expr}{tr:bY}{p p2 pos ze:Pos}
end
end L3
namespace L2
open PySem PySem.Spec PyProof.Rows
noncomputable abbrev TJ:=Str->St->Hp->(Str->Hp->Prop)->Prop
section
variable{X:Cx}{e v1 v2:Expr}{es rest:List Expr}{te:TE}{t:TJ}{pos:Pos}
noncomputable def PJ(X:Cx)(es:List Expr)(t:TJ):Prop:=∀(pins:List (Addr × Obj)) (s:Shared) (σ:St) (H:Hp) (acc:Str) (Q:Str->Hp->Prop),Inv X pins σ H s->t acc σ H Q ->
 Joins (model X.prog X.w) X.A X.xe (evalEach es X.env) acc (λout s1=>out.length<=sizeLine/\∃H',Inv X pins σ H' s1/\Q out H') s
theorem cF3(hs:evalEach [] X.env=[]:=by rfl):PJ X [] (λacc _ H Q=>acc.length<=sizeLine/\Q acc H):=λpins s σ H acc Q I ⟨h1,h2⟩=>by
 rw[hs]
 exact⟨h1,H,I,h2⟩
theorem cu5(he:PE X e te)(hr:PJ X es t)(hs:evalEach (e::es) X.env=eval e X.env::evalEach es X.env:=by rfl) :
  PJ X (e::es) (λacc σ H Q=>te σ H λv H1=>∃y,v=.str y/\(acc++y).length<=sizeLine/\t (acc++y) σ H1 Q):=λpins s σ H acc Q I h=>by
 rw[hs]
 refine aL (he pins s σ H _ I h) λu s1 ⟨x,H1,I1,r1,y,ex,hl,q⟩=>?_
 subst ex
 obtain⟨tk,rfl⟩:=r1
 exact⟨y,tk,rfl,hl,hr pins s1 σ H1 _ Q I1 q⟩
theorem cr1(h:PJ X (v1::v2::rest) t):PE X (.JoinedStr (v1::v2::rest) pos) (λσ H Q=>t jT σ H λout H'=>Q (.str out) H'):=λpins s σ H Q I hq=>by
 refine wpAny_JoinedStr ?_
 have mono:∀(ps:List (Sem Value)) (acc:Str) (Q1 Q2:Str->Shared->Prop) (s:Shared),(∀o s,Q1 o s->Q2 o s)->Joins (model X.prog X.w) X.A X.xe ps acc Q1 s->Joins (model X.prog X.w) X.A X.xe ps acc Q2 s:=by
  intro ps
  induction ps with
  | nil=>exact λacc Q1 Q2 s m h=>m _ _ h
  | cons p ps ih=>exact λacc Q1 Q2 s m h=>aL h λv s1 ⟨y,tk,a,b,c⟩=>⟨y,tk,a,b,ih _ _ _ _ m c⟩
 exact mono _ _ _ _ _ (λout s1 ⟨hl,H',I',q⟩=>⟨hl,.str out,H',I'.tok _,⟨_,rfl⟩,q⟩) (h pins s σ H jT _ I hq)
theorem cI3(he:PE X e te):PE X (.FormattedValue e (-1) none pos) (λσ H Q=>te σ H λv H1=>∃n:Int,v=.int n/\n.natAbs.log2<1920/\Q (.str (toString n)) H1):=λpins s σ H Q I h=>by
 refine wpAny_FormattedValue_plain (aL (he pins s σ H _ I h) λu s1 ⟨x,H1,I1,r1,n,ex,hn,q⟩=>?_)
 subst ex
 obtain⟨tk,rfl⟩:=r1
 exact wpAny_formatField_int hn ⟨.str _,H1,I1.tok _,⟨_,rfl⟩,q⟩
end
end L2
namespace L3
open PySem L2 PySem.Spec PyProof.Rows
noncomputable abbrev ui:=Str->Dl->(Str->Dl->Prop)->Prop
noncomputable def lJ(t:ui):TJ:=λacc σ H Q=>∃B F δ ts Qd,ai B F H σ δ ts/\t acc δ Qd/\∀out ae F' H',Qd out ae->aa F F'->aa H H'->ai B F' H' σ ae ts->Q out H'
noncomputable def uj:ui:=λacc δ Q=>acc.length<=sizeLine/\Q acc δ
noncomputable def dJ(te:aG)(t:ui):ui:=λacc δ Q=>te δ λd ah=>∃y,d=.str y/\(acc++y).length<=sizeLine/\t (acc++y) ah Q
noncomputable def uk(t:ui):aG:=λδ Q=>t jT δ λout ae=>Q (.str out) ae
noncomputable def um(te:aG):aG:=λδ Q=>te δ λd ah=>∃n:Int,d=.int n/\n.natAbs.log2<1920/\Q (.str (toString n)) ah
section
variable{X:Cx}{e v1 v2:Expr}{es rest:List Expr}{te:aG}{t:ui}{pos:Pos}
theorem Vj{t t':TJ}(h:PJ X es t)(m:∀acc σ H Q,t' acc σ H Q->t acc σ H Q):PJ X es t':=λpins s σ H acc Q I q=>h pins s σ H acc Q I (m acc σ H Q q)
theorem cN6(hs:evalEach [] X.env=[]:=by rfl):PJ X [] (lJ uj):=Vj (cF3 hs) λacc σ H Q ⟨B,F,δ,ts,Qd,c,⟨h1,h2⟩,k⟩=>⟨h1,k _ δ F H h2 (aa.refl _) (aa.refl _) c⟩
theorem Vk(he:PE X e (lB te))(hr:PJ X es (lJ t))(hs:evalEach (e::es) X.env=eval e X.env::evalEach es X.env:=by rfl):PJ X (e::es) (lJ (dJ te t)) :=
 Vj (cu5 he hr hs) λacc σ H Q ⟨B,F,δ,ts,Qd,c,q,k⟩=>⟨B,F,δ,ts,_,c,q,λd ah v F1 H1 ⟨y,ed,hl,q1⟩ f1 h1 c1 s1=>by
  subst ed
  cases s1
  exact⟨y,rfl,hl,B,F1,ah,ts,_,c1,q1,λout aN F2 H2 q2 f2 h2 c2=>k out aN F2 H2 q2 (f1.trans f2) (h1.trans h2) c2⟩⟩
theorem cH6(h:PJ X (v1::v2::rest) (lJ t)):PE X (.JoinedStr (v1::v2::rest) pos) (lE (uk t)) :=
 cG (cr1 h) λσ H Q ⟨B,F,δ,ts,Qd,c,q,k⟩=>⟨B,F,δ,ts,_,c,q,λout ah F1 H1 q1 f1 h1 c1=>k _ ah _ F1 H1 q1 f1 h1 (c1.pushS (.str .nil) rfl)⟩
theorem cM8(he:PE X e (lB te)):PE X (.FormattedValue e (-1) none pos) (lE (um te)) :=
 cG (cI3 he) λσ H Q ⟨B,F,δ,ts,Qd,c,q,k⟩=>⟨B,F,δ,ts,_,c,q,λd ah v F1 H1 ⟨n,ed,hn,q1⟩ f1 h1 c1 s1=>by
  subst ed
  cases s1
  exact⟨n,rfl,hn,k _ ah _ F1 H1 q1 f1 h1 (c1.pushS (.str .nil) rfl)⟩⟩
end
end L3
namespace L3
open PySem L2 PySem.Spec PyProof.Rows
section
variable{X:Cx}{n:Nat}{f C:Addr}{fd:FuncData}{ps:List Str}{x:Str}{p pos:Pos}{e:Expr}{es:List Expr}{t:bY}
theorem bS2{pins:List (Addr × Obj)}{σ:L2.St}{H:Hp}{s:Shared}{Q:VK}{E:XK}{us:List Value}{vs:List V}{sp:L2.Sp}(M:L2.Mk X.K C f)(F:aK X.prog X.w X.K X.mg X.base (jk X.prog X.w) n f fd ps sp)(hr:bP (n+1) X.A)(hb:Binds X.K fd ps [])(hex:X.ex=[])
  (I:Inv X pins σ H s) (r:Vals vs us) (h:∀x dx,H x=none->H dx=none->dx≠x->sp (.ref x::vs) (upd (upd H dx (.own x)) x (.ins C dx [])) (λv H2=>v=.aj/\Q (.ref x) H2) E)
  (hx:∀a T cls H' s',Inv X pins σ H' s'->fZ s'.heap a T cls->Apart X pins H' a->Apart X pins H' T->E cls none H'->X.xe (.ref a) s'):wpAny (model X.prog X.w) X.A (call (.ref C) us) (EP X pins σ Q) X.xe s:=by
 have hq:=h (s.heap.objs.size+1) s.heap.objs.size (I.aA.fresh (Nat.le_succ _)) (I.aA.fresh (bB _)) (dQ (Av _))
 have I2:=Inv.made (C:=C) I
 have r2:Vals (V.ref (s.heap.objs.size+1)::vs) (cu (s.heap.objs.size+1)::us):=.cons rfl r
 have hl:((cu (s.heap.objs.size+1)::us)++[]).length=ps.length:=by
  rw[fQ,<- r2.length]
  exact F.len _ _ _ _ hq
 have tQ:=hb _ (cu (s.heap.objs.size+1)::us) I2.cw hl
 rw[fQ]at tQ
 refine wpAny_call (Q3 (f:=f) I.cw M.makes M.init (beq_iff_eq.mp M.fn) (codeAny_mono (F.run _ X.stack _ _ ⟨cu (s.heap.objs.size+1)::us,[]⟩ (cu (s.heap.objs.size+1)::us) _ _ E (hr.make C us [])
  (I2.q0.make C us []) tQ r2 hq) λr s' gC=>?_))
 cases r with
 | error e =>
  obtain⟨a,T,cls,H',rfl,os,bare,un,aA,tr,a0,a1,t0,t1,hE⟩:=gC
  exact hx a T cls H' s' (I2.QK (ch:=[]) os un aA bare λb z=>absurd z (by simp)) tr (I2.apart hex a0 a1) (I2.apart hex t0 t1) hE
 | ok fl =>
  cases fl with
  | ret u =>
   obtain⟨v,H',I3,rv,ev,q3⟩:=I2.after gC
   subst ev
   exact⟨rv,⟨V.ref (s.heap.objs.size+1),H',I3,rfl,q3⟩⟩
  | next=>exact eB gC
  | brk=>exact eB gC
  | cont=>exact eB gC
noncomputable def uo(C:Addr)(sp:jN)(t:bY):BZ:=λδ _ Z=>t δ λds ae=>sp (.obj C [] []::ds.map D.sh) (λ_=>False) λcls=>Z cls ae
theorem cp4{sp:jN}(M:L2.Mk X.K C f)(F:aK X.prog X.w X.K X.mg X.base (jk X.prog X.w) n f fd ps (nh sp))(hr:bP (n+1) X.A)(hg:Gl X x)(hm:X.mg x=some (.ref C))(hb:Binds X.K fd ps [])(hex:X.ex=[])
  (ha:PA X (e::es) (lA t)) (cT:(x==("__debug__":Str))=false:=by decide) (he:starEach (e::es) X.env=(false,eval e X.env)::starEach es X.env:=by rfl) (bx:(backTo pos (starEach es X.env)).any (·.1)=false:=by rfl) :
  PX X (.Call (.Name x p) (e::es) [] pos) (lX (uo C sp t)):=by
 intro pins s σ H Q Z I hz zz
 obtain⟨B,F0,δ,Qd,Zd,c,q,k,kx⟩:=zz
 refine wpAny_Call_Name_kw (ot I hg hm ?_ cT)
 refine PySem.W.callWith_K (h₀:=X.base) I.ok.mod.j7 M.kp (aL (ha pos pins s σ H (λvs H1=>∀x dx,H1 x=none->H1 dx=none->dx≠x->nh sp (.ref x::vs) (upd (upd H1 dx (.own x)) x (.ins C dx [])) (λv H2=>v=.aj/\Q (.ref x) H2) λcls _ H'=>Z cls H') I ⟨B,F0,δ,[],_,c,q,λds ah vs F1 H1 q1 f1 h1 c1 s1=>?_⟩) λus s1 ⟨vs,H1,I1,r,q⟩=>⟨I1.cw,?_⟩) he bx
 ·intro x dx cm dW iP
  have sm:aa H1 (upd (upd H1 dx (.own x)) x (.ins C dx [])):=.of λb o e=>by rw[aQ (dj e cm),aQ (dj e dW)];exact e
  refine⟨_,.obj C [] []::ds.map D.sh,λ_=>False,_,aa.refl _,R.obj (ns:=[]) (ws:=[]) (xs:=[]) (by rw[bG];rfl) rfl .nil ((s1.frozen c1.ext).shared sm sm),q1,λd v F' H' A z=>z.elim,λcls H' hC hs=>kx cls ah F1 H' hC f1 (h1.trans (sm.trans hs)) (c1.grow (sm.trans hs))⟩
 ·exact bS2 M F hr hb hex I1 r q λa T cls H' s' I' tr pa pT hE=>hz a T cls H' s' I' tr pa pT hE
end
end L3
namespace L3
open PySem L2 Mf
section
variable{m:Bool × Nat}
theorem cv1(hm:m∈aM){a x:Nat}(ha:a<ag m)(hx:x<ag m):bQ m a (bQ m a x)=x:=by
 have g:=js hm ha hx
 have k:=js hm ha g.2.1
 refine(rg hm).can k.2.1 hx g.2.1 (k.2.2.trans ?_)
 rw[yU]
 exact g.2.2.symm
section
variable{b e L o:Nat}{y:List (Option Nat)}{w c:List Nat}{bb:Nat->Nat}
end
end
noncomputable def dG:Option Nat->D
 | none=>.aj
 | some a=>.int (a:Int)
noncomputable def bO(y:List (Option Nat)):List D:=y.map dG
theorem Vl(a:Option Nat):(dG a).sh=dG a:=by cases a<;>rfl
theorem Vm:∀a b:Option Nat,dG a=dG b->a=b
 | none,none,_=>rfl
 | some a,some b,h=>by
  have:(D.int (a:Int))=D.int (b:Int):=h
  injection this with h
  rw[show a=b by omega]
 | none,some _,h=>by cases h
 | some _,none,h=>by cases h
theorem nI(y:List (Option Nat)):(bO y).map D.sh=bO y:=by
 unfold bO;rw[dD];exact og λa _=>Vl a
theorem Ic(y:List (Option Nat)):(bO y).all D.pl=true:=by
 unfold bO;rw[kQ];exact cS.mpr λa _=>by cases a<;>rfl
theorem zh(y:List (Option Nat)):(bO y).length=y.length:=bK ..
theorem Ie{y:List (Option Nat)}{i:Nat}(hi:i<y.length):y[i]?=some (y.getD i none):=by
 rw[aT,aU hi];rfl
theorem cg6(y:List (Option Nat)):(dE (bO y)).map D.sh=(bo y.length).map λ(i:Nat)=>D.tup [.int (i:Int),dG (y.getD i none)]:=by
 apply E5
 intro i
 unfold dE bO
 rw[bV,oa,bV,bV]
 by_cases hi:i<y.length
 ·rw[jX hi,Ie hi]
  show some (D.tup [D.int (i:Int),dG (y.getD i none)]).sh=some (D.tup [D.int (i:Int),dG (y.getD i none)])
  rw[kj]
  simp only[dh,jV,kC,Vl]
 ·rw[fh (show y.length<=i by omega),fh (show(bo y.length).length<=i by simpa using hi)];rfl
end L3
namespace L3
open PySem L2 Mf
section
variable{m:Bool × Nat}
theorem cN2{y:List (Option Nat)}{N:Nat}(hy:∀a,some a∈y->a<N)(j a:Nat)(h:y.getD j none=some a):a<N:=by
 by_cases c:j<y.length
 ·exact hy a (h ▸ fu c none)
 ·rw[aT,fh (by omega)]at h;cases h
end
end L3
namespace L3
open PySem L2 Mf
section
variable{m:Bool × Nat}
end
end L3
namespace L3
open PySem L2 Mf
section
variable{m:Bool × Nat}
end
end L3
namespace L3
open PySem L2 Mf
section
variable{m:Bool × Nat}
end
end L3
namespace L3
open PySem L2 PySem.Spec PyProof.Rows
section
variable{X:Cx}{e:Expr}{t:aG}
noncomputable def uq(t:aG):aG:=λδ Q=>t δ λd ae=>Q d.sh ae
theorem cH4(h:PE X e (lE t)):PE X e (lB (uq t)):=cG h λσ H Q ⟨B,F,δ,ts,Qd,c,q,k⟩=>⟨B,F,δ,ts,_,c,q,λd ae v F' H' hd sf sh c'=>by
 obtain⟨F2,f2,c2⟩:=c'.GF
 exact k d.sh ae v F2 H' hd (sf.trans f2) sh c2.pop c2.top⟩
end
end L3
namespace L3
open PySem L2 Mf
section
variable{m:Bool × Nat}
theorem cO4(hm:m∈aM){T:List (List Nat)}(hT:RT (ag m) (aW T) T):RT (ag m) (aW T) (nH m (et m T) (aW T))/\(nH m (et m T) (aW T)).length<=aW T:=by
 obtain⟨⟨Hd,I⟩,iR,_,_⟩:=zd hm hT
 refine⟨λr hr=>?_,?_⟩
 ·obtain⟨f,hf,rfl⟩:=cI.mp hr
  obtain⟨k1,k2,_⟩:=CC hm iR I hf
  exact⟨k1,k2⟩
 ·unfold nH eR
  rw[bK]
  exact eA (Qy ..) (by rw[eE];exact bB _)
theorem cB6(hm:m∈aM){T:List (List Nat)}(hT:RT (ag m) (aW T) T):∀r∈et m T,∃x∈r,x≠0:=λr bz=>by
 obtain⟨⟨Hd,I⟩,iR,_,_⟩:=zd hm hT
 obtain⟨j,hj,rfl⟩:=jW bz
 have:=(I.Ia hm iR hj).2
 rw[Ib hj]at this
 exact this
theorem cJ5(y:List (Option Nat)):y=(bo y.length).map λj=>y.getD j none:=by
 refine AL (by rw[bK,eE]) λi h1 h2=>?_
 rw[qQ,Fg,aT,aU h1];rfl
noncomputable def kG(p:Option Nat × Nat):Bool:=match p.1 with
 | none=>false
 | some a=>decide (a≠p.2)
end
end L3
namespace L3
open PySem L2 Mf
section
variable{m:Bool × Nat}
end
end L3
namespace L2
open PySem PySem.Spec PyProof.Rows
section
variable{X:Cx}{CX:dN}{k:Nat}{f C:Addr}{fd:FuncData}{ps:List Str}{sp:Sp}{E:XK}{x m:Str}{p pos apos:Pos}{e:Expr}{es:List Expr}{t:TA}
noncomputable def tCM(sp:Sp)(E:XK)(t:TA):TE:=λσ H Q=>t σ H λvs H1=>sp vs H1 Q E
theorem cM4{pl:Sem Bool}(M:tR X.K C m f)(F:aK X.prog X.w X.K X.mg X.base CX k f fd ps sp)(hr:bP k X.A)(hb:Binds X.K fd ps [])(hx:ji CX X E)(hg:Gl X x)(hm:X.mg x=some (.ref C))(ha:PA X (e::es) t)
  (cT:(x==("__debug__":Str))=false:=by decide) (bU:starEach (e::es) X.env=(false,eval e X.env)::starEach es X.env:=by rfl) (bx:(backTo pos (starEach es X.env)).any (·.1)=false:=by rfl)
  (ht:eval (.Call (.Attribute (.Name x p) m apos) (e::es) [] pos) X.env=(do
   let ov<-eval (.Name x p) X.env
   standAt apos.atName
   let (f,first)<-holding [ov] (getMethod ov m pl)
   callWith pos f first (backTo pos (starEach (e::es) X.env)) (backToKw pos (keywordEach [] X.env))):=by rfl) :
  PE X (.Call (.Attribute (.Name x p) m apos) (e::es) [] pos) (tCM sp E t):=by
 intro pins s σ H Q I h
 exact Ua (pl:=pl) I M hg hm ha h (λus s1 vs H1 I1 r q=>q8 (eG:=[]) F hr hb .nil hx I1 r (by rw[fQ];exact q)) cT bU bx ht
end
end L2
namespace L3
open PySem L2 PySem.Spec PyProof.Rows
noncomputable def qe:bZ:=λx y Q=>match x,y with
 | .bl a,.bl b=>Q (.bl (a==b))
 | _,_=>False
theorem cK5{X:Cx}:bI X (compareOp .Is) qe:=⟨_,cz3,λ{B F H σ δ ts x y v w Q Qd} c sx sy h k=>by
 unfold qe at h
 split at h
 ·cases sx;cases sy
  exact⟨_,_,rfl,rfl,k _ _ _ h (aa.refl _) (c.pushS (.bl .nil) rfl)⟩
 ·exact h.elim⟩
end L3
namespace L3
open PySem L2 PySem.Spec PyProof.Rows
noncomputable def Vn(tl:List Addr)(C:Addr)(iY:List D->List Str->List D->Prop):L2.Sp:=λvs H Q _=>∃F H0 x dx bS ds ns xs,vs=.ref x::bS/\Tb tl H/\aa F H0/\H0 x=none/\aa H0 H/\H x=some (.ins C dx [])/\R F H0 ds bS []/\iY ds ns xs /\
 ∀H' ws A,bR x H H'->H' x=some (.ins C dx (ns.zip ws))->ns.length=ws.length->R F H' xs ws A->A.Nodup->(∀a∈A,H a=none)->Q .aj H'
noncomputable def ur(C:Addr)(iY:List D->List Str->List D->Prop)(ta:bY):aG:=λδ Q=>ta δ λds ae=>ds.all D.pl=true/\∃ns xs,iY ds ns xs/\Q (.obj C ns (xs.map D.sh)) ae
theorem ai.dK0{B:Bs}{F H H':Hp}{σ:L2.St}{δ:Dl}{ts:List (D × V)}{C dx x:Addr}{ns:List Str}{xs:List D}{ws:List V}{A:List Addr}(c:ai B F H σ δ ts)(hs:aa H H')(hx:H' x=some (.ins C dx (ns.zip ws)))(hl:ns.length=ws.length)
  (r1:R F H' xs ws A) (fr:∀a∈A,H a=none):aa F (L3.bt F H' A)/\ai B (L3.bt F H' A) H' σ δ ((.obj C ns (xs.map D.sh),.ref x)::ts):=by
 have c1:=c.grow hs
 have r2:=r1.bt c1.ext A (λ_ h=>h)
 have fs:aa F (L3.bt F H' A):=ia c1.ext
 obtain⟨A',C',r',s',nd,tT⟩:=c.own
 have out:∀a,(∃ws,H a=some (.lst ws))/\F a=none->L3.bt F H' A a=none:=λa zz=>by
  obtain⟨⟨ws,h⟩,hf⟩:=zz
  rw[oO (λz=>by rw[fr a z]at h;cases h)];exact hf
 have g1:=r'.grow fs hs λa ha=>out a (r'.lists a ha)
 have g2:=s'.keep fs (fm.same hs) gg.nil (λa ha=>out a (s'.lists a ha)) (by simp)
 refine⟨fs,oN c1.ext,c1.b1,c1.b2.trans fs,λa ws h=>?_,A',C',?_,g2,nd,tT⟩
 ·by_cases z:a∈A
  ·exact .inr (c.b1.free (fr a z))
  ·rw[oO z]at h;exact c.b3 a ws h
 ·exact R.obj hx hl r2 g1
section
variable{X:Cx}{CX:dN}{n:Nat}{f C:Addr}{fd:FuncData}{ps:List Str}{iY:List D->List Str->List D->Prop}{E:XK}{x:Str}{p pos:Pos}{e:Expr}{es:List Expr}{t:bY}{tl:List Addr}
theorem cp7(hT:Tb tl X.je)(M:L2.Mk X.K C f)(F:aK X.prog X.w X.K X.mg X.base CX n f fd ps (Vn tl C iY))(hr:bP (n+1) X.A)(hg:Gl X x)(hm:X.mg x=some (.ref C))(hb:Binds X.K fd ps [])(hx:ji CX X E)
  (ha:PA X (e::es) (lA t)) (cT:(x==("__debug__":Str))=false:=by decide) (he:starEach (e::es) X.env=(false,eval e X.env)::starEach es X.env:=by rfl) (bx:(backTo pos (starEach es X.env)).any (·.1)=false:=by rfl) :
  PE X (.Call (.Name x p) (e::es) [] pos) (lE (ur C iY t)):=by
 intro pins s σ H Q I zz
 obtain⟨B,F',δ,ts,Qd,c,q,k⟩:=zz
 have tb:=Ho I hT
 refine Ra M F hr hg hm hb .nil hx ha cT he bx pins s σ H Q I ⟨B,F',δ,ts,_,c,q,λds ah vs F1 H1 q1 f1 h1 c1 s1=>?_⟩
 intro x dx cm dW iP
 obtain⟨hp,ns,xs,hI,hq⟩:=q1
 have sm:aa H1 (upd (upd H1 dx (.own x)) x (.ins C dx [])):=.of λb o e=>by rw[aQ (dj e cm),aQ (dj e dW)];exact e
 refine⟨F1,H1,x,dx,vs,ds,ns,xs,by rw[fQ],yM (yM tb h1) sm,c1.ext,cm,sm,bG,s1.r hp,hI,λH' ws A yN du hl r nd fr=>⟨rfl,?_⟩⟩
 have s2:aa H1 H':=⟨λb o e n=>yN.get b o (dj e cm) (sm.get b o e n) n,λb ps e=>by
  obtain⟨m1,e1⟩:=sm.tb b ps e
  obtain⟨m2,e2⟩:=yN.tb b _ e1
  exact⟨m1++m2,by rw[e2,qy]⟩⟩
 obtain⟨fs,c2⟩:=c1.dK0 s2 du hl r λa ha=>sm.free (fr a ha)
 exact k _ ah _ _ H' hq (f1.trans fs) (h1.trans s2) c2
end
section
variable{X:Cx}{e:Expr}{te:aG}{x:Str}{p pos:Pos}{i:Nat}
noncomputable def uu(i:Nat)(te:aG):aG:=λδ Q=>∃d0,δ[i]?=some (some d0)/\te δ λd ah=>∃dx,ah[i]?=some (some dx)/\Q (.tup [dx,d]) (ah.set i none)
theorem cz2{x1}(i:Nat)(hN:X.N[i]?=some x:=by rfl)(hv:j8 X.env.scope x:=by first | exact au rfl | exact bj (au rfl) | exact bj (bj rfl))(he:PE X e (lE te))(hd:(x==("__debug__":Str))=false:=by decide)(cF:(x==("__classdict__":Str))=false:=by decide)
  (hs:starEach [.Name x p,e] X.env=(false,eval (.Name x p) X.env)::starEach [e] X.env:=by rfl) (eK:starEach [e] X.env=(false,eval e X.env)::starEach [] X.env:=by rfl):PE X (.Tuple [.Name x p,e] x1 pos) (lE (uu i te)) :=
 cG (Q7 (bX (oo hN hv hd cF) (bX he eF eK) hs)) λσ H Q ⟨B,F,δ,ts,Qd,c,⟨d0,e0,q⟩,k⟩=>by
  obtain⟨v,ev,_⟩:=c.move e0
  refine⟨v,ev,B,F,δ,ts,_,c,q,λd ah w F1 H1 q1 f1 h1 c1=>?_⟩
  obtain⟨dx,ex,hq⟩:=q1
  obtain⟨v',Vo,c2⟩:=c1.move ex
  rw[ev]at Vo
  cases Vo
  exact⟨by show 2<=sizeLine;rw[sL];decide,λp hp=>k _ _ _ F1 _ hq f1 (h1.trans (aa.upd hp)) (c2.Sq (ps:=[(dx,v),(d,w)]) hp)⟩
end
theorem bR.of0{x:Addr}{H0 H H':Hp}(h0:H0 x=none)(s:aa H0 H)(sx:bR x H H'):aa H0 H' :=
 ⟨λb o e n=>sx.get b o (λz=>by rw[z,h0]at e;cases e) (s.get b o e n) n,λb ps e=>by
  obtain⟨m1,e1⟩:=s.tb b ps e
  obtain⟨m2,e2⟩:=sx.tb b _ e1
  exact⟨m1++m2,by rw[e2,qy]⟩⟩
theorem zi{F H:Hp}{v:V}{A:List Addr}{xs:List D}(r:R F H [.lst true xs] [v] A):∃p,v=.ref p:=by
 cases r
 exact⟨_,rfl⟩
theorem Vp{F H F' H':Hp}:∀{l:List Int} {ws:List V} {A:List Addr},R F H (aC l) ws A->R F' H' (aC l) ws A
 | [],_,_,r=>by cases r;exact .nil
 | i::l,_,_,r=>by
  cases r with
  | int r=>exact .int (Vp r)
theorem Vq{F H H':Hp}:∀{G:List (List Nat)} {ws:List V} {A:List Addr},R F H (aH true G) ws A->(∀a∈A,H' a=H a)->R F H' (aH true G) ws A
 | [],_,_,r,_=>by cases r;exact .nil
 | g::G,_,_,r,h=>by
  cases r with
  | own e f x y=>exact .own (by rw[h _ mI];exact e) f (Vp (l:=g.map λ(n:Nat)=>(n:Int)) x) (Vq y λa ha=>h a (gz _ (dA _ ha)))
theorem cw1{F H H':Hp}{G:List (List Nat)}{v:V}{A:List Addr}(r:R F H [.lst true (aH true G)] [v] A)(h:∀a∈A,H' a=H a):R F H' [.lst true (aH true G)] [v] A:=by
 cases r with
 | own e f x y =>
  cases y
  exact .own (by rw[h _ mI];exact e) f (Vq x λa ha=>h a (gz _ (eJ _ ha))) .nil
noncomputable abbrev Ig:List Str:=["field","length","check_rows","word_rows","message_places","size"]
structure dK4(K:PySem.W.Frag)(C:Addr):Prop where
 cls:dk K C
 field:aY K C "field"
 length:aY K C "length"
 dK5:aY K C "check_rows"
 dK6:aY K C "word_rows"
 Vr:aY K C "message_places"
 size:aY K C "size"
end L3
namespace L3
open PySem L2 Mf
section
variable{m:Bool × Nat}
noncomputable def gP(m:Bool × Nat)(n i:Nat):List Nat:=aw i 0++[1]++aw (n-2-i) 0++[bQ m 0 1]
noncomputable def cY(m:Bool × Nat)(n:Nat):List (List Nat):=(bo (n-1)).map (gP m n)
theorem qf{n i:Nat}(hi:i<n-1)(j:Nat):cf (gP m n i) j=if j=i then 1 else if j=n-1 then bQ m 0 1 else 0:=by
 unfold gP cf
 rw[aT]
 by_cases c1:j<i
 ·rw[if_neg (by omega),if_neg (by omega),dM,dM,wo (by rw[cK];exact c1),iF,if_pos c1];rfl
 ·by_cases c2:j=i
  ·rw[if_pos c2,dM,dM,qG (by rw[cK];omega),cK,c2,Nat.sub_self];rfl
  ·rw[if_neg c2]
   by_cases c3:j<n-1
   ·rw[if_neg (by omega),wo (by simp only[gA,cK,mK];omega),qG (by simp only[gA,cK,mK];omega),iF]
    split<;>rfl
   ·rw[qG (by simp only[gA,cK,mK];omega)]
    simp only[gA,cK,mK]
    by_cases c4:j=n-1
    ·rw[if_pos c4,show j-(i+1+(n-2-i))=0 by omega];rfl
    ·rw[if_neg c4,fh (by rw[mK];omega)];rfl
theorem nJ(hm:m∈aM){n:Nat}(h2:2<=n):RT (ag m) n (cY m n)/\(cY m n).length=n-1/\aW (cY m n)=n:=by
 have gF:=lo1 hm
 have g:=(js hm (show 0<ag m by omega) (show 1<ag m by omega)).2.1
 have l:(cY m n).length=n-1:=by unfold cY;rw[bK,eE]
 have r:RT (ag m) n (cY m n):=λx hx=>by
  obtain⟨i,hi,rfl⟩:=cI.mp hx
  have hi:=dz.mp hi
  unfold gP
  refine⟨by simp only[gA,cK,mK];omega,λa ha=>?_⟩
  simp only[cO,mM,fS]at ha
  rcases ha with ((⟨_,rfl⟩ | rfl) | ⟨_,rfl⟩) | rfl
  ·omega
  ·omega
  ·omega
  ·exact g
 exact⟨r,l,Vg r λz=>by rw[z]at l;exact absurd l (by show ¬ (0=n-1);omega)⟩
theorem Ih{n i:Nat}(hi:i<n-1):(cY m n).getD i []=gP m n i:=by
 unfold cY
 rw[aT,bV,jX hi];rfl
theorem Ii(hm:m∈aM){n:Nat}(h2:2<=n):RR n (cY m n) λi=>i:=by
 obtain⟨_,l,_⟩:=nJ hm h2
 refine⟨λi j hi hj=>?_,λi hi t ht=>?_,λi j h _=>h,λi hi=>by omega⟩
 ·rw[Ih (by omega),qf (by omega)]
  by_cases c:j=i
  ·rw[if_pos c,if_pos c.symm]
  ·rw[if_neg c,if_neg (by omega),if_neg λz=>c z.symm]
 ·rw[Ih (by omega),qf (by omega),if_neg (by omega),if_neg (by omega)]
theorem Vs(hm:m∈aM){n:Nat}(h2:2<=n):et m (cY m n)=cY m n:=by
 obtain⟨r,l,w⟩:=nJ hm h2
 exact cF1 hm (by rw[w];exact r) (by rw[w];exact r) (by rw[w];exact Ii hm h2) (λx hx=>cB.of hx) λx hx=>cB.of hx
theorem Ij(hm:m∈aM){n:Nat}(h2:2<=n):eR (cY m n) n=[n-1]:=by
 obtain⟨r,l,w⟩:=nJ hm h2
 have I:=Ii hm h2
 have mem:=I.free hm r
 unfold eR at mem ⊢
 rw[show bo n=bo (n-1)++[n-1] by rw[<-AM,show(n-1).succ=n by omega]]at mem ⊢
 rw[Qn,List.filter_eq_nil_iff.mpr λj hj z=>?_,nY,AQ ?_,List.filter_nil]
 ·have q:=(mem (n-1)).mpr ⟨by omega,λi hi=>by omega⟩
  exact(mH.mp q).2
 ·have:=(mem j).mp (mH.mpr ⟨eJ _ hj,z⟩)
  have hj:=dz.mp hj
  exact this.2 j (by omega) rfl
theorem cS2(hm:m∈aM){x:Nat}(hx:x<ag m):bQ m 0 (bQ m 0 x)=x:=cv1 hm (by have:=lo1 hm;omega) hx
theorem cr4(hm:m∈aM){n:Nat}(h2:2<=n):nH m (cY m n) n=[aw n 1]:=by
 have gF:=lo1 hm
 obtain⟨r,l,w⟩:=nJ hm h2
 have I:=Ii hm h2
 unfold nH
 rw[Ij hm h2,Qz]
 obtain⟨k1,k2,k3,k4,k5⟩:=CC hm r I (f:=n-1) (by rw[Ij hm h2];exact fS.mpr rfl)
 congr 1
 refine CA k1 (cK ..) λj hj=>?_
 rw[show cf (aw n 1) j=1 by unfold cf;rw[aT,iF,if_pos hj];rfl]
 by_cases c:j=n-1
 ·rw[c];exact k3
 ·have:=k4 j (by omega)
  rw[this,Ih (by omega),qf (by omega),if_neg (by omega),if_pos rfl,cS2 hm (by omega)]
theorem cf5(hm:m∈aM){n s:Nat}(h2:2<=n)(hs:s<ag m):∀r∈cY m n,gd m r (aw n s)=0:=λr hr=>by
 have g:=rg hm
 have h0:=dP m hm
 have gF:=lo1 hm
 obtain⟨rt,l,w⟩:=nJ hm h2
 obtain⟨i,hi,rfl⟩:=cI.mp hr
 have hi:=dz.mp hi
 have lr:=(rt _ hr).1
 rw[Vc m (by rw[lr,cK]),lr,Vf g (f:=λj=>gm m (cf (gP m n i) j) (cf (aw n s) j)) (a:=i) (b:=n-1) (by omega) (by omega) (by omega) (gr hm _ _) (gr hm _ _) λj hj c1 c2=>by rw[qf hi,if_neg c1,if_neg c2,iw m _ h0]]
 have e:∀j,j<n->cf (aw n s) j=s:=λj hj=>by unfold cf;rw[aT,iF,if_pos hj];rfl
 rw[qf hi,if_pos rfl,qf hi,if_neg (by omega),if_pos rfl,e i (by omega),e (n-1) (by omega),<- UL h0,yU,(js hm (show 0<ag m by omega) (show 1<ag m by omega)).2.2,iw m _ h0]
noncomputable def gw(cb cp cr:Addr)(m:Bool × Nat)(n:Nat):D:=.obj cr ["field","length","check_rows","word_rows","message_places","size"] [fD cb cp m,.int n,.lst false (aH false (cY m n)),.lst false (aH false [aw n 1]),.lst false (aq [n-1]),.int 1]
theorem cv6(hm:m∈aM){n s:Nat}(hs:s<ag m):nG m [s] [aw n 1] n=aw n s:=by
 have gF:=lo1 hm
 refine cB9 rfl (cK ..) λk hk=>?_
 rw[show cf (aw n s) k=s by unfold cf;rw[aT,iF,if_pos hk];rfl]
 show s=gp m 0 (gm m s (cf (aw n 1) k))
 rw[show cf (aw n 1) k=1 by unfold cf;rw[aT,iF,if_pos hk];rfl,tZ hs,HH hs]
end
end L3
namespace HK32
open PySem.W (Frag codeHdIn kitOne nsIn fnOf codeIn keepIn findIn plainGet hasDictIn plainOver makesIn isFn specialIn takesIn mroIn clsIn typeIn subIn mg_of mg_none_of CodeHd)
open PySem L2 L3 Mf
seal L2.PSs L2.PS L2.PE L2.PT L2.PA L2.PI L2.PG L2.PO L2.PW
local macro_rules | `(tactic| walk_at "l3") => do
  let l ← (("rN o7 rO rP rQ dT lK m3 m4 dC oS o5 oY oX oZ rL m8 sS pG sU sV rE rF rG rH rJ rK oV sP pB pE pd sj pf sk sq sr su sA sC sD iI gi sE sF sG sH pj pk lU sN sO gN sW sQ rR rV rW rX rZ se sX sY o8 kn fc iV ib wA qI AR AS o6 jJ jn pF pL tf tu tw tD tF nj yB tJ pO yG pP tH iq yE yC yD dh jV wB nY fP AU aw wL wM i9 jc wN exists_eq_left' exists_eq_left D.bl.injEq D.int.injEq D.lst.injEq D.fz.injEq D.str.injEq D.tup.injEq AV and_true true_and di qN jx i8 xZ x6 x8 x9 ya yb gb ki kC yg yh yi yj yk dX kj yc yd ye yf e7 mY AW AX qA gU AY AZ wq yr yt yu yv yw yx yy lY lZ pI jr pJ yn yq ym yo pK yp s8 ik s9 if_true n8 if_false reduceIte yz decide_eq_true_eq sZ eP me pQ nr rS tP pY tI pV pW pX tS ub eW yY nF y0 p8 uh uj dJ uk um uo uq ur uu qe sL t9 UH cs5 cp3 pZ p5".splitOn " ").toArray.map fun (s : String) => Lean.mkIdent s.toName).mapM fun i => `(Lean.Parser.Tactic.simpLemma| $i:term)
  `(tactic| (try dsimp only [$l,*]) <;> (try simp only [$l,*]))
noncomputable def top (i:Nat):Stmt:=PySem.Challenge.pw_mendfield_k32_code_by_repeating.main.body.getD i (.Pass ⟨0,0,0,0⟩)
noncomputable abbrev uv:Stmt:=top 47
theorem Ik:bc ["_law_cell_here","_law_some","_law_primes"] ["_law_cell_here"] (ao uv):=⟨rfl,rfl,rfl,by decide +kernel,rfl,by decide +kernel,by decide +kernel⟩
noncomputable abbrev uw:Stmt:=top 36
theorem CF:bc ["a","product","found","power"] ["a","product"] (ao uw):=⟨rfl,rfl,rfl,by decide +kernel,rfl,by decide +kernel,by decide +kernel⟩
noncomputable abbrev uz:Stmt:=top 37
theorem zj:bc ["many","product","step","found"] ["many","product"] (ao uz):=⟨rfl,rfl,rfl,by decide +kernel,rfl,by decide +kernel,by decide +kernel⟩
noncomputable abbrev uA:Stmt:=top 38
theorem Il:bc ["powers","logs","n","a"] ["powers"] (ao uA):=⟨rfl,rfl,rfl,by decide +kernel,rfl,by decide +kernel,by decide +kernel⟩
noncomputable abbrev uB:Stmt:=df (top 42) 8
theorem aE3:bc ["self","n"] ["self","n"] (ao uB):=⟨rfl,rfl,rfl,by decide +kernel,rfl,by decide +kernel,by decide +kernel⟩
noncomputable abbrev uC:Stmt:=df (top 42) 0
theorem aO5:bc ["self","many","product"] ["self","many","product"] (ao uC):=⟨rfl,rfl,rfl,by decide +kernel,rfl,by decide +kernel,by decide +kernel⟩
noncomputable abbrev uD:Stmt:=top 41
theorem aC7:bc ["prime"] ["prime"] (ao uD):=⟨rfl,rfl,rfl,by decide +kernel,rfl,by decide +kernel,by decide +kernel⟩
noncomputable abbrev mB:Stmt:=df (top 44) 0
theorem aF0:bc ["self","prime"] ["self","prime"] (ao mB):=⟨rfl,rfl,rfl,by decide +kernel,rfl,by decide +kernel,by decide +kernel⟩
noncomputable abbrev uE:Stmt:=top 39
theorem CG:bc ["powers","logs","many","rows","a"] ["powers","logs"] (ao uE):=⟨rfl,rfl,rfl,by decide +kernel,rfl,by decide +kernel,by decide +kernel⟩
noncomputable abbrev uF:Stmt:=top 33
theorem uG:bc ["a","b","quotient","rest","shift"] ["a","b"] (ao uF):=⟨rfl,rfl,rfl,by decide +kernel,rfl,by decide +kernel,by decide +kernel⟩
noncomputable abbrev uH:Stmt:=top 34
theorem Im:bc ["a","half","b"] ["a"] (ao uH):=⟨rfl,rfl,rfl,by decide +kernel,rfl,by decide +kernel,by decide +kernel⟩
noncomputable abbrev uI:Stmt:=top 40
theorem aF1:bc ["bits"] ["bits"] (ao uI):=⟨rfl,rfl,rfl,by decide +kernel,rfl,by decide +kernel,by decide +kernel⟩
noncomputable abbrev uJ:Stmt:=top 32
theorem CH:bc ["a","b","product","k"] ["a","b"] (ao uJ):=⟨rfl,rfl,rfl,by decide +kernel,rfl,by decide +kernel,by decide +kernel⟩
noncomputable abbrev mC:Stmt:=df (top 43) 0
theorem Vt:bc ["self","bits","many"] ["self","bits"] (ao mC):=⟨rfl,rfl,rfl,by decide +kernel,rfl,by decide +kernel,by decide +kernel⟩
noncomputable abbrev uK:Stmt:=top 51
theorem aO6:bc ["_law_told_here"] ["_law_told_here"] (ao uK):=⟨rfl,rfl,rfl,by decide +kernel,rfl,by decide +kernel,by decide +kernel⟩
noncomputable abbrev uL:Stmt:=top 48
theorem aQ2:bc ["_law_told_here"] ["_law_told_here"] (ao uL):=⟨rfl,rfl,rfl,by decide +kernel,rfl,by decide +kernel,by decide +kernel⟩
noncomputable abbrev uM:Stmt:=top 52
theorem Vu:bc ["_law_kind","_law_cell_here","_law_far"] ["_law_kind","_law_cell_here"] (ao uM):=⟨rfl,rfl,rfl,by decide +kernel,rfl,by decide +kernel,by decide +kernel⟩
noncomputable abbrev uN:Stmt:=top 13
theorem aS6:bc ["table"] ["table"] (ao uN):=⟨rfl,rfl,rfl,by decide +kernel,rfl,by decide +kernel,by decide +kernel⟩
noncomputable abbrev uO:Stmt:=top 17
theorem Vv:bc ["rows","place","number","row"] ["rows","place"] (ao uO):=⟨rfl,rfl,rfl,by decide +kernel,rfl,by decide +kernel,by decide +kernel⟩
noncomputable abbrev uP:Stmt:=df (top 43) 6
theorem Vw:bc ["self","a","row","by_a"] ["self","a","row"] (ao uP):=⟨rfl,rfl,rfl,by decide +kernel,rfl,by decide +kernel,by decide +kernel⟩
noncomputable abbrev uQ:Stmt:=df (top 44) 6
theorem Vx:bc ["self","a","row","prime"] ["self","a","row"] (ao uQ):=⟨rfl,rfl,rfl,by decide +kernel,rfl,by decide +kernel,by decide +kernel⟩
noncomputable abbrev uR:Stmt:=df (top 43) 7
theorem Vy:bc ["self","row","a","other","by_a"] ["self","row","a","other"] (ao uR):=⟨rfl,rfl,rfl,by decide +kernel,rfl,by decide +kernel,by decide +kernel⟩
noncomputable abbrev uS:Stmt:=df (top 44) 7
theorem Vz:bc ["self","row","a","other","prime"] ["self","row","a","other"] (ao uS):=⟨rfl,rfl,rfl,by decide +kernel,rfl,by decide +kernel,by decide +kernel⟩
noncomputable abbrev uT:Stmt:=top 18
theorem aT5:bc ["field","rows","lead_row","place"] ["field","rows","lead_row","place"] (ao uT):=⟨rfl,rfl,rfl,by decide +kernel,rfl,by decide +kernel,by decide +kernel⟩
noncomputable abbrev uU:Stmt:=df (top 42) 5
theorem aO7:bc ["self","a","b"] ["self","a","b"] (ao uU):=⟨rfl,rfl,rfl,by decide +kernel,rfl,by decide +kernel,by decide +kernel⟩
noncomputable abbrev uV:Stmt:=top 19
theorem nK:bc ["field","table","done","left","place","number","lead_row"] ["field","table"] (ao uV):=⟨rfl,rfl,rfl,by decide +kernel,rfl,by decide +kernel,by decide +kernel⟩
noncomputable abbrev uW:Stmt:=top 24
theorem aU2:bc ["table"] ["table"] (ao uW):=⟨rfl,rfl,rfl,by decide +kernel,rfl,by decide +kernel,by decide +kernel⟩
noncomputable abbrev uX:Stmt:=top 20
theorem cg7:bc ["rows"] ["rows"] (ao uX):=⟨rfl,rfl,rfl,by decide +kernel,rfl,by decide +kernel,by decide +kernel⟩
noncomputable abbrev uY:Stmt:=top 21
theorem VA:bc ["rows","width","taken"] ["rows","width"] (ao uY):=⟨rfl,rfl,rfl,by decide +kernel,rfl,by decide +kernel,by decide +kernel⟩
noncomputable abbrev uZ:Stmt:=df (top 43) 2
theorem aI0:bc ["self","a","b"] ["self","a","b"] (ao uZ):=⟨rfl,rfl,rfl,by decide +kernel,rfl,by decide +kernel,by decide +kernel⟩
noncomputable abbrev u0:Stmt:=df (top 44) 2
theorem aE4:bc ["self","a","b"] ["self","a","b"] (ao u0):=⟨rfl,rfl,rfl,by decide +kernel,rfl,by decide +kernel,by decide +kernel⟩
noncomputable abbrev u3:Stmt:=top 22
theorem u4:bc ["field","rows","width","taken","found","free","x","lead","row"] ["field","rows","width"] (ao u3):=⟨rfl,rfl,rfl,by decide +kernel,rfl,by decide +kernel,by decide +kernel⟩
noncomputable abbrev u5:Stmt:=df (top 28) 0
theorem VB:bc ["self","field","checks","rows"] ["self","field","checks"] (ao u5):=⟨rfl,rfl,rfl,by decide +kernel,rfl,by decide +kernel,by decide +kernel⟩
noncomputable abbrev u6:Stmt:=top 29
theorem VC:bc ["field","length","less_one"] ["field","length"] (ao u6):=⟨rfl,rfl,rfl,by decide +kernel,rfl,by decide +kernel,by decide +kernel⟩
noncomputable abbrev u7:Stmt:=df (top 30) 0
theorem VD:bc ["self","field","length"] ["self","field","length"] (ao u7):=⟨rfl,rfl,rfl,by decide +kernel,rfl,by decide +kernel,by decide +kernel⟩
noncomputable abbrev u9:Stmt:=top 56
theorem Io:bc ["_law_script","_law_length_here","_law_sign","_law_many_here","_law_word","_law_at","_law_cell_here"] ["_law_script","_law_length_here","_law_sign","_law_many_here"] (ao u9):=⟨rfl,rfl,rfl,by decide +kernel,rfl,by decide +kernel,by decide +kernel⟩
noncomputable abbrev va:Stmt:=top 46
theorem aQ3:bc ["_law_script","_law_k"] ["_law_script","_law_k"] (ao va):=⟨rfl,rfl,rfl,by decide +kernel,rfl,by decide +kernel,by decide +kernel⟩
noncomputable abbrev vb:Stmt:=top 53
theorem CI:bc ["_law_field_here","_law_length_here","_law_refusal","e"] ["_law_field_here","_law_length_here"] (ao vb):=⟨rfl,rfl,rfl,by decide +kernel,rfl,by decide +kernel,by decide +kernel⟩
noncomputable abbrev vd:Stmt:=top 25
theorem aJ4:bc ["signs","length"] ["signs","length"] (ao vd):=⟨rfl,rfl,rfl,by decide +kernel,rfl,by decide +kernel,by decide +kernel⟩
noncomputable abbrev ve:Stmt:=df (top 42) 1
theorem aM4:bc ["self","x"] ["self","x"] (ao ve):=⟨rfl,rfl,rfl,by decide +kernel,rfl,by decide +kernel,by decide +kernel⟩
noncomputable abbrev vg:Stmt:=top 26
theorem VE:bc ["field","signs","place","sign"] ["field","signs"] (ao vg):=⟨rfl,rfl,rfl,by decide +kernel,rfl,by decide +kernel,by decide +kernel⟩
noncomputable abbrev vh:Stmt:=df (top 43) 5
theorem zk:bc ["self","xs","ys","products","total","x","y"] ["self","xs","ys"] (ao vh):=⟨rfl,rfl,rfl,by decide +kernel,rfl,by decide +kernel,by decide +kernel⟩
noncomputable abbrev vi:Stmt:=df (top 44) 5
theorem aI1:bc ["self","xs","ys"] ["self","xs","ys"] (ao vi):=⟨rfl,rfl,rfl,by decide +kernel,rfl,by decide +kernel,by decide +kernel⟩
noncomputable abbrev vj:Stmt:=top 14
theorem aU3:bc ["table"] ["table"] (ao vj):=⟨rfl,rfl,rfl,by decide +kernel,rfl,by decide +kernel,by decide +kernel⟩
noncomputable abbrev vk:Stmt:=top 15
theorem aU4:bc ["field","row","table"] ["field","row","table"] (ao vk):=⟨rfl,rfl,rfl,by decide +kernel,rfl,by decide +kernel,by decide +kernel⟩
noncomputable abbrev vm:Stmt:=df (top 28) 5
theorem aK9:bc ["self","message"] ["self","message"] (ao vm):=⟨rfl,rfl,rfl,by decide +kernel,rfl,by decide +kernel,by decide +kernel⟩
noncomputable abbrev vn:Stmt:=df (top 30) 1
theorem az6:bc ["self"] ["self"] (ao vn):=⟨rfl,rfl,rfl,by decide +kernel,rfl,by decide +kernel,by decide +kernel⟩
noncomputable abbrev zo:Stmt:=df (top 43) 8
noncomputable abbrev zr:Stmt:=df (top 44) 8
noncomputable abbrev vo:Stmt:=df (top 30) 3
theorem aF3:bc ["self"] ["self"] (ao vo):=⟨rfl,rfl,rfl,by decide +kernel,rfl,by decide +kernel,by decide +kernel⟩
noncomputable abbrev vp:Stmt:=df (top 28) 3
theorem aM5:bc ["self"] ["self"] (ao vp):=⟨rfl,rfl,rfl,by decide +kernel,rfl,by decide +kernel,by decide +kernel⟩
noncomputable abbrev vq:Stmt:=df (top 28) 2
theorem aQ4:bc ["self"] ["self"] (ao vq):=⟨rfl,rfl,rfl,by decide +kernel,rfl,by decide +kernel,by decide +kernel⟩
noncomputable abbrev vt:Stmt:=df (top 28) 1
theorem aM6:bc ["self"] ["self"] (ao vt):=⟨rfl,rfl,rfl,by decide +kernel,rfl,by decide +kernel,by decide +kernel⟩
noncomputable abbrev vv:Stmt:=top 54
theorem CJ:bc ["_law_told_here","_law_length_here","_law_table","_law_i","_law_row"] ["_law_told_here","_law_length_here"] (ao vv):=⟨rfl,rfl,rfl,by decide +kernel,rfl,by decide +kernel,by decide +kernel⟩
noncomputable abbrev vw:Stmt:=top 16
theorem aQ5:bc ["field","table","column"] ["field","table","column"] (ao vw):=⟨rfl,rfl,rfl,by decide +kernel,rfl,by decide +kernel,by decide +kernel⟩
noncomputable abbrev vx:Stmt:=df (top 28) 7
theorem aL0:bc ["self","word"] ["self","word"] (ao vx):=⟨rfl,rfl,rfl,by decide +kernel,rfl,by decide +kernel,by decide +kernel⟩
noncomputable abbrev vy:Stmt:=df (top 28) 10
theorem aF4:bc ["self","word"] ["self","word"] (ao vy):=⟨rfl,rfl,rfl,by decide +kernel,rfl,by decide +kernel,by decide +kernel⟩
noncomputable abbrev vz:Stmt:=top 27
theorem VF:bc ["field","signs","place","sign"] ["field","signs"] (ao vz):=⟨rfl,rfl,rfl,by decide +kernel,rfl,by decide +kernel,by decide +kernel⟩
noncomputable abbrev vA:Stmt:=df (top 30) 2
theorem Ip:bc ["self","word","kept","sign"] ["self","word"] (ao vA):=⟨rfl,rfl,rfl,by decide +kernel,rfl,by decide +kernel,by decide +kernel⟩
noncomputable abbrev vB:Stmt:=top 11
theorem CK:bc ["signs","sent","found","place","due","was"] ["signs","sent"] (ao vB):=⟨rfl,rfl,rfl,by decide +kernel,rfl,by decide +kernel,by decide +kernel⟩
noncomputable abbrev zt:Stmt:=top 10
noncomputable abbrev vC:Stmt:=df (top 28) 9
theorem VG:bc ["self","word","sent"] ["self","word"] (ao vC):=⟨rfl,rfl,rfl,by decide +kernel,rfl,by decide +kernel,by decide +kernel⟩
noncomputable abbrev vD:Stmt:=df (top 28) 11
theorem aQ6:bc ["self","word"] ["self","word"] (ao vD):=⟨rfl,rfl,rfl,by decide +kernel,rfl,by decide +kernel,by decide +kernel⟩
noncomputable abbrev vE:Stmt:=top 55
theorem VH:bc ["_law_code","_law_told_here","_law_length_here","_law_sign","_law_word"] ["_law_code","_law_told_here","_law_length_here","_law_sign"] (ao vE):=⟨rfl,rfl,rfl,by decide +kernel,rfl,by decide +kernel,by decide +kernel⟩
noncomputable abbrev mD:Stmt:=top 57
theorem jP:bc ["_law_script","_law_told_here","_law_field_here","_law_many_here","_law_length_here","_law_code","_law_sign","_law_word","_law_wrong","_law_lost","_law_handed"] ["_law_script"] (ao mD):=⟨rfl,rfl,rfl,by decide +kernel,rfl,by decide +kernel,by decide +kernel⟩
set_option genInjectivity false in
set_option genSizeOf false in
structure dr where
 Iq:Addr
 Ir:FuncData
 Iu:Addr
 Iw:FuncData
 Iy:Addr
 Iz:FuncData
 IA:Addr
 IB:FuncData
 zu:Addr
 IC:FuncData
 ID:Addr
 IE:FuncData
 IF:Addr
 IG:FuncData
 IH:Addr
 CL:FuncData
 II:Addr
 IJ:FuncData
 IK:Addr
 IL:FuncData
 IM:Addr
 IQ:FuncData
 IS:Addr
 IT:FuncData
 IU:Addr
 IV:FuncData
 IW:Addr
 CM:FuncData
 IY:Addr
 IZ:FuncData
 I0:Addr
 Ja:FuncData
 Jb:Addr
 Jc:FuncData
 Jd:Addr
 Je:FuncData
 Jf:Addr
 Jg:FuncData
 Jh:Addr
 Ji:FuncData
 Jj:Addr
 Jk:FuncData
 Jl:Addr
 Jm:FuncData
 Jn:Addr
 Jo:FuncData
 Jp:Addr
 Jq:FuncData
 CN:Addr
 Jr:FuncData
 Js:Addr
 Jt:FuncData
 Ju:Addr
 Jv:FuncData
 Jw:Addr
 Jx:FuncData
 Jy:Addr
 Jz:FuncData
 JA:Addr
 JB:FuncData
 JC:Addr
 JE:FuncData
 JF:Addr
 JG:FuncData
 JH:Addr
 JI:FuncData
 JJ:Addr
 JK:FuncData
 CO:Addr
 CP:FuncData
 JL:Addr
 JM:FuncData
 JN:Addr
 JO:FuncData
 JP:Addr
 JQ:FuncData
 JR:Addr
 JS:FuncData
 CQ:Addr
 JT:FuncData
 JU:Addr
 JV:FuncData
 JW:Addr
 JX:FuncData
 JY:Addr
 JZ:FuncData
 J0:Addr
 J1:FuncData
 J2:Addr
 J3:FuncData
 J4:Addr
 J5:FuncData
 J6:Addr
 J7:FuncData
 VI:Addr
 VJ:FuncData
 VL:Addr
 VM:FuncData
 J8:Addr
 J9:FuncData
 Ka:Addr
 Kb:FuncData
 Kd:Addr
 Ke:FuncData
 Kf:Addr
 Kg:FuncData
 Kh:Addr
 Ki:FuncData
 Kj:Addr
 Kk:FuncData
 Kl:Addr
 Km:FuncData
 Kn:Addr
 Ko:FuncData
 Kp:Addr
 Kq:FuncData
 Kr:Addr
 Ks:FuncData
 Kt:Addr
 Ku:FuncData
 VN:Addr
 VO:FuncData
 Kv:Addr
 Kw:FuncData
 Kx:Addr
 Ky:FuncData
 Kz:Addr
 KA:FuncData
 KC:Addr
 KD:FuncData
 VP:Addr
 i4:Addr
 VQ:Addr
 i5:Addr
 az:Addr
 dH:Addr
 fK:Addr
 jt:Addr
 iB:Addr
 cZ:Addr
 iC:Addr
 aB:Addr
 aO:Addr
structure Txt(K:Frag)(mg:Str->Option Value)(t:dr):Prop where
 VR:aV K "_law_told" "_law_told" uv t.Iq t.Ir
 aS7:mg "_law_told"=some (.ref t.Iq)
 aS8:Binds K t.Ir ["_law_cell_here"] []
 KG:aV K "powers_of" "powers_of" uw t.Iu t.Iw
 VS:mg "powers_of"=some (.ref t.Iu)
 VT:Binds K t.Iw ["a","product"] []
 VU:aV K "step_powers" "step_powers" uz t.Iy t.Iz
 dO3:mg "step_powers"=some (.ref t.Iy)
 dO4:Binds K t.Iz ["many","product"] []
 VV:aV K "logs_of" "logs_of" uA t.IA t.IB
 dO5:mg "logs_of"=some (.ref t.IA)
 dO6:Binds K t.IB ["powers"] []
 aF6:aV K "step_power" "Field.step_power" uB t.zu t.IC
 KH:Binds K t.IC ["self","n"] []
 aQ7:aV K "__init__" "Field.__init__" uC t.ID t.IE
 VW:Binds K t.IE ["self","many","product"] []
 VX:aV K "makes_prime_field" "makes_prime_field" uD t.IF t.IG
 dO9:mg "makes_prime_field"=some (.ref t.IF)
 dP2:Binds K t.IG ["prime"] []
 aI2:aV K "__init__" "PrimeField.__init__" mB t.IH t.CL
 aI3:Binds K t.CL ["self","prime"] []
 VY:aV K "product_rows" "product_rows" uE t.II t.IJ
 dP5:mg "product_rows"=some (.ref t.II)
 dP6:Binds K t.IJ ["powers","logs"] []
 KI:aV K "bits_divided" "bits_divided" uF t.IK t.IL
 VZ:mg "bits_divided"=some (.ref t.IK)
 V0:Binds K t.IL ["a","b"] []
 V1:aV K "stands_alone" "stands_alone" uH t.IM t.IQ
 dP7:mg "stands_alone"=some (.ref t.IM)
 dP8:Binds K t.IQ ["a"] []
 V2:aV K "makes_bit_field" "makes_bit_field" uI t.IS t.IT
 dP9:mg "makes_bit_field"=some (.ref t.IS)
 dQ0:Binds K t.IT ["bits"] []
 V3:aV K "bits_times" "bits_times" uJ t.IU t.IV
 dQ1:mg "bits_times"=some (.ref t.IU)
 dQ2:Binds K t.IV ["a","b"] []
 aL1:aV K "__init__" "BitField.__init__" mC t.IW t.CM
 aL2:Binds K t.CM ["self","bits"] []
 V4:aV K "_law_field" "_law_field" uK t.IY t.IZ
 aQ8:mg "_law_field"=some (.ref t.IY)
 aQ9:Binds K t.IZ ["_law_told_here"] []
 V5:aV K "_law_many" "_law_many" uL t.I0 t.Ja
 aS9:mg "_law_many"=some (.ref t.I0)
 aT0:Binds K t.Ja ["_law_told_here"] []
 V6:aV K "_law_length" "_law_length" uM t.Jb t.Jc
 aO8:mg "_law_length"=some (.ref t.Jb)
 aO9:Binds K t.Jc ["_law_kind","_law_cell_here"] []
 CS:aV K "width_of" "width_of" uN t.Jd t.Je
 KJ:mg "width_of"=some (.ref t.Jd)
 KL:Binds K t.Je ["table"] []
 V7:aV K "first_with" "first_with" uO t.Jf t.Jg
 dR3:mg "first_with"=some (.ref t.Jf)
 dR4:Binds K t.Jg ["rows","place"] []
 aI4:aV K "scaled" "BitField.scaled" uP t.Jh t.Ji
 aI5:Binds K t.Ji ["self","a","row"] []
 aE5:aV K "scaled" "PrimeField.scaled" uQ t.Jj t.Jk
 aE6:Binds K t.Jk ["self","a","row"] []
 aE7:aV K "lessened" "BitField.lessened" uR t.Jl t.Jm
 aE8:Binds K t.Jm ["self","row","a","other"] []
 aB7:aV K "lessened" "PrimeField.lessened" uS t.Jn t.Jo
 aB8:Binds K t.Jo ["self","row","a","other"] []
 KN:aV K "cleared" "cleared" uT t.Jp t.Jq
 V8:mg "cleared"=some (.ref t.Jp)
 V9:Binds K t.Jq ["field","rows","lead_row","place"] []
 aR0:aV K "over" "Field.over" uU t.CN t.Jr
 Wa:Binds K t.Jr ["self","a","b"] []
 Wb:aV K "reduced" "reduced" uV t.Js t.Jt
 dS4:mg "reduced"=some (.ref t.Js)
 dS5:Binds K t.Jt ["field","table"] []
 CT:aV K "copied" "copied" uW t.Ju t.Jv
 KO:mg "copied"=some (.ref t.Ju)
 KP:Binds K t.Jv ["table"] []
 KQ:aV K "leads" "leads" uX t.Jw t.Jx
 Wc:mg "leads"=some (.ref t.Jw)
 Wd:Binds K t.Jx ["rows"] []
 KR:aV K "free_places" "free_places" uY t.Jy t.Jz
 We:mg "free_places"=some (.ref t.Jy)
 Wf:Binds K t.Jz ["rows","width"] []
 aJ5:aV K "minus" "BitField.minus" uZ t.JA t.JB
 aJ6:Binds K t.JB ["self","a","b"] []
 aG0:aV K "minus" "PrimeField.minus" u0 t.JC t.JE
 aG1:Binds K t.JE ["self","a","b"] []
 Wg:aV K "kernel_of_reduced" "kernel_of_reduced" u3 t.JF t.JG
 dT0:mg "kernel_of_reduced"=some (.ref t.JF)
 dT1:Binds K t.JG ["field","rows","width"] []
 dT2:aV K "__init__" "Code.__init__" u5 t.JH t.JI
 dT3:Binds K t.JI ["self","field","checks"] []
 Wh:aV K "repeat_checks" "repeat_checks" u6 t.JJ t.JK
 dT4:mg "repeat_checks"=some (.ref t.JJ)
 dT5:Binds K t.JK ["field","length"] []
 Wi:aV K "__init__" "RepeatCode.__init__" u7 t.CO t.CP
 Wj:Binds K t.CP ["self","field","length"] []
 Wk:aV K "_law_spoilt" "_law_spoilt" u9 t.JL t.JM
 aP0:mg "_law_spoilt"=some (.ref t.JL)
 aP1:Binds K t.JM ["_law_script","_law_length_here","_law_sign","_law_many_here"] []
 zw:aV K "_law_cell" "_law_cell" va t.JN t.JO
 CU:mg "_law_cell"=some (.ref t.JN)
 CV:Binds K t.JO ["_law_script","_law_k"] []
 Wl:aV K "_law_refused" "_law_refused" vb t.JP t.JQ
 aM7:mg "_law_refused"=some (.ref t.JP)
 aM8:Binds K t.JQ ["_law_field_here","_law_length_here"] []
 KS:aV K "refuse_length" "refuse_length" vd t.JR t.JS
 Wm:mg "refuse_length"=some (.ref t.JR)
 Wn:Binds K t.JS ["signs","length"] []
 aP2:aV K "holds" "Field.holds" ve t.CQ t.JT
 Wo:Binds K t.JT ["self","x"] []
 Wq:aV K "refuse_no_sign" "refuse_no_sign" vg t.JU t.JV
 dU1:mg "refuse_no_sign"=some (.ref t.JU)
 dU2:Binds K t.JV ["field","signs"] []
 aM9:aV K "dot" "BitField.dot" vh t.JW t.JX
 aN0:Binds K t.JX ["self","xs","ys"] []
 aJ7:aV K "dot" "PrimeField.dot" vi t.JY t.JZ
 aJ8:Binds K t.JZ ["self","xs","ys"] []
 Wr:aV K "turned" "turned" vj t.J0 t.J1
 dU7:mg "turned"=some (.ref t.J0)
 dU8:Binds K t.J1 ["table"] []
 Ws:aV K "row_by" "row_by" vk t.J2 t.J3
 dU9:mg "row_by"=some (.ref t.J2)
 dV0:Binds K t.J3 ["field","row","table"] []
 dV1:aV K "written" "Code.written" vm t.J4 t.J5
 dV2:Binds K t.J5 ["self","message"] []
 dV3:aV K "distance" "RepeatCode.distance" vn t.J6 t.J7
 dV4:Binds K t.J7 ["self"] []
 aV5:aV K "told" "BitField.told" zo t.VI t.VJ
 aV6:Binds K t.VJ ["self"] []
 aV0:aV K "told" "PrimeField.told" zr t.VL t.VM
 aV1:Binds K t.VM ["self"] []
 dV5:aV K "told" "RepeatCode.told" vo t.J8 t.J9
 dV6:Binds K t.J9 ["self"] []
 dV7:aV K "places" "Code.places" vp t.Ka t.Kb
 dV8:Binds K t.Kb ["self"] []
 dV9:aV K "rows" "Code.rows" vq t.Kd t.Ke
 dW0:Binds K t.Ke ["self"] []
 dW1:aV K "checks" "Code.checks" vt t.Kf t.Kg
 dW2:Binds K t.Kg ["self"] []
 Wt:aV K "_law_checks" "_law_checks" vv t.Kh t.Ki
 aP3:mg "_law_checks"=some (.ref t.Kh)
 aP4:Binds K t.Ki ["_law_told_here","_law_length_here"] []
 Wu:aV K "by_column" "by_column" vw t.Kj t.Kk
 dW5:mg "by_column"=some (.ref t.Kj)
 dW6:Binds K t.Kk ["field","table","column"] []
 dW7:aV K "is_word" "Code.is_word" vx t.Kl t.Km
 dW8:Binds K t.Km ["self","word"] []
 dW9:aV K "message_in" "Code.message_in" vy t.Kn t.Ko
 dX0:Binds K t.Ko ["self","word"] []
 Wv:aV K "refuse_no_sign_but_lost" "refuse_no_sign_but_lost" vz t.Kp t.Kq
 dX1:mg "refuse_no_sign_but_lost"=some (.ref t.Kp)
 dX2:Binds K t.Kq ["field","signs"] []
 dX3:aV K "nearest" "RepeatCode.nearest" vA t.Kr t.Ks
 dX4:Binds K t.Ks ["self","word"] []
 Ww:aV K "differences" "differences" vB t.Kt t.Ku
 dX5:mg "differences"=some (.ref t.Kt)
 dX6:Binds K t.Ku ["signs","sent"] []
 fc2:aV K "lost_places" "lost_places" zt t.VN t.VO
 fc3:mg "lost_places"=some (.ref t.VN)
 fc4:Binds K t.VO ["signs"] []
 dX7:aV K "mended" "Code.mended" vC t.Kv t.Kw
 Wx:Binds K t.Kw ["self","word"] []
 dX8:aV K "read" "Code.read" vD t.Kx t.Ky
 dX9:Binds K t.Ky ["self","word"] []
 Wy:aV K "_law_made" "_law_made" vE t.Kz t.KA
 aT1:mg "_law_made"=some (.ref t.Kz)
 aT2:Binds K t.KA ["_law_code","_law_told_here","_law_length_here","_law_sign"] []
 dY2:aV K "law" "law" mD t.KC t.KD
 fc5:mg "law"=some (.ref t.KC)
 fc6:Binds K t.KD ["_law_script"] []
 aG2:t.CL.code=.ref t.VP
 aG3:codeHdIn K t.VP t.i4=true
 aJ9:t.CM.code=.ref t.VQ
 aK0:codeHdIn K t.VQ t.i5=true
 fe:dk K t.az
 zx:Mk K t.az t.IW
 aV8:HG K t.az
 zy:aY K t.az "bits"
 CW:aY K t.az "check_rows"
 CY:aY K t.az "field"
 CZ:aY K t.az "length"
 nL:aY K t.az "logs"
 qg:aY K t.az "many"
 C2:aY K t.az "message_places"
 qh:aY K t.az "powers"
 C3:aY K t.az "prime"
 nM:aY K t.az "products"
 C4:aY K t.az "size"
 zA:aY K t.az "step"
 zB:aY K t.az "wide"
 C5:aY K t.az "word_rows"
 zC:Meth K t.az "dot" t.JW
 zD:Meth K t.az "holds" t.CQ
 zE:Meth K t.az "lessened" t.Jl
 zF:Meth K t.az "minus" t.JA
 zG:Meth K t.az "over" t.CN
 zH:Meth K t.az "scaled" t.Jh
 vF:Meth K t.az "step_power" t.zu
 C6:Meth K t.az "told" t.VI
 fL:dk K t.aB
 zI:Mk K t.aB t.IH
 aV7:HG K t.aB
 C7:aY K t.aB "bits"
 C8:aY K t.aB "check_rows"
 C9:aY K t.aB "field"
 Dc:aY K t.aB "length"
 qi:aY K t.aB "logs"
 qj:aY K t.aB "many"
 De:aY K t.aB "message_places"
 vG:aY K t.aB "powers"
 mE:aY K t.aB "prime"
 Df:aY K t.aB "products"
 Dg:aY K t.aB "size"
 zJ:aY K t.aB "step"
 zK:aY K t.aB "wide"
 Dh:aY K t.aB "word_rows"
 zL:Meth K t.aB "dot" t.JY
 zM:Meth K t.aB "holds" t.CQ
 zN:Meth K t.aB "lessened" t.Jn
 zO:Meth K t.aB "minus" t.JC
 zP:Meth K t.aB "over" t.CN
 zQ:Meth K t.aB "scaled" t.Jj
 vH:Meth K t.aB "step_power" t.zu
 Di:Meth K t.aB "told" t.VL
 iD:dk K t.aO
 vI:Mk K t.aO t.CO
 fc9:HG K t.aO
 Dj:aY K t.aO "bits"
 qk:aY K t.aO "check_rows"
 kH:aY K t.aO "field"
 jQ:aY K t.aO "length"
 Dk:aY K t.aO "logs"
 Dm:aY K t.aO "many"
 ql:aY K t.aO "message_places"
 Dn:aY K t.aO "powers"
 Dq:aY K t.aO "prime"
 Dr:aY K t.aO "products"
 qm:aY K t.aO "size"
 Ds:aY K t.aO "step"
 Dt:aY K t.aO "wide"
 qo:aY K t.aO "word_rows"
 zR:Meth K t.aO "checks" t.Kf
 zS:Meth K t.aO "distance" t.J6
 zT:Meth K t.aO "is_word" t.Kl
 vJ:Meth K t.aO "mended" t.Kv
 zU:Meth K t.aO "message_in" t.Kn
 zV:Meth K t.aO "nearest" t.Kr
 zW:Meth K t.aO "places" t.Ka
 zX:Meth K t.aO "read" t.Kx
 zY:Meth K t.aO "rows" t.Kd
 zZ:Meth K t.aO "told" t.J8
 z0:Meth K t.aO "written" t.J4
 dY7:tR K t.fK "__init__" t.JH
 Wz:tR K t.jt "__init__" t.ID
 dY8:mg "ValueError"=none
 KU:mg "all"=none
 dY9:mg "bool"=none
 nN:mg "enumerate"=none
 dZ0:mg "int"=none
 z5:mg "isinstance"=none
 jR:mg "len"=none
 KW:mg "list"=none
 kI:mg "range"=none
 dZ1:mg "str"=none
 dZ2:mg "sum"=none
 z7:mg "zip"=none
 z9:mg "BitField"=some (.ref t.az)
 Aa:mg "ByNought"=some (.ref t.dH)
 Ab:mg "Code"=some (.ref t.fK)
 vK:mg "Field"=some (.ref t.jt)
 Ac:mg "MendError"=some (.ref t.iB)
 vL:mg "NoCode"=some (.ref t.cZ)
 Ad:mg "NoWord"=some (.ref t.iC)
 Ae:mg "PrimeField"=some (.ref t.aB)
 vM:mg "RepeatCode"=some (.ref t.aO)
 WA:B0 K mg "ByNought" t.dH
 aV9:rq K t.dH
 aT6:kitOne K (.ref t.dH) (.ref t.iB)=some true
 aV2:kitOne K (.ref t.dH) (.ref t.iC)=some false
 aV3:PySem.W.exmOne K (.ref t.dH) (.ref t.cZ)=some false
 aT4:kitOne K (.ref t.dH) (.type "ValueError")=some true
 dZ3:B0 K mg "NoCode" t.cZ
 KY:rq K t.cZ
 aG4:kitOne K (.ref t.cZ) (.ref t.iB)=some true
 dZ5:kitOne K (.ref t.cZ) (.ref t.iC)=some false
 dZ6:PySem.W.exmOne K (.ref t.cZ) (.ref t.cZ)=some true
 dZ7:kitOne K (.ref t.cZ) (.type "ValueError")=some true
 aV4:kitOne K (.type "NoneType") (.ref t.iB)=some false
 fd6:kitOne K (.type "NoneType") (.ref t.iC)=some false
section
variable{P:Program}{w:World}{K:Frag}{mg:Str->Option Value}{base:Heap}{t:dr}
noncomputable abbrev aR1:bf:=λds Q=>∃c:Int,ds=[.int c]/\Q (gq (nD c))
theorem aR2(T:Txt K mg t):aK P w K mg base aR 1 t.Iq t.Ir ["_law_cell_here"] (bh (aR1 )):=by
 refine bD T.VR Ik ?_ ?_
 ·intro ds Q h
  obtain⟨c,rfl,q⟩:=h<;>rfl
 ·intro aE A outer s H E hr
  refine⟨_,(aJ (bE (i:=1) Ik.nd rfl (au rfl) (Te (ns:=[7,11,13,19,25,31,37,41,47,55,59,61,67,73,87,91,97,103,109,115,117]) (by decide +kernel)))
   (aJ (bE (i:=2) Ik.nd rfl (au rfl) (Te (ns:=[2,3,5,7,11,13,17,19,23,29,31,37,41,43,47,53,59,61]) (by decide +kernel)))
   (aJ (cR (bJ (fH (cM hr)) (af (aP dY (bv 0) (af av))) (af av) (bA _)) (aF (aX (rM (cH jH (cH (cV (cq (bv 1) (af (aP dY (af (aP xO (bv 0) (af av))) (af av))) (λ_ _=>rfl))) dv))))) cQ)
   (aF (aX (rM (cH jH (cH (cV (cq (bv 2) (af (aP dY (af (aP xO (bv 0) (af av))) (af av))) (λ_ _=>rfl))) dv)))))))),λds Q h=>?_⟩
  obtain⟨c,rfl,q⟩:=h
  refine aI λU hU=>?_
  walk_at"l3"
  refine⟨by decide,hU _ ?_⟩
  clear hU U
  refine aI λU hU=>?_
  walk_at"l3"
  refine⟨by decide,hU _ ?_⟩
  clear hU U
  refine aI λU hU=>?_
  walk_at"l3"
  refine⟨by decide,?_⟩
  have n1:=jY (c/2) (show(21:Int)≠0 by decide)
  have n2:=jZ (c/2) (show(0:Int)<21 by decide)
  have n3:=jY (c/2) (show(18:Int)≠0 by decide)
  have n4:=jZ (c/2) (show(0:Int)<18 by decide)
  split
  ·rename_i hc
   refine⟨xN (by decide) (by decide),by decide,_,kD n1 (by simpa using n2),rfl,by decide,?_⟩
   have e:gq (nD c)=.tup [.bl true,.int (([7,11,13,19,25,31,37,41,47,55,59,61,67,73,87,91,97,103,109,115,117]:List Int).getD (c/2%21).toNat 0)]:=by
    unfold nD gq
    rw[if_pos hc]
    have:∀k:Nat,((fI.getD k 0:Nat):Int)=([7,11,13,19,25,31,37,41,47,55,59,61,67,73,87,91,97,103,109,115,117]:List Int).getD k 0:=λk=>by
     show _=(fI.map (λ(n:Nat)=>(n:Int))).getD k ((0:Nat):Int)
     rw[aT,aT,bV]
     cases fI[k]?<;>rfl
    rw[<-this]
   rw[<-e];exact q
  ·rename_i hc
   refine hU _ ?_
   walk_at"l3"
   refine⟨xN (by decide) (by decide),by decide,_,kD n3 (by simpa using n4),rfl,by decide,?_⟩
   have e:gq (nD c)=.tup [.bl false,.int (([2,3,5,7,11,13,17,19,23,29,31,37,41,43,47,53,59,61]:List Int).getD (c/2%18).toNat 0)]:=by
    unfold nD gq
    rw[if_neg hc]
    have:∀k:Nat,((mi.getD k 0:Nat):Int)=([2,3,5,7,11,13,17,19,23,29,31,37,41,43,47,53,59,61]:List Int).getD k 0:=λk=>by
     show _=(mi.map (λ(n:Nat)=>(n:Int))).getD k ((0:Nat):Int)
     rw[aT,aT,bV]
     cases mi[k]?<;>rfl
    rw[<-this]
   rw[<-e];exact q
noncomputable abbrev aR3(L:Obj->Obj->Addr->Addr->tO->Prop):bf:=λds Q=>∃(a:Nat) (of oc:Obj) (c k:Addr) (g:Nat->Nat->Nat) (l:List Int),ds=[.int a,.bu (.lam of oc c k)]/\L of oc c k (yP g)/\a<64/\Hz g a=some l/\Q (.lst true (aC l))
theorem WB(T:Txt K mg t):aK P w K mg base aR 5 t.Iu t.Iw ["a","product"] (bh (aR3 (yI P w K mg base 4))):=by
 refine bD T.KG CF ?_ ?_
 ·intro ds Q h
  obtain⟨a,of,oc,c,k,g,l,rfl,hL,ha,hp,q⟩:=h<;>rfl
 ·intro aE A outer s H E hr
  refine⟨_,(aJ (bE (i:=2) CF.nd rfl (au rfl) (eN (cH av dv)))
   (aJ (bE (i:=3) CF.nd rfl (au rfl) (T1 (n:=4) (i:=1) rfl (by first | exact au rfl | exact bj (au rfl)) (hr.mono (by decide)) (ak (af av) (ak (bv 0) aD))))
   (aJ (GJ fv (bJ (gj (cM hr)) (bv 3) (af av) (bA _))
    (aJ (xX (i:=2) rfl (by first | exact au rfl | exact bj (au rfl)) (cV (bv 3)))
    (aF (bE (i:=3) CF.nd rfl (au rfl) (T1 (n:=4) (i:=1) rfl (by first | exact au rfl | exact bj (au rfl)) (hr.mono (by decide)) (ak (bv 3) (ak (bv 0) aD)))))))
   (aF (aX (em 2)))))),λds Q h=>?_⟩
  obtain⟨a,of,oc,c,k,g,l,rfl,hL,ha,hp,q⟩:=h
  refine aI λU hU=>?_
  walk_at"l3"
  refine⟨by decide,hU _ ?_⟩
  clear hU U
  refine aI λU hU=>?_
  walk_at"l3"
  refine⟨of,oc,c,k,yP g,rfl,hL,1,a,⟨rfl,rfl⟩,1,a,rfl,rfl,by decide,ha,hU _ ?_⟩
  clear hU U
  refine aI λU hU=>?_
  walk_at"l3"
  refine⟨λm δ=>∃(p:Nat) (acc:List Int),δ=[some (.int a),some (.bu (.lam of oc c k)),some (.lst true (aC acc)),some (.int p)]/\acc.length+m<=70/\Ci g a m p acc=some l,⟨64,_,[1],rfl,by decide,hp⟩,?_⟩
  rintro m δ ⟨p,acc,rfl,hn,hg⟩
  walk_at"l3"
  cases m with
  | zero=>cases hg
  | succ m =>
   unfold Ci at hg
   split at hg
   ·rename_i h1
    subst h1
    cases hg
    rw[if_neg (by simp)]
    refine hU _ ?_
    walk_at"l3"
    exact q
   ·rename_i h1
    rw[if_pos (by simp;omega)]
    split at hg
    ·rename_i h2
     clear hU
     refine aI λU hU=>?_
     walk_at"l3"
     refine⟨⟨_,rfl⟩,by omega,hU _ ?_⟩
     clear hU
     walk_at"l3"
     exact⟨of,oc,c,k,yP g,rfl,hL,p,a,⟨rfl,rfl⟩,p,a,rfl,rfl,h2,ha,m,by omega,g p a,acc++[(p:Int)],⟨by rw[<-pJ];rfl,rfl⟩,by simp;omega,hg⟩
    ·cases hg
noncomputable abbrev aN1(L:Obj->Obj->Addr->Addr->tO->Prop):bf:=λds Q=>∃(n:Nat) (of oc:Obj) (c k:Addr) (g:Nat->Nat->Nat) (l:List Int),ds=[.int n,.bu (.lam of oc c k)]/\L of oc c k (yP g)/\yO g n=some l/\Q (.lst true (aC l))
theorem aN2(T:Txt K mg t):aK P w K mg base aR 6 t.Iy t.Iz ["many","product"] (bh (aN1 (yI P w K mg base 4))):=by
 refine bD T.VU zj ?_ ?_
 ·intro ds Q h
  obtain⟨n,of,oc,c,k,g,l,rfl,hL,hp,q⟩:=h<;>rfl
 ·intro aE A outer s H E hr
  refine⟨_,(aJ (bE (i:=2) zj.nd rfl (au rfl) av)
   (aJ (bE (i:=3) zj.nd rfl (au rfl) (cJ ((WB T).mono (by decide)) hr rfl T.VS T.KG.kp T.VT bC (ak (bv 2) (ak (bv 1) aD))))
   (aJ (GJ fv (bJ ph (af (ij (kA) (by rfl) T.jR jE (ak (bv 3) aD))) (af (aP fF (bv 0) (af av))) (bA _))
    (aJ (xG (i:=2) zj.nd rfl (au rfl) (af av) cC9)
    (aF (bE (i:=3) zj.nd rfl (au rfl) (cJ ((WB T).mono (by decide)) hr rfl T.VS T.KG.kp T.VT bC (ak (bv 2) (ak (bv 1) aD)))))))
   (aF (aX (em 3)))))),λds Q h=>?_⟩
  obtain⟨n,of,oc,c,k,g,l,rfl,hL,hp,q⟩:=h
  unfold yO at hp
  split at hp
  ·rename_i l0 h0
   refine aI λU hU=>?_
   walk_at"l3"
   refine hU _ ?_
   clear hU U
   refine aI λU hU=>?_
   walk_at"l3"
   refine⟨1,of,oc,c,k,g,l0,rfl,hL,by decide,h0,hU _ ?_⟩
   clear hU U
   refine aI λU hU=>?_
   walk_at"l3"
   refine⟨λm δ=>∃(st:Nat) (l1:List Int),δ=[some (.int n),some (.bu (.lam of oc c k)),some (.int st),some (.lst true (aC l1))]/\st+m<=63/\Cj g n m st l1=some l,⟨62,1,l0,rfl,by decide,hp⟩,?_⟩
   rintro m δ ⟨st,l1,rfl,hn,hg⟩
   walk_at"l3"
   cases m with
   | zero=>cases hg
   | succ m =>
    unfold Cj at hg
    split at hg
    ·rename_i h1
     rw[if_pos (by omega)]
     split at hg
     ·rename_i l2 h2
      clear hU
      refine aI λU hU=>?_
      walk_at"l3"
      refine hU _ ?_
      clear hU
      walk_at"l3"
      exact⟨st+1,of,oc,c,k,g,l2,rfl,hL,by omega,h2,m,by omega,st+1,l2,⟨rfl,rfl⟩,by omega,hg⟩
     ·cases hg
    ·rename_i h1
     rw[if_neg (by omega)]
     cases hg
     refine hU _ ?_
     walk_at"l3"
     exact q
  ·cases hp
noncomputable abbrev aT7:bf:=λds Q=>∃(l:List Int),ds=[.lst false (aC l)]/\l.length<=64/\(∀x∈l,0<=x/\x.toNat<=l.length)/\Q (.lst true (aC (dF l)))
theorem aT8(T:Txt K mg t):aK P w K mg base aR 1 t.IA t.IB ["powers"] (bh (aT7 )):=by
 refine bD T.VV Il ?_ ?_
 ·intro ds Q h
  obtain⟨l,rfl,hl,hx,q⟩:=h<;>rfl
 ·intro aE A outer s H E hr
  refine⟨_,(aJ (bE (i:=1) Il.nd rfl (au rfl) (aP fG (af (eN (cH av dv))) (af (aP gh (af (ij (kA) (by rfl) T.jR jE (ak (bv 0) aD))) (af av)))))
   (aJ (gL fv rfl (nk rfl T.nN (ak (bv 0) aD)) (iW (i1:=2) (i2:=3) rfl Il.nd rfl (au rfl) rfl (au rfl))
    (aF (m9 (i:=1) rfl (by first | exact au rfl | exact bj (au rfl)) (cV (bv 2)) (bv 3))))
   (aF (aX (em 1))))),λds Q h=>?_⟩
  obtain⟨l,rfl,hl,hx,q⟩:=h
  refine aI λU hU=>?_
  walk_at"l3"
  refine⟨by decide,⟨by omega,by omega,by omega⟩,hU _ ?_⟩
  clear hU U
  refine aI λU hU=>?_
  walk_at"l3"
  refine fE.mk (λi δ=>∃o1 o2,δ=[some (.lst false (aC l)),some (.lst true (aC (mj l i))),o1,o2]) ⟨none,none,?_⟩ ?_ ?_
  ·rw[show((l.length:Int)+1).toNat=l.length+1 by omega];rfl
  ·rintro i d δ hd ⟨o1,o2,rfl⟩
   obtain⟨hi,rfl⟩:∃h:i<l.length,d=.tup [.int i,.int l[i]]:=by
    unfold dE aC at hd
    rw[oa,bV]at hd
    by_cases hi:i<l.length
    ·rw[aU hi]at hd
     simp at hd
     exact⟨hi,hd.symm⟩
    ·rw[fh (by omega)]at hd;simp at hd
   have cm:=hx l[i] (eY _)
   walk_at"l3"
   refine⟨_,(l[i]).toNat,rfl,?_,_,_,?_,rfl,rfl⟩
   ·unfold gE
    rw[lY,yQ,if_pos cm.1,if_pos (by omega)]
   ·unfold aC
    rw[<-E9]
    congr 1
    show _=(mj l i).set (l.getD i 0).toNat (i:Int)
    rw[aT,aU hi];rfl
  ·rintro δ ⟨o1,o2,rfl⟩
   refine hU _ ?_
   simp only[rN,o7,rO,rP,rQ,dT,lK,m3,m4,dC,oS,o5,oY,oX,oZ,rL,m8,sS,pG,sU,sV,rE,rF,rG,rH,rJ,rK,oV,sP,pB,pE,pd,sj,pf,sk,sq,sr,su,sA,sC,sD,iI,gi,sE,sF,sG,sH,pj,pk,lU,sN,sO,gN,sW,sQ,rR,rV,rW,rX,rZ,se,sX,sY,o8,kn,fc,iV,ib,wA,qI,AR,AS,o6,jJ,jn,pF,pL,tf,tu,tw,tD,tF,nj,yB,tJ,pO,yG,pP,tH,iq,yE,yC,yD,dh,jV,wB,nY,fP,AU,aw,wL,wM,i9,jc,wN,exists_eq_left',exists_eq_left,D.bl.injEq,D.int.injEq,D.lst.injEq,D.fz.injEq,D.str.injEq,D.tup.injEq,AV,and_true,true_and,di,qN,jx,i8,xZ,x6,x8,x9,ya,yb,gb,ki,kC,yg,yh,yi,yj,yk,dX,kj,yc,yd,ye,yf,e7,mY,AW,AX,qA,gU,AY,AZ,wq,yr,yt,yu,yv,yw,yx,yy,lY,lZ,pI,jr,pJ,yn,yq,ym,yo,pK,yp,s8,ik,s9,if_true,n8,if_false,reduceIte,yz,decide_eq_true_eq,sZ,eP,me,pQ,nr,rS,tP,pY,tI,pV,pW,pX,tS,ub,eW,yY,nF,y0,p8,uh,uj,dJ,uk,um,uo,uq,ur,uu,qe,pM]
   exact q
noncomputable abbrev KZ(K:Frag):bf:=λds Q=>∃(C:Addr) (ns:List Str) (xs:List D) (n:Int) (many:Nat) (l:List Int) (r:Int),ds=[.obj C ns xs,.int n]/\dk K C/\aY K C "powers"/\aY K C "many"/\(ns.zip xs).lookup ("powers":Str)=some (.lst false (aC l))/\(ns.zip xs).lookup ("many":Str)=some (.int many)/\2<=many/\l[(n%((many:Int)-1)).toNat]?=some r/\Q (.int r)
theorem K0(T:Txt K mg t):aK P w K mg base aR 1 t.zu t.IC ["self","n"] (bh (KZ K)):=by
 refine bD T.aF6 aE3 ?_ ?_
 ·intro ds Q h
  obtain⟨C,ns,xs,n,many,l,r,rfl,hC,h1,h2,h3,h4,h5,h6,q⟩:=h<;>rfl
 ·intro aE A outer s H E hr
  refine⟨_,(aF (aX (cV (cq (cW (K:=K) (bv 0)) (af (aP dY (bv 1) (af (aP fF (cW (K:=K) (bv 0)) (af av))))) (λ_ _=>rfl))))),λds Q h=>?_⟩
  obtain⟨C,ns,xs,n,many,l,r,rfl,hC,h1,h2,h3,h4,h5,h6,q⟩:=h
  walk_at"l3"
  refine⟨C,ns,xs,_,rfl,hC,h1,h3,C,ns,xs,_,rfl,hC,h2,h4,?_⟩
  refine⟨by omega,_,kY (d:=.int r) (jY _ (by omega)) ?_,rfl,q⟩
  unfold aC
  rw[bV,h6];rfl
noncomputable abbrev aP5(P:Program)(w:World)(K:Frag)(mg:Str->Option Value)(base:Heap)(fs:Addr):Sp:=λvs H Q _=>∃(x dx f C:Addr) (b:Str) (n0:Int) (many:Nat) (of oc:Obj) (c k:Addr) (g:Nat->Nat->Nat) (l:List Int) (st:Int),
 vs=[.ref x,.int many,.ref f]/\H x=some (.ins C dx [(b,.int n0)])/\(∀n∈(["many","wide","powers","logs","step","step_power"]:List Str),b≠n)/\dz2 K C fs/\jm H f of oc c k/\yI P w K mg base 4 of oc c k (yP g)/\Um g many l st /\
 ∀H' p1 p2,bR x H H'->H' x=some (.ins C dx ((gn b).zip (Ck n0 many p1 p2 st)))->LI H' p1 l->LI H' p2 (dF l)->p1≠p2->H p1=none->H p2=none->Q .aj H'
theorem WC(T:Txt K mg t):aK P w K mg base aR 7 t.ID t.IE ["self","many","product"] (aP5 P w K mg base t.zu):=by
 refine T.aQ7.ok aO5 (λvs H Q E h=>?_) λaE A outer s H vs Q E hr h=>?_
 ·obtain⟨x,dx,f,C,b,n0,many,of,oc,c,k,g,l,st,rfl,_⟩:=h;rfl
 obtain⟨x,dx,f,C,b,n0,many,of,oc,c,k,g,l,st,rfl,hx,hb,hC,d06,hL,hF,q⟩:=h
 refine⟨_,fj (g6 (pv 0) (pv 1) rfl) (fj (g6 (pv 0) (xh FI (Gi (pv 1)) oq) rfl)
  (fj (g6 (pv 0) (iN ((aN2 T).mono (by decide)) hr rfl T.dO3 T.VU.kp T.dO4 .nil bC (bX (pv 1) (bX (pv 2) eF))) rfl)
  (fj (g6 (pv 0) (iN ((aT8 T).mono (by decide)) hr rfl T.dO5 T.VV.kp T.dO6 .nil bC (bX (oF (pv 0) rfl) eF)) rfl)
  (kW (g6 (pv 0) (co4 (pv 0) hC.cls hC.sp ((K0 T).mono (by decide)) hr T.KH .nil bC (bX oq eF)) rfl))))),?_⟩
 have nb:∀n∈(["many","wide","powers","logs","step","step_power"]:List Str),b≠n:=hb
 refine⟨.int many,rfl,.ref x,rfl,x,C,dx,_,rfl,hx,hC.cls,hC.many,gS (bB 1) (by decide),?_⟩
 rw[tV (by simpa using nb "many" (by simp))]
 generalize e1:upd H x (HO.ins C dx ([(b,V.int n0)]++[(("many":Str),V.int many)]))=H1
 have cm:H1 x=some (.ins C dx [(b,V.int n0),(("many":Str),V.int many)]):=by rw[<-e1,bG];rfl
 have s1:bR x H H1:=by rw[<-e1];exact bR.upd (C:=C) (dx:=dx) hx rfl
 have l1:jm H1 f of oc c k:=by rw[<-e1];exact d06.tW hx
 have n1:∀p,H1 p=none->H p=none:=λp h=>yR hx (by rw[e1];exact h)
 refine⟨_,rfl,rfl,_,rfl,rfl,_,_,rfl,rfl,.ref x,rfl,x,C,dx,_,rfl,cm,hC.cls,hC.wide,gS (bB 2) (by decide),?_⟩
 rw[tV (by simp;exact⟨nb "wide" (by simp),by decide⟩),iH]
 generalize e2:upd H1 x (HO.ins C dx ([(b,V.int n0),(("many":Str),V.int many)]++[(("wide":Str),V.int ((bl many:Nat)-1))]))=H2
 have dW:H2 x=some (.ins C dx [(b,V.int n0),(("many":Str),V.int many),(("wide":Str),V.int ((bl many:Nat)-1))]):=by rw[<-e2,bG];rfl
 have s2:bR x H H2:=by rw[<-e2];exact s1.trans (bR.upd (C:=C) (dx:=dx) cm rfl)
 have l2:jm H2 f of oc c k:=by rw[<-e2];exact l1.tW cm
 have n2:∀p,H2 p=none->H p=none:=λp h=>n1 p (yR cm (by rw[e2];exact h))
 refine⟨_,rfl,_,rfl,H2,[.int many,.bu (.lam of oc c k)],λd=>d=.lst true (aC l),aa.refl _,.int (.bu l2 .nil),⟨many,of,oc,c,k,g,l,rfl,hL,hF.step,rfl⟩,λd v F' H3 A' hd hs hf he h3 r nd fr=>?_⟩
 subst hd
 obtain⟨p1,rfl,hp1,Af⟩:=Ul r fr
 have iE:=hs.get _ _ dW
 have s3:=s2.trans (hs.x (x:=x))
 refine⟨.ref x,rfl,x,C,dx,_,rfl,iE,hC.cls,hC.HA,gS (bB 3) (by decide),?_⟩
 rw[tV (by simp;exact⟨nb "powers" (by simp),by decide,by decide⟩)]
 generalize e4:upd H3 x (HO.ins C dx ([(b,V.int n0),(("many":Str),V.int many),(("wide":Str),V.int ((bl many:Nat)-1))]++[(("powers":Str),V.ref p1)]))=H4
 have ju:H4 x=some (.ins C dx [(b,V.int n0),(("many":Str),V.int many),(("wide":Str),V.int ((bl many:Nat)-1)),(("powers":Str),V.ref p1)]):=by rw[<-e4,bG];rfl
 have s4:bR x H H4:=by rw[<-e4];exact s3.trans (bR.upd (C:=C) (dx:=dx) iE rfl)
 have p4:LI H4 p1 l:=by rw[<-e4];exact hp1.upd iE (λws z=>by cases z)
 have n4:∀p,H4 p=none->H p=none:=λp h=>n2 p (hs.free (yR iE (by rw[e4];exact h)))
 refine⟨.ref x,rfl,x,C,dx,_,.ref p1,rfl,ju,hC.cls,hC.HA,by rw[Cm (nb "powers" (by simp))];rfl,H4,[.lst false (aC l)],λd=>d=.lst true (aC (dF l)),aa.refl _,.shr p4 (jM l) .nil,⟨l,rfl,by have:=hF.len;have:=hF.hi;omega,hF.ins,rfl⟩,λd v F' H5 A' hd jv hf he h3 r nd fr=>?_⟩
 subst hd
 obtain⟨p2,rfl,hp2,qp⟩:=Ul r fr
 have gQ:=jv.get _ _ ju
 have s5:=s4.trans (jv.x (x:=x))
 have d09:p1≠p2:=λz=>by rw[<-z]at qp;unfold LI at p4;rw[qp]at p4;cases p4
 refine⟨.ref x,rfl,x,C,dx,_,rfl,gQ,hC.cls,hC.dz3,gS (bB 4) (by decide),?_⟩
 rw[tV (by simp;exact⟨nb "logs" (by simp),by decide,by decide,by decide⟩)]
 generalize e6:upd H5 x (HO.ins C dx ([(b,V.int n0),(("many":Str),V.int many),(("wide":Str),V.int ((bl many:Nat)-1)),(("powers":Str),V.ref p1)]++[(("logs":Str),V.ref p2)]))=H6
 have nO:H6 x=some (.ins C dx (([b,"many","wide","powers","logs"]:List Str).zip [V.int n0,V.int many,V.int ((bl many:Nat)-1),V.ref p1,V.ref p2])):=by rw[<-e6,bG];rfl
 have s6:bR x H H6:=by rw[<-e6];exact s5.trans (bR.upd (C:=C) (dx:=dx) gQ rfl)
 have p6:LI H6 p1 l:=by rw[<-e6];exact(p4.same jv).upd gQ (λws z=>by cases z)
 have q6:LI H6 p2 (dF l):=by rw[<-e6];exact hp2.upd gQ (λws z=>by cases z)
 refine⟨.ref x,rfl,x,dx,_,rfl,nO,by show kL ("step_power":Str) ((b,V.int n0)::_)=none;rw[Cm (nb "step_power" (by simp))];rfl,H6,[.obj C [b,"many","wide","powers","logs"] [.int n0,.int many,.int ((bl many:Nat)-1),.lst false (aC l),.lst false (aC (dF l))],.int 1],λd=>d=.int st,aa.refl _,
  .obj nO rfl (.int (.int (.int (.shr p6 (jM l) (.shr q6 (jM _) .nil))))) (.int .nil),⟨C,_,_,1,many,l,st,rfl,hC.cls,hC.HA,hC.many,by show kL ("powers":Str) ((b,D.int n0)::_)=_;rw[Cm (nb "powers" (by simp))];rfl,by show kL ("many":Str) ((b,D.int n0)::_)=_;rw[Cm (nb "many" (by simp))];rfl,hF.lo,hF.st,rfl⟩,λd v F' H7 A' hd mF hf he h3 r nd fr=>?_⟩
 subst hd
 cases r
 have kJ:=mF.get _ _ nO
 refine⟨.ref x,rfl,x,C,dx,_,rfl,kJ,hC.cls,hC.step,gS (bB 5) (by decide),?_⟩
 rw[tV (by simp;exact⟨nb "step" (by simp),by decide,by decide,by decide,by decide⟩)]
 refine q _ p1 p2 ((s6.trans (mF.x (x:=x))).trans (bR.upd (C:=C) (dx:=dx) kJ rfl)) (by rw[bG];rfl) ((p6.same mF).upd kJ (λws z=>by cases z)) ((q6.same mF).upd kJ (λws z=>by cases z)) d09 (n2 p1 Af) (n4 p2 qp)
noncomputable abbrev aC8:bf:=λds Q=>∃a:Int,ds=[.int a]/\Q (.bl (decide (2<=a)&&decide (a<=61)&&(bo (a.toNat-2)).all λi=>a%(2+(i:Int)) != 0))
theorem aC9(T:Txt K mg t):aK P w K mg base aR 1 t.IF t.IG ["prime"] (bh (aC8 )):=by
 refine bD T.VX aC7 ?_ ?_
 ·intro ds Q h
  obtain⟨a,rfl,q⟩:=h<;>rfl
 ·intro aE A outer s H E hr
  refine⟨_,(aF (aX (lL (af (GU xR xR (af av) (bv 0) (af av))) (qW (ij (GW rfl) (by rfl) T.KU Gg (ak (af (eQ [("prime",0)] ["d"] rfl (BQ rfl T.kI (ak (af av) (ak (bv 0) aD))) (λ_ _ _ _=>(dO (i:=1) (show(["prime","d"]:List Str).Nodup by decide +kernel) rfl (au (lookup_relabel_local rfl)) (by decide) (bj (lookup_relabel_local rfl)))) (λ_ _ _ _=>fq) (λ_ _ _ _=>(oU (gj (cM hr)) (af (aP dY (bv 0) (bv 1))) (af av) (bA _))) rfl ⟨rfl,trivial⟩ (λ_=>by repeat' (first | exact trivial | refine⟨.inl rfl,?_⟩ | refine⟨.inr (.inl rfl),?_⟩ | refine⟨.inr (.inr ⟨_,rfl⟩),?_⟩)) (λ_=>⟨⟨rfl,.inl rfl,.inl rfl,_,rfl,rfl⟩,trivial⟩) rfl (by decide +kernel))) aD)))))),λds Q h=>?_⟩
  obtain⟨a,rfl,q⟩:=h
  walk_at"l3"
  split
  ·rename_i h1
   split
   ·rename_i h2
    refine⟨2,a,⟨rfl,rfl⟩,⟨by decide,by decide,by omega,by omega⟩,?_⟩
    have e0:(a-2).toNat=a.toNat-2:=by omega
    rw[e0]
    refine gM (bo (a.toNat-2)) (λ(k:Nat)=>D.int (2+(k:Int))) (λ(k:Nat)=>D.bl (a%(2+(k:Int)) != 0)) (by rw[xH]) (λx y h=>by injection h with h;omega) (λk hk=>?_) (.inr λ_ _=>rfl) (by rw[eE,sL];omega) ?_
    ·walk_at"l3"
     refine⟨by omega,?_⟩
     by_cases z:a%(2+(k:Int))=0<;>simp[z]
    ·refine⟨(bo (a.toNat-2)).map λ(k:Nat)=>a%(2+(k:Int)) != 0,?_,?_⟩
     ·unfold xV;rw[dD];rfl
     ·have e:(decide (2<=a)&&decide (a<=61)&&(bo (a.toNat-2)).all λi=>a%(2+(i:Int)) != 0)=((bo (a.toNat-2)).map λ(k:Nat)=>a%(2+(k:Int)) != 0).all id:=by
       simp[h1,h2,kQ]
      rw[<-e];exact q
   ·rename_i h2
    have e:(decide (2<=a)&&decide (a<=61)&&(bo (a.toNat-2)).all λi=>a%(2+(i:Int)) != 0)=false:=by simp[h2]
    rw[e]at q;exact q
  ·rename_i h1
   have e:(decide (2<=a)&&decide (a<=61)&&(bo (a.toNat-2)).all λi=>a%(2+(i:Int)) != 0)=false:=by simp[h1]
   rw[e]at q;exact q
noncomputable abbrev aN3:List D->List Str->List D->Prop:=λds ns xs=>∃p:Nat,ds=[.int p]/\p∈mi/\ns=gn "prime"/\xs=[.int p,.int p,.int ((bl p:Nat)-1),.lst true (aC (fl (false,p))),.lst true (aC (dF (fl (false,p)))),.int (fst (false,p))]
theorem aG6(T:Txt K mg t)(hB:Bm mg base):aK P w K mg base aR 8 t.IH t.CL ["self","prime"] (Hy [t.i4,t.i5] t.aB aN3):=by
 refine Uj T.aI2 T.aG2 aF0 (λvs H Q E h=>?_) λA outer s H vs Q E hr h=>?_
 ·obtain⟨x,dx,bS,ds,ns,xs,rfl,_,_,r,⟨p,rfl,_⟩,_⟩:=h
  have:=r.length
  simp at this
  simp[this]
 obtain⟨x,dx,bS,ds,ns,xs,rfl,tb,hx,r,⟨p,rfl,hp,rfl,rfl⟩,q⟩:=h
 obtain rfl:bS=[.int p]:=by
  cases r with
  | int r=>cases r;rfl
 have hm:(false,p)∈aM:=dA _ (E7 hp)
 have hF:=eI hm
 refine⟨_,fj (Bh (Fv (Fu (iN ((aC9 T).mono (by decide)) hr rfl T.dO9 T.VX.kp T.dP2 .nil bC (bX (pv 1) eF)))) (kW Bi) wZ)
  (fj (g6 (pv 0) (pv 1) rfl)
  (kW (w4 (Ub (E:=E0) (i:=1) T.Wz ((WC T).mono (by decide)) hr T.VW rfl T.vK rfl rfl rfl rfl (bX (pv 0) (bX (pv 1) (bX (T3 rfl rfl T.aG3 hB) eF))))))),?_⟩
 refine⟨_,rfl,H,[.int p],λd=>d=.bl true,aa.refl _,.int .nil,⟨p,rfl,by rw[ce3 p hp]⟩,λd v F' H1 A1 hd gx hf he h3 r nd fr=>?_⟩
 subst hd
 cases r
 refine⟨true,rfl,?_⟩
 refine jj ?_
 have cm:=gx.get _ _ hx
 refine⟨.int p,rfl,.ref x,rfl,x,t.aB,dx,_,rfl,cm,T.fL,T.mE,by decide,?_⟩
 generalize e2:upd H1 x (HO.ins t.aB dx (bL "prime" (.int p) []))=H2
 have dW:H2 x=some (.ins t.aB dx [(("prime":Str),.int p)]):=by rw[<-e2,bG];rfl
 have s2:bR x H H2:=by rw[<-e2];exact(gx.x (x:=x)).trans (bR.upd (C:=x) (dx:=dx) cm rfl)
 have n2:∀p,H2 p=none->H p=none:=λp h=>gx.free (yR cm (by rw[e2];exact h))
 obtain⟨ps,hP⟩:=tb t.i4 (by simp)
 obtain⟨more,K1⟩:=s2.tb _ ps hP
 refine⟨.ref x,rfl,.int p,rfl,⟨_,K1⟩,λf k qn pm iu H3 nf Du hk kf i6 hl3=>?_⟩
 refine⟨f,_,_,.int p,Du,rfl,rfl,λoc u gZ hu nc nv=>?_⟩
 obtain⟨tm,rfl⟩:∃tm,u=nR p tm:=hu
 have iE:=i6.get _ _ dW
 refine⟨x,dx,f,t.aB,"prime",p,p,_,oc,_,k,gm (false,p),fl (false,p),fst (false,p),rfl,yS iE (λz=>by rw[z,nf]at dW;cases dW) nc,by decide,⟨T.fL,T.qj,T.zK,T.vG,T.qi,T.zJ,T.vH⟩,Up nv nc hk kf,?_,hF,λH' p1 p2 sx du K2 BC ne Af qp=>?_⟩
 ·refine Uh (n:=3) ⟨rfl,rfl,rfl,by decide,rfl,rfl,by decide,by decide,rfl⟩ gZ (λu1 u2=>rfl) λq f A outer s H E hr=>?_
  refine⟨_,aP dY (af (aP fG (bv 0) (bv 1))) (bv 2),λi j Qd h=>?_⟩
  obtain⟨a,b,rfl,rfl,ha,hb,hq⟩:=h
  walk_at"l3"
  have hp0:2<=p:=hF.lo
  refine⟨mT.ok (.inr ⟨by omega,by omega⟩),by omega,?_⟩
  have e:((gm (false,p) a b:Nat):Int)=(a:Int)*b%p:=by
   show((a*b%p:Nat):Int)=_
   rw[wH,E8]
  rw[<-e];exact hq
 ·have gf:H' f=some (.ext (iQ _ oc _ f)):=sx.get f _ (λz=>by rw[z]at nf;rw[nf]at dW;cases dW) (by rw[aQ nv.symm,bG]) rfl
  have gc:=sx.get _ _ (dj iE nc).symm bG rfl
  refine⟨gf,gc,?_⟩
  refine q _ (Ck p p p1 p2 (fst (false,p))) [p1,p2] (s2.trans (Uo i6 nf nc sx)) ?_ rfl ?_ (by simp[ne]) (λa ha=>?_)
  ·rw[gk (λz=>by rw[z,gf]at du;cases du) (λz=>by rw[z,gc]at du;cases du)];exact du
  ·exact .int (.int (.int (.own (K2.rem gf gc) rfl (jM _) (.own (BC.rem gf gc) rfl (jM _) (.int .nil)))))
  ·simp at ha
   rcases ha with rfl | rfl
   ·exact n2 _ (Cn i6 Af)
   ·exact n2 _ (Cn i6 qp)
noncomputable abbrev aL4:bf:=λds Q=>∃(l g:List Int),ds=[.lst false (aC l),.lst false (aC g)]/\1<=l.length/\l.length<=63/\g.length=l.length+1/\(∀x∈g,0<=x)/\Q (.lst true (nB l g))
theorem aL5(T:Txt K mg t):aK P w K mg base aR 1 t.II t.IJ ["powers","logs"] (bh (aL4 )):=by
 refine bD T.VY CG ?_ ?_
 ·intro ds Q h
  obtain⟨l,g,rfl,h1,h2,h3,h4,q⟩:=h<;>rfl
 ·intro aE A outer s H E hr
  refine⟨_,(aJ (bE (i:=2) CG.nd rfl (bj rfl) (aP gh (af (ij (kA) (by rfl) T.jR jE (ak (bv 0) aD))) (af av)))
   (aJ (bE (i:=3) CG.nd rfl (au rfl) (eN (cH (aP fG (af (eN (cH av dv))) (bv 2)) dv)))
   (aJ (gL fv rfl (BQ rfl T.kI (ak (af av) (ak (bv 2) aD))) (dO (i:=4) CG.nd rfl (bj rfl))
    (aF (xX (i:=3) rfl (by first | exact au rfl | exact bj (au rfl)) (aP gh (af (eN (cH av dv))) (af (eQ [("powers",0),("many",2),("logs",1),("a",4)] ["b"] rfl (BQ rfl T.kI (ak (af av) (ak (bv 2) aD))) (λ_ _ _ _=>(dO (i:=4) (show(["powers","many","logs","a","b"]:List Str).Nodup by decide +kernel) rfl (au (lookup_relabel_local rfl)) (by decide) (bj (lookup_relabel_local rfl)))) (λ_ _ _ _=>fq) (λ_ _ _ _=>(cV (cq (bv 0) (af (aP dY (af (aP gh (cq (bv 2) (bv 3) (λ_ _=>rfl)) (cq (bv 2) (bv 4) (λ_ _=>rfl)))) (af (aP fF (bv 1) (af av))))) (λ_ _=>rfl)))) rfl ⟨rfl,⟨rfl,⟨rfl,⟨rfl,trivial⟩⟩⟩⟩ (λ_=>by repeat' (first | exact trivial | refine⟨.inl rfl,?_⟩ | refine⟨.inr (.inl rfl),?_⟩ | refine⟨.inr (.inr ⟨_,rfl⟩),?_⟩)) (λ_=>⟨⟨rfl,.inl rfl,.inl rfl,_,rfl,rfl⟩,⟨⟨rfl,.inl rfl,.inl rfl,_,rfl,rfl⟩,⟨⟨rfl,.inl rfl,.inl rfl,_,rfl,rfl⟩,⟨⟨rfl,.inl rfl,.inl rfl,_,rfl,rfl⟩,trivial⟩⟩⟩⟩) rfl (by decide +kernel)))))))
   (aF (aX (em 3)))))),λds Q h=>?_⟩
  obtain⟨l,g,rfl,h1,h2,h3,h4,q⟩:=h
  refine aI λU hU=>?_
  walk_at"l3"
  refine hU _ ?_
  clear hU U
  refine aI λU hU=>?_
  walk_at"l3"
  refine⟨by decide,⟨by omega,by omega,by omega⟩,by decide,hU _ ?_⟩
  clear hU U
  refine aI λU hU=>?_
  walk_at"l3"
  refine⟨1,(l.length:Int)+1,⟨rfl,rfl⟩,⟨by decide,by decide,by omega,by omega⟩,?_⟩
  have en:((l.length:Int)+1-1).toNat=l.length:=by omega
  rw[en]
  refine fE.mk (λi δ=>∃o,δ=[some (.lst false (aC l)),some (.lst false (aC g)),some (.int ((l.length:Int)+1)),some (.lst true (tU l g (i+1))),o]) ⟨none,?_⟩ ?_ ?_
  ·rw[show((l.length:Int)+1).toNat=l.length+1 by omega];rfl
  ·rintro i d δ hd ⟨o,rfl⟩
   obtain⟨hi,rfl⟩:i<l.length/\d=.int (1+(i:Int)):=by
    rw[bV]at hd
    by_cases hi:i<l.length
    ·rw[jX hi]at hd
     exact⟨hi,(cP hd).symm⟩
    ·rw[fh (by simpa using hi)]at hd;cases hd
   walk_at"l3"
   refine⟨⟨_,rfl⟩,by decide,1,(l.length:Int)+1,⟨rfl,rfl⟩,⟨by decide,by decide,by omega,by omega⟩,?_⟩
   rw[en]
   refine gM (bo l.length) (λ(k:Nat)=>D.int (1+(k:Int))) (λ(k:Nat)=>D.int (l.getD ((g.getD (i+1) 0+g.getD (k+1) 0)%(l.length:Int)).toNat 0)) (by rw[xH]) (λx y h=>by injection h with h;omega) (λk hk=>?_) (.inr λ_ _=>rfl) (by rw[eE,sL];omega) ?_
   ·have UZ:=dz.mp hk
    walk_at"l3"
    have e1:(1+(i:Int)).toNat=i+1:=by omega
    have e2:(1+(k:Int)).toNat=k+1:=by omega
    have e3:(l.length:Int)+1-1=l.length:=by omega
    have n0:=jY (g.getD (i+1) 0+g.getD (k+1) 0) (show(l.length:Int)≠0 by omega)
    have n1:=jZ (g.getD (i+1) 0+g.getD (k+1) 0) (show(0:Int)<l.length by omega)
    refine⟨_,kD (by omega) (by omega),_,kD (by omega) (by omega),?_⟩
    rw[e1,e2,e3]
    exact⟨by omega,_,kD n0 n1,rfl,rfl⟩
   ·walk_at"l3"
    refine⟨⟨by simp;omega,by rw[kQ,cS];intro x _;rfl⟩,by simp[tU];omega,_,?_,rfl⟩
    unfold tU
    rw[AM (n:=i+1),iG]
    congr 1
    show _=[D.lst true (aC (nz l g (i+1)))]
    unfold nz
    rw[if_neg (by omega)]
    unfold aC
    rw[dh,dD];rfl
  ·rintro δ ⟨o,rfl⟩
   refine hU _ ?_
   simp only[rN,o7,rO,rP,rQ,dT,lK,m3,m4,dC,oS,o5,oY,oX,oZ,rL,m8,sS,pG,sU,sV,rE,rF,rG,rH,rJ,rK,oV,sP,pB,pE,pd,sj,pf,sk,sq,sr,su,sA,sC,sD,iI,gi,sE,sF,sG,sH,pj,pk,lU,sN,sO,gN,sW,sQ,rR,rV,rW,rX,rZ,se,sX,sY,o8,kn,fc,iV,ib,wA,qI,AR,AS,o6,jJ,jn,pF,pL,tf,tu,tw,tD,tF,nj,yB,tJ,pO,yG,pP,tH,iq,yE,yC,yD,dh,jV,wB,nY,fP,AU,aw,wL,wM,i9,jc,wN,exists_eq_left',exists_eq_left,D.bl.injEq,D.int.injEq,D.lst.injEq,D.fz.injEq,D.str.injEq,D.tup.injEq,AV,and_true,true_and,di,qN,jx,i8,xZ,x6,x8,x9,ya,yb,gb,ki,kC,yg,yh,yi,yj,yk,dX,kj,yc,yd,ye,yf,e7,mY,AW,AX,qA,gU,AY,AZ,wq,yr,yt,yu,yv,yw,yx,yy,lY,lZ,pI,jr,pJ,yn,yq,ym,yo,pK,yp,s8,ik,s9,if_true,n8,if_false,reduceIte,yz,decide_eq_true_eq,sZ,eP,me,pQ,nr,rS,tP,pY,tI,pV,pW,pX,tS,ub,eW,yY,nF,y0,p8,uh,uj,dJ,uk,um,uo,uq,ur,uu,qe,bK,eE]
   exact q
noncomputable abbrev aL6(t:dr):jN:=λds Q Ex=>∃a b:Nat,ds=[.int a,.int b]/\bl a<=1000000/\bl b<=1000000/\(b=0->Ex t.dH)/\(b≠0->∀q r:Nat,a=cl q b ^^^ r->bl r<bl b->Q (.tup [.int q,.int r]))
theorem WD(T:Txt K mg t):aK P w K mg base (jk P w) 1 t.IK t.IL ["a","b"] (nh (aL6 t )):=by
 refine G5 T.KI uG ?_ ?_
 ·intro ds Q Ex h
  obtain⟨a,b,rfl,ha,hb,qx,q⟩:=h<;>rfl
 ·intro aE A outer s H E hr
  refine⟨_,(aJ (cR (bJ (fH (cM hr)) (bv 1) (af av) (bA _)) (aF (G6 T.WA rfl (by rfl) (ak (af xD) aD))) cQ)
   (aJ (bE (i:=2) uG.nd rfl (au rfl) av)
   (aJ (bE (i:=3) uG.nd rfl (au rfl) (em 0))
   (aJ (cK3 (GJ fv (bJ SM (af (pH (bv 3))) (af (pH (bv 1))) (bA _))
    (aJ (bE (i:=4) uG.nd rfl (au rfl) (aP fF (af (pH (bv 3))) (af (pH (bv 1)))))
    (aJ (xG (i:=2) uG.nd rfl (au rfl) (af (aP xP (af av) (bv 4))) BS)
    (aF (xG (i:=3) uG.nd rfl (au rfl) (af (aP xP (bv 1) (bv 4))) BS))))))
   (aF (aX (rM (cH (em 2) (cH (em 3) dv))))))))),λds Q Ex h=>?_⟩
  obtain⟨a,b,rfl,ha,hb,qx,q⟩:=h
  refine aI λU hU=>?_
  walk_at"l3"
  split
  ·rename_i h0
   exact⟨by decide,qx (by omega)⟩
  ·rename_i h0
   have b0:b≠0:=by omega
   refine hU _ ?_
   clear hU U
   refine aI λU hU=>?_
   walk_at"l3"
   refine hU _ ?_
   clear hU U
   refine aI λU hU=>?_
   walk_at"l3"
   refine hU _ ?_
   clear hU U
   refine aI λU hU=>?_
   walk_at"l3"
   refine⟨λm δ=>∃(x r:Nat) (o sh:Option D),δ=[o,some (.int b),some (.int (x:Nat)),some (.int (r:Nat)),sh]/\a=cl x b ^^^ r/\bl r<=bl a/\m=bl r,
    ⟨bl a,0,a,_,none,rfl,by rw[mV,n6],bB _,rfl⟩,?_⟩
   rintro m δ ⟨x,r,o,sh,rfl,inv,hra,rfl⟩
   simp only[rN,o7,rO,rP,rQ,dT,lK,m3,m4,dC,oS,o5,oY,oX,oZ,rL,m8,sS,pG,sU,sV,rE,rF,rG,rH,rJ,rK,oV,sP,pB,pE,pd,sj,pf,sk,sq,sr,su,sA,sC,sD,iI,gi,sE,sF,sG,sH,pj,pk,lU,sN,sO,gN,sW,sQ,rR,rV,rW,rX,rZ,se,sX,sY,o8,kn,fc,iV,ib,wA,qI,AR,AS,o6,jJ,jn,pF,pL,tf,tu,tw,tD,tF,nj,yB,tJ,pO,yG,pP,tH,iq,yE,yC,yD,dh,jV,wB,nY,fP,AU,aw,wL,wM,i9,jc,wN,exists_eq_left',exists_eq_left,D.bl.injEq,D.int.injEq,D.lst.injEq,D.fz.injEq,D.str.injEq,D.tup.injEq,AV,and_true,true_and,di,qN,jx,i8,xZ,x6,x8,x9,ya,yb,gb,ki,kC,yg,yh,yi,yj,yk,dX,kj,yc,yd,ye,yf,e7,mY,AW,AX,qA,gU,AY,AZ,wq,yr,yt,yu,yv,yw,yx,yy,lY,lZ,pI,jr,pJ,yn,yq,ym,yo,pK,yp,s8,ik,s9,if_true,n8,if_false,reduceIte,yz,decide_eq_true_eq,sZ,eP,me,pQ,nr,rS,tP,pY,tI,pV,pW,pX,tS,ub,eW,yY,nF,y0,p8,uh,uj,dJ,uk,um,uo,uq,ur,uu,qe,iH]
   split
   ·rename_i hc
    have hle:bl b<=bl r:=by omega
    have less:=RU b0 hle
    have es:(((bl r:Nat):Int)-((bl b:Nat):Int))=((bl r-bl b:Nat):Int):=by omega
    clear hU
    refine aI λU hU=>?_
    walk_at"l3"
    simp only[iH,es]
    refine hU _ ?_
    clear hU
    refine aI λU hU=>?_
    walk_at"l3"
    have o1:bl (1:Int).natAbs=1:=by decide
    refine⟨⟨by omega,by omega⟩,hU _ ?_⟩
    clear hU
    simp only[rN,o7,rO,rP,rQ,dT,lK,m3,m4,dC,oS,o5,oY,oX,oZ,rL,m8,sS,pG,sU,sV,rE,rF,rG,rH,rJ,rK,oV,sP,pB,pE,pd,sj,pf,sk,sq,sr,su,sA,sC,sD,iI,gi,sE,sF,sG,sH,pj,pk,lU,sN,sO,gN,sW,sQ,rR,rV,rW,rX,rZ,se,sX,sY,o8,kn,fc,iV,ib,wA,qI,AR,AS,o6,jJ,jn,pF,pL,tf,tu,tw,tD,tF,nj,yB,tJ,pO,yG,pP,tH,iq,yE,yC,yD,dh,jV,wB,nY,fP,AU,aw,wL,wM,i9,jc,wN,exists_eq_left',exists_eq_left,D.bl.injEq,D.int.injEq,D.lst.injEq,D.fz.injEq,D.str.injEq,D.tup.injEq,AV,and_true,true_and,di,qN,jx,i8,xZ,x6,x8,x9,ya,yb,gb,ki,kC,yg,yh,yi,yj,yk,dX,kj,yc,yd,ye,yf,e7,mY,AW,AX,qA,gU,AY,AZ,wq,yr,yt,yu,yv,yw,yx,yy,lY,lZ,pI,jr,pJ,yn,yq,ym,yo,pK,yp,s8,ik,s9,if_true,n8,if_false,reduceIte,yz,decide_eq_true_eq,sZ,eP,me,pQ,nr,rS,tP,pY,tI,pV,pW,pX,tS,ub,eW,yY,nF,y0,p8,uh,uj,dJ,uk,um,uo,uq,ur,uu,qe,iH]
    refine⟨⟨by omega,by rw[iH];omega⟩,_,less,x ^^^ 2 ^ (bl r-bl b),r ^^^ b <<< (bl r-bl b),o,_,⟨rfl,?_,?_,rfl⟩,cb8 inv,by omega,rfl⟩
    ·rw[show(1:Int)=((1:Nat):Int) from rfl,rm,rk,Fj]
    ·rw[rm,rk]
   ·rename_i hc
    refine hU _ ?_
    walk_at"l3"
    refine⟨by decide,q b0 x r inv (by omega)⟩
noncomputable abbrev aL7:bf:=λds Q=>∃a:Nat,ds=[.int a]/\bl a<=60/\Q (.bl (al a))
theorem aL8(T:Txt K mg t):aK P w K mg base aR 2 t.IM t.IQ ["a"] (bh (aL7 )):=by
 refine bD T.V1 Im ?_ ?_
 ·intro ds Q h
  obtain⟨a,rfl,ha,q⟩:=h<;>rfl
 ·intro aE A outer s H E hr
  refine⟨_,(aJ (cR (bJ ph (bv 0) (af av) (bA _)) (aF (aX jH)) cQ)
   (aJ (bE (i:=1) Im.nd rfl (au rfl) (aP xO (af (aP fF (af (pH (bv 0))) (af av))) (af av)))
   (aJ (gL fv rfl (BQ rfl T.kI (ak (af av) (ak (af (aP xP (af av) (af (aP gh (bv 1) (af av))))) aD))) (dO (i:=2) Im.nd rfl (au rfl))
    (aF (cR (bJ (fH (cM hr)) (cq (af (cJ (Hc ((WD T).mono (by decide))) hr rfl T.VZ T.KI.kp T.V0 Hb (ak (bv 0) (ak (bv 2) aD)))) (af av) (λ_ _=>rfl)) (af av) (bA _)) (aF (aX jH)) cQ)))
   (aF (aX jH))))),λds Q h=>?_⟩
  obtain⟨a,rfl,ha,q⟩:=h
  refine aI λU hU=>?_
  walk_at"l3"
  split
  ·rename_i h2
   rw[b92 (by omega)]at q;exact q
  ·rename_i h2
   have h2:2<=a:=by omega
   have hp:=jD (show a≠0 by omega)
   refine hU _ ?_
   clear hU U
   refine aI λU hU=>?_
   walk_at"l3"
   simp only[iH]
   refine⟨xN (by omega) (by omega),hU _ ?_⟩
   clear hU U
   have eh:((((bl a:Nat):Int)-1)/2+1)=(((bl a-1)/2+1:Nat):Int):=by omega
   have e1:(1:Int)*2 ^ ((((bl a:Nat):Int)-1)/2+1).toNat=((2 ^ ((bl a-1)/2+1):Nat):Int):=by
    rw[eh,show(1:Int)=((1:Nat):Int) from rfl,rm,Fj]
   have big:2 ^ ((bl a-1)/2+1)<=2 ^ 40:=AB (by decide) (by omega)
   have o1:bl (1:Int).natAbs=1:=by decide
   refine aI λU hU=>?_
   walk_at"l3"
   rw[e1]
   have fd9:((2 ^ ((bl a-1)/2+1):Nat):Int)<=2 ^ 40:=by exact_mod_cast big
   have nn:(0:Int)<=((2 ^ ((bl a-1)/2+1):Nat):Int):=Qe _
   refine⟨⟨by omega,by omega⟩,_,_,⟨rfl,rfl⟩,⟨by decide,by decide,by omega,by omega⟩,?_⟩
   have en:(((2 ^ ((bl a-1)/2+1):Nat):Int)-2).toNat=2 ^ ((bl a-1)/2+1)-2:=by omega
   rw[en]
   refine fE.mk (λi δ=>(∃o1 o2,δ=[some (.int a),o1,o2])/\∀j,j<i->md a (2+j)≠0) ⟨⟨_,_,rfl⟩,λj hj=>absurd hj (by omega)⟩ ?_ ?_
   ·rintro i d δ hd ⟨⟨o1,o2,rfl⟩,inv⟩
    obtain⟨hi,rfl⟩:i<2 ^ ((bl a-1)/2+1)-2/\d=.int (2+(i:Int)):=by
     rw[bV]at hd
     by_cases hi:i<2 ^ ((bl a-1)/2+1)-2
     ·rw[jX hi]at hd
      exact⟨hi,(cP hd).symm⟩
     ·rw[fh (by simpa using hi)]at hd;cases hd
    have bi:bl (2+i)<=60:=by
     have:=(cf0 h2 (show 2+i<2 ^ ((bl a-1)/2+1) by omega)).2
     omega
    walk_at"l3"
    refine⟨a,2+i,by rw[show((2+i:Nat):Int)=2+(i:Int) by omega],by omega,by omega,by omega,λ_ x r e l=>?_⟩
    have em:md a (2+i)=r:=xw e l
    refine⟨.int r,rfl,rfl,?_⟩
    rw[ik]
    split
    ·rename_i hz
     have r0:r=0:=by have:=of_decide_eq_true hz;omega
     rw[cf3 hi (em.trans r0)]at q
     exact q
    ·rename_i hz
     refine⟨⟨_,_,rfl,rfl⟩,λj hj=>?_⟩
     by_cases ej:j=i
     ·rw[ej,em]
      intro r0
      exact hz (decide_eq_true (by omega))
     ·exact inv j (by omega)
   ·rintro δ ⟨⟨o1,o2,rfl⟩,inv⟩
    rw[bK,eE]at inv
    rw[co3 h2 inv]at q
    refine hU _ ?_
    walk_at"l3"
    exact q
noncomputable abbrev aG7:bf:=λds Q=>∃a:Int,ds=[.int a]/\Q (.bl (decide (4<=a)&&decide (a<=127)&&al a.toNat))
theorem aG8(T:Txt K mg t):aK P w K mg base aR 3 t.IS t.IT ["bits"] (bh (aG7 )):=by
 refine bD T.V2 aF1 ?_ ?_
 ·intro ds Q h
  obtain⟨a,rfl,q⟩:=h<;>rfl
 ·intro aE A outer s H E hr
  refine⟨_,(aF (aX (lL (af (GU xR xR (af av) (bv 0) (af av))) (qW (cJ ((aL8 T).mono (by decide)) hr rfl T.dP7 T.V1.kp T.dP8 bC (ak (bv 0) aD)))))),λds Q h=>?_⟩
  obtain⟨a,rfl,q⟩:=h
  walk_at"l3"
  split
  ·rename_i h1
   split
   ·rename_i h2
    refine⟨a.toNat,by rw[qP (by omega)],?_,?_⟩
    ·have:bl a.toNat<=bl 127:=Gf (by omega)
     exact eA this (by decide)
    ·have e:(decide (4<=a)&&decide (a<=127)&&al a.toNat)=al a.toNat:=by simp[h1,h2]
     rw[e]at q;exact q
   ·rename_i h2
    have e:(decide (4<=a)&&decide (a<=127)&&al a.toNat)=false:=by simp[h2]
    rw[e]at q;exact q
  ·rename_i h1
   have e:(decide (4<=a)&&decide (a<=127)&&al a.toNat)=false:=by simp[h1]
   rw[e]at q;exact q
noncomputable abbrev aP6:bf:=λds Q=>∃a b:Nat,ds=[.int a,.int b]/\bl a<=1000/\bl b<=1000/\Q (.int (cl a b:Nat))
theorem aP7(T:Txt K mg t):aK P w K mg base aR 1 t.IU t.IV ["a","b"] (bh (aP6 )):=by
 refine bD T.V3 CH ?_ ?_
 ·intro ds Q h
  obtain⟨a,b,rfl,ha,hb,q⟩:=h<;>rfl
 ·intro aE A outer s H E hr
  refine⟨_,(aJ (bE (i:=2) CH.nd rfl (au rfl) av)
   (aJ (gL fv rfl (rY rfl T.kI (ak (af (pH (bv 1))) aD)) (dO (i:=3) CH.nd rfl (au rfl))
    (aF (cR (bJ (fH (cM hr)) (af (aP cJ4 (af (aP cM2 (bv 1) (bv 3))) (af av))) (af av) (bA _)) (aF (xG (i:=2) CH.nd rfl (au rfl) (af (aP xP (bv 0) (bv 3))) BS)) cQ)))
   (aF (aX (em 2))))),λds Q h=>?_⟩
  obtain⟨a,b,rfl,ha,hb,q⟩:=h
  refine aI λU hU=>?_
  walk_at"l3"
  refine hU _ ?_
  clear hU U
  refine aI λU hU=>?_
  walk_at"l3"
  simp only[iH]
  refine⟨⟨by omega,by omega⟩,G4 (λi δ=>∃o,δ=[some (.int a),some (.int b),some (.int (Mf.P a b i:Nat)),o]) ⟨none,rfl⟩ ?_ ?_⟩
  ·rintro i δ hi ⟨o,rfl⟩
   walk_at"l3"
   refine⟨by omega,?_⟩
   have WE:(nV ((b:Int)/2 ^ ((i:Int)).toNat) 1=1)↔b.testBit i=true:=by
    have h:=cn5 b i
    rw[Qr]at h
    rw[<-h,dI]
   split
   ·rename_i hc
    have h:=cc4 (a:=a) (WE.mp hc)
    rw[Qr]at h
    exact⟨⟨by omega,by rw[iH];omega⟩,_,h,rfl⟩
   ·rename_i hc
    exact⟨_,by rw[bQ8 (λz=>hc (WE.mpr z))],rfl⟩
  ·rintro δ ⟨o,rfl⟩
   refine hU _ ?_
   walk_at"l3"
   exact q
noncomputable abbrev aR4:List D->List Str->List D->Prop:=λds ns xs=>∃p:Nat,ds=[.int p]/\p∈fI/\ns=gn "bits"++[("products":Str)]/\xs=[.int p,.int (ag (true,p)),.int ((bl (ag (true,p)):Nat)-1),.lst true (aC (fl (true,p))),.lst true (aC (dF (fl (true,p)))),.int (fst (true,p)),.lst true (nB (fl (true,p)) (dF (fl (true,p))))]
theorem aK1(T:Txt K mg t)(hB:Bm mg base):aK P w K mg base aR 8 t.IW t.CM ["self","bits"] (Hy [t.i4,t.i5] t.az aR4):=by
 refine Uj T.aL1 T.aJ9 Vt (λvs H Q E h=>?_) λA outer s H vs Q E hr h=>?_
 ·obtain⟨x,dx,bS,ds,ns,xs,rfl,_,_,r,⟨p,rfl,_⟩,_⟩:=h
  have:=r.length
  simp at this
  simp[this]
 obtain⟨x,dx,bS,ds,ns,xs,rfl,tb,hx,r,⟨p,rfl,hp,rfl,rfl⟩,q⟩:=h
 obtain rfl:bS=[.int p]:=by
  cases r with
  | int r=>cases r;rfl
 have hm:(true,p)∈aM:=eJ _ (E7 hp)
 have hF:=eI hm
 refine⟨_,fj (Bh (Fv (Fu (iN ((aG8 T).mono (by decide)) hr rfl T.dP9 T.V2.kp T.dQ0 .nil bC (bX (pv 1) eF)))) (kW Bi) wZ)
  (fj (g6 (pv 0) (pv 1) rfl)
  (fj (Fz (i:=2) Vt.nd rfl (au rfl) (xh R3 oq (xh FI (Gi (pv 1)) oq)))
  (fj (w4 (Ub (E:=E0) (i:=1) T.Wz ((WC T).mono (by decide)) hr T.VW rfl T.vK rfl rfl rfl rfl (bX (pv 0) (bX (pv 2) (bX (T3 rfl rfl T.aK0 hB) eF)))))
  (kW (g6 (pv 0) (iN ((aL5 T).mono (by decide)) hr rfl T.dP5 T.VY.kp T.dP6 .nil bC (bX (oF (pv 0) rfl) (bX (oF (pv 0) rfl) eF))) rfl))))),?_⟩
 refine⟨_,rfl,H,[.int p],λd=>d=.bl true,aa.refl _,.int .nil,⟨p,rfl,by rw[co0 p hp]⟩,λd v F' H1 A1 hd gx hf he h3 r nd fr=>?_⟩
 subst hd
 cases r
 refine⟨true,rfl,?_⟩
 refine jj ?_
 have cm:=gx.get _ _ hx
 refine⟨.int p,rfl,.ref x,rfl,x,t.az,dx,_,rfl,cm,T.fe,T.zy,by decide,?_⟩
 generalize e2:upd H1 x (HO.ins t.az dx (bL "bits" (.int p) []))=H2
 have dW:H2 x=some (.ins t.az dx [(("bits":Str),.int p)]):=by rw[<-e2,bG];rfl
 have s2:bR x H H2:=by rw[<-e2];exact(gx.x (x:=x)).trans (bR.upd (C:=x) (dx:=dx) cm rfl)
 have n2:∀p,H2 p=none->H p=none:=λp h=>gx.free (yR cm (by rw[e2];exact h))
 obtain⟨ps,hP⟩:=tb t.i5 (by simp)
 obtain⟨more,K1⟩:=s2.tb _ ps hP
 have bp:bl p<=7:=ca6 p hp
 have WG:1<=bl p:=bR4 p hp
 refine⟨.int p,rfl,rfl,p,rfl,rfl,_,_,rfl,rfl,_,_,rfl,rfl,?_,?_⟩
 ·have o1:bl (1:Int).natAbs=1:=by decide
  rw[iH]
  exact⟨by omega,by omega⟩
 have em:(1:Int)*2 ^ (((bl ((p:Int)).natAbs:Nat):Int)-1).toNat=((ag (true,p):Nat):Int):=by
  rw[iH,show(((bl p:Nat):Int)-1)=((bl p-1:Nat):Int) by omega,show(1:Int)=((1:Nat):Int) from rfl,rm,Fj];rfl
 show Bk 2 (.int ((1:Int)*2 ^ (((bl ((p:Int)).natAbs:Nat):Int)-1).toNat)) _ _ _
 rw[em]
 refine⟨.ref x,rfl,.int (ag (true,p)),rfl,⟨_,K1⟩,λf k qn pm iu H3 nf Du hk kf i6 hl3=>?_⟩
 refine⟨f,_,_,.int p,Du,rfl,rfl,λoc u gZ hu nc nv=>?_⟩
 obtain⟨tm,rfl⟩:∃tm,u=nR p tm:=hu
 have iE:=i6.get _ _ dW
 refine⟨x,dx,f,t.az,"bits",p,ag (true,p),_,oc,_,k,gm (true,p),fl (true,p),fst (true,p),rfl,yS iE (λz=>by rw[z,nf]at dW;cases dW) nc,by decide,⟨T.fe,T.qg,T.zB,T.qh,T.nL,T.zA,T.vF⟩,Up nv nc hk kf,?_,hF,λH' p1 p2 sx du K2 BC ne Af qp=>?_⟩
 ·refine Uh (n:=3) ⟨rfl,rfl,rfl,by decide,rfl,rfl,by decide,by decide,rfl⟩ gZ (λu1 u2=>rfl) λq f A outer s H E hr=>?_
  refine⟨_,cV (cq (af (cJ (Hc ((WD T).mono (by decide))) hr rfl T.VZ T.KI.kp T.V0 Hb (ak (af (cJ ((aP7 T).mono (by decide)) hr rfl T.dQ1 T.V3.kp T.dQ2 bC (ak (bv 0) (ak (bv 1) aD)))) (ak (bv 2) aD)))) (af av) (λ_ _=>rfl)),λi j Qd h=>?_⟩
  obtain⟨a,b,rfl,rfl,ha,hb,hq⟩:=h
  walk_at"l3"
  have b1:bl a<=6:=by
   have:bl a<=bl 63:=Gf (by omega)
   exact eA this (by decide)
  have b2:bl b<=6:=by
   have:bl b<=bl 63:=Gf (by omega)
   exact eA this (by decide)
  have p0:p≠0:=by
   intro z
   rw[z]at WG
   exact absurd WG (by decide)
  refine⟨a,b,rfl,by omega,by omega,cl a b,p,rfl,eA (cb0 a b) (by omega),by omega,λz=>p0 z,λ_ x r e l=>⟨by simp[D.pl],.int r,rfl,rfl,r,rfl,?_⟩⟩
  have er:gm (true,p) a b=r:=xw e l
  rw[<-er];exact hq
 ·have gf:H' f=some (.ext (iQ _ oc _ f)):=sx.get f _ (λz=>by rw[z]at nf;rw[nf]at dW;cases dW) (by rw[aQ nv.symm,bG]) rfl
  have gc:=sx.get _ _ (dj iE nc).symm bG rfl
  refine⟨gf,gc,?_⟩
  have s4:=s2.trans (Uo i6 nf nc sx)
  have f1:=n2 _ (Cn i6 Af)
  have f2:=n2 _ (Cn i6 qp)
  have l1:=K2.rem gf gc
  have l2:=BC.rem gf gc
  have ju:rem H' f (s.heap.objs.size+1) x=some (.ins t.az dx ((gn "bits").zip (Ck p (ag (true,p)) p1 p2 (fst (true,p))))):=by
   rw[gk (λz=>by rw[z,gf]at du;cases du) (λz=>by rw[z,gc]at du;cases du)];exact du
  generalize rem H' f (s.heap.objs.size+1)=H4 at s4 l1 l2 ju
  refine⟨.ref x,rfl,x,t.az,dx,_,.ref p1,rfl,ju,T.fe,T.qh,rfl,.ref x,rfl,x,t.az,dx,_,.ref p2,rfl,ju,T.fe,T.nL,rfl,H4,[.lst false (aC (fl (true,p))),.lst false (aC (dF (fl (true,p))))],λd=>d=.lst true (nB (fl (true,p)) (dF (fl (true,p)))),aa.refl _,.shr l1 (jM _) (.shr l2 (jM _) .nil),
   ⟨_,_,rfl,by have:=hF.len;have:=hF.lo;omega,by have:=hF.len;have:=hF.hi;omega,yQ _ _,Us _ _,rfl⟩,λd v F' H5 A' hd jv hf he h3 r nd fr=>?_⟩
  subst hd
  obtain⟨p3,rfl⟩:∃p3,v=.ref p3:=by cases r;exact⟨_,rfl⟩
  have gQ:=jv.get _ _ ju
  have nA:∀{a ws},H4 a=some (.lst ws)->a ∉ A':=λ{a ws} e z=>by rw[fr a z]at e;cases e
  refine⟨.ref x,rfl,x,t.az,dx,_,rfl,gQ,T.fe,T.nM,gS (bB 6) (by decide),?_⟩
  refine q _ (Ck p (ag (true,p)) p1 p2 (fst (true,p))++[.ref p3]) (p1::p2::A') ((s4.trans (jv.x (x:=x))).trans (bR.upd (C:=x) (dx:=dx) gQ rfl)) (by rw[bG];rfl) rfl ?_ ?_ ?_
  ·exact .int (.int (.int (.own ((l1.same jv).upd gQ (λws z=>by cases z)) rfl (jM _) (.own ((l2.same jv).upd gQ (λws z=>by cases z)) rfl (jM _) (.int ((r.rB (by simp[e7,Ur]) (aa.of λb o e=>by cases e)).tW gQ (by simp[e7,Ur])))))))
  ·exact jU.mpr ⟨by simp[ne];exact nA l1,jU.mpr ⟨nA l2,nd⟩⟩
  ·intro a ha
   rcases cE.mp ha with rfl | ha
   ·exact f1
   ·rcases cE.mp ha with rfl | ha
    ·exact f2
    ·exact s4.free (by rw[ju];simp) (fr a ha)
noncomputable abbrev aP8(cb cp:Addr):bf:=λds Q=>∃m:Bool × Nat,ds=[gq m]/\m∈aM/\Q (fD cb cp m)
theorem aP9(T:Txt K mg t)(hB:Bm mg base):aK P w K mg base aR 10 t.IY t.IZ ["_law_told_here"] (tM [t.i4,t.i5] (bh (aP8 t.az t.aB))):=by
 refine Hv T.V4 aO6 ?_ ?_
 ·intro ds Q h
  obtain⟨m,rfl,hm,q⟩:=h<;>rfl
 ·intro aE A outer s H E hT hr
  refine⟨_,(aJ (cR (oW (cq (bv 0) (af av) (λ_ _=>rfl))) (aF (aX (Uk hT T.zx ((aK1 T hB).mono (by decide)) hr rfl T.z9 T.aL2 bC (ak (cq (bv 0) (af av) (λ_ _=>rfl)) aD)))) cQ)
   (aF (aX (Uk hT T.zI ((aG6 T hB).mono (by decide)) hr rfl T.Ae T.aI3 bC (ak (cq (bv 0) (af av) (λ_ _=>rfl)) aD))))),λds Q h=>?_⟩
  obtain⟨m,rfl,hm,q⟩:=h
  unfold gq at *
  refine aI λU hU=>?_
  walk_at"l3"
  obtain⟨b,n⟩:=m
  cases b with
  | true =>
   refine⟨_,rfl,true,rfl,?_⟩
   rw[if_pos rfl]
   refine⟨_,rfl,_,_,⟨n,rfl,Co hm,rfl,rfl⟩,?_⟩
   rw[cE4];exact q
  | false =>
   refine⟨_,rfl,false,rfl,?_⟩
   rw[if_neg (by decide)]
   refine hU _ ?_
   walk_at"l3"
   refine⟨_,rfl,_,_,⟨n,rfl,bH3 hm,rfl,rfl⟩,?_⟩
   rw[b97];exact q
noncomputable abbrev aR5:bf:=λds Q=>∃m:Bool × Nat,ds=[gq m]/\bl m.2<=1000/\1<=bl m.2/\Q (.int (ag m:Nat))
theorem aR6(T:Txt K mg t):aK P w K mg base aR 1 t.I0 t.Ja ["_law_told_here"] (bh (aR5 )):=by
 refine bD T.V5 aQ2 ?_ ?_
 ·intro ds Q h
  obtain⟨m,rfl,h1,h2,q⟩:=h<;>rfl
 ·intro aE A outer s H E hr
  refine⟨_,(aJ (cR (oW (cq (bv 0) (af av) (λ_ _=>rfl))) (aF (aX (aP xP (af av) (af (aP fF (af (pH (cq (bv 0) (af av) (λ_ _=>rfl)))) (af av)))))) cQ)
   (aF (aX (cV (cq (bv 0) (af av) (λ_ _=>rfl)))))),λds Q h=>?_⟩
  obtain⟨m,rfl,h1,h2,q⟩:=h
  unfold gq at *
  refine aI λU hU=>?_
  walk_at"l3"
  obtain⟨b,n⟩:=m
  cases b with
  | true =>
   refine⟨_,rfl,true,rfl,?_⟩
   rw[if_pos rfl]
   refine⟨_,rfl,?_⟩
   have o1:bl (1:Int).natAbs=1:=by decide
   have e:(1:Int)*2 ^ (((bl ((n:Int)).natAbs:Nat):Int)-1).toNat=((ag (true,n):Nat):Int):=by
    have iO:1<=bl n:=h2
    rw[iH,show(((bl n:Nat):Int)-1)=((bl n-1:Nat):Int) by omega,show(1:Int)=((1:Nat):Int) from rfl,rm,Fj];rfl
   refine⟨?_,by rw[e];exact q⟩
   rw[iH]
   have jl:bl n<=1000:=h1
   have iO:1<=bl n:=h2
   exact⟨by omega,by omega⟩
  | false =>
   refine⟨_,rfl,false,rfl,?_⟩
   rw[if_neg (by decide)]
   refine hU _ ?_
   walk_at"l3"
   exact⟨_,rfl,rfl,q⟩
noncomputable abbrev aN4:bf:=λds Q=>∃a b:Int,ds=[.int a,.int b]/\∀k:Int,Q (.int k)
theorem aN5(T:Txt K mg t):aK P w K mg base aR 1 t.Jb t.Jc ["_law_kind","_law_cell_here"] (bh (aN4 )):=by
 refine bD T.V6 Vu ?_ ?_
 ·intro ds Q h
  obtain⟨a,b,rfl,q⟩:=h<;>rfl
 ·intro aE A outer s H E hr
  refine⟨_,(aJ (cR (PW.pt (BM (bJ (fH (cM hr)) (af (aP dY (bv 0) (af av))) (af av) (bA _)) (by4 (bJ (fH (cM hr)) (af (aP dY (bv 1) (af av))) (af av) (bA _))))) (aF (aX av)) cQ)
   (aJ (cR (bJ (fH (cM hr)) (af (aP dY (bv 0) (af av))) (af av) (bA _)) (aF (aX (aP gh (af av) (af (aP dY (af (aP xO (bv 1) (af av))) (af av)))))) cQ)
   (aJ (cR (bJ (fH (cM hr)) (af (aP dY (bv 0) (af av))) (af av) (bA _)) (aJ (bE (i:=2) Vu.nd rfl (au rfl) (eN (cH (S1 (af av)) (cH av (cH av (cH av (cH av (cH (S1 (af av)) dv))))))))
    (aJ (cR (bJ ph (af (aP dY (bv 1) (af av))) (af av) (bA _)) (aF (aX (cV (cq (bv 2) (af (aP dY (bv 1) (af av))) (λ_ _=>rfl))))) cQ)
    (aF (aX (aP gh (af av) (af (aP dY (bv 1) (af (aP cI9 (af av) (af av)))))))))) cQ)
   (aF (aX (aP gh (af av) (af (aP dY (bv 1) (af av))))))))),λds Q h=>?_⟩
  obtain⟨a,b,rfl,q⟩:=h
  refine aI λU hU=>?_
  walk_at"l3"
  refine⟨by decide,?_⟩
  have st:U [some (D.int a),some (D.int b),none]:=by
   refine hU _ ?_
   clear hU U
   refine aI λU hU=>?_
   walk_at"l3"
   have st:U [some (D.int a),some (D.int b),none]:=by
    refine hU _ ?_
    clear hU U
    refine aI λU hU=>?_
    walk_at"l3"
    refine⟨by decide,?_⟩
    split
    ·clear hU
     refine aI λU hU=>?_
     walk_at"l3"
     refine⟨by decide,hU _ ?_⟩
     clear hU U
     refine aI λU hU=>?_
     walk_at"l3"
     have c0:=jY b (show(7:Int)≠0 by decide)
     have c1:=jZ b (show(0:Int)<7 by decide)
     refine⟨by decide,?_⟩
     split
     ·obtain⟨j,ej⟩:∃j:Nat,b%7=j:=⟨(b%7).toNat,by omega⟩
      rw[ej]
      refine⟨by decide,?_⟩
      have hj:j<6:=by omega
      match j,hj with
      | 0,_=>exact⟨_,rfl,rfl,q _⟩
      | 1,_=>exact⟨_,rfl,rfl,q _⟩
      | 2,_=>exact⟨_,rfl,rfl,q _⟩
      | 3,_=>exact⟨_,rfl,rfl,q _⟩
      | 4,_=>exact⟨_,rfl,rfl,q _⟩
      | 5,_=>exact⟨_,rfl,rfl,q _⟩
     ·refine hU _ ?_
      walk_at"l3"
      exact⟨⟨by decide,by decide,by decide⟩,by decide,q _⟩
    ·refine hU _ ?_
     walk_at"l3"
     exact⟨by decide,q _⟩
   refine⟨by decide,?_⟩
   split
   ·exact⟨xN (by decide) (by decide),by decide,q _⟩
   ·exact st
  split
  ·refine⟨by decide,?_⟩
   split
   ·exact q 24
   ·exact st
  ·exact st
noncomputable abbrev aT3:bf:=λds Q=>∃T:List (List Nat),ds=[.lst false (aH false T)]/\T.length<=1000/\(∀r∈T,r.length<=1000)/\Q (.int (aW T:Nat))
theorem K3(T:Txt K mg t):aK P w K mg base aR 1 t.Jd t.Je ["table"] (bh (aT3 )):=by
 refine bD T.CS aS6 ?_ ?_
 ·intro ds Q h
  obtain⟨G,rfl,hG,hr,q⟩:=h<;>rfl
 ·intro aE A outer s H E hr
  refine⟨_,(aF (aX (cQ9 (bJ (gj (cM hr)) (bv 0) (af (eN dv)) (bA _)) (ij (kA) (by rfl) T.jR jE (ak (cq (bv 0) (af av) (λ_ _=>rfl)) aD)) av))),λds Q h=>?_⟩
  obtain⟨G,rfl,hG,hr,q⟩:=h
  walk_at"l3"
  refine⟨by decide,⟨y6 4 _ _ _,rfl⟩,?_⟩
  rw[show(D.lst true ([]:List D))=D.lst true (aH true []) from rfl,HM]
  cases G with
  | nil=>rw[if_neg (by simp)];exact q
  | cons r G =>
   rw[if_pos (by simp)]
   refine⟨.lst false (aq r),HL false (T:=r::G) (i:=0) (Nat.succ_pos _),?_⟩
   show Q (D.int ((aq r).length:Nat))
   rw[eP];exact q
noncomputable abbrev aQ0:bf:=λds Q=>∃(T:List (List Nat)) (j:Nat),ds=[.lst false (aH false T),.int j]/\T.length<=1000/\(∀r∈T,j<r.length)/\Q (match iZ T j with | some i=>.int (i:Nat) | none=>.aj)
theorem aQ1(T:Txt K mg t):aK P w K mg base aR 1 t.Jf t.Jg ["rows","place"] (bh (aQ0 )):=by
 refine bD T.V7 Vv ?_ ?_
 ·intro ds Q h
  obtain⟨G,j,rfl,hG,hr,q⟩:=h<;>rfl
 ·intro aE A outer s H E hr
  refine⟨_,(aJ (gL fv rfl (nk rfl T.nN (ak (bv 0) aD)) (iW (i1:=2) (i2:=3) rfl Vv.nd rfl (au rfl) rfl (au rfl))
    (aF (cR (bJ (gj (cM hr)) (cq (bv 3) (bv 1) (λ_ _=>rfl)) (af av) (bA _)) (aF (aX (em 2))) cQ)))
   (aF (aX jI))),λds Q h=>?_⟩
  obtain⟨G,j,rfl,hG,hr,q⟩:=h
  refine aI λU hU=>?_
  walk_at"l3"
  refine fE.mk (λi δ=>∃o1 o2,δ=[some (D.lst false (aH false G)),some (D.int j),o1,o2]/\∀k,k<i->(G.getD k []).getD j 0=0) ⟨_,_,rfl,λk hk=>absurd hk (Nat.not_lt_zero k)⟩ ?_ ?_
  ·rintro i d δ hd ⟨o1,o2,rfl,hz⟩
   obtain⟨hi,rfl⟩:=ce8 hd
   have hj:=hr _ (eY hi)
   have eg:G.getD i []=G[i]:=by rw[aT,aU hi];rfl
   walk_at"l3"
   refine⟨.int (G[i].getD j 0:Nat),by rw[ua (by omega) (by omega),eD],rfl,?_⟩
   rw[ik]
   by_cases h0:G[i].getD j 0=0
   ·rw[if_neg (by rw[h0];decide)]
    refine⟨_,_,⟨rfl,rfl⟩,λk hk=>?_⟩
    by_cases e:k=i
    ·rw[e,eg];exact h0
    ·exact hz k (by omega)
   ·rw[if_pos (by rw[decide_eq_false (by omega)];rfl)]
    have ef:iZ G j=some i:=by
     unfold iZ
     rw[ρ]
     refine⟨hi,by simpa using h0,λk hk=>?_⟩
     have:=hz k hk
     rw[aT (l:=G),aU (by omega)]at this
     simpa using this
    rw[ef]at q
    exact q
  ·rintro δ ⟨o1,o2,rfl,hz⟩
   refine hU _ ?_
   walk_at"l3"
   have ef:iZ G j=none:=by
    unfold iZ
    rw[τ]
    intro r bz
    obtain⟨i,hi,rfl⟩:=jW bz
    have:=hz i (by rw[pM,nF];exact hi)
    rw[aT (l:=G),aU hi]at this
    simpa using this
   rw[ef]at q
   exact q
noncomputable abbrev WH(K:Frag):bf:=λds Q=>∃(C:Addr) (p a:Nat) (xs:List Nat),ds=[tY C p,.int a,.lst false (aq xs)]/\dk K C/\aY K C "products"/\p∈fI/\a<ag (true,p)/\(∀y∈xs,y<ag (true,p))/\xs.length<=1000/\Q (.lst true (aq (xs.map (gm (true,p) a))))
theorem aG9(T:Txt K mg t):aK P w K mg base aR 1 t.Jh t.Ji ["self","a","row"] (bh (WH K)):=by
 refine bD T.aI4 Vw ?_ ?_
 ·intro ds Q h
  obtain⟨C,p,a,xs,rfl,hC,hn,hp,ha,hy,hl,q⟩:=h<;>rfl
 ·intro aE A outer s H E hr
  refine⟨_,(aJ (bE (i:=3) Vw.nd rfl (bj rfl) (cV (cq (cW (K:=K) (bv 0)) (bv 1) (λ_ _=>rfl))))
   (aF (aX (eQ [("by_a",3)] ["x"] rfl (iT (bv 2)) (λ_ _ _ _=>(dO (i:=1) (show(["by_a","x"]:List Str).Nodup by decide +kernel) rfl (au (lookup_relabel_local rfl)) (by decide) (bj (lookup_relabel_local rfl)))) (λ_ _ _ _=>fq) (λ_ _ _ _=>(cV (cq (bv 0) (bv 1) (λ_ _=>rfl)))) rfl ⟨rfl,trivial⟩ (λ_=>by repeat' (first | exact trivial | refine⟨.inl rfl,?_⟩ | refine⟨.inr (.inl rfl),?_⟩ | refine⟨.inr (.inr ⟨_,rfl⟩),?_⟩)) (λ_=>⟨⟨rfl,.inl rfl,.inl rfl,_,rfl,rfl⟩,trivial⟩) rfl (by decide +kernel))))),λds Q h=>?_⟩
  obtain⟨C,p,a,xs,rfl,hC,hn,hp,ha,hy,hl,q⟩:=h
  refine aI λU hU=>?_
  walk_at"l3"
  refine⟨C,_,_,_,rfl,hC,hn,rfl,_,HF hp ha,?_⟩
  refine⟨by rw[gb,lZ];rfl,hU _ ?_⟩
  clear hU U
  walk_at"l3"
  refine gM xs (λ(i:Nat)=>D.int (i:Int)) (λx=>D.int ((gm (true,p) a x:Nat):Int)) (tK xs) nq (λx hx=>?_) (.inr λ_ _=>rfl) (by rw[sL];omega) ?_
  ·walk_at"l3"
   exact⟨_,HE hp ha (hy x hx),rfl,rfl⟩
  ·rw[eo,dD]at q
   exact q
noncomputable abbrev WI(K:Frag):bf:=λds Q=>∃(C:Addr) (p a:Nat) (xs:List Nat),ds=[tX C p,.int a,.lst false (aq xs)]/\dk K C/\aY K C "prime"/\0<p/\a<64/\(∀y∈xs,y<64)/\xs.length<=1000/\Q (.lst true (aq (xs.map (gm (false,p) a))))
theorem aD0(T:Txt K mg t):aK P w K mg base aR 1 t.Jj t.Jk ["self","a","row"] (bh (WI K)):=by
 refine bD T.aE5 Vx ?_ ?_
 ·intro ds Q h
  obtain⟨C,p,a,xs,rfl,hC,hn,hp,ha,hy,hl,q⟩:=h<;>rfl
 ·intro aE A outer s H E hr
  refine⟨_,(aJ (bE (i:=3) Vx.nd rfl (bj rfl) (cV (cW (K:=K) (bv 0))))
   (aF (aX (eQ [("prime",3),("a",1)] ["x"] rfl (iT (bv 2)) (λ_ _ _ _=>(dO (i:=2) (show(["prime","a","x"]:List Str).Nodup by decide +kernel) rfl (au (lookup_relabel_local rfl)) (by decide) (bj (lookup_relabel_local rfl)))) (λ_ _ _ _=>fq) (λ_ _ _ _=>(aP dY (af (aP fG (bv 1) (bv 2))) (bv 0))) rfl ⟨rfl,⟨rfl,trivial⟩⟩ (λ_=>by repeat' (first | exact trivial | refine⟨.inl rfl,?_⟩ | refine⟨.inr (.inl rfl),?_⟩ | refine⟨.inr (.inr ⟨_,rfl⟩),?_⟩)) (λ_=>⟨⟨rfl,.inl rfl,.inl rfl,_,rfl,rfl⟩,⟨⟨rfl,.inl rfl,.inl rfl,_,rfl,rfl⟩,trivial⟩⟩) rfl (by decide +kernel))))),λds Q h=>?_⟩
  obtain⟨C,p,a,xs,rfl,hC,hn,hp,ha,hy,hl,q⟩:=h
  refine aI λU hU=>?_
  walk_at"l3"
  refine⟨C,_,_,.int p,rfl,hC,hn,rfl,rfl,hU _ ?_⟩
  clear hU U
  walk_at"l3"
  refine gM xs (λ(i:Nat)=>D.int (i:Int)) (λx=>D.int ((gm (false,p) a x:Nat):Int)) (tK xs) nq (λx hx=>?_) (.inr λ_ _=>rfl) (by rw[sL];omega) ?_
  ·have h2:=hy x hx
   walk_at"l3"
   refine⟨mT.ok (.inr ⟨by omega,by omega⟩),by omega,?_⟩
   show _=((a*x%p:Nat):Int)
   rw[wH,E8]
  ·rw[eo,dD]at q
   exact q
theorem ca4(T:Txt K mg t){m:Bool × Nat}(hm:m∈aM):∃C ns zs sp,fD t.az t.aB m=.obj C ns zs/\jO P w K mg base 1 "scaled" C sp/\("scaled":Str) ∉ ns/\∀(xs:List Nat) (a:Nat) (Q:D->Prop),a<ag m->(∀y∈xs,y<ag m)->xs.length<=1000->Q (.lst true (aq (xs.map (gm m a))))->sp [.obj C ns zs,.int a,.lst false (aq xs)] Q:=by
 have hF:=eI hm
 obtain⟨k,n⟩:=m
 cases k with
 | true=>exact⟨_,_,_,WH K,rfl,⟨T.fe,_,_,_,T.zH,aG9 T,T.aI5⟩,by decide,λxs a Q ha hy hl q=>⟨_,n,a,xs,rfl,T.fe,T.nM,Co hm,ha,hy,hl,q⟩⟩
 | false =>
  have kK:n<=64:=hF.hi
  have l2:2<=n:=hF.lo
  exact⟨_,_,_,WI K,rfl,⟨T.fL,_,_,_,T.zQ,aD0 T,T.aE6⟩,by decide,λxs a Q ha hy hl q=>⟨_,n,a,xs,rfl,T.fL,T.mE,by omega,cy (show a<n from ha) kK,λy h=>cy (show y<n from hy y h) kK,hl,q⟩⟩
noncomputable abbrev WJ(K:Frag):bf:=λds Q=>∃(C:Addr) (p a:Nat) (xs ys:List Nat),ds=[tY C p,.lst false (aq xs),.int a,.lst false (aq ys)]/\dk K C/\aY K C "products"/\p∈fI/\a<ag (true,p)/\(∀y∈ys,y<ag (true,p))/\xs.length<=1000/\Q (.lst true (aq (dS (λx y=>bQ (true,p) x (gm (true,p) a y)) xs ys)))
theorem aD1(T:Txt K mg t):aK P w K mg base aR 1 t.Jl t.Jm ["self","row","a","other"] (bh (WJ K)):=by
 refine bD T.aE7 Vy ?_ ?_
 ·intro ds Q h
  obtain⟨C,p,a,xs,ys,rfl,hC,hn,hp,ha,hy,hl,q⟩:=h<;>rfl
 ·intro aE A outer s H E hr
  refine⟨_,(aJ (bE (i:=4) Vy.nd rfl (bj rfl) (cV (cq (cW (K:=K) (bv 0)) (bv 2) (λ_ _=>rfl))))
   (aF (aX (eQ [("by_a",4)] ["x","y"] rfl (yF rfl T.z7 (ak (bv 1) (ak (bv 3) aD))) (λ_ _ _ _=>(iW (i1:=1) (i2:=2) rfl (show(["by_a","x","y"]:List Str).Nodup by decide +kernel) rfl (au (lookup_relabel_local rfl)) rfl (au (lookup_relabel_local rfl)) (by decide) (by decide) (bj (lookup_relabel_local rfl)) (bj (lookup_relabel_local rfl)))) (λ_ _ _ _=>fq) (λ_ _ _ _=>(aP SK (bv 1) (cq (bv 0) (bv 2) (λ_ _=>rfl)))) rfl ⟨rfl,trivial⟩ (λ_=>by repeat' (first | exact trivial | refine⟨.inl rfl,?_⟩ | refine⟨.inr (.inl rfl),?_⟩ | refine⟨.inr (.inr ⟨_,rfl⟩),?_⟩)) (λ_=>⟨⟨rfl,.inl rfl,.inl rfl,_,rfl,rfl⟩,trivial⟩) rfl (by decide +kernel))))),λds Q h=>?_⟩
  obtain⟨C,p,a,xs,ys,rfl,hC,hn,hp,ha,hy,hl,q⟩:=h
  refine aI λU hU=>?_
  walk_at"l3"
  refine⟨C,_,_,_,rfl,hC,hn,rfl,_,HF hp ha,?_⟩
  refine⟨by rw[gb,lZ];rfl,hU _ ?_⟩
  clear hU U
  walk_at"l3"
  refine⟨_,_,rfl,rfl,UO (λx y=>bQ (true,p) x (gm (true,p) a y)) (λx hx y K4=>?_) (by omega) q⟩
  walk_at"l3"
  refine⟨_,HE hp ha (hy y K4),?_⟩
  show mJ (x:Int) ((gm (true,p) a y:Nat):Int)=_
  rw[rk];rfl
noncomputable abbrev WK(K:Frag):bf:=λds Q=>∃(C:Addr) (p a:Nat) (xs ys:List Nat),ds=[tX C p,.lst false (aq xs),.int a,.lst false (aq ys)]/\dk K C/\aY K C "prime"/\0<p/\a<64/\(∀y∈ys,y<64)/\xs.length<=1000/\Q (.lst true (aq (dS (λx y=>bQ (false,p) x (gm (false,p) a y)) xs ys)))
theorem aA2(T:Txt K mg t):aK P w K mg base aR 1 t.Jn t.Jo ["self","row","a","other"] (bh (WK K)):=by
 refine bD T.aB7 Vz ?_ ?_
 ·intro ds Q h
  obtain⟨C,p,a,xs,ys,rfl,hC,hn,hp,ha,hy,hl,q⟩:=h<;>rfl
 ·intro aE A outer s H E hr
  refine⟨_,(aJ (bE (i:=4) Vz.nd rfl (bj rfl) (cV (cW (K:=K) (bv 0))))
   (aF (aX (eQ [("prime",4),("a",2)] ["x","y"] rfl (yF rfl T.z7 (ak (bv 1) (ak (bv 3) aD))) (λ_ _ _ _=>(iW (i1:=2) (i2:=3) rfl (show(["prime","a","x","y"]:List Str).Nodup by decide +kernel) rfl (au (lookup_relabel_local rfl)) rfl (au (lookup_relabel_local rfl)) (by decide) (by decide) (bj (lookup_relabel_local rfl)) (bj (lookup_relabel_local rfl)))) (λ_ _ _ _=>fq) (λ_ _ _ _=>(aP dY (af (aP fF (bv 2) (af (aP fG (bv 1) (bv 3))))) (bv 0))) rfl ⟨rfl,⟨rfl,trivial⟩⟩ (λ_=>by repeat' (first | exact trivial | refine⟨.inl rfl,?_⟩ | refine⟨.inr (.inl rfl),?_⟩ | refine⟨.inr (.inr ⟨_,rfl⟩),?_⟩)) (λ_=>⟨⟨rfl,.inl rfl,.inl rfl,_,rfl,rfl⟩,⟨⟨rfl,.inl rfl,.inl rfl,_,rfl,rfl⟩,trivial⟩⟩) rfl (by decide +kernel))))),λds Q h=>?_⟩
  obtain⟨C,p,a,xs,ys,rfl,hC,hn,hp,ha,hy,hl,q⟩:=h
  refine aI λU hU=>?_
  walk_at"l3"
  refine⟨C,_,_,.int p,rfl,hC,hn,rfl,rfl,hU _ ?_⟩
  clear hU U
  walk_at"l3"
  refine⟨_,_,rfl,rfl,UO (λx y=>bQ (false,p) x (gm (false,p) a y)) (λx hx y K4=>?_) (by omega) q⟩
  have h2:=hy y K4
  walk_at"l3"
  refine⟨mT.ok (.inr ⟨by omega,by omega⟩),by omega,?_⟩
  have e:((x:Int)-((a*y%p:Nat):Int))%(p:Int)=((x:Int)-(a:Int)*y)%p:=by
   rw[wH,E8,Int.sub_emod,Int.emod_emod,<- Int.sub_emod]
  show _=(((((x:Int)-((a*y%p:Nat):Int))%(p:Int)).toNat:Nat):Int)
  rw[e,qP (jY _ (by omega))]
theorem bQ1(T:Txt K mg t){m:Bool × Nat}(hm:m∈aM):∃C ns zs sp,fD t.az t.aB m=.obj C ns zs/\jO P w K mg base 1 "lessened" C sp/\("lessened":Str) ∉ ns/\∀(xs ys:List Nat) (a:Nat) (Q:D->Prop),a<ag m->(∀y∈ys,y<ag m)->xs.length<=1000->Q (.lst true (aq (dS (λx y=>bQ m x (gm m a y)) xs ys)))->sp [.obj C ns zs,.lst false (aq xs),.int a,.lst false (aq ys)] Q:=by
 have hF:=eI hm
 obtain⟨k,n⟩:=m
 cases k with
 | true=>exact⟨_,_,_,WJ K,rfl,⟨T.fe,_,_,_,T.zE,aD1 T,T.aE8⟩,by decide,λxs ys a Q ha hy hl q=>⟨_,n,a,xs,ys,rfl,T.fe,T.nM,Co hm,ha,hy,hl,q⟩⟩
 | false =>
  have kK:n<=64:=hF.hi
  have l2:2<=n:=hF.lo
  exact⟨_,_,_,WK K,rfl,⟨T.fL,_,_,_,T.zN,aA2 T,T.aB8⟩,by decide,λxs ys a Q ha hy hl q=>⟨_,n,a,xs,ys,rfl,T.fL,T.mE,by omega,cy (show a<n from ha) kK,λy h=>cy (show y<n from hy y h) kK,hl,q⟩⟩
noncomputable abbrev aT9(cb cp:Addr):bf:=λds Q=>∃(m:Bool × Nat) (T:List (List Nat)) (l:List Nat) (j:Nat),ds=[fD cb cp m,.lst false (aH false T),.lst false (aq l),.int j]/\m∈aM/\T.length<=1000/\AllLt (ag m) l/\(∀r∈T,j<r.length/\r.length<=1000/\AllLt (ag m) r)/\Q (.lst true (aH true (T.map λr=>dS (λx y=>bQ m x (gm m (r.getD j 0) y)) r l)))
theorem WL(T:Txt K mg t):aK P w K mg base aR 2 t.Jp t.Jq ["field","rows","lead_row","place"] (bh (aT9 t.az t.aB)):=by
 refine bD T.KN aT5 ?_ ?_
 ·intro ds Q h
  obtain⟨m,G,l,j,rfl,hm,hG,hl,hr,q⟩:=h<;>rfl
 ·intro aE A outer s H E hr
  refine⟨_,(aF (aX (eQ [("lead_row",2),("field",0),("place",3)] ["row"] rfl (iT (bv 1)) (λ_ _ _ _=>(dO (i:=3) (show(["lead_row","field","place","row"]:List Str).Nodup by decide +kernel) rfl (au (lookup_relabel_local rfl)) (by decide) (bj (lookup_relabel_local rfl)))) (λ_ _ _ _=>fq) (λ_ _ _ _=>(fJ (P:=P) (w:=w) (K:=K) (mg:=mg) (base:=base) (n:=1) (bv 1) (hr.mono (by decide)) (ak (bv 3) (ak (cq (bv 3) (bv 2) (λ_ _=>rfl)) (ak (bv 0) aD))))) rfl ⟨rfl,⟨rfl,⟨rfl,trivial⟩⟩⟩ (λ_=>by repeat' (first | exact trivial | refine⟨.inl rfl,?_⟩ | refine⟨.inr (.inl rfl),?_⟩ | refine⟨.inr (.inr ⟨_,rfl⟩),?_⟩)) (λ_=>⟨⟨rfl,.inl rfl,.inl rfl,_,rfl,rfl⟩,⟨⟨rfl,.inl rfl,.inl rfl,_,rfl,rfl⟩,⟨⟨rfl,.inl rfl,.inl rfl,_,rfl,rfl⟩,trivial⟩⟩⟩) rfl (by decide +kernel)))),λds Q h=>?_⟩
  obtain⟨m,G,l,j,rfl,hm,hG,hl,hr,q⟩:=h
  walk_at"l3"
  refine gM G (λr=>D.lst false (aq r)) (λr=>D.lst true (aq (dS (λx y=>bQ m x (gm m (r.getD j 0) y)) r l))) (by rw[eW];rfl) (λa b h=>ud a b h) (λr bz=>?_) (.inr λr _=>iy _) (by rw[sL];omega) ?_
  ·obtain⟨h1,h2,h3⟩:=hr r bz
   obtain⟨C,ns,zs,sp,e1,e2,e3,e4⟩:=bQ1 (P:=P) (w:=w) (base:=base) T hm
   walk_at"l3"
   refine⟨C,ns,zs,sp,e1,e2,e3,.int (r.getD j 0:Nat),by rw[ua (by omega) (by omega),eD],e4 _ _ _ _ (h3.getD (by have:=(eI hm).lo;omega) j) hl h2 ⟨rfl,rfl⟩⟩
  ·rw[aH,dD]at q
   exact q
noncomputable abbrev WM(t:dr)(P:Program)(w:World)(K:Frag)(mg:Str->Option Value)(base:Heap):jN:=λds Q Ex=>∃(m:Bool × Nat) (a b:Nat),ds=[fD t.az t.aB m,.int a,.int b]/\m∈aM/\a<ag m/\b<ag m/\(b=0->Ex t.dH)/\(b≠0->∀r:Nat,r<ag m->gm m r b=a->Q (.int (r:Nat)))
theorem WN(T:Txt K mg t):aK P w K mg base (jk P w) 2 t.CN t.Jr ["self","a","b"] (nh (WM t P w K mg base)):=by
 refine G5 T.aR0 aO7 ?_ ?_
 ·intro ds Q Ex h
  obtain⟨m,a,b,rfl,hm,ha,hb,qx,q⟩:=h<;>rfl
 ·intro aE A outer s H E hr
  refine⟨_,(aJ (cR (bJ (fH (cM hr)) (bv 2) (af av) (bA _)) (aF (G6 T.WA rfl (by rfl) (ak (af xD) aD))) cQ)
   (aJ (cR (bJ (fH (cM hr)) (bv 1) (af av) (bA _)) (aF (aX av)) cQ)
   (aF (aX (fJ (P:=P) (w:=w) (K:=K) (mg:=mg) (base:=base) (n:=1) (bv 0) (hr.mono (by decide)) (ak (af (aP fF (cq (cW (K:=K) (bv 0)) (bv 1) (λ_ _=>rfl)) (cq (cW (K:=K) (bv 0)) (bv 2) (λ_ _=>rfl)))) aD)))))),λds Q Ex h=>?_⟩
  obtain⟨m,a,b,rfl,hm,ha,hb,qx,q⟩:=h
  refine aI λU hU=>?_
  walk_at"l3"
  split
  ·rename_i h0
   exact⟨by decide,qx (by omega)⟩
  ·rename_i h0
   have b0:b≠0:=by omega
   refine hU _ ?_
   clear hU U
   refine aI λU hU=>?_
   walk_at"l3"
   split
   ·rename_i h1
    have a0:a=0:=by omega
    subst a0
    exact q b0 0 ha (iw m b (dP m hm))
   ·rename_i h1
    have a0:a≠0:=by omega
    refine hU _ ?_
    clear hU U
    have hF:=eI hm
    obtain⟨r,e,Cz,hr2⟩:=UG hm (show 1<=a by omega) ha (show 1<=b by omega) hb
    have qr:=q b0 r Cz hr2
    obtain⟨k,n⟩:=m
    cases k with
    | true =>
     walk_at"l3"
     have ll:(dF (fl (true,n))).length=ag (true,n):=(yQ _ _).trans hF.len
     have n0:=jY (lg (true,n) a-lg (true,n) b) (show(ag (true,n):Int)-1≠0 by have:=hF.lo;omega)
     have n1:=jZ (lg (true,n) a-lg (true,n) b) (show(0:Int)<(ag (true,n):Int)-1 by have:=hF.lo;omega)
     refine⟨_,_,_,KZ K,rfl,⟨T.fe,_,_,_,T.vF,K0 T,T.KH⟩,by decide,_,_,_,_,rfl,T.fe,T.nL,rfl,_,kD (by omega) (by rw[ll];omega),_,_,_,_,rfl,T.fe,T.nL,rfl,_,kD (by omega) (by rw[ll];omega),?_⟩
     refine⟨_,_,_,_,ag (true,n),fl (true,n),r,rfl,T.fe,T.qh,T.qg,rfl,rfl,hF.lo,?_,qr⟩
     have hk:((lg (true,n) a-lg (true,n) b)%((ag (true,n):Int)-1)).toNat<(fl (true,n)).length:=by have:=hF.len;omega
     show(fl (true,n))[((lg (true,n) a-lg (true,n) b)%((ag (true,n):Int)-1)).toNat]?=some (r:Int)
     rw[<-e]
     unfold pw
     rw[aT,aU hk];rfl
    | false =>
     walk_at"l3"
     have ll:(dF (fl (false,n))).length=ag (false,n):=(yQ _ _).trans hF.len
     have n0:=jY (lg (false,n) a-lg (false,n) b) (show(ag (false,n):Int)-1≠0 by have:=hF.lo;omega)
     have n1:=jZ (lg (false,n) a-lg (false,n) b) (show(0:Int)<(ag (false,n):Int)-1 by have:=hF.lo;omega)
     refine⟨_,_,_,KZ K,rfl,⟨T.fL,_,_,_,T.vH,K0 T,T.KH⟩,by decide,_,_,_,_,rfl,T.fL,T.qi,rfl,_,kD (by omega) (by rw[ll];omega),_,_,_,_,rfl,T.fL,T.qi,rfl,_,kD (by omega) (by rw[ll];omega),?_⟩
     refine⟨_,_,_,_,ag (false,n),fl (false,n),r,rfl,T.fL,T.vG,T.qj,rfl,rfl,hF.lo,?_,qr⟩
     have hk:((lg (false,n) a-lg (false,n) b)%((ag (false,n):Int)-1)).toNat<(fl (false,n)).length:=by have:=hF.len;omega
     show(fl (false,n))[((lg (false,n) a-lg (false,n) b)%((ag (false,n):Int)-1)).toNat]?=some (r:Int)
     rw[<-e]
     unfold pw
     rw[aT,aU hk];rfl
theorem bW1(T:Txt K mg t)(m:Bool × Nat):Cp P w K mg base 2 "over" (if m.1 then t.az else t.aB) (WM t P w K mg base):=by
 obtain⟨k,n⟩:=m
 cases k with
 | true=>exact⟨T.fe,_,_,_,T.zG,WN T,T.Wa⟩
 | false=>exact⟨T.fL,_,_,_,T.zP,WN T,T.Wa⟩
noncomputable abbrev aU0(t:dr)(P:Program)(w:World)(K:Frag)(mg:Str->Option Value)(base:Heap):bf:=λds Q=>∃(m:Bool × Nat) (G:List (List Nat)),ds=[fD t.az t.aB m,.lst false (aH false G)]/\m∈aM/\G.length<=900/\RT (ag m) (aW G) G/\aW G<=900/\Q (.lst true (aH true (et m G)))
theorem aU1(T:Txt K mg t):aK P w K mg base aR 3 t.Js t.Jt ["field","table"] (bh (aU0 t P w K mg base)):=by
 refine bD T.Wb nK ?_ ?_
 ·intro ds Q h
  obtain⟨m,G,rfl,hm,hG,hR,hw,q⟩:=h<;>rfl
 ·intro aE A outer s H E hr
  refine⟨_,(aJ (bE (i:=2) nK.nd rfl (au rfl) (eN dv))
   (aJ (bE (i:=3) nK.nd rfl (au rfl) (cV (bv 1)))
   (aJ (gL fv rfl (rY rfl T.kI (ak (af (cJ ((K3 T).mono (by decide)) hr rfl T.KJ T.CS.kp T.KL bC (ak (bv 1) aD))) aD)) (dO (i:=4) nK.nd rfl (au rfl))
    (GI 3 (aJ (bE (i:=5) nK.nd rfl (au rfl) (cJ ((aQ1 T).mono (by decide)) hr rfl T.dR3 T.V7.kp T.dR4 bC (ak (bv 3) (ak (bv 4) aD))))
    (aF (cR (bJ xS (bv 5) (af jI) (bA _)) (aJ (bE (i:=6) nK.nd rfl (au rfl) (fJ (P:=P) (w:=w) (K:=K) (mg:=mg) (base:=base) (n:=1) (bv 0) (hr.mono (by decide)) (ak (af (cc9 (P:=P) (w:=w) (K:=K) (mg:=mg) (base:=base) (n:=2) (bv 0) (hr.mono (by decide)) (ak (af av) (ak (cq (cq (bv 3) (bv 5) (λ_ _=>rfl)) (bv 4) (λ_ _=>rfl)) aD)))) (ak (cq (bv 3) (bv 5) (λ_ _=>rfl)) aD))))
     (aJ (bE (i:=3) nK.nd rfl (au rfl) (cJ ((WL T).mono (by decide)) hr rfl T.V8 T.KN.kp T.V9 bC (ak (bv 0) (ak (af (aP gh (af (Hi (bv 3) S6 (BX (bv 5)))) (af (Hi (bv 3) (BX (af (aP gh (bv 5) (af av)))) S6)))) (ak (bv 6) (ak (bv 4) aD))))))
     (aF (bE (i:=2) nK.nd rfl (au rfl) (cF8 (cJ ((WL T).mono (by decide)) hr rfl T.V8 T.KN.kp T.V9 bC (ak (bv 0) (ak (bv 2) (ak (bv 6) (ak (bv 4) aD))))) (eN (cH (em 6) dv))))))) cQ)))))
   (aF (aX (em 2)))))),λds Q h=>?_⟩
  obtain⟨m,G,rfl,hm,hG,hR,hw,q⟩:=h
  have gF:=(eI hm).lo
  refine aI λU hU=>?_
  walk_at"l3"
  refine⟨by decide,hU _ ?_⟩
  clear hU U
  refine aI λU hU=>?_
  walk_at"l3"
  refine hU _ ?_
  clear hU U
  refine aI λU hU=>?_
  walk_at"l3"
  refine⟨G,rfl,by omega,λr bz=>?_,?_⟩
  ·rw[(hR r bz).1];omega
  refine⟨_,rfl,⟨by omega,by omega⟩,?_⟩
  refine G4 (λk δ=>∃(o:Bool) (o1 o2 o3:Option D),δ=[some (fD t.az t.aB m),some (D.lst false (aH false G)),some (D.lst true (aH true (i3 m G k).1)),some (D.lst o (aH o (i3 m G k).2)),o1,o2,o3]) ⟨false,none,none,none,rfl⟩ ?_ ?_
  ·rintro k δ hk ⟨o,o1,o2,o3,rfl⟩
   have I:=Ct hm hR k
   rw[HN]
   generalize i3 m G k=s at I ⊢
   simp only[gN,o6,jc,i9,wM,wL,wN,exists_eq_left',dX,eW]
   clear hU
   have il:=I.l
   refine aI λU hU=>?_
   walk_at"l3"
   refine⟨s.2,k,rfl,by omega,λr bz=>by rw[(I.b r bz).1];omega,?_⟩
   cases e:iZ s.2 k with
   | none =>
    rw[show gv m s k=s by unfold gv;rw[e]]at hU
    refine hU _ ?_
    walk_at"l3"
    exact⟨false,_,_,_,⟨rfl,rfl⟩,rfl,rfl,rfl⟩
   | some i =>
    obtain⟨hi,h1,h2⟩:=Cs e
    have er:gv m s k=(ft m s.1 (dw m s.2 i k) k++[dw m s.2 i k],ft m (s.2.take i++s.2.drop (i+1)) (dw m s.2 i k) k):=by unfold gv;rw[e]
    rw[er]at hU
    refine hU _ ?_
    clear hU
    walk_at"l3"
    obtain⟨C,ns,xs,sp,e1,e2,e3,e4⟩:=ca4 (P:=P) (w:=w) (base:=base) T hm
    refine aI λU hU=>?_
    walk_at"l3"
    obtain⟨lw,lr⟩:=I.b _ (eY hi)
    have bk:=lr.getD (show 0<ag m by omega) k
    refine⟨C,ns,xs,sp,e1,e2,e3,_,_,_,_,Cq _ _ m,bW1 T m,cK4 m _ (by decide),.lst false (aq s.2[i]),HL false hi,?_⟩
    dsimp only
    refine⟨.int (s.2[i].getD k 0:Nat),by rw[ua (by omega) (by omega),eD],m,1,s.2[i].getD k 0,by rw[Cq];rfl,hm,gF,bk,λz=>absurd z h1,λ_ f hf hfo=>⟨rfl,.lst false (aq s.2[i]),HL false hi,?_⟩⟩
    have ef:y8 m (s.2[i].getD k 0)=f:=US hm hf hfo
    rw[yW]
    refine e4 _ _ _ hf lr (by omega) ⟨by rw[iy,gU],hU _ ?_⟩
    have el:s.2[i].map (gm m f)=dw m s.2 i k:=by unfold dw;rw[h2,ef]
    rw[el]
    have ll:(dw m s.2 i k).length=aW G:=by rw[<-el,bK];exact lw
    have la:AllLt (ag m) (dw m s.2 i k):=λx hx=>by
     rw[<-el]at hx
     obtain⟨y,_,rfl⟩:=cI.mp hx
     exact gr hm _ _
    generalize dw m s.2 i k=ld at ll la ⊢
    clear hU
    refine aI λU hU=>?_
    walk_at"l3"
    have K5:∀r∈s.2.take i++s.2.drop (i+1),r.length=aW G/\AllLt (ag m) r:=λr bz=>by
     rcases cO.mp bz with h | h
     ·exact I.b r (E4 h)
     ·exact I.b r (E3 h)
    have WO:∀X:List (List Nat),(D.lst true (aH true X)).fr=true:=λX=>by rw[e7,yZ];rfl
    rw[bI0,show((i:Int)+1)=((i+1:Nat):Int) by omega,cc3,Cr,eW]
    refine⟨by rw[qF,Az];omega,m,_,ld,k,rfl,hm,by rw[gA,qF,Az];omega,la,λr bz=>⟨by rw[(K5 r bz).1];exact hk,by rw[(K5 r bz).1];omega,(K5 r bz).2⟩,WO _,hU _ ?_⟩
    clear hU
    walk_at"l3"
    refine⟨m,s.1,ld,k,rfl,hm,by omega,la,λr bz=>⟨by rw[(I.a r bz).1];exact hk,by rw[(I.a r bz).1];omega,(I.a r bz).2⟩,WO _,by decide,_,_,rfl,rfl,?_,true,_,_,_,Cr true _ [ld],⟨rfl,rfl⟩,rfl,rfl,rfl⟩
    rw[nF,bK]
    show s.1.length+1<=_
    omega
  ·rintro δ ⟨o,o1,o2,o3,rfl⟩
   refine hU _ ?_
   walk_at"l3"
   exact q
noncomputable abbrev aU5:bf:=λds Q=>∃T:List (List Nat),ds=[.lst false (aH false T)]/\T.length<=1000/\Q (.lst true (aH true T))
theorem K6(T:Txt K mg t):aK P w K mg base aR 1 t.Ju t.Jv ["table"] (bh (aU5 )):=by
 refine bD T.CT aU2 ?_ ?_
 ·intro ds Q h
  obtain⟨G,rfl,hG,q⟩:=h<;>rfl
 ·intro aE A outer s H E hr
  refine⟨_,(aF (aX (eQ [] ["row"] rfl (iT (bv 0)) (λ_ _ _ _=>(dO (i:=0) (show(["row"]:List Str).Nodup by decide +kernel) rfl (au (lookup_relabel_local rfl)) (by decide) (bj (lookup_relabel_local rfl)))) (λ_ _ _ _=>fq) (λ_ _ _ _=>(BV (GV) (by rfl) T.KW Gh (ak (bv 0) aD))) rfl trivial (λ_=>by repeat' (first | exact trivial | refine⟨.inl rfl,?_⟩ | refine⟨.inr (.inl rfl),?_⟩ | refine⟨.inr (.inr ⟨_,rfl⟩),?_⟩)) (λ_=>trivial) rfl (by decide +kernel)))),λds Q h=>?_⟩
  obtain⟨G,rfl,hG,q⟩:=h
  walk_at"l3"
  refine gM G (λr=>D.lst false (aq r)) (λr=>D.lst true (aq r)) (by rw[eW];rfl) (λa b h=>ud a b h) (λr bz=>?_) (.inr λr _=>iy r) (by rw[sL];omega) q
  walk_at"l3"
noncomputable abbrev cb4:bf:=λds Q=>∃T:List (List Nat),ds=[.lst false (aH false T)]/\T.length<=1000/\(∀r∈T,r.length<=1000/\∃x∈r,x≠0)/\Q (.lst true (aq (T.map cN)))
theorem WQ(T:Txt K mg t):aK P w K mg base aR 1 t.Jw t.Jx ["rows"] (bh (cb4 )):=by
 refine bD T.KQ cg7 ?_ ?_
 ·intro ds Q h
  obtain⟨G,rfl,hG,hr,q⟩:=h<;>rfl
 ·intro aE A outer s H E hr
  refine⟨_,(aF (aX (eQ [] ["row"] rfl (iT (bv 0)) (λ_ _ _ _=>(dO (i:=0) (show(["row"]:List Str).Nodup by decide +kernel) rfl (au (lookup_relabel_local rfl)) (by decide) (bj (lookup_relabel_local rfl)))) (λ_ _ _ _=>fq) (λ_ _ _ _=>(cV (cq (af (eQ [] ["place","x"] rfl (nk rfl T.nN (ak (bv 0) aD)) (λ_ _ _ _=>(iW (i1:=0) (i2:=1) rfl (show(["place","x"]:List Str).Nodup by decide +kernel) rfl (au (lookup_relabel_local rfl)) rfl (au (lookup_relabel_local rfl)) (by decide) (by decide) (bj (lookup_relabel_local rfl)) (bj (lookup_relabel_local rfl)))) (λ_ _ _ _=>(xK (bJ (gj (cM hr)) (bv 1) (af av) (bA _)))) (λ_ _ _ _=>(cV (bv 0))) rfl trivial (λ_=>by repeat' (first | exact trivial | refine⟨.inl rfl,?_⟩ | refine⟨.inr (.inl rfl),?_⟩ | refine⟨.inr (.inr ⟨_,rfl⟩),?_⟩)) (λ_=>trivial) rfl (by decide +kernel))) (af av) (λ_ _=>rfl)))) rfl trivial (λ_=>by repeat' (first | exact trivial | refine⟨.inl rfl,?_⟩ | refine⟨.inr (.inl rfl),?_⟩ | refine⟨.inr (.inr ⟨_,rfl⟩),?_⟩)) (λ_=>trivial) rfl (by decide +kernel)))),λds Q h=>?_⟩
  obtain⟨G,rfl,hG,hr,q⟩:=h
  walk_at"l3"
  refine gM G (λr=>D.lst false (aq r)) (λr=>D.int (cN r:Nat)) (by rw[eW];rfl) (λa b h=>ud a b h) (λr bz=>?_) (.inr λr _=>rfl) (by rw[sL];omega) ?_
  ·obtain⟨h1,x,hx,h3⟩:=hr r bz
   walk_at"l3"
   refine y7 (bo r.length) (λ(i:Nat)=>D.tup [.int (i:Int),.int ((r.getD i 0:Nat):Int)]) (λ(i:Nat)=>D.int (i:Int)) (λi=>r.getD i 0 != 0) (ce6 r) (λa b h=>by injection h with h;simp at h;omega) (λi hi=>?_) (.inr λ_ _ _=>rfl) (by rw[eE,sL];omega) ?_
   ·walk_at"l3"
    refine⟨?_,λ_=>trivial⟩
    by_cases h0:r.getD i 0=0
    ·rw[h0];rfl
    ·rw[decide_eq_false (by omega),bne_iff_ne.mpr h0];rfl
   ·refine⟨.int (cN r:Nat),L3.TF (k:=0) ?_,rfl,rfl⟩
    rw[bV,b77 ⟨x,hx,h3⟩];rfl
  ·rw[eo,dD]at q
   exact q
noncomputable abbrev aN6:bf:=λds Q=>∃(T:List (List Nat)) (w:Nat),ds=[.lst false (aH false T),.int w]/\T.length<=1000/\w<=1000/\(∀r∈T,r.length<=1000/\∃x∈r,x≠0)/\Q (.lst true (aq (eR T w)))
theorem WR(T:Txt K mg t):aK P w K mg base aR 2 t.Jy t.Jz ["rows","width"] (bh (aN6 )):=by
 refine bD T.KR VA ?_ ?_
 ·intro ds Q h
  obtain⟨G,w,rfl,hG,hw,hr,q⟩:=h<;>rfl
 ·intro aE A outer s H E hr
  refine⟨_,(aJ (bE (i:=2) VA.nd rfl (bj rfl) (cJ ((WQ T).mono (by decide)) hr rfl T.Wc T.KQ.kp T.Wd bC (ak (bv 0) aD)))
   (aF (aX (eQ [("taken",2)] ["place"] rfl (rY rfl T.kI (ak (bv 1) aD)) (λ_ _ _ _=>(dO (i:=1) (show(["taken","place"]:List Str).Nodup by decide +kernel) rfl (au (lookup_relabel_local rfl)) (by decide) (bj (lookup_relabel_local rfl)))) (λ_ _ _ _=>(xK (bJ cD0 (bv 1) (bv 0) (by with_unfolding_all rfl)))) (λ_ _ _ _=>(cV (bv 1))) rfl ⟨rfl,trivial⟩ (λ_=>by repeat' (first | exact trivial | refine⟨.inl rfl,?_⟩ | refine⟨.inr (.inl rfl),?_⟩ | refine⟨.inr (.inr ⟨_,rfl⟩),?_⟩)) (λ_=>⟨⟨rfl,.inl rfl,.inl rfl,_,rfl,rfl⟩,trivial⟩) rfl (by decide +kernel))))),λds Q h=>?_⟩
  obtain⟨G,w,rfl,hG,hw,hr,q⟩:=h
  refine aI λU hU=>?_
  walk_at"l3"
  refine⟨G,rfl,hG,hr,?_⟩
  refine hU _ ?_
  clear hU U
  walk_at"l3"
  refine⟨⟨by omega,by omega⟩,y7 (bo w) (λ(i:Nat)=>D.int (i:Int)) (λ(i:Nat)=>D.int (i:Int)) (λj=>!(G.map cN).contains j) (HK _ rfl) nq (λj hj=>?_) (.inr λ_ _ _=>rfl) (by rw[eE,sL];omega) ?_⟩
  ·walk_at"l3"
   exact⟨_,rfl,by rw[cf7],λ_=>trivial⟩
  ·rw[eo]at q
   exact q
noncomputable abbrev WS:bf:=λds Q=>∃(d:D) (a b:Nat),ds=[d,.int a,.int b]/\Q (.int (a ^^^ b:Nat))
theorem aI6(T:Txt K mg t):aK P w K mg base aR 1 t.JA t.JB ["self","a","b"] (bh (WS )):=by
 refine bD T.aJ5 aI0 ?_ ?_
 ·intro ds Q h
  obtain⟨d,a,b,rfl,q⟩:=h<;>rfl
 ·intro aE A outer s H E hr
  refine⟨_,(aF (aX (aP SK (bv 1) (bv 2)))),λds Q h=>?_⟩
  obtain⟨d,a,b,rfl,q⟩:=h
  walk_at"l3"
  rw[rk];exact q
noncomputable abbrev WT(K:Frag):bf:=λds Q=>∃(C:Addr) (p:Nat) (a b:Int),ds=[tX C p,.int a,.int b]/\dk K C/\aY K C "prime"/\0<p/\Q (.int ((a-b)%p))
theorem aE9(T:Txt K mg t):aK P w K mg base aR 1 t.JC t.JE ["self","a","b"] (bh (WT K)):=by
 refine bD T.aG0 aE4 ?_ ?_
 ·intro ds Q h
  obtain⟨C,p,a,b,rfl,hC,hn,hp,q⟩:=h<;>rfl
 ·intro aE A outer s H E hr
  refine⟨_,(aF (aX (aP dY (af (aP fF (bv 1) (bv 2))) (cW (K:=K) (bv 0))))),λds Q h=>?_⟩
  obtain⟨C,p,a,b,rfl,hC,hn,hp,q⟩:=h
  walk_at"l3"
  refine⟨C,_,_,.int p,rfl,hC,hn,rfl,?_⟩
  exact⟨by omega,q⟩
theorem WU(T:Txt K mg t){m:Bool × Nat}(h0:0<m.2):∃C ns xs sp,fD t.az t.aB m=.obj C ns xs/\jO P w K mg base 1 "minus" C sp/\("minus":Str) ∉ ns/\∀(a b:Nat) (Q:D->Prop),Q (.int (gl m a b))->sp [.obj C ns xs,.int a,.int b] Q:=by
 obtain⟨k,n⟩:=m
 cases k with
 | true=>exact⟨_,_,_,WS,rfl,⟨T.fe,_,_,_,T.zF,aI6 T,T.aJ6⟩,by decide,λa b Q q=>⟨_,a,b,rfl,q⟩⟩
 | false=>exact⟨_,_,_,WT K,rfl,⟨T.fL,_,_,_,T.zO,aE9 T,T.aG1⟩,by decide,λa b Q q=>⟨_,n,a,b,rfl,T.fL,T.mE,h0,q⟩⟩
noncomputable abbrev aD2(cb cp:Addr):bf:=λds Q=>∃(m:Bool × Nat) (T:List (List Nat)) (w:Nat),ds=[fD cb cp m,.lst false (aH false T),.int w]/\m∈aM/\T.length<=1000/\w<=1000/\RT (ag m) w T/\(∀r∈T,∃x∈r,x≠0)/\Q (.lst true (aH true (nH m T w)))
theorem aD3(T:Txt K mg t):aK P w K mg base aR 3 t.JF t.JG ["field","rows","width"] (bh (aD2 t.az t.aB)):=by
 refine bD T.Wg u4 ?_ ?_
 ·intro ds Q h
  obtain⟨m,G,wi,rfl,hm,hG,hw,hR,hr,q⟩:=h<;>rfl
 ·intro aE A outer s H E hr
  refine⟨_,(aJ (bE (i:=3) u4.nd rfl (au rfl) (cJ ((WQ T).mono (by decide)) hr rfl T.Wc T.KQ.kp T.Wd bC (ak (bv 1) aD)))
   (aJ (bE (i:=4) u4.nd rfl (au rfl) (eN dv))
   (GI 3 (aJ (gL fv rfl (Sx (cJ ((WR T).mono (by decide)) hr rfl T.We T.KR.kp T.Wf bC (ak (bv 1) (ak (bv 2) aD)))) (dO (i:=5) u4.nd rfl (au rfl))
    (aJ (bE (i:=6) u4.nd rfl (au rfl) (aP fG (af (eN (cH av dv))) (bv 2)))
    (aJ (m9 (i:=6) rfl (by first | exact au rfl | exact bj (au rfl)) av (bv 5))
    (aJ (gL fv rfl (yF rfl T.z7 (ak (bv 3) (ak (bv 1) aD))) (iW (i1:=7) (i2:=8) rfl u4.nd rfl (au rfl) rfl (au rfl))
     (aF (m9 (i:=6) rfl (by first | exact au rfl | exact bj (au rfl)) (fJ (P:=P) (w:=w) (K:=K) (mg:=mg) (base:=base) (n:=1) (bv 0) (hr.mono (by decide)) (ak (af av) (ak (cq (bv 8) (bv 5) (λ_ _=>rfl)) aD))) (bv 7))))
    (aF (xX (i:=4) rfl (by first | exact au rfl | exact bj (au rfl)) (em 6)))))))
   (aF (aX (em 4))))))),λds Q h=>?_⟩
  obtain⟨m,G,wi,rfl,hm,hG,hw,hR,hr,q⟩:=h
  have m0:=dP m hm
  have gF:=(eI hm).lo
  refine aI λU hU=>?_
  walk_at"l3"
  refine⟨G,rfl,hG,λr bz=>⟨by rw[(hR r bz).1];exact hw,hr r bz⟩,hU _ ?_⟩
  clear hU U
  refine aI λU hU=>?_
  walk_at"l3"
  refine⟨by decide,hU _ ?_⟩
  clear hU U
  refine⟨_,rfl,?_⟩
  rw[yW]
  simp only[jc,i9]
  refine aI λU hU=>?_
  walk_at"l3"
  refine⟨G,wi,rfl,hG,hw,λr bz=>⟨by rw[(hR r bz).1];exact hw,hr r bz⟩,?_⟩
  refine⟨_,rfl,?_⟩
  have hfp:∀j∈eR G wi,j<wi:=λj hj=>dz.mp (mH.mp hj).1
  have lfp:(eR G wi).length<=wi:=by
   have:=Qy (λj=>!(G.map cN).contains j) (bo wi)
   rw[eE]at this
   exact this
  rw[pQ]
  refine fE.mk (λi δ=>∃o1 o2 o3 o4,δ=[some (fD t.az t.aB m),some (D.lst false (aH false G)),some (D.int wi),some (D.lst false (aq (G.map cN))),some (D.lst true (aH true (((eR G wi).take i).map (gO m G wi)))),o1,o2,o3,o4]) ⟨_,_,_,_,rfl⟩ ?_ ?_
  ·rintro i d δ hd ⟨o1,o2,o3,o4,rfl⟩
   rw[eo,bV]at hd
   obtain⟨f,hf,rfl⟩:=AI.mp hd
   have hfw:=hfp f (qH hf)
   clear hd
   refine aI λU hU=>?_
   walk_at"l3"
   have er:aC (aw wi 0)=aq (aw wi 0):=by
    rw[eo,kR];unfold aC;rw[kR];rfl
   rw[eD,er]
   refine⟨by decide,⟨by omega,by omega,by omega⟩,hU _ ?_⟩
   clear hU
   refine aI λU hU=>?_
   walk_at"l3"
   refine⟨_,f,rfl,?_,?_⟩
   ·rw[p7 (by omega) (by rw[eP,cK];omega)];rfl
   rw[show(aq (aw wi 0)).set f (D.int 1)=aq ((aw wi 0).set f 1) from yV _ _ 1]
   refine hU _ ?_
   clear hU
   refine aI λU hU=>?_
   walk_at"l3"
   refine⟨_,_,rfl,rfl,?_⟩
   refine fE.mk (λk δ=>∃o3 o4,δ=[some (fD t.az t.aB m),some (D.lst false (aH false G)),some (D.int wi),some (D.lst false (aq (G.map cN))),some (D.lst true (aH true (((eR G wi).take i).map (gO m G wi)))),some (D.int f),some (D.lst true (aq ((((G.map cN).zip G).take k).foldl (λx z=>x.set z.1 (bQ m 0 (z.2.getD f 0))) ((aw wi 0).set f 1)))),o3,o4]) ⟨_,_,rfl⟩ ?_ ?_
   ·rintro k d δ hd ⟨o3,o4,rfl⟩
    obtain⟨hk,rfl⟩:=cs8 hd
    clear hd
    obtain⟨lw,la⟩:=hR _ (eY hk)
    have xl:=UU (λz:Nat × List Nat=>z.1) (λz=>bQ m 0 (z.2.getD f 0)) (((G.map cN).zip G).take k) ((aw wi 0).set f 1)
    rw[gR,cK]at xl
    obtain⟨C,ns,xs,sp,e1,e2,e3,e4⟩:=WU (P:=P) (w:=w) (base:=base) T m0
    have hld:cN G[k]<wi:=by
     rw[<-lw]
     obtain⟨x,hx,h0⟩:=hr _ (eY hk)
     exact π ⟨x,hx,by simpa using h0⟩
    have ga:=js hm (a:=0) (b:=G[k].getD f 0) (by omega) (la.getD (by omega) f)
    walk_at"l3"
    refine⟨C,ns,xs,sp,e1,e2,e3,.int (G[k].getD f 0:Nat),by rw[ua (by omega) (by omega),eD],e4 0 (G[k].getD f 0) _ ⟨rfl,_,cN G[k],rfl,?_,_,_,?_,rfl,rfl⟩⟩
    ·rw[p7 (by omega) (by rw[eP,xl];omega)];rfl
    ·rw[ga.1,yV,AH,Fc]
     have ez:((G.map cN).zip G)[k]?=some (cN G[k],G[k]):=by
      rw[List.zip,wK,bV,aU hk];rfl
     rw[ez];rfl
   ·rintro δ ⟨o3,o4,rfl⟩
    refine hU _ ?_
    walk_at"l3"
    refine⟨⟨_,rfl⟩,by rw[bK,qF];omega,_,_,_,_,?_,rfl,rfl,rfl,rfl⟩
    rw[show((G.map cN).zip G).take (eL (aq (G.map cN)) (aH false G)).length=(G.map cN).zip G from E1 (by unfold eL;rw[Fb,wJ,eP,nF];exact bB _),AH,hf,iG]
    exact Cr true _ [gO m G wi f]
  ·rintro δ ⟨o1,o2,o3,o4,rfl⟩
   refine hU _ ?_
   walk_at"l3"
   rw[EX]
   exact q
noncomputable abbrev aR7(t:dr)(K:Frag):L2.Sp:=λvs H Q _=>∃(F H0:Hp) (x dx C:Addr) (vf vc:V) (m:Bool × Nat) (G:List (List Nat)),vs=[.ref x,vf,vc]/\L3.aa F H0/\H0 x=none/\L3.aa H0 H/\H x=some (.ins C dx [])/\dK4 K C /\
 R F H0 [fD t.az t.aB m] [vf] []/\R F H0 [.lst false (aH false G)] [vc] []/\m∈aM/\RT (ag m) (aW G) G/\G.length<=64/\aW G<=64 /\
 ∀H' p1 p2 p3 A1 A2 A3,bR x H H'->H' x=some (.ins C dx (Ig.zip [vf,.int (aW G:Nat),.ref p1,.ref p2,.ref p3,.int ((eR (et m G) (aW G)).length:Nat)]))->R (λ_=>none) H' [.lst true (aH true G)] [.ref p1] A1->R (λ_=>none) H' [.lst true (aH true (nH m (et m G) (aW G)))] [.ref p2] A2->R (λ_=>none) H' [.lst true (aq (eR (et m G) (aW G)))] [.ref p3] A3->(A1++(A2++A3)).Nodup->(∀a∈A1++(A2++A3),H a=none)->Q .aj H'
theorem aR8(T:Txt K mg t):aK P w K mg base aR 4 t.JH t.JI ["self","field","checks"] (aR7 t K):=by
 refine T.dT2.ok VB (λvs H Q E h=>?_) λaE A outer s H vs Q E hr h=>?_
 ·obtain⟨F,H0,x,dx,C,vf,vc,m,G,rfl,_⟩:=h;rfl
 obtain⟨F,H0,x,dx,C,vf,vc,m,G,rfl,e0,lQ,s0,hx,hC,rf,rc,hm,hG,hGl,hGw,q⟩:=h
 refine⟨_,fj (Fz (i:=3) VB.nd rfl (au rfl) (iN ((aU1 T).mono (by decide)) hr rfl T.dS4 T.Wb.kp T.dS5 .nil bC (bX (pv 1) (bX (pv 2) eF))))
  (fj (g6 (pv 0) (pv 1) rfl)
  (fj (g6 (pv 0) (iN ((K3 T).mono (by decide)) hr rfl T.KJ T.CS.kp T.KL .nil bC (bX (pv 2) eF)) rfl)
  (fj (g6 (pv 0) (iN ((K6 T).mono (by decide)) hr rfl T.KO T.CT.kp T.KP .nil bC (bX (pv 2) eF)) rfl)
  (fj (g6 (pv 0) (iN ((aD3 T).mono (by decide)) hr rfl T.dT0 T.Wg.kp T.dT1 .nil bC (bX (pv 1) (bX (pv 3) (bX (oF (pv 0) rfl) eF)))) rfl)
  (fj (g6 (pv 0) (iN ((WR T).mono (by decide)) hr rfl T.We T.KR.kp T.Wf .nil bC (bX (pv 3) (bX (oF (pv 0) rfl) eF))) rfl)
  (kW (g6 (pv 0) (Bz Ru rfl T.jR jE (bX (oF (pv 0) rfl) eF)) rfl))))))),?_⟩
 have hn:=cB6 hm hG
 have hk:=cO4 hm hG
 obtain⟨_,iR,iL,_⟩:=zd hm hG
 have fR:∀X:List (List Nat),[D.lst true (aH true X)].all D.fr=true:=λX=>by rw[di,e7,yZ];rfl
 have fN:∀X:List Nat,[D.lst true (aq X)].all D.fr=true:=λX=>by rw[di,iy];rfl
 refine⟨_,rfl,_,rfl,F,[fD t.az t.aB m,.lst false (aH false G)],λd=>d=.lst true (aH true (et m G)),e0.trans s0,R.cons (A:=[]) (rf.shared (L3.aa.refl _) s0) (rc.shared (L3.aa.refl _) s0),⟨m,G,rfl,hm,by omega,hG,by omega,rfl⟩,λd v F1 H1 A1 hd gx K7 he1 h31 r1 nd1 WV=>?_⟩
 subst hd
 obtain⟨p0,rfl⟩:=zi r1
 have cm:=gx.get _ _ hx rfl
 have z1:bR x H H1:=gx.x
 have r1:=r1.rB (fR _) K7
 have Dv:∀X:List (List Nat),[D.lst true (aH true X)].map D.sh=[D.lst false (aH false X)]:=λX=>by rw[dh,dX,eW];rfl
 have aj:∀{F' H':Hp} {d:D} {v:V} {A':List Addr},R F' H' [d] [v] A'->[d].all D.fr=true->R (λ_=>none) H' [d] [v] A':=λr h=>r.rB h (L3.aa.of λb o e=>by cases e)
 have mv:∀{F' H' K8:Hp} {ds:List D} {vs:List V} {A':List Addr} {fs fs':List (Str × V)},R F' H' ds vs A'->L3.aa H' K8->K8 x=some (.ins C dx fs)->ds.all D.fr=true->R F' (upd K8 x (.ins C dx fs')) ds vs A':=λr h du hd=>(r.grow (L3.aa.refl _) h λa ha=>(r.lists a ha).2).tW du hd
 refine⟨vf,rfl,.ref x,rfl,x,C,dx,_,rfl,cm,hC.cls,hC.field,by decide,?_⟩
 have r2:=mv r1 (L3.aa.refl _) cm (fR _) (fs':=bL "field" vf [])
 have z2:=z1.trans (bR.upd (C:=x) (dx:=dx) cm rfl (o':=.ins C dx (bL "field" vf [])))
 have dW:upd H1 x (.ins C dx (bL "field" vf [])) x=some (.ins C dx [("field",vf)]):=by rw[bG];rfl
 generalize upd H1 x (.ins C dx (bL "field" vf []))=H2 at r2 z2 dW ⊢
 have t2:=bR.of0 lQ s0 z2
 refine⟨_,rfl,F,[.lst false (aH false G)],λd=>d=.int (aW G:Nat),e0.trans t2,rc.shared (L3.aa.refl _) t2,⟨G,rfl,by omega,λr bz=>by rw[(hG r bz).1];omega,rfl⟩,λd v F3 H3 A3 hd i6 Du he3 h33 r3 nd3 FE=>?_⟩
 subst hd
 cases r3
 have iE:=i6.get _ _ dW rfl
 refine⟨.ref x,rfl,x,C,dx,_,rfl,iE,hC.cls,hC.length,gS (bB 1) (by decide),?_⟩
 have r4:=mv r2 i6 iE (fR _) (fs':=bL "length" (.int (aW G:Nat)) [("field",vf)])
 have z4:=(z2.trans (i6.x (x:=x))).trans (bR.upd (C:=x) (dx:=dx) iE rfl (o':=.ins C dx (bL "length" (.int (aW G:Nat)) [("field",vf)])))
 have ju:upd H3 x (.ins C dx (bL "length" (.int (aW G:Nat)) [("field",vf)])) x=some (.ins C dx [("field",vf),("length",.int (aW G:Nat))]):=by rw[bG];rfl
 generalize upd H3 x (.ins C dx (bL "length" (.int (aW G:Nat)) [("field",vf)]))=H4 at r4 z4 ju ⊢
 have t4:=bR.of0 lQ s0 z4
 refine⟨_,rfl,F,[.lst false (aH false G)],λd=>d=.lst true (aH true G),e0.trans t4,rc.shared (L3.aa.refl _) t4,⟨G,rfl,by omega,rfl⟩,λd v F5 H5 A5 hd jv hf5 he5 h35 r5 nd5 xf=>?_⟩
 subst hd
 obtain⟨p1,rfl⟩:=zi r5
 have gQ:=jv.get _ _ ju rfl
 refine⟨.ref x,rfl,x,C,dx,_,rfl,gQ,hC.cls,hC.dK5,gS (bB 2) (by decide),?_⟩
 have r6:=mv r4 jv gQ (fR _) (fs':=bL "check_rows" (.ref p1) [("field",vf),("length",.int (aW G:Nat))])
 have k6:=mv (aj r5 (fR _)) (L3.aa.refl _) gQ (fR _) (fs':=bL "check_rows" (.ref p1) [("field",vf),("length",.int (aW G:Nat))])
 have z6:=(z4.trans (jv.x (x:=x))).trans (bR.upd (C:=x) (dx:=dx) gQ rfl (o':=.ins C dx (bL "check_rows" (.ref p1) [("field",vf),("length",.int (aW G:Nat))])))
 have nO:upd H5 x (.ins C dx (bL "check_rows" (.ref p1) [("field",vf),("length",.int (aW G:Nat))])) x=some (.ins C dx [("field",vf),("length",.int (aW G:Nat)),("check_rows",.ref p1)]):=by rw[bG];rfl
 generalize upd H5 x (.ins C dx (bL "check_rows" (.ref p1) [("field",vf),("length",.int (aW G:Nat))]))=H6 at r6 k6 z6 nO ⊢
 have n5:∀a∈A5,H a=none:=λa ha=>z4.free (by rw[ju];simp) (xf a ha)
 have t6:=bR.of0 lQ s0 z6
 have e6:=e0.trans t6
 refine⟨_,rfl,_,rfl,.ref x,rfl,x,C,dx,_,.int (aW G:Nat),rfl,nO,hC.cls,hC.length,rfl,L3.bt F H6 A1,[fD t.az t.aB m,.lst false (aH false (et m G)),.int (aW G:Nat)],λd=>d=.lst true (aH true (nH m (et m G) (aW G))),oN e6,R.cons (A:=[]) (rf.shared (ia e6) t6) (R.cons (A:=[]) (Dv _ ▸ r6.bt e6 A1 λ_ h=>h) (.int .nil)),⟨m,et m G,aW G,rfl,hm,by omega,by omega,iR,hn,rfl⟩,λd v F7 H7 A7 hd mF hf7 he7 h37 r7 nd7 WW=>?_⟩
 subst hd
 obtain⟨p2,rfl⟩:=zi r7
 have kJ:=mF.get _ _ nO rfl
 refine⟨.ref x,rfl,x,C,dx,_,rfl,kJ,hC.cls,hC.dK6,gS (bB 3) (by decide),?_⟩
 have r8:=mv r6 mF kJ (fR _) (fs':=bL "word_rows" (.ref p2) [("field",vf),("length",.int (aW G:Nat)),("check_rows",.ref p1)])
 have k8:=mv k6 mF kJ (fR _) (fs':=bL "word_rows" (.ref p2) [("field",vf),("length",.int (aW G:Nat)),("check_rows",.ref p1)])
 have w8:=mv (aj r7 (fR _)) (L3.aa.refl _) kJ (fR _) (fs':=bL "word_rows" (.ref p2) [("field",vf),("length",.int (aW G:Nat)),("check_rows",.ref p1)])
 have z8:=(z6.trans (mF.x (x:=x))).trans (bR.upd (C:=x) (dx:=dx) kJ rfl (o':=.ins C dx (bL "word_rows" (.ref p2) [("field",vf),("length",.int (aW G:Nat)),("check_rows",.ref p1)])))
 have Dw:upd H7 x (.ins C dx (bL "word_rows" (.ref p2) [("field",vf),("length",.int (aW G:Nat)),("check_rows",.ref p1)])) x=some (.ins C dx [("field",vf),("length",.int (aW G:Nat)),("check_rows",.ref p1),("word_rows",.ref p2)]):=by rw[bG];rfl
 generalize upd H7 x (.ins C dx (bL "word_rows" (.ref p2) [("field",vf),("length",.int (aW G:Nat)),("check_rows",.ref p1)]))=H8 at r8 k8 w8 z8 Dw ⊢
 have n7:∀a∈A7,H a=none:=λa ha=>z6.free (by rw[nO];simp) (WW a ha)
 have d57:∀a∈A5,a ∉ A7:=λa ha hb=>by
  obtain⟨⟨ws,e⟩,_⟩:=k6.lists a ha
  rw[WW a hb]at e;cases e
 have t8:=bR.of0 lQ s0 z8
 have e8:=e0.trans t8
 refine⟨_,rfl,.ref x,rfl,x,C,dx,_,.int (aW G:Nat),rfl,Dw,hC.cls,hC.length,rfl,L3.bt F H8 A1,[.lst false (aH false (et m G)),.int (aW G:Nat)],λd=>d=.lst true (aq (eR (et m G) (aW G))),oN e8,R.cons (A:=[]) (Dv _ ▸ r8.bt e8 A1 λ_ h=>h) (.int .nil),⟨et m G,aW G,rfl,by omega,by omega,λr bz=>⟨by rw[(iR r bz).1];omega,hn r bz⟩,rfl⟩,λd v F9 H9 A9 hd Dx hf9 he9 h39 r9 nd9 K9=>?_⟩
 subst hd
 obtain⟨p3,rfl⟩:=zi r9
 have Ag:=Dx.get _ _ Dw rfl
 refine⟨.ref x,rfl,x,C,dx,_,rfl,Ag,hC.cls,hC.Vr,gS (bB 4) (by decide),?_⟩
 have vN:=mv k8 Dx Ag (fR _) (fs':=bL "message_places" (.ref p3) [("field",vf),("length",.int (aW G:Nat)),("check_rows",.ref p1),("word_rows",.ref p2)])
 have WX:=mv w8 Dx Ag (fR _) (fs':=bL "message_places" (.ref p3) [("field",vf),("length",.int (aW G:Nat)),("check_rows",.ref p1),("word_rows",.ref p2)])
 have La:=mv (aj r9 (fN _)) (L3.aa.refl _) Ag (fN _) (fs':=bL "message_places" (.ref p3) [("field",vf),("length",.int (aW G:Nat)),("check_rows",.ref p1),("word_rows",.ref p2)])
 have WY:=(z8.trans (Dx.x (x:=x))).trans (bR.upd (C:=x) (dx:=dx) Ag rfl (o':=.ins C dx (bL "message_places" (.ref p3) [("field",vf),("length",.int (aW G:Nat)),("check_rows",.ref p1),("word_rows",.ref p2)])))
 have qq:upd H9 x (.ins C dx (bL "message_places" (.ref p3) [("field",vf),("length",.int (aW G:Nat)),("check_rows",.ref p1),("word_rows",.ref p2)])) x=some (.ins C dx [("field",vf),("length",.int (aW G:Nat)),("check_rows",.ref p1),("word_rows",.ref p2),("message_places",.ref p3)]):=by rw[bG];rfl
 generalize upd H9 x (.ins C dx (bL "message_places" (.ref p3) [("field",vf),("length",.int (aW G:Nat)),("check_rows",.ref p1),("word_rows",.ref p2)]))=H10 at vN WX La WY qq ⊢
 have n9:∀a∈A9,H a=none:=λa ha=>z8.free (by rw[Dw];simp) (K9 a ha)
 have d59:∀a∈A5,a ∉ A9:=λa ha hb=>by
  obtain⟨⟨ws,e⟩,_⟩:=k8.lists a ha
  rw[K9 a hb]at e;cases e
 have d79:∀a∈A7,a ∉ A9:=λa ha hb=>by
  obtain⟨⟨ws,e⟩,_⟩:=w8.lists a ha
  rw[K9 a hb]at e;cases e
 obtain⟨ws,lw,ew⟩:∃ws,ws.length=(eR (et m G) (aW G)).length/\H10 p3=some (.lst ws):=by
  cases La with
  | own h _ r _=>exact⟨_,by rw[<-r.length,eP],h⟩
 refine⟨.ref x,rfl,x,C,dx,_,.ref p3,rfl,qq,hC.cls,hC.Vr,rfl,p3,ws,rfl,.inl (bH.of ew),.ref x,rfl,x,C,dx,_,rfl,qq,hC.cls,hC.size,gS (bB 5) (by decide),?_⟩
 rw[lw]
 refine q _ p1 p2 p3 A5 A7 A9 (WY.trans (bR.upd (C:=x) (dx:=dx) qq rfl)) (by rw[bG];rfl) (mv vN (L3.aa.refl _) qq (fR _)) (mv WX (L3.aa.refl _) qq (fR _)) (mv La (L3.aa.refl _) qq (fN _)) ?_ ?_
 ·exact gI.mpr ⟨nd5,gI.mpr ⟨nd7,nd9,d79⟩,λa ha hb=>(cO.mp hb).elim (d57 a ha) (d59 a ha)⟩
 ·intro a ha
  rcases cO.mp ha with ha | ha
  ·exact n5 a ha
  ·exact(cO.mp ha).elim (n7 a) (n9 a)
noncomputable abbrev aK2(t:dr):bf:=λds Q=>∃(m:Bool × Nat) (n:Nat),ds=[fD t.az t.aB m,.int n]/\m∈aM/\2<=n/\n<=24/\Q (.lst true (aH true (cY m n)))
theorem aK3(T:Txt K mg t):aK P w K mg base aR 2 t.JJ t.JK ["field","length"] (bh (aK2 t)):=by
 refine bD T.Wh VC ?_ ?_
 ·intro ds Q h
  obtain⟨m,n,rfl,hm,h2,cC,q⟩:=h<;>rfl
 ·intro aE A outer s H E hr
  refine⟨_,(aJ (bE (i:=2) VC.nd rfl (bj rfl) (fJ (P:=P) (w:=w) (K:=K) (mg:=mg) (base:=base) (n:=1) (bv 0) (hr.mono (by decide)) (ak (af av) (ak (af av) aD))))
   (aF (aX (eQ [("less_one",2),("length",1)] ["i"] rfl (rY rfl T.kI (ak (af (aP fF (bv 1) (af av))) aD)) (λ_ _ _ _=>(dO (i:=2) (show(["less_one","length","i"]:List Str).Nodup by decide +kernel) rfl (au (lookup_relabel_local rfl)) (by decide) (bj (lookup_relabel_local rfl)))) (λ_ _ _ _=>fq) (λ_ _ _ _=>(aP gh (af (aP gh (af (aP gh (af (aP fG (af (eN (cH av dv))) (bv 2))) (af (eN (cH av dv))))) (af (aP fG (af (eN (cH av dv))) (af (aP fF (af (aP fF (bv 1) (af av))) (bv 2))))))) (qa (ak (bv 0) aD)))) rfl ⟨rfl,⟨rfl,trivial⟩⟩ (λ_=>by repeat' (first | exact trivial | refine⟨.inl rfl,?_⟩ | refine⟨.inr (.inl rfl),?_⟩ | refine⟨.inr (.inr ⟨_,rfl⟩),?_⟩)) (λ_=>⟨⟨rfl,.inl rfl,.inl rfl,_,rfl,rfl⟩,⟨⟨rfl,.inl rfl,.inl rfl,_,rfl,rfl⟩,trivial⟩⟩) rfl (by decide +kernel))))),λds Q h=>?_⟩
  obtain⟨m,n,rfl,hm,h2,cC,q⟩:=h
  have m0:=dP m hm
  have gF:=(eI hm).lo
  obtain⟨C,ns,zs,sp,e1,e2,e3,e4⟩:=WU (P:=P) (w:=w) (base:=base) T m0
  refine aI λU hU=>?_
  walk_at"l3"
  refine⟨C,ns,zs,sp,e1,e2,e3,e4 0 1 _ ?_⟩
  rw[(js hm (show 0<ag m by omega) (show 1<ag m by omega)).1]
  refine hU _ ?_
  clear hU U e1 e2 e3 e4
  walk_at"l3"
  refine⟨⟨by omega,by omega⟩,gM (bo (n-1)) (λ(i:Nat)=>D.int (i:Int)) (λi=>D.lst true (aq (gP m n i))) (HK _ (by omega)) nq (λi hi=>?_) (.inr λ_ _=>iy _) (by rw[eE,sL];omega) ?_⟩
  ·have hi:=dz.mp hi
   walk_at"l3"
   unfold gP
   have zn:∀k:Nat,aC (aw k (0:Int))=aq (aw k 0):=λk=>by unfold aq;rw[kR];rfl
   rw[eD,show((n:Int)-2-(i:Int)).toNat=n-2-i by omega,zn,zn,show [D.int 1]=aq [1] from rfl,show [D.int ((bQ m 0 1:Nat):Int)]=aq [bQ m 0 1] from rfl,nr,nr,nr,me,me,eP,eP]
   simp only[gA,cK,mK]
   exact⟨by decide,⟨by omega,by omega,by omega⟩,by decide,by omega,by decide,⟨by omega,by omega,by omega⟩,⟨by omega,trivial⟩,by decide,⟨by omega,trivial⟩,trivial⟩
  ·rw[show((bo (n-1)).map λi=>D.lst true (aq (gP m n i)))=aH true (cY m n) by unfold aH cY;rw[dD];rfl]
   exact q
noncomputable abbrev bu6(t:dr):List D->List Str->List D->Prop:=λds ns xs=>∃(m:Bool × Nat) (n:Nat),ds=[fD t.az t.aB m,.int n]/\m∈aM/\2<=n/\n<=24/\ns=Ig/\xs=[fD t.az t.aB m,.int n,.lst true (aH true (cY m n)),.lst true (aH true [aw n 1]),.lst true (aq [n-1]),.int 1]
theorem aH1(T:Txt K mg t)(hB:Bm mg base):aK P w K mg base aR 5 t.CO t.CP ["self","field","length"] (Vn [t.i4,t.i5] t.aO (bu6 t)):=by
 refine T.Wi.ok VD (λvs H Q E h=>?_) λaE A outer s H vs Q E hr h=>?_
 ·obtain⟨F,H0,x,dx,bS,ds,ns,xs,rfl,_,_,_,_,_,r,⟨m,n,rfl,_⟩,_⟩:=h
  have:=r.length
  simp at this
  simp[this]
 obtain⟨F,H0,x,dx,bS,ds,ns,xs,rfl,tb,e0,lQ,s0,hx,r,⟨m,n,rfl,hm,h2,cC,rfl,rfl⟩,q⟩:=h
 obtain⟨g1,g2,g3⟩:=nJ hm h2
 obtain⟨vf,vs1,B1,B2,rfl,hB,rf,r2⟩:=R.cU r
 obtain⟨rfl,rfl⟩:=AG.mp hB.symm
 obtain rfl:vs1=[.int n]:=by
  cases r2 with
  | int r=>cases r;rfl
 refine⟨_,fj (Bh (PW.pt (QM (FJ QX (pv 2) oq (bA _)) (qV (FJ QY (pv 2) oq (bA _))))) (kW Bi) wZ)
  (kW (w4 (cM4 (E:=E0) T.dY7 ((aR8 T).mono (by decide)) hr T.dT3 bC rfl T.Ab (bX (pv 0) (bX (pv 1) (bX (iN ((aK3 T).mono (by decide)) hr rfl T.dT4 T.Wh.kp T.dT5 .nil bC (bX (pv 1) (bX (pv 2) eF))) eF)))))),?_⟩
 refine⟨.int n,rfl,_,_,rfl,rfl,_,rfl,?_⟩
 rw[decide_eq_false (by omega)]
 refine jj ?_
 refine⟨.int n,rfl,_,_,rfl,rfl,_,rfl,?_⟩
 rw[decide_eq_false (by omega)]
 refine jj ?_
 have e:=e0.trans s0
 refine⟨.ref x,rfl,vf,rfl,vf,rfl,.int n,rfl,F,[fD t.az t.aB m,.int n],λd=>d=.lst true (aH true (cY m n)),e,R.cons (A:=[]) (rf.shared (L3.aa.refl _) s0) (.int .nil),⟨m,n,rfl,hm,h2,cC,rfl⟩,λd v F1 H1 A1 hd gx K7 he1 h31 r1 nd1 WV=>?_⟩
 subst hd
 obtain⟨pc,rfl⟩:=zi r1
 have cm:=gx.get _ _ hx rfl
 have fR:∀X:List (List Nat),[D.lst true (aH true X)].all D.fr=true:=λX=>by rw[di,e7,yZ];rfl
 have Dv:∀X:List (List Nat),[D.lst true (aH true X)].map D.sh=[D.lst false (aH false X)]:=λX=>by rw[dh,dX,eW];rfl
 have r1:=r1.rB (fR _) K7
 have WZ:=s0.trans gx
 have xA:x ∉ A1:=λz=>by rw[WV x z]at hx;cases hx
 have s2:L3.aa H0 (L3.bt H0 H1 A1):=ia WZ
 have e2:=e0.trans s2
 have r2:R F (L3.bt H0 H1 A1) [.lst true (aH true (cY m n))] [.ref pc] A1:=cw1 r1 λa ha=>by unfold L3.bt;rw[if_pos ha]
 refine⟨L3.bt F (L3.bt H0 H1 A1) A1,L3.bt H0 H1 A1,x,dx,t.aO,vf,.ref pc,m,cY m n,rfl,oN e2,by rw[oO xA];exact lQ,oN WZ,cm,⟨T.iD,T.kH,T.jQ,T.qk,T.qo,T.ql,T.qm⟩,rf.shared (ia e2) s2,Dv _ ▸ r2.bt e2 A1 λ_ h=>h,hm,by rw[g3];exact g1,by omega,by omega,λH' p1 p2 p3 B1 B2 B3 sx du k1 k2 k3 nd fr=>?_⟩
 rw[Vs hm h2,g3,Ij hm h2]at du k3
 rw[Vs hm h2,g3,cr4 hm h2]at k2
 have z:=(gx.x (x:=x)).trans sx
 have so:=bR.of0 lQ s0 z
 refine q H' [vf,.int n,.ref p1,.ref p2,.ref p3,.int 1] (B1++(B2++(B3++[]))) z du rfl ?_ ?_ ?_
 ·have up:∀{ds:List D} {vs:List V} {B:List Addr},R (λ_=>none) H' ds vs B->(∀a∈B,H1 a=none)->R F H' ds vs B:=λr h=>r.keep (L3.aa.of λb o e=>by cases e) (fm.same (L3.aa.refl _)) gg.nil (λa ha=>e.free (gx.free (h a ha))) (by simp)
  exact R.cons (A:=[]) (rf.shared (L3.aa.refl _) so) (.int (R.cons (up k1 λa ha=>fr a (eJ _ ha)) (R.cons (up k2 λa ha=>fr a (dA _ (eJ _ ha))) (R.cons (up k3 λa ha=>fr a (dA _ (dA _ ha))) (.int .nil)))))
 ·rw[fQ];exact nd
 ·rw[fQ]
  intro a ha
  exact gx.free (fr a ha)
theorem b91{l:List Int}{j:Nat}{d:D}(h:(dE (aC l))[j]?=some d):∃hi:j<l.length,d=.tup [.int (j:Int),.int l[j]]:=by
 unfold dE aC at h
 rw[oa,bV]at h
 by_cases hj:j<l.length
 ·rw[aU hj]at h
  exact⟨hj,(cP h).symm⟩
 ·rw[fh (by omega)]at h;cases h
noncomputable abbrev aN7:bf:=λds Q=>∃(ns:List Int) (n s N:Nat),ds=[.fz (aC ns),.int n,.int s,.int N]/\2<=n/\n<=24/\s<N/\N<=64/\∀y:List (Option Nat),y.length=n->(∀a,some a∈y->a<N)->Q (.lst true (bO y))
theorem aN8(T:Txt K mg t):aK P w K mg base aR 1 t.JL t.JM ["_law_script","_law_length_here","_law_sign","_law_many_here"] (bh (aN7 )):=by
 refine bD T.Wk Io ?_ ?_
 ·intro ds Q h
  obtain⟨ns,n,s,N,rfl,h2,cC,hs,hN,q⟩:=h<;>rfl
 ·intro aE A outer s H E hr
  refine⟨_,(aJ (bE (i:=4) Io.nd rfl (au rfl) (aP fG (qa (ak (bv 2) aD)) (bv 1)))
   (aJ (gL fv rfl (nk rfl T.nN (ak (cH4 (Hi (bv 0) (BX (af av)) (BX (af (aP gh (af av) (bv 1)))))) aD)) (iW (i1:=5) (i2:=6) rfl Io.nd rfl (au rfl) rfl (au rfl))
    (aJ (cR (bJ (fH (cM hr)) (af (aP dY (bv 6) (af av))) (af av) (bA _)) (aF (m9 (i:=4) rfl (by first | exact au rfl | exact bj (au rfl)) jI (bv 5))) cQ)
    (aF (cR (bJ (fH (cM hr)) (af (aP dY (bv 6) (af av))) (af av) (bA _)) (aF (m9 (i:=4) rfl (by first | exact au rfl | exact bj (au rfl)) (aP dY (af (aP xO (bv 6) (af av))) (bv 3)) (bv 5))) cQ))))
   (aF (aX (em 4))))),λds Q h=>?_⟩
  obtain⟨ns,n,s,N,rfl,h2,cC,hs,hN,q⟩:=h
  refine aI λU hU=>?_
  walk_at"l3"
  refine⟨by decide,⟨by omega,by omega,by omega⟩,hU _ ?_⟩
  clear hU U
  rw[eD,show aC (aw n (s:Int))=bO (aw n (some s)) by unfold aC bO;rw[kR,kR];rfl]
  refine aI λU hU=>?_
  walk_at"l3"
  refine fE.mk (λj δ=>∃(y:List (Option Nat)) (o1 o2:Option D),(y.length=n/\∀a,some a∈y->a<N)/\δ=[some (D.fz (aC ns)),some (D.int n),some (D.int s),some (D.int N),some (D.lst true (bO y)),o1,o2]) ⟨_,_,_,⟨cK ..,λa ha=>?_⟩,rfl⟩ ?_ ?_
  ·cases(mM.mp ha).2;exact hs
  ·rintro j d δ hd ⟨y,o1,o2,⟨y1,y2⟩,rfl⟩
   obtain⟨h1,rfl⟩:=b91 hd
   have lc:(eO ns (some 4) (some (4+(n:Int)))).length<=n:=by
    rw[show(4+(n:Int))=((4+n:Nat):Int) by omega,show eO ns (some 4) (some ((4+n:Nat):Int))=_ from Ta ns 4 (4+n),qF];omega
   have h2:j<n:=by omega
   generalize (eO ns (some 4) (some (4+(n:Int))))[j]=ce
   clear hd hU h1
   have yl:=zh y
   simp only[iq,jc,i9]
   refine aI λU hU=>?_
   walk_at"l3"
   have ix:gE (bO y).length (j:Int)=some j:=p7 (k:=(j:Int)) (by omega) (by rw[eD];omega)
   have up:∀v:Option Nat,(∀a,v=some a->a<N)->(bO y).set j (dG v)=bO (y.set j v)/\(y.set j v).length=n/\∀a,some a∈y.set j v->a<N:=λv hv=>by
    refine⟨by unfold bO;rw[E9],by rw[gR,y1],λa ha=>?_⟩
    rcases AK ha with h | h
    ·exact y2 a h
    ·exact hv a h.symm
   have fin:∀y:List (Option Nat),y.length=n->(∀a,some a∈y->a<N)->U [some (D.fz (aC ns)),some (D.int n),some (D.int s),some (D.int N),some (D.lst true (bO y)),some (D.int j),some (D.int ce)]:=by
    clear up ix yl
    clear y1 y2 y
    intro y y1 y2
    have yl:=zh y
    have ix:gE (bO y).length (j:Int)=some j:=p7 (k:=(j:Int)) (by omega) (by rw[eD];omega)
    refine hU _ ?_
    clear hU U
    walk_at"l3"
    refine⟨by decide,?_⟩
    split
    ·have n0:=jY (ce/4) (show(N:Int)≠0 by omega)
     have n1:=jZ (ce/4) (show(0:Int)<(N:Int) by omega)
     refine⟨xN (by decide) (by decide),by omega,_,j,rfl,ix,y.set j (some (ce/4%(N:Int)).toNat),_,_,⟨by rw[gR,y1],λa ha=>?_⟩,?_,rfl,rfl⟩
     ·rcases AK ha with h | h
      ·exact y2 a h
      ·cases h;omega
     ·unfold bO
      rw[E9]
      show _=(y.map dG).set j (D.int (((ce/4%(N:Int)).toNat:Nat):Int))
      rw[qP n0]
    ·exact⟨y,_,_,⟨y1,y2⟩,rfl,rfl,rfl⟩
   refine⟨by decide,?_⟩
   split
   ·obtain⟨a1,a2,a3⟩:=up none λa ha=>by cases ha
    refine⟨_,j,rfl,ix,?_⟩
    rw[show(bO y).set j D.aj=bO (y.set j none) from a1]
    exact fin _ a2 a3
   ·exact fin y y1 y2
  ·rintro δ ⟨y,o1,o2,⟨y1,y2⟩,rfl⟩
   refine hU _ ?_
   walk_at"l3"
   exact q y y1 y2
noncomputable abbrev aR9:bf:=λds Q=>∃(ns:List Int) (k:Int),ds=[.fz (aC ns),.int k]/\0<=k/\Q (.int (ns.getD k.toNat 0))
theorem Dy(T:Txt K mg t):aK P w K mg base aR 1 t.JN t.JO ["_law_script","_law_k"] (bh (aR9 )):=by
 refine bD T.zw aQ3 ?_ ?_
 ·intro ds Q h
  obtain⟨ns,k,rfl,hk,q⟩:=h<;>rfl
 ·intro aE A outer s H E hr
  refine⟨_,(aJ (cR (bJ ph (bv 1) (af (ij (kA) (by rfl) T.jR jE (ak (bv 0) aD))) (bA _)) (aF (aX (cV (cq (bv 0) (bv 1) (λ_ _=>rfl))))) cQ)
   (aF (aX av))),λds Q h=>?_⟩
  obtain⟨ns,k,rfl,hk,q⟩:=h
  refine aI λU hU=>?_
  walk_at"l3"
  split
  ·rename_i h
   exact⟨_,kD hk h,rfl,q⟩
  ·rename_i h
   refine hU _ ?_
   walk_at"l3"
   rw[aT,fh (by omega)]at q
   exact q
noncomputable def cC0(t:dr):jN:=λds _ Ex=>∃(f:D) (n:Int),ds=[.obj t.aO [] [],f,.int n]/\(n<2\/24<n)/\Ex t.cZ
theorem cG5(T:Txt K mg t):aK P w K mg base (jk P w) 5 t.CO t.CP ["self","field","length"] (nh (cC0 t)):=by
 refine G5 T.Wi VD (λds Q E ⟨f,n,e,_⟩=>by rw[e];rfl) λaE A outer s H E hr=>⟨_,aJ (cR (PW.pt (m5 (bJ ph (bv 2) (af av) (bA _)) (qV (bJ GP (bv 2) (af av) (bA _))))) (aF (G6 T.dZ3 rfl (by rfl) (ak (af xD) aD))) cQ) ca9,λds Q Ex h=>?_⟩
 obtain⟨f,n,rfl,hn,hx⟩:=h
 refine aI λU hU=>?_
 walk_at"l3"
 by_cases c:n<2
 ·rw[if_pos c];exact⟨by decide,hx⟩
 ·rw[if_neg c,if_pos (by omega)];exact⟨by decide,hx⟩
noncomputable abbrev W0(t:dr):bf:=λds Q=>∃(m:Bool × Nat) (n:Int),ds=[fD t.az t.aB m,.int n]/\(n<2\/24<n)/\Q (.bl true)
theorem aM0(T:Txt K mg t)(hB:Bm mg base):aK P w K mg base aR 7 t.JP t.JQ ["_law_field_here","_law_length_here"] (tM [t.i4,t.i5] (bh (W0 t))):=by
 refine Hv T.Wl CI ?_ ?_
 ·intro ds Q h
  obtain⟨m,n,rfl,hn,q⟩:=h<;>rfl
 ·intro aE A outer s H E hT hr
  refine⟨_,(aJ (bE (i:=2) CI.nd rfl (au rfl) jI)
   (aJ (cJ8 (i:=3) (λ_ _=>(aF (cq1 (cp4 T.vI ((cG5 T).mono (by decide)) hr rfl T.vM T.Wj rfl (ak (bv 0) (ak (bv 1) aD))))))
    (λ_ _=>(aF (bE (i:=2) CI.nd rfl (au rfl) (em 3)))) (by rfl) T.vL CI.nd rfl rfl rfl rfl rfl)
   (aF (aX (lL (af (Tt (by rfl) T.z5 (by rfl) T.Ac (bv 2))) (lL (af (cA6 (by rfl) T.z5 (by rfl) T.dY8 by6 (bv 2))) (qW (Su (af (Tt (by rfl) T.z5 (by rfl) T.Ad (bv 2))))))))))),λds Q h=>?_⟩
  obtain⟨m,n,rfl,hn,q⟩:=h
  refine aI λU hU=>?_
  walk_at"l3"
  refine hU _ ?_
  clear hU U
  refine aI λU hU=>?_
  walk_at"l3"
  refine⟨_,n,rfl,hn,T.dZ6,hU _ ?_⟩
  clear hU U
  walk_at"l3"
  refine⟨_,He T.KY T.aG4,?_⟩
  rw[if_pos rfl]
  refine⟨_,He T.KY T.dZ7,?_⟩
  rw[if_pos rfl]
  exact⟨_,He T.KY T.dZ5,q⟩
noncomputable abbrev aK4:bf:=λds Q=>∃(o:Bool) (xs:List D),ds=[.lst false xs,.int (xs.length:Nat)]/\Q .aj
theorem W2(T:Txt K mg t):aK P w K mg base aR 1 t.JR t.JS ["signs","length"] (bh (aK4 )):=by
 refine bD T.KS aJ4 ?_ ?_
 ·intro ds Q h
  obtain⟨o,xs,rfl,q⟩:=h<;>rfl
 ·intro aE A outer s H E hr
  refine⟨_,(aF (cR (bJ (gj (cM hr)) (af (ij (kA) (by rfl) T.jR jE (ak (bv 0) aD))) (bv 1) (bA _)) (aF BN) cQ)),λds Q h=>?_⟩
  obtain⟨o,xs,rfl,q⟩:=h
  walk_at"l3"
  rw[if_neg (by decide)]
  exact q
noncomputable abbrev Lb(K:Frag):bf:=λds Q=>∃(C:Addr) (ns:List Str) (xs:List D) (n:Nat) (x:D),ds=[.obj C ns xs,x]/\dk K C/\aY K C "many"/\(ns.zip xs).lookup ("many":Str)=some (.int n)/\((∃i,x=.int i/\Q (.bl (decide (0<=i)&&decide (i<n))))\/(x=.aj/\Q (.bl false)))
theorem W3(T:Txt K mg t):aK P w K mg base aR 1 t.CQ t.JT ["self","x"] (bh (Lb K)):=by
 refine bD T.aP2 aM4 ?_ ?_
 ·intro ds Q h
  obtain⟨C,ns,xs,n,x,rfl,h1,h2,h3,q⟩:=h<;>rfl
 ·intro aE A outer s H E hr
  refine⟨_,(aF (aX (lL (af (S4 (by rfl) T.z5 (by rfl) T.dZ0 cz6 (bv 1))) (lL (af (Su (af (S4 (by rfl) T.z5 (by rfl) T.dY9 cp0 (bv 1))))) (qW (GU xR ph (af av) (bv 1) (cW (K:=K) (bv 0)))))))),λds Q h=>?_⟩
  obtain⟨C,ns,xs,n,x,rfl,h1,h2,h3,q⟩:=h
  rcases q with⟨i,rfl,q⟩ | ⟨rfl,q⟩
  ·walk_at"l3"
   split
   ·rename_i h0
    refine⟨C,ns,xs,_,rfl,h1,h2,h3,?_⟩
    dsimp only
    rw[decide_eq_true h0,i8]at q
    exact q
   ·rename_i h0
    rw[decide_eq_false h0,qA]at q
    exact q
  ·walk_at"l3"
   exact q
theorem Lc(T:Txt K mg t)(m:Bool × Nat){x:D}{Q:D->Prop}(h:(∃i,x=.int i/\Q (.bl (decide (0<=i)&&decide (i<ag m))))\/(x=.aj/\Q (.bl false))):MOf P w K mg base 1 t.az t.aB m "holds" [x] Q:=by
 obtain⟨k,n⟩:=m
 cases k with
 | true=>exact⟨_,_,_,Lb K,rfl,⟨T.fe,_,_,_,T.zD,W3 T,T.Wo⟩,by decide,_,_,_,ag (true,n),x,rfl,T.fe,T.qg,rfl,h⟩
 | false=>exact⟨_,_,_,Lb K,rfl,⟨T.fL,_,_,_,T.zM,W3 T,T.Wo⟩,by decide,_,_,_,ag (false,n),x,rfl,T.fL,T.qj,rfl,h⟩
noncomputable abbrev aI7(t:dr):bf:=λds Q=>∃(m:Bool × Nat) (l:List Nat),ds=[fD t.az t.aB m,.lst false (aq l)]/\m∈aM/\AllLt (ag m) l/\l.length<=64/\Q .aj
theorem aI8(T:Txt K mg t):aK P w K mg base aR 2 t.JU t.JV ["field","signs"] (bh (aI7 t)):=by
 refine bD T.Wq VE ?_ ?_
 ·intro ds Q h
  obtain⟨m,l,rfl,hm,hl,hll,q⟩:=h<;>rfl
 ·intro aE A outer s H E hr
  refine⟨_,(aF (gL fv rfl (nk rfl T.nN (ak (bv 1) aD)) (iW (i1:=2) (i2:=3) rfl VE.nd rfl (au rfl) rfl (au rfl))
    (aF (cR (xE (oW (af (fJ (P:=P) (w:=w) (K:=K) (mg:=mg) (base:=base) (n:=1) (bv 0) (hr.mono (by decide)) (ak (bv 3) aD))))) (aF BN) cQ)))),λds Q h=>?_⟩
  obtain⟨m,l,rfl,hm,hl,hll,q⟩:=h
  walk_at"l3"
  refine fE.mk (λj δ=>∃o1 o2,δ=[some (fD t.az t.aB m),some (D.lst false (aq l)),o1,o2]) ⟨_,_,rfl⟩ ?_ ?_
  ·rintro j d δ hd ⟨o1,o2,rfl⟩
   obtain⟨h1,rfl⟩:=UM hd
   have:=hl _ (eY h1)
   walk_at"l3"
   refine Lc T m (.inl ⟨_,rfl,?_⟩)
   rw[decide_eq_true (by omega),decide_eq_true (by omega)]
   exact⟨true,rfl,by rw[if_neg (by decide)];exact⟨_,_,rfl,rfl⟩⟩
  ·rintro δ ⟨o1,o2,rfl⟩
   exact q
noncomputable abbrev W4(K:Frag):bf:=λds Q=>∃(C:Addr) (p:Nat) (xs ys:List Nat),ds=[tY C p,.lst false (aq xs),.lst false (aq ys)]/\dk K C/\aY K C "products"/\p∈fI/\xs.length=ys.length/\xs.length<=64/\(∀x∈xs,x<ag (true,p))/\(∀y∈ys,y<ag (true,p))/\Q (.int ((dS (gm (true,p)) xs ys).foldl (· ^^^ ·) 0:Nat))
theorem aM1(T:Txt K mg t):aK P w K mg base aR 1 t.JW t.JX ["self","xs","ys"] (bh (W4 K)):=by
 refine bD T.aM9 zk ?_ ?_
 ·intro ds Q h
  obtain⟨C,p,xs,ys,rfl,hC,hn,hp,hl,qt,hx,hy,q⟩:=h<;>rfl
 ·intro aE A outer s H E hr
  refine⟨_,(aJ (bE (i:=3) zk.nd rfl (au rfl) (cV (cW (K:=K) (bv 0))))
   (aJ (bE (i:=4) zk.nd rfl (au rfl) av)
   (aJ (gL fv rfl (yF rfl T.z7 (ak (bv 1) (ak (bv 2) aD))) (iW (i1:=5) (i2:=6) rfl zk.nd rfl (au rfl) rfl (au rfl))
    (aF (xG (i:=4) zk.nd rfl (au rfl) (cq (cq (bv 3) (bv 5) (λ_ _=>rfl)) (bv 6) (λ_ _=>rfl)) BS)))
   (aF (aX (em 4)))))),λds Q h=>?_⟩
  obtain⟨C,p,xs,ys,rfl,hC,hn,hp,hl,qt,hx,hy,q⟩:=h
  refine aI λU hU=>?_
  walk_at"l3"
  refine⟨C,_,_,_,rfl,hC,hn,rfl,by rw[gb,bV4];rfl,hU _ ?_⟩
  clear hU U
  refine aI λU hU=>?_
  walk_at"l3"
  refine hU _ ?_
  clear hU U
  refine aI λU hU=>?_
  walk_at"l3"
  refine⟨_,_,rfl,rfl,?_⟩
  refine fE.mk (λi δ=>∃o1 o2,δ=[some (tY C p),some (.lst false (aq xs)),some (.lst false (aq ys)),some (.lst false (mm (fl (true,p)) (dF (fl (true,p))))),some (.int (((dS (gm (true,p)) xs ys).take i).foldl (· ^^^ ·) 0:Nat)),o1,o2]) ⟨none,none,rfl⟩ ?_ ?_
  ·rintro i d δ hd ⟨o1,o2,rfl⟩
   obtain⟨hi,hj,rfl⟩:∃(hi:i<xs.length) (hj:i<ys.length),d=.tup [.int (xs[i]:Nat),.int (ys[i]:Nat)]:=by
    unfold eL at hd
    rw[eo,eo,Qs]at hd
    by_cases hi:i<xs.length
    ·have hj:i<ys.length:=by omega
     rw[wK,aU hi,aU hj]at hd
     exact⟨hi,hj,(cP hd).symm⟩
    ·rw[fh (by simp;omega)]at hd;cases hd
   have cm:=hx xs[i] (eY _)
   have hy1:=hy ys[i] (eY _)
   walk_at"l3"
   refine⟨_,HF hp cm,_,HE hp cm hy1,_,_,?_,rfl,rfl⟩
   rw[rk,List.take_succ,Fc,wK,aU hi,aU hj];rfl
  ·rintro δ ⟨o1,o2,rfl⟩
   refine hU _ ?_
   walk_at"l3"
   have e:(eL (aq xs) (aq ys)).length=xs.length:=by unfold eL;rw[wJ,eP,eP];omega
   rw[e,E1 (by rw[wJ];omega)]
   exact q
noncomputable abbrev W5(K:Frag):bf:=λds Q=>∃(C:Addr) (p:Nat) (xs ys:List Int),ds=[tX C p,.lst false (aC xs),.lst false (aC ys)]/\dk K C/\aY K C "prime"/\0<p/\xs.length=ys.length/\xs.length<=64/\(∀x∈xs,0<=x/\x<64)/\(∀y∈ys,0<=y/\y<64)/\Q (.int ((dS (· * ·) xs ys).sum%p))
theorem aI9(T:Txt K mg t):aK P w K mg base aR 1 t.JY t.JZ ["self","xs","ys"] (bh (W5 K)):=by
 refine bD T.aJ7 aI1 ?_ ?_
 ·intro ds Q h
  obtain⟨C,p,xs,ys,rfl,hC,hn,hp,hl,qt,hx,hy,q⟩:=h<;>rfl
 ·intro aE A outer s H E hr
  refine⟨_,(aF (aX (aP dY (af (ij (cJ9 rfl) (by rfl) T.dZ2 cD6 (ak (af (eQ [] ["x","y"] rfl (yF rfl T.z7 (ak (bv 1) (ak (bv 2) aD))) (λ_ _ _ _=>(iW (i1:=0) (i2:=1) rfl (show(["x","y"]:List Str).Nodup by decide +kernel) rfl (au (lookup_relabel_local rfl)) rfl (au (lookup_relabel_local rfl)) (by decide) (by decide) (bj (lookup_relabel_local rfl)) (bj (lookup_relabel_local rfl)))) (λ_ _ _ _=>fq) (λ_ _ _ _=>(aP fG (bv 0) (bv 1))) rfl trivial (λ_=>by repeat' (first | exact trivial | refine⟨.inl rfl,?_⟩ | refine⟨.inr (.inl rfl),?_⟩ | refine⟨.inr (.inr ⟨_,rfl⟩),?_⟩)) (λ_=>trivial) rfl (by decide +kernel))) aD))) (cW (K:=K) (bv 0))))),λds Q h=>?_⟩
  obtain⟨C,p,xs,ys,rfl,hC,hn,hp,hl,qt,hx,hy,q⟩:=h
  walk_at"l3"
  refine⟨_,_,rfl,rfl,?_⟩
  refine UC (xs.zip ys) (λz=>D.tup [.int z.1,.int z.2]) (λz=>D.int (z.1*z.2)) (UE xs ys) (λa b h=>by injection h with h;simp at h;exact Prod.ext h.1 h.2) (λz hz=>?_) UD (.inr λ_ _=>rfl) (by rw[Fb,sL];omega) ?_
  ·have z1:=hx z.1 (qE hz).1
   have z2:=hy z.2 (qE hz).2
   walk_at"l3"
   exact mT.ok (.inr ⟨by omega,by omega⟩)
  ·refine⟨(xs.zip ys).map λz=>z.1*z.2,?_,?_⟩
   ·unfold aC;rw[dD];rfl
   ·walk_at"l3"
    refine⟨C,_,_,.int p,rfl,hC,hn,rfl,?_⟩
    refine⟨by omega,?_⟩
    rw[List.map_zip_eq_zipWith]
    exact q
theorem W6(T:Txt K mg t){m:Bool × Nat}(hm:m∈aM):∃C ns zs sp,fD t.az t.aB m=.obj C ns zs/\jO P w K mg base 1 "dot" C sp/\("dot":Str) ∉ ns/\∀(xs ys:List Nat) (Q:D->Prop),xs.length=ys.length->xs.length<=64->(∀x∈xs,x<ag m)->(∀y∈ys,y<ag m)->Q (.int (gd m xs ys:Nat))->sp [.obj C ns zs,.lst false (aq xs),.lst false (aq ys)] Q:=by
 have hF:=eI hm
 obtain⟨k,n⟩:=m
 cases k with
 | true=>exact⟨_,_,_,W4 K,rfl,⟨T.fe,_,_,_,T.zC,aM1 T,T.aN0⟩,by decide,λxs ys Q hl qt hx hy q=>⟨_,n,xs,ys,rfl,T.fe,T.nM,Co hm,hl,qt,hx,hy,q⟩⟩
 | false =>
  have kK:n<=64:=hF.hi
  have l2:2<=n:=hF.lo
  have cx:∀l:List Nat,(∀x∈l,x<ag (false,n))->∀z∈l.map (λ(n:Nat)=>(n:Int)),0<=z/\z<64:=λl h z hz=>by
   obtain⟨x,hx,rfl⟩:=cI.mp hz
   have:x<n:=h x hx
   omega
  refine⟨_,_,_,W5 K,rfl,⟨T.fL,_,_,_,T.zL,aI9 T,T.aJ8⟩,by decide,λxs ys Q hl qt hx hy q=>⟨_,n,xs.map (λ(n:Nat)=>(n:Int)),ys.map (λ(n:Nat)=>(n:Int)),rfl,T.fL,T.mE,by omega,by rw[bK,bK];exact hl,by rw[bK];exact qt,cx xs hx,cx ys hy,?_⟩⟩
  have e:((gd (false,n) xs ys:Nat):Int)=(dS (· * ·) (xs.map λ(n:Nat)=>(n:Int)) (ys.map λ(n:Nat)=>(n:Int))).sum%n:=by
   unfold gd
   rw[UI (by omega) _ _ (by omega),Qx,UJ,UK,wH]
  rw[<-e];exact q
noncomputable abbrev aU6:bf:=λds Q=>∃T:List (List Nat),ds=[.lst false (aH false T)]/\T.length<=1000/\(∀r∈T,r.length=aW T)/\aW T<=1000/\Q (.lst true (aH true (ug T)))
theorem aU7(T:Txt K mg t):aK P w K mg base aR 2 t.J0 t.J1 ["table"] (bh (aU6 )):=by
 refine bD T.Wr aU3 ?_ ?_
 ·intro ds Q h
  obtain⟨G,rfl,hG,hr,hw,q⟩:=h<;>rfl
 ·intro aE A outer s H E hr
  refine⟨_,(aF (aX (eQ [("table",0)] ["j"] rfl (rY rfl T.kI (ak (af (cJ ((K3 T).mono (by decide)) hr rfl T.KJ T.CS.kp T.KL bC (ak (bv 0) aD))) aD)) (λ_ _ _ _=>(dO (i:=1) (show(["table","j"]:List Str).Nodup by decide +kernel) rfl (bj rfl) (by decide) (au rfl))) (λ_ _ _ _=>fq) (by exact λ_ _ _ _=>(eQ [("j",1)] ["row"] rfl (iT (bv 0)) (λ_ _ _ _=>(dO (i:=1) (show(["j","row"]:List Str).Nodup by decide +kernel) rfl (au (lookup_relabel_local rfl)) (by decide) (bj (lookup_relabel_local rfl)))) (λ_ _ _ _=>fq) (λ_ _ _ _=>(cV (cq (bv 1) (bv 0) (λ_ _=>rfl)))) rfl ⟨rfl,trivial⟩ (λ_=>by repeat' (first | exact trivial | refine⟨.inl rfl,?_⟩ | refine⟨.inr (.inl rfl),?_⟩ | refine⟨.inr (.inr ⟨_,rfl⟩),?_⟩)) (λ_=>⟨⟨rfl,.inl rfl,.inl rfl,_,rfl,rfl⟩,trivial⟩) rfl (by decide +kernel))) rfl ⟨rfl,trivial⟩ (λ_=>by repeat' (first | exact trivial | refine⟨.inl rfl,?_⟩ | refine⟨.inr (.inl rfl),?_⟩ | refine⟨.inr (.inr ⟨_,rfl⟩),?_⟩)) (λ_=>⟨⟨rfl,.inl rfl,.inl rfl,_,rfl,rfl⟩,trivial⟩) rfl (by decide +kernel)))),λds Q h=>?_⟩
  obtain⟨G,rfl,hG,hr,hw,q⟩:=h
  walk_at"l3"
  refine⟨G,rfl,hG,λr bz=>by rw[hr r bz];exact hw,?_⟩
  dsimp only
  refine⟨_,rfl,⟨by omega,by omega⟩,?_⟩
  refine gM (bo (aW G)) (λ(i:Nat)=>D.int (i:Int)) (λj=>D.lst true (aq (G.map λr=>r.getD j 0))) (HK _ rfl) nq (λj hj=>?_) (.inr λj _=>iy _) (by rw[eE,sL];omega) ?_
  ·have hj:=dz.mp hj
   walk_at"l3"
   refine gM G (λr=>D.lst false (aq r)) (λr=>D.int ((r.getD j 0:Nat):Int)) (by rw[eW];rfl) (λa b h=>ud a b h) (λr bz=>?_) (.inr λr _=>rfl) (by rw[sL];omega) ?_
   ·walk_at"l3"
    have hl:=hr r bz
    exact⟨.int (r.getD j 0:Nat),by rw[ua (by omega) (by omega),eD],rfl,rfl⟩
   ·rw[eo,dD];rfl
  ·unfold ug aH at q
   rw[dD]at q
   exact q
noncomputable abbrev aU8(t:dr):bf:=λds Q=>∃(m:Bool × Nat) (xs:List Nat) (G:List (List Nat)),ds=[fD t.az t.aB m,.lst false (aq xs),.lst false (aH false G)]/\m∈aM/\AllLt (ag m) xs/\G.length=xs.length/\xs.length<=64/\RT (ag m) (aW G) G/\aW G<=64/\Q (.lst true (aq (nG m xs G (aW G))))
theorem aU9(T:Txt K mg t):aK P w K mg base aR 3 t.J2 t.J3 ["field","row","table"] (bh (aU8 t)):=by
 refine bD T.Ws aU4 ?_ ?_
 ·intro ds Q h
  obtain⟨m,xs,G,rfl,hm,hx,hG,xQ,hR,hw,q⟩:=h<;>rfl
 ·intro aE A outer s H E hr
  refine⟨_,(aF (aX (eQ [("row",1),("field",0)] ["column"] rfl (iT (af (cJ ((aU7 T).mono (by decide)) hr rfl T.dU7 T.Wr.kp T.dU8 bC (ak (bv 2) aD)))) (λ_ _ _ _=>(dO (i:=2) (show(["row","field","column"]:List Str).Nodup by decide +kernel) rfl (au (lookup_relabel_local rfl)) (by decide) (bj (lookup_relabel_local rfl)))) (λ_ _ _ _=>fq) (λ_ _ _ _=>(fJ (P:=P) (w:=w) (K:=K) (mg:=mg) (base:=base) (n:=1) (bv 1) (hr.mono (by decide)) (ak (bv 0) (ak (bv 2) aD)))) rfl ⟨rfl,⟨rfl,trivial⟩⟩ (λ_=>by repeat' (first | exact trivial | refine⟨.inl rfl,?_⟩ | refine⟨.inr (.inl rfl),?_⟩ | refine⟨.inr (.inr ⟨_,rfl⟩),?_⟩)) (λ_=>⟨⟨rfl,.inl rfl,.inl rfl,_,rfl,rfl⟩,⟨⟨rfl,.inl rfl,.inl rfl,_,rfl,rfl⟩,trivial⟩⟩) rfl (by decide +kernel)))),λds Q h=>?_⟩
  obtain⟨m,xs,G,rfl,hm,hx,hG,xQ,hR,hw,q⟩:=h
  have gF:=(eI hm).lo
  obtain⟨C,ns,zs,sp,e1,e2,e3,e4⟩:=W6 (P:=P) (w:=w) (base:=base) T hm
  walk_at"l3"
  refine⟨G,rfl,by omega,λr bz=>(hR r bz).1,by omega,?_⟩
  dsimp only
  refine⟨_,rfl,?_⟩
  refine gM (ug G) (λr=>D.lst false (aq r)) (λr=>D.int ((gd m xs r:Nat):Int)) (eW true _) (λa b h=>ud a b h) (λr bz=>?_) (.inr λr _=>rfl) (by unfold ug;rw[bK,eE,sL];omega) ?_
  ·walk_at"l3"
   unfold ug at bz
   obtain⟨j,hj,rfl⟩:=cI.mp bz
   exact⟨C,ns,zs,sp,e1,e2,e3,e4 _ _ _ (by rw[bK,hG]) xQ hx (λy hy=>by
    obtain⟨r,bz,rfl⟩:=cI.mp hy
    exact(hR r bz).2.getD (by omega) j) rfl⟩
  ·unfold nG at q
   rw[eo,dD]at q
   unfold ug
   rw[dD]
   exact q
theorem ff(T:Txt K mg t)(m:Bool × Nat)(n:Nat){a:Str}{v:D}(na:aY K t.aO a)(h:((["field","length","check_rows","word_rows","message_places","size"]:List Str).zip [fD t.az t.aB m,.int n,.lst false (aH false (cY m n)),.lst false (aH false [aw n 1]),.lst false (aq [n-1]),.int 1]).lookup a=some v){Q:D->Prop}(q:Q v):∃C ns xs v,gw t.az t.aB t.aO m n=.obj C ns xs/\dk K C/\aY K C a/\(ns.zip xs).lookup a=some v/\Q v:=⟨_,_,_,v,rfl,T.iD,na,h,q⟩
noncomputable abbrev W7(t:dr):bf:=λds Q=>∃(m:Bool × Nat) (n s:Nat),ds=[gw t.az t.aB t.aO m n,.lst false (aq [s])]/\m∈aM/\2<=n/\n<=24/\s<ag m/\Q (.lst true (aq (aw n s)))
theorem aM2(T:Txt K mg t):aK P w K mg base aR 4 t.J4 t.J5 ["self","message"] (bh (W7 t)):=by
 refine bD T.dV1 aK9 ?_ ?_
 ·intro ds Q h
  obtain⟨m,n,s,rfl,hm,h2,cC,hs,q⟩:=h<;>rfl
 ·intro aE A outer s H E hr
  refine⟨_,(aJ (BO (af (cJ ((W2 T).mono (by decide)) hr rfl T.Wm T.KS.kp T.Wn bC (ak (bv 1) (ak (cW (K:=K) (bv 0)) aD)))))
   (aJ (BO (af (cJ ((aI8 T).mono (by decide)) hr rfl T.dU1 T.Wq.kp T.dU2 bC (ak (cW (K:=K) (bv 0)) (ak (bv 1) aD)))))
   (aF (aX (cJ ((aU9 T).mono (by decide)) hr rfl T.dU9 T.Ws.kp T.dV0 bC (ak (cW (K:=K) (bv 0)) (ak (bv 1) (ak (cW (K:=K) (bv 0)) aD)))))))),λds Q h=>?_⟩
  obtain⟨m,n,s,rfl,hm,h2,cC,hs,q⟩:=h
  refine aI λU hU=>?_
  walk_at"l3"
  refine ff T m n T.qm rfl ⟨true,aq [s],rfl,rfl,hU _ ?_⟩
  clear hU U
  refine aI λU hU=>?_
  walk_at"l3"
  refine ff T m n T.kH rfl ?_
  have sl:AllLt (ag m) [s]:=λa ha=>by rw[fS.mp ha];exact hs
  refine⟨m,[s],by rw[t9],hm,sl,by show 1<=64;decide,by rw[UH];rfl,hU _ ?_⟩
  clear hU U
  walk_at"l3"
  refine ff T m n T.kH rfl ?_
  have rl:(aw n 1).length=n:=cK ..
  have rr:RT (ag m) (aW [aw n 1]) [aw n 1]:=λx hx=>by
   rw[fS.mp hx]
   exact⟨rfl,λa ha=>by rw[(mM.mp ha).2];exact lo1 hm⟩
  have ew:aW [aw n 1]=n:=rl
  refine ff T m n T.qo rfl ⟨m,[s],[aw n 1],by rw[t9,dX,eW],hm,sl,rfl,by show 1<=64;decide,rr,by omega,by rw[iy,gU],?_⟩
  rw[ew,cv6 hm hs]
  exact q
noncomputable abbrev W8(t:dr):bf:=λds Q=>∃(m:Bool × Nat) (n:Nat),ds=[gw t.az t.aB t.aO m n]/\Q (.int n)
theorem aA3(T:Txt K mg t):aK P w K mg base aR 1 t.J6 t.J7 ["self"] (bh (W8 t)):=by
 refine bD T.dV3 az6 ?_ ?_
 ·intro ds Q h
  obtain⟨m,n,rfl,q⟩:=h<;>rfl
 ·intro aE A outer s H E hr
  refine⟨_,(aF (aX (cV (cW (K:=K) (bv 0))))),λds Q h=>?_⟩
  obtain⟨m,n,rfl,q⟩:=h
  walk_at"l3"
  exact ff T m n T.jQ rfl ⟨rfl,q⟩
noncomputable abbrev W9(t:dr):bf:=λds Q=>∃(m:Bool × Nat) (n:Nat),ds=[gw t.az t.aB t.aO m n]/\n<=24/\Q (.str ("repeat "++toString (n:Int)))
theorem aH2(T:Txt K mg t):aK P w K mg base aR 1 t.J8 t.J9 ["self"] (bh (W9 t)):=by
 refine bD T.dV5 aF3 ?_ ?_
 ·intro ds Q h
  obtain⟨m,n,rfl,cC,q⟩:=h<;>rfl
 ·intro aE A outer s H E hr
  refine⟨_,(aF (aX (aP gh (af xD) (af (BV (cO5) (by rfl) T.dZ1 cE1 (ak (cW (K:=K) (bv 0)) aD)))))),λds Q h=>?_⟩
  obtain⟨m,n,rfl,cC,q⟩:=h
  walk_at"l3"
  refine ff T m n T.jQ rfl ?_
  dsimp only
  have hb:(n:Int).natAbs.log2<1920:=by
   rw[iH]
   by_cases h0:n=0
   ·rw[h0];decide
   ·have:=(EM h0).mpr (show n<2 ^ 8 by omega)
    omega
  have dg:∀k:Fin 25,(kS (toString (((k:Nat):Int)))).length<=10:=by decide +kernel
  have d1:(kS (toString ((n:Nat):Int))).length<=10:=dg ⟨n,by omega⟩
  refine⟨hb,?_,q⟩
  have:(kS "repeat ").length<=10:=by decide +kernel
  omega
noncomputable abbrev Xa(t:dr):bf:=λds Q=>∃(m:Bool × Nat) (n:Nat),ds=[gw t.az t.aB t.aO m n]/\Q (.lst true (aq [n-1]))
theorem aN9(T:Txt K mg t):aK P w K mg base aR 1 t.Ka t.Kb ["self"] (bh (Xa t)):=by
 refine bD T.dV7 aM5 ?_ ?_
 ·intro ds Q h
  obtain⟨m,n,rfl,q⟩:=h<;>rfl
 ·intro aE A outer s H E hr
  refine⟨_,(aF (aX (BV (GV) (by rfl) T.KW Gh (ak (cW (K:=K) (bv 0)) aD)))),λds Q h=>?_⟩
  obtain⟨m,n,rfl,q⟩:=h
  walk_at"l3"
  refine ff T m n T.ql rfl ?_
  exact⟨me _,q⟩
noncomputable abbrev Xb(t:dr):bf:=λds Q=>∃(m:Bool × Nat) (n:Nat),ds=[gw t.az t.aB t.aO m n]/\Q (.lst true (aH true [aw n 1]))
theorem aS0(T:Txt K mg t):aK P w K mg base aR 2 t.Kd t.Ke ["self"] (bh (Xb t)):=by
 refine bD T.dV9 aQ4 ?_ ?_
 ·intro ds Q h
  obtain⟨m,n,rfl,q⟩:=h<;>rfl
 ·intro aE A outer s H E hr
  refine⟨_,(aF (aX (cJ ((K6 T).mono (by decide)) hr rfl T.KO T.CT.kp T.KP bC (ak (cW (K:=K) (bv 0)) aD)))),λds Q h=>?_⟩
  obtain⟨m,n,rfl,q⟩:=h
  walk_at"l3"
  refine ff T m n T.qo rfl ?_
  exact⟨_,by rw[dX,eW],by show 1<=1000;decide,by rw[e7,yZ,i8,gU],q⟩
noncomputable abbrev Xc(t:dr):bf:=λds Q=>∃(m:Bool × Nat) (n:Nat),ds=[gw t.az t.aB t.aO m n]/\m∈aM/\2<=n/\n<=24/\Q (.lst true (aH true (cY m n)))
theorem aO0(T:Txt K mg t):aK P w K mg base aR 2 t.Kf t.Kg ["self"] (bh (Xc t)):=by
 refine bD T.dW1 aM6 ?_ ?_
 ·intro ds Q h
  obtain⟨m,n,rfl,hm,h2,cC,q⟩:=h<;>rfl
 ·intro aE A outer s H E hr
  refine⟨_,(aF (aX (cJ ((K6 T).mono (by decide)) hr rfl T.KO T.CT.kp T.KP bC (ak (cW (K:=K) (bv 0)) aD)))),λds Q h=>?_⟩
  obtain⟨m,n,rfl,hm,h2,cC,q⟩:=h
  have l:=(nJ hm h2).2.1
  walk_at"l3"
  refine ff T m n T.qk rfl ?_
  exact⟨_,by rw[dX,eW],by omega,by rw[e7,yZ,i8,gU],q⟩
theorem Xd{m:Bool × Nat}{n i:Nat}(hi:i<n-1):((aw n 0).set i 1).set (n-1) (bQ m 0 1)=gP m n i:=by
 refine CA (w:=n) (by rw[gR,gR,cK]) (by unfold gP;simp only[gA,cK,mK];omega) λj hj=>?_
 rw[Vi (by rw[gR,cK];omega),Vi (by rw[cK];omega),qf hi]
 have z:cf (aw n 0) j=0:=by unfold cf;rw[aT,iF];split<;>rfl
 by_cases c:j=n-1
 ·rw[if_pos c,if_neg (by omega),if_pos c]
 ·rw[if_neg c]
  by_cases c2:j=i
  ·rw[if_pos c2,if_pos c2]
  ·rw[if_neg c2,if_neg c2,if_neg c,z]
theorem cL4(p:Nat):bQ (true,p) 0 1=1:=rfl
theorem cq4{p:Nat}(h:2<=p):bQ (false,p) 0 1=p-1:=by
 show((((0:Nat):Int)-((1:Nat):Int))%(p:Int)).toNat=p-1
 rw[show(((0:Nat):Int)-((1:Nat):Int))=((p:Int)-1)+(p:Int)*(-1) by omega,Int.add_mul_emod_self_left,Int.emod_eq_of_lt (by omega) (by omega)]
 omega
noncomputable abbrev aO1:bf:=λds Q=>∃(m:Bool × Nat) (n:Nat),ds=[gq m,.int n]/\m∈aM/\2<=n/\n<=24/\Q (.lst true (aH true (cY m n)))
theorem aO2(T:Txt K mg t):aK P w K mg base aR 1 t.Kh t.Ki ["_law_told_here","_law_length_here"] (bh (aO1 )):=by
 refine bD T.Wt CJ ?_ ?_
 ·intro ds Q h
  obtain⟨m,n,rfl,hm,h2,cC,q⟩:=h<;>rfl
 ·intro aE A outer s H E hr
  refine⟨_,(aJ (bE (i:=2) CJ.nd rfl (au rfl) (eN dv))
   (aJ (gL fv rfl (rY rfl T.kI (ak (af (aP fF (bv 1) (af av))) aD)) (dO (i:=3) CJ.nd rfl (au rfl))
    (aJ (bE (i:=4) CJ.nd rfl (au rfl) (aP fG (af (eN (cH av dv))) (bv 1)))
    (aJ (m9 (i:=4) rfl (by first | exact au rfl | exact bj (au rfl)) av (bv 3))
    (aJ (m9 (i:=4) rfl (by first | exact au rfl | exact bj (au rfl)) av (af (aP fF (bv 1) (af av))))
    (aJ (cR (xE (oW (cq (bv 0) (af av) (λ_ _=>rfl)))) (aF (m9 (i:=4) rfl (by first | exact au rfl | exact bj (au rfl)) (aP fF (cq (bv 0) (af av) (λ_ _=>rfl)) (af av)) (af (aP fF (bv 1) (af av))))) cQ)
    (aF (xX (i:=2) rfl (by first | exact au rfl | exact bj (au rfl)) (em 4))))))))
   (aF (aX (em 2))))),λds Q h=>?_⟩
  obtain⟨m,n,rfl,hm,h2,cC,q⟩:=h
  refine aI λU hU=>?_
  walk_at"l3"
  refine⟨by decide,hU _ ?_⟩
  clear hU U
  refine aI λU hU=>?_
  walk_at"l3"
  rw[show((n:Int)-1)=((n-1:Nat):Int) by omega]
  refine⟨⟨by omega,by omega⟩,G4 (λi δ=>∃o1 o2:Option D,δ=[some (gq m),some (D.int n),some (D.lst true (aH true ((bo i).map (gP m n)))),o1,o2]) ⟨_,_,rfl⟩ ?_ ?_⟩
  ·rintro i δ hi ⟨o1,o2,rfl⟩
   clear hU
   have hi:i<n-1:=by omega
   simp only[gN,jc,i9]
   refine aI λU hU=>?_
   walk_at"l3"
   refine⟨by decide,⟨by omega,by omega,by omega⟩,hU _ ?_⟩
   clear hU
   rw[eD,show aC (aw n (0:Int))=aq (aw n 0) by unfold aq;rw[kR];rfl]
   have rl:(aq (aw n 0)).length=n:=by rw[eP,cK]
   refine aI λU hU=>?_
   walk_at"l3"
   refine⟨_,i,rfl,p7 (k:=(i:Int)) (by omega) (by rw[eD,rl];omega),hU _ ?_⟩
   clear hU
   rw[show(D.int 1)=D.int ((1:Nat):Int) from rfl,yV]
   have rl2:(aq ((aw n 0).set i 1)).length=n:=by rw[eP,gR,cK]
   refine aI λU hU=>?_
   walk_at"l3"
   refine⟨_,n-1,rfl,by rw[rl2];exact p7 (n:=n) (k:=(n:Int)-1) (by omega) (by omega) |>.trans (congrArg some (by omega)),hU _ ?_⟩
   clear hU
   rw[yV,show some (gq m)=some (D.tup [D.bl m.1,D.int (m.2:Int)]) from rfl]
   refine aI λU hU=>?_
   walk_at"l3"
   refine⟨_,rfl,m.1,rfl,?_⟩
   have fin:∀r,r=gP m n i->U [some (D.tup [D.bl m.1,D.int (m.2:Int)]),some (D.int n),some (D.lst true (aH true ((bo i).map (gP m n)))),some (D.int i),some (D.lst true (aq r))]:=by
    rintro r rfl
    refine hU _ ?_
    clear hU U
    walk_at"l3"
    refine⟨⟨_,rfl⟩,by rw[bK,eE];omega,_,_,?_,rfl,rfl⟩
    rw[AM,iG]
    exact Cr true _ [gP m n i]
   clear hU
   obtain⟨b,p⟩:=m
   cases b with
   | true =>
    rw[if_neg (by exact eC)]
    exact fin _ (by rw[<-Xd hi];rfl)
   | false =>
    rw[if_pos (by exact rfl)]
    have hp:2<=p:=(eI hm).lo
    refine⟨_,rfl,?_⟩
    dsimp only
    refine⟨_,n-1,rfl,by rw[eP,gR,gR,cK];exact p7 (n:=n) (k:=(n:Int)-1) (by omega) (by omega) |>.trans (congrArg some (by omega)),?_⟩
    rw[show(p:Int)-((1:Nat):Int)=((p-1:Nat):Int) by omega,yV]
    refine fin _ ?_
    rw[EZ,<- Xd hi,cq4 hp]
  ·rintro δ ⟨o1,o2,rfl⟩
   refine hU _ ?_
   walk_at"l3"
   exact q
noncomputable abbrev aS1(t:dr):bf:=λds Q=>∃(m:Bool × Nat) (G:List (List Nat)) (c:List Nat),ds=[fD t.az t.aB m,.lst false (aH false G),.lst false (aq c)]/\m∈aM/\RT (ag m) c.length G/\AllLt (ag m) c/\c.length<=64/\G.length<=64/\Q (.lst true (aq (G.map λr=>gd m r c)))
theorem aS2(T:Txt K mg t):aK P w K mg base aR 2 t.Kj t.Kk ["field","table","column"] (bh (aS1 t)):=by
 refine bD T.Wu aQ5 ?_ ?_
 ·intro ds Q h
  obtain⟨m,G,c,rfl,hm,hR,hc,eV,hG,q⟩:=h<;>rfl
 ·intro aE A outer s H E hr
  refine⟨_,(aF (aX (eQ [("column",2),("field",0)] ["row"] rfl (iT (bv 1)) (λ_ _ _ _=>(dO (i:=2) (show(["column","field","row"]:List Str).Nodup by decide +kernel) rfl (au (lookup_relabel_local rfl)) (by decide) (bj (lookup_relabel_local rfl)))) (λ_ _ _ _=>fq) (λ_ _ _ _=>(fJ (P:=P) (w:=w) (K:=K) (mg:=mg) (base:=base) (n:=1) (bv 1) (hr.mono (by decide)) (ak (bv 2) (ak (bv 0) aD)))) rfl ⟨rfl,⟨rfl,trivial⟩⟩ (λ_=>by repeat' (first | exact trivial | refine⟨.inl rfl,?_⟩ | refine⟨.inr (.inl rfl),?_⟩ | refine⟨.inr (.inr ⟨_,rfl⟩),?_⟩)) (λ_=>⟨⟨rfl,.inl rfl,.inl rfl,_,rfl,rfl⟩,⟨⟨rfl,.inl rfl,.inl rfl,_,rfl,rfl⟩,trivial⟩⟩) rfl (by decide +kernel)))),λds Q h=>?_⟩
  obtain⟨m,G,c,rfl,hm,hR,hc,eV,hG,q⟩:=h
  have gF:=(eI hm).lo
  obtain⟨C,ns,xs,sp,e1,e2,e3,e4⟩:=W6 (P:=P) (w:=w) (base:=base) T hm
  walk_at"l3"
  refine gM G (λr=>D.lst false (aq r)) (λr=>D.int ((gd m r c:Nat):Int)) (by rw[eW];rfl) (λa b h=>ud a b h) (λr bz=>?_) (.inr λr _=>rfl) (by rw[sL];omega) ?_
  ·walk_at"l3"
   exact⟨C,ns,xs,sp,e1,e2,e3,e4 _ _ _ (hR r bz).1 (by rw[(hR r bz).1];exact eV) (hR r bz).2 hc rfl⟩
  ·rw[eo,dD]at q
   exact q
noncomputable abbrev Xe(t:dr):bf:=λds Q=>∃(m:Bool × Nat) (n s:Nat),ds=[gw t.az t.aB t.aO m n,.lst false (aq (aw n s))]/\m∈aM/\2<=n/\n<=24/\s<ag m/\Q (.bl true)
theorem aM3(T:Txt K mg t):aK P w K mg base aR 3 t.Kl t.Km ["self","word"] (bh (Xe t)):=by
 refine bD T.dW7 aL0 ?_ ?_
 ·intro ds Q h
  obtain⟨m,n,s,rfl,hm,h2,cC,hs,q⟩:=h<;>rfl
 ·intro aE A outer s H E hr
  refine⟨_,(aJ (cR (PW.pt (m5 (bJ (gj (cM hr)) (af (ij (kA) (by rfl) T.jR jE (ak (bv 1) aD))) (cW (K:=K) (bv 0)) (bA _)) (qV (xE (oW (af (ij (GW rfl) (by rfl) T.KU Gg (ak (af (eQ [("self",0)] ["sign"] rfl (iT (bv 1)) (λ_ _ _ _=>(dO (i:=1) (show(["self","sign"]:List Str).Nodup by decide +kernel) rfl (au (lookup_relabel_local rfl)) (by decide) (bj (lookup_relabel_local rfl)))) (λ_ _ _ _=>fq) (λ_ _ _ _=>(fJ (P:=P) (w:=w) (K:=K) (mg:=mg) (base:=base) (n:=1) (cW (K:=K) (bv 0)) (hr.mono (by decide)) (ak (bv 1) aD))) rfl ⟨rfl,trivial⟩ (λ_=>by repeat' (first | exact trivial | refine⟨.inl rfl,?_⟩ | refine⟨.inr (.inl rfl),?_⟩ | refine⟨.inr (.inr ⟨_,rfl⟩),?_⟩)) (λ_=>⟨⟨rfl,.inl rfl,.inl rfl,_,rfl,rfl⟩,trivial⟩) rfl (by decide +kernel))) aD)))))))) (aF (aX jH)) cQ)
   (aF (aX (ij (GW rfl) (by rfl) T.KU Gg (ak (af (eQ [] ["x"] rfl (iT (af (cJ ((aS2 T).mono (by decide)) hr rfl T.dW5 T.Wu.kp T.dW6 bC (ak (cW (K:=K) (bv 0)) (ak (cW (K:=K) (bv 0)) (ak (bv 1) aD)))))) (λ_ _ _ _=>(dO (i:=0) (show(["x"]:List Str).Nodup by decide +kernel) rfl (au (lookup_relabel_local rfl)) (by decide) (bj (lookup_relabel_local rfl)))) (λ_ _ _ _=>fq) (λ_ _ _ _=>(oU (fH (cM hr)) (bv 0) (af av) (bA _))) rfl trivial (λ_=>by repeat' (first | exact trivial | refine⟨.inl rfl,?_⟩ | refine⟨.inr (.inl rfl),?_⟩ | refine⟨.inr (.inr ⟨_,rfl⟩),?_⟩)) (λ_=>trivial) rfl (by decide +kernel))) aD))))),λds Q h=>?_⟩
  obtain⟨m,n,s,rfl,hm,h2,cC,hs,q⟩:=h
  refine aI λU hU=>?_
  walk_at"l3"
  refine ff T m n T.jQ rfl ?_
  rw[cK,ik,decide_eq_true rfl,if_neg (by decide)]
  refine⟨rfl,gM (aw n s) (λ(i:Nat)=>D.int (i:Int)) (λ_=>D.bl true) (tK _) nq (λi hi=>?_) (.inr λ_ _=>rfl) (by rw[cK,sL];omega) ?_⟩
  ·have:=(mM.mp hi).2
   walk_at"l3"
   refine ff T m n T.kH rfl (Lc T m (.inl ⟨_,rfl,?_⟩))
   rw[decide_eq_true (by omega),decide_eq_true (by omega)];rfl
  refine⟨(aw n s).map λ_=>true,by unfold xV;rw[dD];rfl,?_⟩
  rw[show((aw n s).map λ_=>true).all id=true by simp,if_neg (by decide)]
  refine hU _ ?_
  clear hU U
  walk_at"l3"
  obtain⟨r1,r2,r3⟩:=nJ hm h2
  have rl:(aw n s).length=n:=cK ..
  refine ff T m n T.kH rfl (ff T m n T.qk rfl ⟨m,cY m n,aw n s,by rw[t9,dX,eW],hm,by rw[rl];exact r1,λa ha=>by rw[(mM.mp ha).2];exact hs,by omega,by omega,by rw[iy,gU],_,rfl,?_⟩)
  refine gM ((cY m n).map λr=>gd m r (aw n s)) (λ(i:Nat)=>D.int (i:Int)) (λ_=>D.bl true) (tK _) nq (λi hi=>?_) (.inr λ_ _=>rfl) (by rw[bK,sL];omega) ?_
  ·obtain⟨r,bz,rfl⟩:=cI.mp hi
   rw[cf5 hm h2 hs r bz]
   walk_at"l3"
   rfl
  ·refine⟨((cY m n).map λr=>gd m r (aw n s)).map λ_=>true,by simp only[xV,dD];rfl,?_⟩
   rw[show(((cY m n).map λr=>gd m r (aw n s)).map λ_=>true).all id=true by simp]
   exact q
noncomputable abbrev Xf(t:dr):bf:=λds Q=>∃(m:Bool × Nat) (n s:Nat),ds=[gw t.az t.aB t.aO m n,.lst false (aq (aw n s))]/\2<=n/\Q (.lst true (aq [s]))
theorem aH4(T:Txt K mg t):aK P w K mg base aR 1 t.Kn t.Ko ["self","word"] (bh (Xf t)):=by
 refine bD T.dW9 aF4 ?_ ?_
 ·intro ds Q h
  obtain⟨m,n,s,rfl,h2,q⟩:=h<;>rfl
 ·intro aE A outer s H E hr
  refine⟨_,(aF (aX (eQ [("word",1)] ["place"] rfl (iT (cW (K:=K) (bv 0))) (λ_ _ _ _=>(dO (i:=1) (show(["word","place"]:List Str).Nodup by decide +kernel) rfl (au (lookup_relabel_local rfl)) (by decide) (bj (lookup_relabel_local rfl)))) (λ_ _ _ _=>fq) (λ_ _ _ _=>(cV (cq (bv 0) (bv 1) (λ_ _=>rfl)))) rfl ⟨rfl,trivial⟩ (λ_=>by repeat' (first | exact trivial | refine⟨.inl rfl,?_⟩ | refine⟨.inr (.inl rfl),?_⟩ | refine⟨.inr (.inr ⟨_,rfl⟩),?_⟩)) (λ_=>⟨⟨rfl,.inl rfl,.inl rfl,_,rfl,rfl⟩,trivial⟩) rfl (by decide +kernel)))),λds Q h=>?_⟩
  obtain⟨m,n,s,rfl,h2,q⟩:=h
  walk_at"l3"
  refine ff T m n T.ql rfl ?_
  refine⟨_,rfl,gM [n-1] (λ(i:Nat)=>D.int (i:Int)) (λ_=>D.int (s:Int)) (tK _) nq (λi hi=>?_) (.inr λ_ _=>rfl) (by rw[sL];show 1<=_;decide) q⟩
  rw[fS.mp hi]
  walk_at"l3"
  refine⟨_,ua (by omega) (by rw[eD,cK];omega),rfl,?_⟩
  rw[eD,aT,iF,if_pos (by omega)];rfl
theorem cf8{y:List (Option Nat)}{j:Nat}{d:D}(h:(dE (bO y))[j]?=some d):j<y.length/\d=.tup [.int (j:Int),dG (y.getD j none)]:=by
 unfold dE bO at h
 rw[oa,bV]at h
 by_cases hj:j<y.length
 ·rw[Ie hj]at h
  exact⟨hj,(cP h).symm⟩
 ·rw[fh (by omega)]at h;cases h
noncomputable abbrev au9(t:dr):bf:=λds Q=>∃(m:Bool × Nat) (y:List (Option Nat)),ds=[fD t.az t.aB m,.lst false (bO y)]/\m∈aM/\(∀a,some a∈y->a<ag m)/\y.length<=64/\Q .aj
theorem av0(T:Txt K mg t):aK P w K mg base aR 2 t.Kp t.Kq ["field","signs"] (bh (au9 t)):=by
 refine bD T.Wv VF ?_ ?_
 ·intro ds Q h
  obtain⟨m,y,rfl,hm,hy,hyl,q⟩:=h<;>rfl
 ·intro aE A outer s H E hr
  refine⟨_,(aF (gL fv rfl (nk rfl T.nN (ak (bv 1) aD)) (iW (i1:=2) (i2:=3) rfl VF.nd rfl (au rfl) rfl (au rfl))
    (aF (cR (PW.pt (BM (bJ xS (bv 3) (af jI) (bA _)) (by4 (xE (oW (af (fJ (P:=P) (w:=w) (K:=K) (mg:=mg) (base:=base) (n:=1) (bv 0) (hr.mono (by decide)) (ak (bv 3) aD)))))))) (aF BN) cQ)))),λds Q h=>?_⟩
  obtain⟨m,y,rfl,hm,hy,hyl,q⟩:=h
  walk_at"l3"
  refine⟨Ic y,fE.mk (λj δ=>∃o1 o2,δ=[some (fD t.az t.aB m),some (D.lst false (bO y)),o1,o2]) ⟨_,_,rfl⟩ ?_ ?_⟩
  ·rintro j d δ hd ⟨o1,o2,rfl⟩
   obtain⟨h1,rfl⟩:=cf8 hd
   cases ev:y.getD j none with
   | none =>
    walk_at"l3"
    rw[if_neg (by exact eC)]
    exact⟨_,_,rfl,rfl⟩
   | some a =>
    have:=cN2 hy j a ev
    walk_at"l3"
    rw[if_pos (by exact rfl)]
    refine Lc T m (.inl ⟨_,rfl,rfl,?_⟩)
    rw[decide_eq_true (by omega),decide_eq_true (by omega)]
    exact⟨true,rfl,by rw[if_neg (by decide)];exact⟨_,_,rfl,rfl⟩⟩
  ·rintro δ ⟨o1,o2,rfl⟩
   exact q
noncomputable def eX(y:List (Option Nat)):List Nat:=y.filterMap id
theorem Ld:∀y:List (Option Nat),(y.filter Option.isSome).map dG=aq (eX y)
 | []=>rfl
 | none::y=>by
  rw[wO (by decide)]
  exact Ld y
 | some a::y=>by
  rw[AQ rfl,dh,Ld y];rfl
theorem Xg(a:Nat):∀l:List Nat,(l.map λ(n:Nat)=>(n:Int)).count (a:Int)=l.count a
 | []=>rfl
 | b::l=>by
  rw[dh,A6,A6,Xg a l]
  congr 1
  by_cases c:b=a
  ·rw[c,beq_self_eq_true,beq_self_eq_true]
  ·rw[beq_false_of_ne c,beq_false_of_ne λz=>c (by omega)]
theorem Xh{a b:Nat}(h:a≠b):∀l:List Nat,l.count a+l.count b<=l.length
 | []=>bB _
 | c::l=>by
  have:=Xh h l
  rw[A6,A6,fP]
  by_cases c1:c=a
  ·rw[c1,beq_self_eq_true,beq_false_of_ne h,if_pos rfl,if_neg (by decide)];omega
  ·by_cases c2:c=b
   ·rw[c2,beq_self_eq_true,beq_false_of_ne λz=>h z.symm,if_pos rfl,if_neg (by decide)];omega
   ·rw[beq_false_of_ne c1,beq_false_of_ne c2,if_neg (by decide)];omega
noncomputable abbrev Xi(t:dr):bf:=λds Q=>∃(m:Bool × Nat) (n s:Nat) (y:List (Option Nat)),ds=[gw t.az t.aB t.aO m n,.lst false (bO y)]/\2<=n/\n<=24/\y.length<=64/\(eX y).length<2*(eX y).count s/\Q (.lst true (aq (aw n s)))
theorem aC4(T:Txt K mg t):aK P w K mg base aR 1 t.Kr t.Ks ["self","word"] (bh (Xi t)):=by
 refine bD T.dX3 Ip ?_ ?_
 ·intro ds Q h
  obtain⟨m,n,s,y,rfl,h2,cC,hy,mG,q⟩:=h<;>rfl
 ·intro aE A outer s H E hr
  refine⟨_,(aJ (U2 (i:=2) Ip.nd rfl (au rfl) [] ["sign"] rfl (iT (bv 1)) (λ_ _ _ _=>(dO (i:=0) (show(["sign"]:List Str).Nodup by decide +kernel) rfl (au (lookup_relabel_local rfl)) (by decide) (bj (lookup_relabel_local rfl)))) (λ_ _ _ _=>(xK (bJ xS (bv 0) (af jI) (bA _)))) (λ_ _ _ _=>(cV (bv 0))) rfl trivial (λ_=>by repeat' (first | exact trivial | refine⟨.inl rfl,?_⟩ | refine⟨.inr (.inl rfl),?_⟩ | refine⟨.inr (.inr ⟨_,rfl⟩),?_⟩)) (λ_=>trivial) rfl (by decide +kernel))
   (GI 2 (aJ (gL fv rfl (Sx (cV (bv 2))) (dO (i:=3) Ip.nd rfl (au rfl))
    (aF (cR (bJ GP (af (aP fG (af av) (af (cr5 (bv 2) (bv 3))))) (af (ij (kA) (by rfl) T.jR jE (ak (bv 2) aD))) (bA _)) (aF (aX (aP fG (qa (ak (bv 3) aD)) (cW (K:=K) (bv 0))))) cQ)))
   (aF (aX jI))))),λds Q h=>?_⟩
  obtain⟨m,n,s,y,rfl,h2,cC,hy,mG,q⟩:=h
  refine aI λU hU=>?_
  walk_at"l3"
  refine y7 y dG dG Option.isSome (nI y) Vm (λa ha=>?_) (.inr λa _ _=>by cases a<;>rfl) (by rw[sL];omega) ?_
  ·walk_at"l3"
   cases a with
   | none=>exact⟨rfl,λz=>by cases z⟩
   | some a=>exact⟨rfl,λ_=>rfl⟩
  rw[Ld]
  dsimp only[jc,i9]
  refine hU _ ?_
  clear hU U
  have kl:(eX y).length<=y.length:=List.length_filterMap_le ..
  refine⟨_,rfl,?_⟩
  rw[yW]
  generalize eX y=ks at mG kl ⊢
  refine aI λU hU=>?_
  walk_at"l3"
  refine fE.mk (λj δ=>(∀i,i<j->ks.length ≥ 2*ks.count (ks.getD i 0))/\∃o1,δ=[some (gw t.az t.aB t.aO m n),some (D.lst false (bO y)),some (D.lst false (aq ks)),o1]) ⟨λi hi=>absurd hi (Nat.not_lt_zero i),_,rfl⟩ ?_ ?_
  ·rintro j d δ hd ⟨hn,o1,rfl⟩
   obtain⟨h1,rfl⟩:=ch4 hd
   have ec:ks[j]=ks.getD j 0:=by rw[aT,aU h1];rfl
   rw[ec]
   clear hd hU
   walk_at"l3"
   have cl:ks.count (ks.getD j 0)<=ks.length:=List.count_le_length
   refine⟨false,ks.map λ(n:Nat)=>(n:Int),⟨rfl,rfl⟩,?_⟩
   rw[Xg]
   refine⟨mT.ok (.inl ⟨by omega,by omega⟩),?_⟩
   by_cases c:ks.length<2*ks.count (ks.getD j 0)
   ·rw[if_pos (by omega)]
    have e:ks.getD j 0=s:=Decidable.byContradiction λz=>by have:=Xh z ks;omega
    refine⟨by decide,ff T m n T.jQ rfl ?_⟩
    rw[e]
    refine⟨⟨by omega,by omega,by show 1*_<=_;omega,rfl⟩,?_⟩
    rw[eD,List.flatten_replicate_singleton,show aw n (D.int (s:Int))=aq (aw n s) by rw[eo,kR]]
    exact q
   ·rw[if_neg (by omega)]
    refine⟨λi hi=>?_,_,rfl⟩
    by_cases c2:i<j
    ·exact hn i c2
    ·rw[show i=j by omega];omega
  ·rintro δ ⟨hn,o1,rfl⟩
   refine absurd mG ?_
   rw[eP]at hn
   have hs:s∈ks:=List.count_pos_iff.mp (by omega)
   obtain⟨i,hi,e⟩:=jW hs
   have:=hn i hi
   rw[show ks.getD i 0=s by rw[aT,aU hi];exact e]at this
   omega
noncomputable def gy(y:List (Option Nat))(w:List Nat):Nat->List (Nat × Nat × Nat)
 | 0=>[]
 | j+1=>gy y w j++match y.getD j none with
  | none=>[]
  | some a=>if a≠cf w j then [(j,a,cf w j)]else []
noncomputable def jS(l:List (Nat × Nat × Nat)):List D:=l.map λp=>.tup [.int (p.1:Int),.int (p.2.1:Int),.int (p.2.2:Int)]
theorem Xj(y:List (Option Nat))(w:List Nat):∀j,(gy y w j).length<=j
 | 0=>bB _
 | j+1=>by
  have:=Xj y w j
  unfold gy
  rw[gA]
  split
  ·show _+0<=_;omega
  ·split
   ·show _+1<=_;omega
   ·show _+0<=_;omega
theorem Xk(l:List (Nat × Nat × Nat)):(D.lst true (jS l)).fr=true:=by
 rw[e7,i8]
 refine cS.mpr λd hd=>?_
 obtain⟨p,_,rfl⟩:=cI.mp hd
 rfl
noncomputable abbrev aO3:bf:=λds Q=>∃(y:List (Option Nat)) (w:List Nat),ds=[.lst false (bO y),.lst false (aq w)]/\w.length=y.length/\y.length<=64/\Q (.lst true (jS (gy y w y.length)))
theorem aO4(T:Txt K mg t):aK P w K mg base aR 1 t.Kt t.Ku ["signs","sent"] (bh (aO3 )):=by
 refine bD T.Ww CK ?_ ?_
 ·intro ds Q h
  obtain⟨y,w,rfl,lw,hy,q⟩:=h<;>rfl
 ·intro aE A outer s H E hr
  refine⟨_,(aJ (bE (i:=2) CK.nd rfl (au rfl) (eN dv))
   (aJ (gL fv rfl (nk rfl T.nN (ak (bv 1) aD)) (iW (i1:=3) (i2:=4) rfl CK.nd rfl (au rfl) rfl (au rfl))
    (aJ (bE (i:=5) CK.nd rfl (au rfl) (cV (cq (bv 0) (bv 3) (λ_ _=>rfl))))
    (aF (cR (PW.pt (BM (bJ xS (bv 5) (af jI) (bA _)) (by4 (bJ (gj (cM hr)) (bv 5) (bv 4) (bA _))))) (aF (xX (i:=2) rfl (by first | exact au rfl | exact bj (au rfl)) (rM (cH (em 3) (cH (em 5) (cH (em 4) dv)))))) cQ))))
   (aF (aX (em 2))))),λds Q h=>?_⟩
  obtain⟨y,w,rfl,lw,hy,q⟩:=h
  refine aI λU hU=>?_
  walk_at"l3"
  refine⟨by decide,hU _ ?_⟩
  clear hU U
  refine aI λU hU=>?_
  walk_at"l3"
  refine fE.mk (λj δ=>∃o1 o2 o3,δ=[some (D.lst false (bO y)),some (D.lst false (aq w)),some (D.lst true (jS (gy y w j))),o1,o2,o3]) ⟨_,_,_,rfl⟩ ?_ ?_
  ·rintro j d δ hd ⟨o1,o2,o3,rfl⟩
   obtain⟨h1,rfl⟩:=UM hd
   clear hd hU
   have ec:w[j]=cf w j:=by unfold cf;rw[aT,aU h1];rfl
   rw[ec]
   have dl:=Xj y w j
   have ed:gy y w (j+1)=gy y w j++match y.getD j none with
    | none=>[]
    | some a=>if a≠cf w j then [(j,a,cf w j)]else []:=rfl
   have at_:eH (bO y) (j:Int)=some (dG (y.getD j none)):=kY (by omega) (by unfold bO;rw[eD,bV,Ie (by omega)];rfl)
   simp only[iq,jc,i9]
   refine aI λU hU=>?_
   walk_at"l3"
   refine⟨_,at_,?_⟩
   refine⟨by cases y.getD j none<;>rfl,hU _ ?_⟩
   clear hU
   have tl:(jS (gy y w j)).length=(gy y w j).length:=bK ..
   cases ev:y.getD j none with
   | none =>
    rw[ev]at ed
    walk_at"l3"
    rw[if_neg (by exact eC),ed,fQ]
    exact⟨_,_,_,rfl,rfl,rfl,rfl⟩
   | some a =>
    rw[ev]at ed
    walk_at"l3"
    rw[if_pos (by exact rfl),show bq (dG (some a)) (D.int ((cf w j:Nat):Int))=decide ((a:Int)=((cf w j:Nat):Int)) from ik _ _]
    refine⟨rfl,?_⟩
    by_cases c:a=cf w j
    ·rw[decide_eq_true (by omega),if_neg (by decide),ed]
     dsimp only
     rw[if_neg λz=>z c,fQ]
     exact⟨_,_,_,rfl,rfl,rfl,rfl⟩
    ·rw[decide_eq_false (by omega),if_pos (by decide),ed]
     dsimp only
     rw[if_pos c]
     exact⟨⟨_,rfl⟩,by decide,by omega,_,_,_,by unfold jS;rw[iG];rfl,rfl,rfl,rfl⟩
  ·rintro δ ⟨o1,o2,o3,rfl⟩
   refine hU _ ?_
   walk_at"l3"
   rw[pM,eP,lw]
   exact q
noncomputable abbrev Le(t:dr):bf:=λds Q=>∃(m:Bool × Nat) (n s:Nat) (y:List (Option Nat)),ds=[gw t.az t.aB t.aO m n,.lst false (bO y)]/\m∈aM/\2<=n/\n<=24/\y.length=n/\(∀a,some a∈y->a<ag m)/\(eX y).length<2*(eX y).count s/\Q (.tup [.lst true (aq (aw n s)),.lst true (jS (gy y (aw n s) n))])
theorem Xl(T:Txt K mg t):aK P w K mg base aR 3 t.Kv t.Kw ["self","word"] (bh (Le t)):=by
 refine bD T.dX7 VG ?_ ?_
 ·intro ds Q h
  obtain⟨m,n,s,y,rfl,hm,h2,cC,ly,hy,mG,q⟩:=h<;>rfl
 ·intro aE A outer s H E hr
  refine⟨_,(aJ (BO (af (cJ ((W2 T).mono (by decide)) hr rfl T.Wm T.KS.kp T.Wn bC (ak (bv 1) (ak (cW (K:=K) (bv 0)) aD)))))
   (aJ (BO (af (cJ ((av0 T).mono (by decide)) hr rfl T.dX1 T.Wv.kp T.dX2 bC (ak (cW (K:=K) (bv 0)) (ak (bv 1) aD)))))
   (aJ (bE (i:=2) VG.nd rfl (au rfl) (fJ (P:=P) (w:=w) (K:=K) (mg:=mg) (base:=base) (n:=1) (bv 0) (hr.mono (by decide)) (ak (bv 1) aD)))
   (aJ (cR (bJ SO (bv 2) (af jI) (bA _)) (aF BN) cQ)
   (aF (aX (cz2 2 rfl (by first | exact au rfl | exact bj (au rfl)) (cJ ((aO4 T).mono (by decide)) hr rfl T.dX5 T.Ww.kp T.dX6 bC (ak (bv 1) (ak (bv 2) aD)))))))))),λds Q h=>?_⟩
  obtain⟨m,n,s,y,rfl,hm,h2,cC,ly,hy,mG,q⟩:=h
  refine aI λU hU=>?_
  walk_at"l3"
  have yl:=zh y
  refine ff T m n T.jQ rfl ⟨true,bO y,by rw[nI,yl,ly,kC],by rw[show D.aj.fr=true from rfl,gU],hU _ ?_⟩
  clear hU U
  refine aI λU hU=>?_
  walk_at"l3"
  refine ff T m n T.kH rfl ?_
  refine⟨m,y,by rw[t9,nI],hm,hy,by omega,by rw[show D.aj.fr=true from rfl,gU],hU _ ?_⟩
  clear hU U
  refine aI λU hU=>?_
  walk_at"l3"
  refine⟨_,_,_,Xi t,rfl,⟨T.iD,_,_,_,T.zV,aC4 T,T.dX4⟩,by decide,m,n,s,y,by rw[nI];rfl,h2,cC,by omega,mG,by rw[iy,gU],hU _ ?_⟩
  clear hU U
  refine aI λU hU=>?_
  walk_at"l3"
  refine hU _ ?_
  clear hU U
  walk_at"l3"
  have ld:(aw n s).length=n:=cK ..
  refine⟨y,aw n s,by rw[nI],by omega,by omega,?_⟩
  rw[ly]
  exact⟨by rw[Xk,gU],q⟩
noncomputable abbrev Xm(t:dr):bf:=λds Q=>∃(m:Bool × Nat) (n s:Nat) (y:List (Option Nat)),ds=[gw t.az t.aB t.aO m n,.lst false (bO y)]/\m∈aM/\2<=n/\n<=24/\y.length=n/\(∀a,some a∈y->a<ag m)/\(eX y).length<2*(eX y).count s/\Q (.lst true (aq [s]))
theorem aS3(T:Txt K mg t):aK P w K mg base aR 4 t.Kx t.Ky ["self","word"] (bh (Xm t)):=by
 refine bD T.dX8 aQ6 ?_ ?_
 ·intro ds Q h
  obtain⟨m,n,s,y,rfl,hm,h2,cC,ly,hy,mG,q⟩:=h<;>rfl
 ·intro aE A outer s H E hr
  refine⟨_,(aF (aX (fJ (P:=P) (w:=w) (K:=K) (mg:=mg) (base:=base) (n:=1) (bv 0) (hr.mono (by decide)) (ak (cq (af (fJ (P:=P) (w:=w) (K:=K) (mg:=mg) (base:=base) (n:=3) (bv 0) (hr.mono (by decide)) (ak (bv 1) aD))) (af av) (λ_ _=>rfl)) aD)))),λds Q h=>?_⟩
  obtain⟨m,n,s,y,rfl,hm,h2,cC,ly,hy,mG,q⟩:=h
  walk_at"l3"
  refine⟨_,_,_,Xf t,rfl,⟨T.iD,_,_,_,T.zU,aH4 T,T.dX0⟩,by decide,_,_,_,Le t,rfl,⟨T.iD,_,_,_,T.vJ,Xl T,T.Wx⟩,by decide,m,n,s,y,by rw[nI];rfl,hm,h2,cC,ly,hy,mG,?_⟩
  refine⟨by rw[Ic];rfl,?_⟩
  dsimp only
  exact⟨_,rfl,m,n,s,by rw[yW];rfl,h2,by rw[iy,gU],q⟩
noncomputable abbrev aS4(t:dr):bf:=λds Q=>∃(m:Bool × Nat) (n s:Nat),ds=[gw t.az t.aB t.aO m n,gq m,.int n,.int s]/\m∈aM/\2<=n/\n<=24/\s<ag m/\Q (.bl true)
theorem aS5(T:Txt K mg t):aK P w K mg base aR 5 t.Kz t.KA ["_law_code","_law_told_here","_law_length_here","_law_sign"] (bh (aS4 t)):=by
 refine bD T.Wy VH ?_ ?_
 ·intro ds Q h
  obtain⟨m,n,s,rfl,hm,h2,cC,hs,q⟩:=h<;>rfl
 ·intro aE A outer s H E hr
  refine⟨_,(aJ (cR (PW.pt (m5 (bJ (gj (cM hr)) (cW (K:=K) (bv 0)) (bv 2) (bA _)) (m5 (bJ (gj (cM hr)) (cW (K:=K) (bv 0)) (af av) (bA _)) (m5 (bJ (gj (cM hr)) (af (yT (P:=P) (w:=w) (K:=K) (mg:=mg) (base:=base) (n:=1) (bv 0) (hr.mono (by decide)))) (bv 2) (bA _)) (qV (bJ (gj (cM hr)) (af (yT (P:=P) (w:=w) (K:=K) (mg:=mg) (base:=base) (n:=1) (bv 0) (hr.mono (by decide)))) (af (cH6 (Vk (af xD) (Vk (af (cM8 (bv 2))) cN6)))) (bA _))))))) (aF (aX jH)) cQ)
   (aJ (cR (PW.pt (m5 (bJ (gj (cM hr)) (af (yT (P:=P) (w:=w) (K:=K) (mg:=mg) (base:=base) (n:=1) (bv 0) (hr.mono (by decide)))) (af (eN (cH (aP fF (bv 2) (af av)) dv))) (bA _)) (m5 (bJ (gj (cM hr)) (af (yT (P:=P) (w:=w) (K:=K) (mg:=mg) (base:=base) (n:=2) (bv 0) (hr.mono (by decide)))) (af (eN (cH (aP fG (af (eN (cH av dv))) (bv 2)) dv))) (bA _)) (qV (bJ (gj (cM hr)) (af (yT (P:=P) (w:=w) (K:=K) (mg:=mg) (base:=base) (n:=2) (bv 0) (hr.mono (by decide)))) (af (cJ ((aO2 T).mono (by decide)) hr rfl T.aP3 T.Wt.kp T.aP4 bC (ak (bv 1) (ak (bv 2) aD)))) (bA _)))))) (aF (aX jH)) cQ)
   (aJ (bE (i:=4) VH.nd rfl (au rfl) (fJ (P:=P) (w:=w) (K:=K) (mg:=mg) (base:=base) (n:=4) (bv 0) (hr.mono (by decide)) (ak (qa (ak (bv 3) aD)) aD)))
   (aF (aX (lL (af (oU (fH (cM hr)) (bv 4) (af (aP fG (qa (ak (bv 3) aD)) (bv 2))) (bA _))) (lL (af (oU cK5 (af (fJ (P:=P) (w:=w) (K:=K) (mg:=mg) (base:=base) (n:=3) (bv 0) (hr.mono (by decide)) (ak (bv 4) aD))) (af jH) (bA _))) (qW (oU (fH (cM hr)) (af (fJ (P:=P) (w:=w) (K:=K) (mg:=mg) (base:=base) (n:=4) (bv 0) (hr.mono (by decide)) (ak (bv 4) aD))) (qa (ak (bv 3) aD)) (bA _)))))))))),λds Q h=>?_⟩
  obtain⟨m,n,s,rfl,hm,h2,cC,hs,q⟩:=h
  refine aI λU hU=>?_
  walk_at"l3"
  refine ff T m n T.jQ rfl ?_
  rw[ik,decide_eq_true rfl,if_neg (by decide)]
  refine⟨rfl,ff T m n T.qm rfl ?_⟩
  rw[ik,decide_eq_true rfl,if_neg (by decide)]
  refine⟨rfl,_,_,_,W8 t,rfl,⟨T.iD,_,_,_,T.zS,aA3 T,T.dV4⟩,by decide,m,n,rfl,rfl,?_⟩
  rw[ik,decide_eq_true rfl,if_neg (by decide)]
  have hb:(n:Int).natAbs.log2<1920:=by
   rw[iH]
   have:=(EM (show n≠0 by omega)).mpr (show n<2 ^ 8 by omega)
   omega
  have dg:∀k:Fin 25,(jT++kS "repeat "++kS (toString (((k:Nat):Int)))).length<=30/\(jT++kS "repeat ").length<=30/\bq (D.str ("repeat "++toString (((k:Nat):Int)))) (D.str (jT++kS "repeat "++kS (toString (((k:Nat):Int)))))=true:=by decide +kernel
  obtain⟨d1,d2,d3⟩:=dg ⟨n,by omega⟩
  refine⟨_,_,_,W9 t,rfl,⟨T.iD,_,_,_,T.zZ,aH2 T,T.dV6⟩,by decide,m,n,rfl,cC,by omega,hb,eA d1 (by decide),eA d1 (by decide),rfl,?_⟩
  rw[show bq (D.str ("repeat "++toString ((n:Nat):Int))) (D.str (jT++kS "repeat "++kS (toString ((n:Nat):Int))))=true from d3,if_neg (by decide)]
  refine hU _ ?_
  clear hU U
  refine aI λU hU=>?_
  walk_at"l3"
  rw[show [D.int ((n:Int)-1)]=aq [n-1] by show _=[D.int (((n-1:Nat):Nat):Int)];rw[show((n-1:Nat):Int)=(n:Int)-1 by omega],eD,show [D.lst true (aC (aw n (1:Int)))]=aH true [aw n 1] by show _=[D.lst true (aq (aw n 1))];unfold aq;rw[kR];rfl]
  refine⟨_,_,_,Xa t,rfl,⟨T.iD,_,_,_,T.zW,aN9 T,T.dV8⟩,by decide,m,n,rfl,by decide,⟨pZ 5 _ _,pZ 5 _ _⟩,?_⟩
  rw[p5,decide_eq_true rfl,if_neg (by decide)]
  refine⟨_,_,_,Xb t,rfl,⟨T.iD,_,_,_,T.zY,aS0 T,T.dW0⟩,by decide,m,n,rfl,by decide,⟨by omega,by omega,by omega⟩,by decide,⟨y6 4 _ _ _,y6 4 _ _ _⟩,?_⟩
  rw[HM,decide_eq_true rfl,if_neg (by decide)]
  refine⟨_,_,_,Xc t,rfl,⟨T.iD,_,_,_,T.zR,aO0 T,T.dW2⟩,by decide,m,n,rfl,hm,h2,cC,m,n,rfl,hm,h2,cC,⟨y6 4 _ _ _,y6 4 _ _ _⟩,?_⟩
  rw[HM,decide_eq_true rfl,if_neg (by decide)]
  refine hU _ ?_
  clear hU U
  refine aI λU hU=>?_
  walk_at"l3"
  refine⟨_,_,_,W7 t,rfl,⟨T.iD,_,_,_,T.z0,aM2 T,T.dV2⟩,by decide,?_⟩
  refine⟨by decide,m,n,s,rfl,hm,h2,cC,hs,iy _,hU _ ?_⟩
  clear hU U
  walk_at"l3"
  rw[eD,show aC (aw n (s:Int))=aq (aw n s) by unfold aq;rw[kR],p5,decide_eq_true rfl,if_pos rfl]
  refine⟨by decide,⟨by omega,by omega,by omega⟩,_,_,_,Xe t,rfl,⟨T.iD,_,_,_,T.zT,aM3 T,T.dW8⟩,by decide,m,n,s,rfl,hm,h2,cC,hs,?_⟩
  refine⟨rfl,?_⟩
  dsimp only
  rw[if_pos (by decide)]
  refine⟨_,_,_,Xm t,rfl,⟨T.iD,_,_,_,T.zX,aS3 T,T.dX9⟩,by decide,m,n,s,(aw n s).map some,by rw[show bO ((aw n s).map some)=aq (aw n s) by unfold bO;rw[dD,eo];rfl];rfl,hm,h2,cC,by rw[bK,cK],λa ha=>?_,?_,iy _,by decide,⟨pZ 5 _ _,pZ 5 _ [s]⟩,?_⟩
  ·obtain⟨b,hb,e⟩:=cI.mp ha
   cases e
   rw[(mM.mp hb).2];exact hs
  ·rw[show eX ((aw n s).map some)=aw n s by unfold eX;rw[List.filterMap_map];exact List.filterMap_some,cK,List.count_replicate_self]
   omega
  ·rw[show [D.int (s:Int)]=aq [s] from rfl,p5,decide_eq_true rfl]
   exact q
theorem Xn(n:Nat)(o:Bool)(y:List (Option Nat)):cj (n+1) (.lst o (bO y))=true:=by
 show(bO y).all (cj n)=true
 refine cS.mpr λd hd=>?_
 obtain⟨a,_,rfl⟩:=cI.mp hd
 cases a with
 | none=>exact s8 n
 | some a=>exact pK n _
theorem Xo:∀y:List (Option Nat),bq.dZ (bO y) (bO y)=true
 | []=>rfl
 | a::y=>by
  show(bq (dG a) (dG a)&&bq.dZ (bO y) (bO y))=true
  rw[Xo y,jx]
  cases a with
  | none=>rfl
  | some a=>exact beq_self_eq_true _
theorem cr7(o o':Bool)(y:List (Option Nat)):bq (.lst o (bO y)) (.lst o' (bO y))=true:=Xo y
theorem Lf(s:Nat):∀y:List (Option Nat),(eX y).length+(y.filter Fl).length=y.length/\(eX y).count s+(y.filter λa=>kG (a,s)).length=(eX y).length
 | []=>⟨rfl,rfl⟩
 | none::y=>by
  obtain⟨h1,h2⟩:=Lf s y
  rw[show eX (none::y)=eX y from rfl,AQ rfl,wO (by exact eC),fP,fP]
  exact⟨by omega,h2⟩
 | some a::y=>by
  obtain⟨h1,h2⟩:=Lf s y
  rw[show eX (some a::y)=a::eX y from rfl,wO (by exact eC),fP,fP,A6]
  refine⟨by omega,?_⟩
  by_cases c:a=s
  ·rw[wO (by rw[show kG (some a,s)=decide (a≠s) from rfl,decide_eq_false λz=>z c];exact eC),c,beq_self_eq_true,if_pos rfl];omega
  ·rw[AQ (by exact decide_eq_true c),beq_false_of_ne c,if_neg (by decide),fP];omega
theorem Lg(y:List (Option Nat))(w:List Nat):∀k,jS (gy y w k)=((bo k).filter λj=>kG (y.getD j none,cf w j)).map λ(j:Nat)=>D.tup [.int (j:Int),dG (y.getD j none),.int ((cf w j:Nat):Int)]
 | 0=>rfl
 | k+1=>by
  rw[AM,Qn,iG,<- Lg y w k]
  rw[show gy y w (k+1)=gy y w k++match y.getD k none with
   | none=>[]
   | some a=>if a≠cf w k then [(k,a,cf w k)]else [] from rfl]
  unfold jS
  rw[iG]
  congr 1
  cases e:y.getD k none with
  | none=>rw[wO (a:=k) (by rw[e];exact eC)];rfl
  | some a =>
   dsimp only
   by_cases c:a=cf w k
   ·rw[if_neg λz=>z c,wO (a:=k) (by rw[e,show kG (some a,cf w k)=decide (a≠cf w k) from rfl,decide_eq_false λz=>z c];exact eC)];rfl
   ·rw[if_pos c,AQ (a:=k) (by rw[e];exact decide_eq_true c),List.filter_nil,Qz,Qz,e];rfl
theorem cB3(T:Txt K mg t)(hB:Bm mg base):aK P w K mg base aR 11 t.KC t.KD ["_law_script"] (tM [t.i4,t.i5] (bh (S8 ))):=by
 refine Hv T.dY2 jP ?_ ?_
 ·intro ds Q h
  obtain⟨ns,rfl,hl,q⟩:=h<;>rfl
 ·intro aE A outer s H E hT hr
  refine⟨_,(aJ (bE (i:=1) jP.nd rfl (au rfl) (cJ ((aR2 T).mono (by decide)) hr rfl T.aS7 T.VR.kp T.aS8 bC (ak (af (cJ ((Dy T).mono (by decide)) hr rfl T.CU T.zw.kp T.CV bC (ak (bv 0) (ak (af av) aD)))) aD)))
   (aJ (bE (i:=2) jP.nd rfl (au rfl) (Ui hT ((aP9 T hB).mono (by decide)) hr rfl T.aQ8 T.V4.kp T.aQ9 bC (ak (bv 1) aD)))
   (aJ (bE (i:=3) jP.nd rfl (au rfl) (cJ ((aR6 T).mono (by decide)) hr rfl T.aS9 T.V5.kp T.aT0 bC (ak (bv 1) aD)))
   (aJ (bE (i:=4) jP.nd rfl (au rfl) (cJ ((aN5 T).mono (by decide)) hr rfl T.aO8 T.V6.kp T.aO9 bC (ak (af (cJ ((Dy T).mono (by decide)) hr rfl T.CU T.zw.kp T.CV bC (ak (bv 0) (ak (af av) aD)))) (ak (af (cJ ((Dy T).mono (by decide)) hr rfl T.CU T.zw.kp T.CV bC (ak (bv 0) (ak (af av) aD)))) aD))))
   (aJ (cR (PW.pt (m5 (bJ ph (bv 4) (af av) (bA _)) (qV (bJ GP (bv 4) (af av) (bA _))))) (aF (aX (Ui hT ((aM0 T hB).mono (by decide)) hr rfl T.aM7 T.Wl.kp T.aM8 bC (ak (bv 2) (ak (bv 4) aD))))) cQ)
   (aJ (bE (i:=5) jP.nd rfl (au rfl) (cp7 hT T.vI ((aH1 T hB).mono (by decide)) hr rfl T.vM T.Wj bC (ak (bv 2) (ak (bv 4) aD))))
   (aJ (bE (i:=6) jP.nd rfl (bj rfl) (aP dY (af (cJ ((Dy T).mono (by decide)) hr rfl T.CU T.zw.kp T.CV bC (ak (bv 0) (ak (af av) aD)))) (bv 3)))
   (aJ (cR (xE (oW (af (cJ ((aS5 T).mono (by decide)) hr rfl T.aT1 T.Wy.kp T.aT2 bC (ak (bv 5) (ak (bv 1) (ak (bv 4) (ak (bv 6) aD)))))))) (aF (aX jH)) cQ)
   (aJ (bE (i:=7) jP.nd rfl (au rfl) (cJ ((aN8 T).mono (by decide)) hr rfl T.aP0 T.Wk.kp T.aP1 bC (ak (bv 0) (ak (bv 4) (ak (bv 6) (ak (bv 3) aD))))))
   (aJ (U2 (i:=8) jP.nd rfl (au rfl) [("_law_sign",6)] ["_law_at","_law_was"] rfl (nk rfl T.nN (ak (bv 7) aD)) (λ_ _ _ _=>(iW (i1:=1) (i2:=2) rfl (show(["_law_sign","_law_at","_law_was"]:List Str).Nodup by decide +kernel) rfl (au (lookup_relabel_local rfl)) rfl (au (lookup_relabel_local rfl)) (by decide) (by decide) (bj (lookup_relabel_local rfl)) (bj (lookup_relabel_local rfl)))) (λ_ _ _ _=>(xK (PW.pt (BM (bJ xS (bv 2) (af jI) (bA _)) (by4 (bJ (gj (cM hr)) (bv 2) (bv 0) (bA _))))))) (λ_ _ _ _=>(rM (cH (cV (bv 1)) (cH (cV (bv 2)) (cH (cV (bv 0)) dv))))) rfl ⟨rfl,trivial⟩ (λ_=>by repeat' (first | exact trivial | refine⟨.inl rfl,?_⟩ | refine⟨.inr (.inl rfl),?_⟩ | refine⟨.inr (.inr ⟨_,rfl⟩),?_⟩)) (λ_=>⟨⟨rfl,.inl rfl,.inl rfl,_,rfl,rfl⟩,trivial⟩) rfl (by decide +kernel))
   (aJ (bE (i:=9) jP.nd rfl (au rfl) (ij (kA) (by rfl) T.jR jE (ak (af (eQ [] ["_law_was"] rfl (iT (bv 7)) (λ_ _ _ _=>(dO (i:=0) (show(["_law_was"]:List Str).Nodup by decide +kernel) rfl (au (lookup_relabel_local rfl)) (by decide) (bj (lookup_relabel_local rfl)))) (λ_ _ _ _=>(xK (bJ SO (bv 0) (af jI) (bA _)))) (λ_ _ _ _=>(cV (bv 0))) rfl trivial (λ_=>by repeat' (first | exact trivial | refine⟨.inl rfl,?_⟩ | refine⟨.inr (.inl rfl),?_⟩ | refine⟨.inr (.inr ⟨_,rfl⟩),?_⟩)) (λ_=>trivial) rfl (by decide +kernel))) aD)))
   (aJ (cR (bJ SM (af (aP gh (af (aP fG (af av) (af (ij (kA) (by rfl) T.jR jE (ak (bv 8) aD))))) (bv 9))) (bv 4) (bA _)) (aF (aX jH)) cQ)
   (aJ (bE (i:=10) jP.nd rfl (au rfl) (BV (GV) (by rfl) T.KW Gh (ak (bv 7) aD)))
   (aF (aX (lL (af (oU (fH (cM hr)) (af (fJ (P:=P) (w:=w) (K:=K) (mg:=mg) (base:=base) (n:=3) (bv 5) (hr.mono (by decide)) (ak (bv 10) aD))) (af (rM (cH (aP fG (qa (ak (bv 6) aD)) (bv 4)) (cH (em 8) dv)))) (bA _))) (qW (oU (fH (cM hr)) (bv 10) (bv 7) (bA _))))))))))))))))))),λds Q h=>?_⟩
  obtain⟨ns,rfl,hl,q⟩:=h
  refine aI λU hU=>?_
  walk_at"l3"
  refine⟨ns,0,rfl,by decide,_,rfl,rfl,hU _ ?_⟩
  clear hU U
  generalize hmm:nD (ns.getD (wI 0) 0)=m
  have hm:m∈aM:=by rw[<-hmm];exact cf6 _
  have hF:=eI hm
  have gF:=hF.lo
  have hhi:=hF.hi
  have hbl:=cv3 m hm
  refine aI λU hU=>?_
  walk_at"l3"
  refine⟨m,rfl,hm,hU _ ?_⟩
  clear hU U
  refine aI λU hU=>?_
  walk_at"l3"
  refine⟨m,rfl,by omega,by omega,hU _ ?_⟩
  clear hU U
  refine aI λU hU=>?_
  walk_at"l3"
  refine⟨ns,1,rfl,by decide,ns,2,rfl,by decide,_,_,rfl,λk=>?_⟩
  refine⟨rfl,hU _ ?_⟩
  clear hU U
  refine aI λU hU=>?_
  walk_at"l3"
  by_cases c:k<2\/24<k
  ·have r:W0 t [fD t.az t.aB m,D.int k] λd=>Q d:=⟨m,k,rfl,c,q⟩
   by_cases c1:k<2
   ·rw[if_pos c1];exact r
   ·rw[if_neg c1,if_pos (by omega)];exact r
  obtain⟨n,en,h2,cC⟩:∃n:Nat,k=n/\2<=n/\n<=24:=⟨k.toNat,by omega,by omega,by omega⟩
  subst en
  rw[if_neg (by omega),if_neg (by omega)]
  refine hU _ ?_
  clear hU U
  refine aI λU hU=>?_
  walk_at"l3"
  refine⟨_,_,⟨m,n,rfl,hm,h2,cC,rfl,rfl⟩,?_⟩
  rw[show D.obj t.aO Ig ([fD t.az t.aB m,.int n,.lst true (aH true (cY m n)),.lst true (aH true [aw n 1]),.lst true (aq [n-1]),.int 1].map D.sh)=gw t.az t.aB t.aO m n by
   unfold gw
   simp only[dh,jV,t9,dX,eW,tK,<- eo,kC]
   rfl]
  refine hU _ ?_
  clear hU U
  refine aI λU hU=>?_
  walk_at"l3"
  refine⟨ns,3,rfl,by decide,by omega,?_⟩
  obtain⟨s,es,hs⟩:∃s:Nat,ns.getD (wI 3) 0%(ag m:Int)=s/\s<ag m:=by
   have n0:=jY (ns.getD (wI 3) 0) (show(ag m:Int)≠0 by omega)
   have n1:=jZ (ns.getD (wI 3) 0) (show(0:Int)<(ag m:Int) by omega)
   exact⟨_,(qP n0).symm,by omega⟩
  rw[es]
  refine hU _ ?_
  clear hU U
  refine aI λU hU=>?_
  walk_at"l3"
  refine⟨m,n,s,rfl,hm,h2,cC,hs,rfl,true,rfl,?_⟩
  rw[if_neg (by decide)]
  refine hU _ ?_
  clear hU U
  refine aI λU hU=>?_
  walk_at"l3"
  refine⟨ns,n,s,ag m,rfl,h2,cC,hs,by omega,λy ly hy=>?_⟩
  refine hU _ ?_
  clear hU U
  refine aI λU hU=>?_
  walk_at"l3"
  have yl:=zh y
  refine y7 (bo y.length) (λ(i:Nat)=>D.tup [.int (i:Int),dG (y.getD i none)]) (λ(j:Nat)=>D.tup [.int (j:Int),dG (y.getD j none),.int (s:Int)]) (λj=>kG (y.getD j none,s)) (cg6 y) (λa b h=>by injection h with h;simp at h;omega) (λi hi=>?_) (.inr λj _ _=>by cases y.getD j none<;>rfl) (by rw[eE,sL];omega) ?_
  ·walk_at"l3"
   cases y.getD i none with
   | none =>
    rw[if_neg (by exact eC)]
    exact⟨rfl,λz=>by cases z⟩
   | some a =>
    rw[if_pos (by exact rfl),show bq (dG (some a)) (D.int (s:Int))=decide ((a:Int)=(s:Int)) from ik _ _]
    refine⟨rfl,?_,λ_=>⟨rfl,by decide⟩⟩
    show _=decide (a≠s)
    rw[decide_not]
    congr 1
    exact decide_eq_decide.mpr ⟨λh=>by omega,λh=>by omega⟩
  dsimp only[jc,i9]
  rw[show(((bo y.length).filter λj=>kG (y.getD j none,s)).map λ(j:Nat)=>D.tup [.int (j:Int),dG (y.getD j none),.int (s:Int)])=jS (gy y (aw n s) n) by
   rw[Lg,ly]
   have e:∀j,j<n->cf (aw n s) j=s:=λj hj=>by unfold cf;rw[aT,iF,if_pos hj];rfl
   rw[Fd (q:=λj=>kG (y.getD j none,cf (aw n s) j)) λj hj=>by rw[e j (dz.mp hj)]]
   exact(og λj hj=>by rw[e j (dz.mp (mH.mp hj).1)]).symm]
  refine hU _ ?_
  clear hU U
  refine aI λU hU=>?_
  walk_at"l3"
  refine y7 y dG dG Fl (nI y) Vm (λa ha=>?_) (.inr λa _ _=>by cases a<;>rfl) (by rw[sL];omega) ?_
  ·walk_at"l3"
   cases a with
   | none=>exact⟨rfl,λ_=>rfl⟩
   | some a=>exact⟨rfl,λz=>by cases z⟩
  rw[show(AJ dG (y.filter Fl))=bO (y.filter Fl) from rfl]
  dsimp only[jc,i9]
  rw[zh]
  refine hU _ ?_
  clear hU U
  have wl:(jS (gy y (aw n s) n)).length=(y.filter λa=>kG (a,s)).length:=by
   rw[Lg,bK]
   have e:∀j,j<n->cf (aw n s) j=s:=λj hj=>by unfold cf;rw[aT,iF,if_pos hj];rfl
   rw[Fd (q:=λj=>kG (y.getD j none,s)) λj hj=>by rw[e j (dz.mp hj)]]
   conv=>rhs;rw[cJ5 y,List.filter_map,bK,ly]
   rfl
  obtain⟨k1,k2⟩:=Lf s y
  refine aI λU hU=>?_
  walk_at"l3"
  have fl:(y.filter λa=>kG (a,s)).length<=y.length:=Qy ..
  refine⟨mT.ok (.inl ⟨by omega,by omega⟩),?_⟩
  split
  ·exact q
  refine hU _ ?_
  clear hU U
  have maj:(eX y).length<2*(eX y).count s:=by omega
  refine aI λU hU=>?_
  walk_at"l3"
  refine⟨Ic y,hU _ ?_⟩
  clear hU U
  walk_at"l3"
  have kt:cj 6 (D.tup [D.lst true (aq (aw n s)),D.lst true (jS (gy y (aw n s) n))])=true:=by
   show(cj 5 _&&(cj 5 _&&true))=true
   rw[pZ 4,i8,jx]
   refine cS.mpr λd hd=>?_
   obtain⟨p,_,rfl⟩:=cI.mp hd
   rfl
  rw[eD,show aC (aw n (s:Int))=aq (aw n s) by unfold aq;rw[kR]]
  refine⟨_,_,_,Le t,rfl,⟨T.iD,_,_,_,T.vJ,Xl T,T.Wx⟩,by decide,m,n,s,y,by rw[nI];rfl,hm,h2,cC,ly,hy,maj,?_⟩
  refine⟨?_,by decide,⟨by omega,by omega,by omega⟩,by decide,⟨kt,kt⟩,?_⟩
  ·rw[mY,di,di,iy,Xk];rfl
  rw[HJ 6 _ kt,if_pos rfl,cr7]
  exact⟨⟨Xn 5 true _,Xn 5 true _⟩,q⟩
end
set_option maxHeartbeats 0 in
theorem all_mk{l:PySem.W.OpenLaw}{w:World}{K:Frag}{h:Heap}{mg:Str->Option Value}{fa:Addr}{ts:List Addr}(X:K.In h)(G:h.Ns mainGlobals mg)(hfa:mg "law"=some (.ref fa))
  {od0 an0:Option Addr} {sl0:Array (Option Value)} {oc0 kV0 dc0 pm0 Xp ct0:Value} {f0:Addr}
  {od1 an1:Option Addr} {sl1:Array (Option Value)} {oc1 kV1 dc1 pm1 Xq ct1:Value} {f1:Addr}
  {od2 an2:Option Addr} {sl2:Array (Option Value)} {oc2 kV2 dc2 pm2 Xr ct2:Value} {f2:Addr}
  {od3 an3:Option Addr} {sl3:Array (Option Value)} {oc3 kV3 dc3 pm3 Xs ct3:Value} {f3:Addr}
  {od4 an4:Option Addr} {sl4:Array (Option Value)} {oc4 kV4 dc4 pm4 Xt ct4:Value} {f4:Addr}
  {od5 an5:Option Addr} {sl5:Array (Option Value)} {oc5 kV5 dc5 pm5 Xu ct5:Value} {f5:Addr}
  {od6 an6:Option Addr} {sl6:Array (Option Value)} {oc6 kV6 dc6 pm6 Xv ct6:Value} {f6:Addr}
  {od7 an7:Option Addr} {sl7:Array (Option Value)} {oc7 kV7 dc7 pm7 ct7:Value} {f7:Addr}
  {Ah i4:Addr} {aH6:Option Addr} {aH7:Array (Option Value)} {Xw:Array Value} {aH8:Value}
  {od8 an8:Option Addr} {sl8:Array (Option Value)} {oc8 kV8 dc8 pm8 Xx ct8:Value} {f8:Addr}
  {od9 an9:Option Addr} {sl9:Array (Option Value)} {oc9 kV9 dc9 pm9 Xy ct9:Value} {f9:Addr}
  {ek6 ek7:Option Addr} {ek8:Array (Option Value)} {ek9 el0 el1 el2 Xz el3:Value} {Dz:Addr}
  {el4 el5:Option Addr} {el6:Array (Option Value)} {el7 el8 el9 em0 XA em1:Value} {DA:Addr}
  {em2 em3:Option Addr} {em4:Array (Option Value)} {em5 em6 em7 em8 XB em9:Value} {kq:Addr}
  {en0 en1:Option Addr} {en2:Array (Option Value)} {en3 en4 en5 en6 en7:Value} {vO:Addr}
  {Ai i5:Addr} {aK5:Option Addr} {aK6:Array (Option Value)} {XC:Array Value} {aK7:Value}
  {eo1 eo2:Option Addr} {eo3:Array (Option Value)} {eo4 eo5 eo6 eo7 XD eo8:Value} {DB:Addr}
  {eo9 ep0:Option Addr} {ep1:Array (Option Value)} {ep2 ep3 ep4 ep5 XE ep6:Value} {DC:Addr}
  {ep7 ep8:Option Addr} {ep9:Array (Option Value)} {eq0 eq6 eq7 eq8 XF eq9:Value} {DD:Addr}
  {er0 er1:Option Addr} {er2:Array (Option Value)} {er3 er4 er5 er6 XG er7:Value} {DE:Addr}
  {er8 er9:Option Addr} {es0:Array (Option Value)} {es1 es2 es3 es4 XH es5:Value} {DF:Addr}
  {es6 es7:Option Addr} {es8:Array (Option Value)} {es9 et0 et1 et2 XI et3:Value} {vP:Addr}
  {et4 et5:Option Addr} {et6:Array (Option Value)} {et7 et8 et9 eu0 XJ eu1:Value} {vQ:Addr}
  {eu2 eu3:Option Addr} {eu4:Array (Option Value)} {eu5 eu6 eu7 eu8 XM eu9:Value} {vR:Addr}
  {ev0 ev1:Option Addr} {ev2:Array (Option Value)} {ev3 ev4 ev5 ev6 XN ev7:Value} {vS:Addr}
  {ev8 ev9:Option Addr} {ew0:Array (Option Value)} {ew1 ew2 ew3 ew4 XO ew5:Value} {DG:Addr}
  {ew6 ew7:Option Addr} {ew8:Array (Option Value)} {ew9 ex0 ex1 ex2 XQ ex3:Value} {kr:Addr}
  {ex4 ex5:Option Addr} {ex6:Array (Option Value)} {ex7 ex8 ex9 ey0 XR ey1:Value} {DH:Addr}
  {ey2 ey3:Option Addr} {ey4:Array (Option Value)} {ey5 ey6 ey7 ey8 XS ey9:Value} {DI:Addr}
  {ez0 ez1:Option Addr} {ez2:Array (Option Value)} {ez3 ez4 ez5 ez6 XT ez7:Value} {DJ:Addr}
  {ez8 ez9:Option Addr} {eA0:Array (Option Value)} {eA1 eA2 eA3 eA4 XU eA5:Value} {DK:Addr}
  {eA6 eA7:Option Addr} {eA8:Array (Option Value)} {eA9 eB0 eB1 eB2 XW eB3:Value} {vT:Addr}
  {eB4 eB5:Option Addr} {eB6:Array (Option Value)} {eB7 eB8 eB9 eC0 XX eC1:Value} {vU:Addr}
  {eC2 eC3:Option Addr} {eC4:Array (Option Value)} {eC5 eC6 eC7 eC8 XY eC9:Value} {DL:Addr}
  {eD0 eD1:Option Addr} {eD2:Array (Option Value)} {eD3 eD4 eD5 eD6 XZ eD7:Value} {Aj:Addr}
  {eD8 eD9:Option Addr} {eE0:Array (Option Value)} {eE1 eE2 eE3 eE4 X0 eE5:Value} {DM:Addr}
  {eE6 eE7:Option Addr} {eE8:Array (Option Value)} {eE9 eF0 eF1 eF2 X1 eF3:Value} {vV:Addr}
  {eF4 eF5:Option Addr} {eF6:Array (Option Value)} {eF7 eF8 eF9 eG0 X2 eG1:Value} {DN:Addr}
  {eG2 eG3:Option Addr} {eG4:Array (Option Value)} {eG5 eG6 eG7 eG8 X3 eG9:Value} {DO:Addr}
  {eH0 eH1:Option Addr} {eH2:Array (Option Value)} {eH3 eH4 eH5 eH6 X4 eH7:Value} {DP:Addr}
  {eH8 eH9:Option Addr} {eI0:Array (Option Value)} {eI1 eI2 eI3 eI4 X5 eI5:Value} {DQ:Addr}
  {eI6 eI7:Option Addr} {eI8:Array (Option Value)} {eI9 eJ0 eJ1 eJ2 X6 eJ3:Value} {nQ:Addr}
  {eJ4 eJ5:Option Addr} {eJ6:Array (Option Value)} {eJ7 eJ8 eJ9 eK0 X7 eK1:Value} {DR:Addr}
  {eK2 eK3:Option Addr} {eK4:Array (Option Value)} {eK5 eK6 eK7 eK8 X8 eK9:Value} {vW:Addr}
  {eL0 eL1:Option Addr} {eL2:Array (Option Value)} {eL3 eL4 eL5 eL6 X9 eL7:Value} {vX:Addr}
  {eL8 eL9:Option Addr} {eM0:Array (Option Value)} {eM1 eM2 eM3 eM4 Ya eM5:Value} {DS:Addr}
  {eM6 eM7:Option Addr} {eM8:Array (Option Value)} {eM9 eN0 eN1 eN2 Yb eN3:Value} {DT:Addr}
  {eN4 eN5:Option Addr} {eN6:Array (Option Value)} {eN7 eN8 eN9 eO0 Yc eO1:Value} {vY:Addr}
  {eO2 eO3:Option Addr} {eO4:Array (Option Value)} {eO5 eO6 eO7 eO8 Yd eO9:Value} {vZ:Addr}
  {eP0 eP1:Option Addr} {eP2:Array (Option Value)} {eP3 eP4 eP5 eP6 Ye eP7:Value} {v3:Addr}
  {eP8 eP9:Option Addr} {eQ0:Array (Option Value)} {eQ1 eQ2 eQ3 eQ4 Yf eQ5:Value} {v7:Addr}
  {eQ6 eQ7:Option Addr} {eQ8:Array (Option Value)} {eQ9 eR0 eR1 eR2 Yg eR3:Value} {v9:Addr}
  {eR4 eR5:Option Addr} {eR6:Array (Option Value)} {eR7 eR8 eR9 eS0 Yh eS1:Value} {wa:Addr}
  {eS2 eS3:Option Addr} {eS4:Array (Option Value)} {eS5 eS6 eS7 eS8 Yi eS9:Value} {wb:Addr}
  {eT0 eT1:Option Addr} {eT2:Array (Option Value)} {eT3 eT4 eT5 eT6 Yj eT7:Value} {wc:Addr}
  {eT8 eT9:Option Addr} {eU0:Array (Option Value)} {eU1 eU2 eU3 eU4 Yk eU5:Value} {DU:Addr}
  {eU6 eU7:Option Addr} {eU8:Array (Option Value)} {eU9 eV0 eV1 eV2 Yl eV3:Value} {DV:Addr}
  {eV4 eV5:Option Addr} {eV6:Array (Option Value)} {eV7 eV8 eV9 eW0 Ym eW1:Value} {wd:Addr}
  {eW2 eW3:Option Addr} {eW4:Array (Option Value)} {eW5 eW6 eW7 eW8 Yn eW9:Value} {we:Addr}
  {eX0 eX1:Option Addr} {eX2:Array (Option Value)} {eX3 eX4 eX5 eX6 Yo eX7:Value} {DW:Addr}
  {eX8 eX9:Option Addr} {eY0:Array (Option Value)} {eY1 eY2 eY3 eY4 Yp eY5:Value} {wg:Addr}
  {eY6 eY7:Option Addr} {eY8:Array (Option Value)} {eY9 eZ0 eZ1 eZ2 Yq eZ3:Value} {DX:Addr}
  {eZ4 eZ5:Option Addr} {eZ6:Array (Option Value)} {eZ7 eZ8 eZ9 e00 Yr e01:Value} {DY:Addr}
  {e02 e03:Option Addr} {e04:Array (Option Value)} {e05 e06 e07 e08 Ys e09:Value} {wj:Addr}
  {e10 e11:Option Addr} {e12:Array (Option Value)} {e13 e14 e15 e16 Yt e17:Value} {wk:Addr}
  {e18 e19:Option Addr} {e20:Array (Option Value)} {e21 e22 e23 e24 Yu e25:Value} {DZ:Addr}
  {e26 Yv:Option Addr} {e27:Array (Option Value)} {e28 Yw Yx Yy Lh Yz:Value} {Li:Addr}
  {az dH fK jt iB cZ iC aB aO:Addr}
  (z9:nsIn K mainGlobals "BitField"=some (some (.ref az)))
  (Aa:nsIn K mainGlobals "ByNought"=some (some (.ref dH)))
  (Ab:nsIn K mainGlobals "Code"=some (some (.ref fK)))
  (vK:nsIn K mainGlobals "Field"=some (some (.ref jt)))
  (Ac:nsIn K mainGlobals "MendError"=some (some (.ref iB)))
  (vL:nsIn K mainGlobals "NoCode"=some (some (.ref cZ)))
  (Ad:nsIn K mainGlobals "NoWord"=some (some (.ref iC)))
  (Ae:nsIn K mainGlobals "PrimeField"=some (some (.ref aB)))
  (vM:nsIn K mainGlobals "RepeatCode"=some (some (.ref aO)))
  (a0:nsIn K mainGlobals "_law_told"=some (some (.ref f0)))
  (l0:K.lookup f0=some ⟨oc0,od0,.func (fnOf "_law_told" "_law_told" (aZ uv) (aS uv) (ao uv) .none kV0 dc0 pm0 an0 Xp ct0),sl0⟩)
  (c0:codeIn K Xp "_law_told"=true)
  (k0:keepIn K (.ref f0)=true)
  (a1:nsIn K mainGlobals "powers_of"=some (some (.ref f1)))
  (l1:K.lookup f1=some ⟨oc1,od1,.func (fnOf "powers_of" "powers_of" (aZ uw) (aS uw) (ao uw) .none kV1 dc1 pm1 an1 Xq ct1),sl1⟩)
  (c1:codeIn K Xq "powers_of"=true)
  (k1:keepIn K (.ref f1)=true)
  (a2:nsIn K mainGlobals "step_powers"=some (some (.ref f2)))
  (l2:K.lookup f2=some ⟨oc2,od2,.func (fnOf "step_powers" "step_powers" (aZ uz) (aS uz) (ao uz) .none kV2 dc2 pm2 an2 Xr ct2),sl2⟩)
  (c2:codeIn K Xr "step_powers"=true)
  (k2:keepIn K (.ref f2)=true)
  (a3:nsIn K mainGlobals "logs_of"=some (some (.ref f3)))
  (l3:K.lookup f3=some ⟨oc3,od3,.func (fnOf "logs_of" "logs_of" (aZ uA) (aS uA) (ao uA) .none kV3 dc3 pm3 an3 Xs ct3),sl3⟩)
  (c3:codeIn K Xs "logs_of"=true)
  (k3:keepIn K (.ref f3)=true)
  (a4:findIn K (.ref jt) "step_power"=some (some (.ref f4)))
  (l4:K.lookup f4=some ⟨oc4,od4,.func (fnOf "step_power" "Field.step_power" (aZ uB) (aS uB) (ao uB) .none kV4 dc4 pm4 an4 Xt ct4),sl4⟩)
  (c4:codeIn K Xt "Field.step_power"=true)
  (k4:keepIn K (.ref f4)=true)
  (a5:findIn K (.ref jt) "__init__"=some (some (.ref f5)))
  (l5:K.lookup f5=some ⟨oc5,od5,.func (fnOf "__init__" "Field.__init__" (aZ uC) (aS uC) (ao uC) .none kV5 dc5 pm5 an5 Xu ct5),sl5⟩)
  (c5:codeIn K Xu "Field.__init__"=true)
  (k5:keepIn K (.ref f5)=true)
  (a6:nsIn K mainGlobals "makes_prime_field"=some (some (.ref f6)))
  (l6:K.lookup f6=some ⟨oc6,od6,.func (fnOf "makes_prime_field" "makes_prime_field" (aZ uD) (aS uD) (ao uD) .none kV6 dc6 pm6 an6 Xv ct6),sl6⟩)
  (c6:codeIn K Xv "makes_prime_field"=true)
  (k6:keepIn K (.ref f6)=true)
  (a7:findIn K (.ref aB) "__init__"=some (some (.ref f7)))
  (l7:K.lookup f7=some ⟨oc7,od7,.func (fnOf "__init__" "PrimeField.__init__" (aZ mB) (aS mB) (ao mB) .none kV7 dc7 pm7 an7 (.ref Ah) ct7),sl7⟩)
  (c7:codeIn K (.ref Ah) "PrimeField.__init__"=true)
  (k7:keepIn K (.ref f7)=true)
  (YA:K.lookup Ah=some ⟨aH8,aH6,.fields Xw,aH7⟩)
  (YB:Xw[11]?=some (.ref i4))
  (Lj:codeHdIn K Ah i4=true)
  (a8:nsIn K mainGlobals "product_rows"=some (some (.ref f8)))
  (l8:K.lookup f8=some ⟨oc8,od8,.func (fnOf "product_rows" "product_rows" (aZ uE) (aS uE) (ao uE) .none kV8 dc8 pm8 an8 Xx ct8),sl8⟩)
  (c8:codeIn K Xx "product_rows"=true)
  (k8:keepIn K (.ref f8)=true)
  (a9:nsIn K mainGlobals "bits_divided"=some (some (.ref f9)))
  (l9:K.lookup f9=some ⟨oc9,od9,.func (fnOf "bits_divided" "bits_divided" (aZ uF) (aS uF) (ao uF) .none kV9 dc9 pm9 an9 Xy ct9),sl9⟩)
  (c9:codeIn K Xy "bits_divided"=true)
  (k9:keepIn K (.ref f9)=true)
  (Lk:nsIn K mainGlobals "stands_alone"=some (some (.ref Dz)))
  (Ll:K.lookup Dz=some ⟨ek9,ek6,.func (fnOf "stands_alone" "stands_alone" (aZ uH) (aS uH) (ao uH) .none el0 el1 el2 ek7 Xz el3),ek8⟩)
  (Lm:codeIn K Xz "stands_alone"=true)
  (vN:keepIn K (.ref Dz)=true)
  (Ln:nsIn K mainGlobals "makes_bit_field"=some (some (.ref DA)))
  (Lo:K.lookup DA=some ⟨el7,el4,.func (fnOf "makes_bit_field" "makes_bit_field" (aZ uI) (aS uI) (ao uI) .none el8 el9 em0 el5 XA em1),el6⟩)
  (Lp:codeIn K XA "makes_bit_field"=true)
  (Lq:keepIn K (.ref DA)=true)
  (Lr:nsIn K mainGlobals "bits_times"=some (some (.ref kq)))
  (Ls:K.lookup kq=some ⟨em5,em2,.func (fnOf "bits_times" "bits_times" (aZ uJ) (aS uJ) (ao uJ) .none em6 em7 em8 em3 XB em9),em4⟩)
  (Lu:codeIn K XB "bits_times"=true)
  (Lv:keepIn K (.ref kq)=true)
  (YC:findIn K (.ref az) "__init__"=some (some (.ref vO)))
  (Lw:K.lookup vO=some ⟨en3,en0,.func (fnOf "__init__" "BitField.__init__" (aZ mC) (aS mC) (ao mC) .none en4 en5 en6 en1 (.ref Ai) en7),en2⟩)
  (Lx:codeIn K (.ref Ai) "BitField.__init__"=true)
  (Ly:keepIn K (.ref vO)=true)
  (YD:K.lookup Ai=some ⟨aK7,aK5,.fields XC,aK6⟩)
  (YE:XC[11]?=some (.ref i5))
  (Lz:codeHdIn K Ai i5=true)
  (LA:nsIn K mainGlobals "_law_field"=some (some (.ref DB)))
  (LB:K.lookup DB=some ⟨eo4,eo1,.func (fnOf "_law_field" "_law_field" (aZ uK) (aS uK) (ao uK) .none eo5 eo6 eo7 eo2 XD eo8),eo3⟩)
  (LC:codeIn K XD "_law_field"=true)
  (LD:keepIn K (.ref DB)=true)
  (LF:nsIn K mainGlobals "_law_many"=some (some (.ref DC)))
  (LG:K.lookup DC=some ⟨ep2,eo9,.func (fnOf "_law_many" "_law_many" (aZ uL) (aS uL) (ao uL) .none ep3 ep4 ep5 ep0 XE ep6),ep1⟩)
  (LH:codeIn K XE "_law_many"=true)
  (LJ:keepIn K (.ref DC)=true)
  (LK:nsIn K mainGlobals "_law_length"=some (some (.ref DD)))
  (LL:K.lookup DD=some ⟨eq0,ep7,.func (fnOf "_law_length" "_law_length" (aZ uM) (aS uM) (ao uM) .none eq6 eq7 eq8 ep8 XF eq9),ep9⟩)
  (LM:codeIn K XF "_law_length"=true)
  (LN:keepIn K (.ref DD)=true)
  (LO:nsIn K mainGlobals "width_of"=some (some (.ref DE)))
  (LP:K.lookup DE=some ⟨er3,er0,.func (fnOf "width_of" "width_of" (aZ uN) (aS uN) (ao uN) .none er4 er5 er6 er1 XG er7),er2⟩)
  (LQ:codeIn K XG "width_of"=true)
  (LR:keepIn K (.ref DE)=true)
  (LS:nsIn K mainGlobals "first_with"=some (some (.ref DF)))
  (LU:K.lookup DF=some ⟨es1,er8,.func (fnOf "first_with" "first_with" (aZ uO) (aS uO) (ao uO) .none es2 es3 es4 er9 XH es5),es0⟩)
  (LV:codeIn K XH "first_with"=true)
  (LW:keepIn K (.ref DF)=true)
  (YF:findIn K (.ref az) "scaled"=some (some (.ref vP)))
  (LX:K.lookup vP=some ⟨es9,es6,.func (fnOf "scaled" "BitField.scaled" (aZ uP) (aS uP) (ao uP) .none et0 et1 et2 es7 XI et3),es8⟩)
  (LY:codeIn K XI "BitField.scaled"=true)
  (D0:keepIn K (.ref vP)=true)
  (YG:findIn K (.ref aB) "scaled"=some (some (.ref vQ)))
  (LZ:K.lookup vQ=some ⟨et7,et4,.func (fnOf "scaled" "PrimeField.scaled" (aZ uQ) (aS uQ) (ao uQ) .none et8 et9 eu0 et5 XJ eu1),et6⟩)
  (L4:codeIn K XJ "PrimeField.scaled"=true)
  (D1:keepIn K (.ref vQ)=true)
  (YH:findIn K (.ref az) "lessened"=some (some (.ref vR)))
  (L5:K.lookup vR=some ⟨eu5,eu2,.func (fnOf "lessened" "BitField.lessened" (aZ uR) (aS uR) (ao uR) .none eu6 eu7 eu8 eu3 XM eu9),eu4⟩)
  (L6:codeIn K XM "BitField.lessened"=true)
  (D2:keepIn K (.ref vR)=true)
  (YI:findIn K (.ref aB) "lessened"=some (some (.ref vS)))
  (L7:K.lookup vS=some ⟨ev3,ev0,.func (fnOf "lessened" "PrimeField.lessened" (aZ uS) (aS uS) (ao uS) .none ev4 ev5 ev6 ev1 XN ev7),ev2⟩)
  (L8:codeIn K XN "PrimeField.lessened"=true)
  (D3:keepIn K (.ref vS)=true)
  (L9:nsIn K mainGlobals "cleared"=some (some (.ref DG)))
  (Ma:K.lookup DG=some ⟨ew1,ev8,.func (fnOf "cleared" "cleared" (aZ uT) (aS uT) (ao uT) .none ew2 ew3 ew4 ev9 XO ew5),ew0⟩)
  (Mb:codeIn K XO "cleared"=true)
  (Mc:keepIn K (.ref DG)=true)
  (YJ:findIn K (.ref jt) "over"=some (some (.ref kr)))
  (Md:K.lookup kr=some ⟨ew9,ew6,.func (fnOf "over" "Field.over" (aZ uU) (aS uU) (ao uU) .none ex0 ex1 ex2 ew7 XQ ex3),ew8⟩)
  (Me:codeIn K XQ "Field.over"=true)
  (Ak:keepIn K (.ref kr)=true)
  (Mg:nsIn K mainGlobals "reduced"=some (some (.ref DH)))
  (Mh:K.lookup DH=some ⟨ex7,ex4,.func (fnOf "reduced" "reduced" (aZ uV) (aS uV) (ao uV) .none ex8 ex9 ey0 ex5 XR ey1),ex6⟩)
  (Mi:codeIn K XR "reduced"=true)
  (Mj:keepIn K (.ref DH)=true)
  (Ml:nsIn K mainGlobals "copied"=some (some (.ref DI)))
  (Mm:K.lookup DI=some ⟨ey5,ey2,.func (fnOf "copied" "copied" (aZ uW) (aS uW) (ao uW) .none ey6 ey7 ey8 ey3 XS ey9),ey4⟩)
  (Mn:codeIn K XS "copied"=true)
  (Mo:keepIn K (.ref DI)=true)
  (Mp:nsIn K mainGlobals "leads"=some (some (.ref DJ)))
  (Mq:K.lookup DJ=some ⟨ez3,ez0,.func (fnOf "leads" "leads" (aZ uX) (aS uX) (ao uX) .none ez4 ez5 ez6 ez1 XT ez7),ez2⟩)
  (Mr:codeIn K XT "leads"=true)
  (Ms:keepIn K (.ref DJ)=true)
  (Mt:nsIn K mainGlobals "free_places"=some (some (.ref DK)))
  (Mu:K.lookup DK=some ⟨eA1,ez8,.func (fnOf "free_places" "free_places" (aZ uY) (aS uY) (ao uY) .none eA2 eA3 eA4 ez9 XU eA5),eA0⟩)
  (Mv:codeIn K XU "free_places"=true)
  (Mw:keepIn K (.ref DK)=true)
  (YK:findIn K (.ref az) "minus"=some (some (.ref vT)))
  (Mx:K.lookup vT=some ⟨eA9,eA6,.func (fnOf "minus" "BitField.minus" (aZ uZ) (aS uZ) (ao uZ) .none eB0 eB1 eB2 eA7 XW eB3),eA8⟩)
  (Mz:codeIn K XW "BitField.minus"=true)
  (D4:keepIn K (.ref vT)=true)
  (YL:findIn K (.ref aB) "minus"=some (some (.ref vU)))
  (MA:K.lookup vU=some ⟨eB7,eB4,.func (fnOf "minus" "PrimeField.minus" (aZ u0) (aS u0) (ao u0) .none eB8 eB9 eC0 eB5 XX eC1),eB6⟩)
  (MB:codeIn K XX "PrimeField.minus"=true)
  (D6:keepIn K (.ref vU)=true)
  (MC:nsIn K mainGlobals "kernel_of_reduced"=some (some (.ref DL)))
  (MD:K.lookup DL=some ⟨eC5,eC2,.func (fnOf "kernel_of_reduced" "kernel_of_reduced" (aZ u3) (aS u3) (ao u3) .none eC6 eC7 eC8 eC3 XY eC9),eC4⟩)
  (ME:codeIn K XY "kernel_of_reduced"=true)
  (MF:keepIn K (.ref DL)=true)
  (YM:findIn K (.ref fK) "__init__"=some (some (.ref Aj)))
  (MG:K.lookup Aj=some ⟨eD3,eD0,.func (fnOf "__init__" "Code.__init__" (aZ u5) (aS u5) (ao u5) .none eD4 eD5 eD6 eD1 XZ eD7),eD2⟩)
  (MH:codeIn K XZ "Code.__init__"=true)
  (D7:keepIn K (.ref Aj)=true)
  (MI:nsIn K mainGlobals "repeat_checks"=some (some (.ref DM)))
  (MJ:K.lookup DM=some ⟨eE1,eD8,.func (fnOf "repeat_checks" "repeat_checks" (aZ u6) (aS u6) (ao u6) .none eE2 eE3 eE4 eD9 X0 eE5),eE0⟩)
  (MK:codeIn K X0 "repeat_checks"=true)
  (ML:keepIn K (.ref DM)=true)
  (YN:findIn K (.ref aO) "__init__"=some (some (.ref vV)))
  (MM:K.lookup vV=some ⟨eE9,eE6,.func (fnOf "__init__" "RepeatCode.__init__" (aZ u7) (aS u7) (ao u7) .none eF0 eF1 eF2 eE7 X1 eF3),eE8⟩)
  (MN:codeIn K X1 "RepeatCode.__init__"=true)
  (MP:keepIn K (.ref vV)=true)
  (MQ:nsIn K mainGlobals "_law_spoilt"=some (some (.ref DN)))
  (MR:K.lookup DN=some ⟨eF7,eF4,.func (fnOf "_law_spoilt" "_law_spoilt" (aZ u9) (aS u9) (ao u9) .none eF8 eF9 eG0 eF5 X2 eG1),eF6⟩)
  (MS:codeIn K X2 "_law_spoilt"=true)
  (MT:keepIn K (.ref DN)=true)
  (MU:nsIn K mainGlobals "_law_cell"=some (some (.ref DO)))
  (MV:K.lookup DO=some ⟨eG5,eG2,.func (fnOf "_law_cell" "_law_cell" (aZ va) (aS va) (ao va) .none eG6 eG7 eG8 eG3 X3 eG9),eG4⟩)
  (MW:codeIn K X3 "_law_cell"=true)
  (MX:keepIn K (.ref DO)=true)
  (MY:nsIn K mainGlobals "_law_refused"=some (some (.ref DP)))
  (MZ:K.lookup DP=some ⟨eH3,eH0,.func (fnOf "_law_refused" "_law_refused" (aZ vb) (aS vb) (ao vb) .none eH4 eH5 eH6 eH1 X4 eH7),eH2⟩)
  (M0:codeIn K X4 "_law_refused"=true)
  (M1:keepIn K (.ref DP)=true)
  (M3:nsIn K mainGlobals "refuse_length"=some (some (.ref DQ)))
  (M4:K.lookup DQ=some ⟨eI1,eH8,.func (fnOf "refuse_length" "refuse_length" (aZ vd) (aS vd) (ao vd) .none eI2 eI3 eI4 eH9 X5 eI5),eI0⟩)
  (M5:codeIn K X5 "refuse_length"=true)
  (M6:keepIn K (.ref DQ)=true)
  (YO:findIn K (.ref jt) "holds"=some (some (.ref nQ)))
  (M7:K.lookup nQ=some ⟨eI9,eI6,.func (fnOf "holds" "Field.holds" (aZ ve) (aS ve) (ao ve) .none eJ0 eJ1 eJ2 eI7 X6 eJ3),eI8⟩)
  (M8:codeIn K X6 "Field.holds"=true)
  (Al:keepIn K (.ref nQ)=true)
  (M9:nsIn K mainGlobals "refuse_no_sign"=some (some (.ref DR)))
  (Na:K.lookup DR=some ⟨eJ7,eJ4,.func (fnOf "refuse_no_sign" "refuse_no_sign" (aZ vg) (aS vg) (ao vg) .none eJ8 eJ9 eK0 eJ5 X7 eK1),eJ6⟩)
  (Nb:codeIn K X7 "refuse_no_sign"=true)
  (Nc:keepIn K (.ref DR)=true)
  (YQ:findIn K (.ref az) "dot"=some (some (.ref vW)))
  (Nd:K.lookup vW=some ⟨eK5,eK2,.func (fnOf "dot" "BitField.dot" (aZ vh) (aS vh) (ao vh) .none eK6 eK7 eK8 eK3 X8 eK9),eK4⟩)
  (Nf:codeIn K X8 "BitField.dot"=true)
  (D8:keepIn K (.ref vW)=true)
  (YR:findIn K (.ref aB) "dot"=some (some (.ref vX)))
  (Ng:K.lookup vX=some ⟨eL3,eL0,.func (fnOf "dot" "PrimeField.dot" (aZ vi) (aS vi) (ao vi) .none eL4 eL5 eL6 eL1 X9 eL7),eL2⟩)
  (Nh:codeIn K X9 "PrimeField.dot"=true)
  (D9:keepIn K (.ref vX)=true)
  (Ni:nsIn K mainGlobals "turned"=some (some (.ref DS)))
  (Nj:K.lookup DS=some ⟨eM1,eL8,.func (fnOf "turned" "turned" (aZ vj) (aS vj) (ao vj) .none eM2 eM3 eM4 eL9 Ya eM5),eM0⟩)
  (Nk:codeIn K Ya "turned"=true)
  (Nl:keepIn K (.ref DS)=true)
  (Nm:nsIn K mainGlobals "row_by"=some (some (.ref DT)))
  (Nn:K.lookup DT=some ⟨eM9,eM6,.func (fnOf "row_by" "row_by" (aZ vk) (aS vk) (ao vk) .none eN0 eN1 eN2 eM7 Yb eN3),eM8⟩)
  (Np:codeIn K Yb "row_by"=true)
  (Nq:keepIn K (.ref DT)=true)
  (YS:findIn K (.ref fK) "written"=some (some (.ref vY)))
  (Nr:K.lookup vY=some ⟨eN7,eN4,.func (fnOf "written" "Code.written" (aZ vm) (aS vm) (ao vm) .none eN8 eN9 eO0 eN5 Yc eO1),eN6⟩)
  (Nt:codeIn K Yc "Code.written"=true)
  (Ea:keepIn K (.ref vY)=true)
  (YT:findIn K (.ref aO) "distance"=some (some (.ref vZ)))
  (Nu:K.lookup vZ=some ⟨eO5,eO2,.func (fnOf "distance" "RepeatCode.distance" (aZ vn) (aS vn) (ao vn) .none eO6 eO7 eO8 eO3 Yd eO9),eO4⟩)
  (Nv:codeIn K Yd "RepeatCode.distance"=true)
  (Eb:keepIn K (.ref vZ)=true)
  (YU:findIn K (.ref az) "told"=some (some (.ref v3)))
  (Nw:K.lookup v3=some ⟨eP3,eP0,.func (fnOf "told" "BitField.told" (aZ zo) (aS zo) (ao zo) .none eP4 eP5 eP6 eP1 Ye eP7),eP2⟩)
  (Nx:codeIn K Ye "BitField.told"=true)
  (Ec:keepIn K (.ref v3)=true)
  (YV:findIn K (.ref aB) "told"=some (some (.ref v7)))
  (Ny:K.lookup v7=some ⟨eQ1,eP8,.func (fnOf "told" "PrimeField.told" (aZ zr) (aS zr) (ao zr) .none eQ2 eQ3 eQ4 eP9 Yf eQ5),eQ0⟩)
  (Nz:codeIn K Yf "PrimeField.told"=true)
  (Ee:keepIn K (.ref v7)=true)
  (YW:findIn K (.ref aO) "told"=some (some (.ref v9)))
  (NA:K.lookup v9=some ⟨eQ9,eQ6,.func (fnOf "told" "RepeatCode.told" (aZ vo) (aS vo) (ao vo) .none eR0 eR1 eR2 eQ7 Yg eR3),eQ8⟩)
  (NB:codeIn K Yg "RepeatCode.told"=true)
  (Ef:keepIn K (.ref v9)=true)
  (YX:findIn K (.ref fK) "places"=some (some (.ref wa)))
  (NC:K.lookup wa=some ⟨eR7,eR4,.func (fnOf "places" "Code.places" (aZ vp) (aS vp) (ao vp) .none eR8 eR9 eS0 eR5 Yh eS1),eR6⟩)
  (ND:codeIn K Yh "Code.places"=true)
  (Eg:keepIn K (.ref wa)=true)
  (YY:findIn K (.ref fK) "rows"=some (some (.ref wb)))
  (NF:K.lookup wb=some ⟨eS5,eS2,.func (fnOf "rows" "Code.rows" (aZ vq) (aS vq) (ao vq) .none eS6 eS7 eS8 eS3 Yi eS9),eS4⟩)
  (NG:codeIn K Yi "Code.rows"=true)
  (Eh:keepIn K (.ref wb)=true)
  (YZ:findIn K (.ref fK) "checks"=some (some (.ref wc)))
  (NH:K.lookup wc=some ⟨eT3,eT0,.func (fnOf "checks" "Code.checks" (aZ vt) (aS vt) (ao vt) .none eT4 eT5 eT6 eT1 Yj eT7),eT2⟩)
  (NI:codeIn K Yj "Code.checks"=true)
  (Ei:keepIn K (.ref wc)=true)
  (NJ:nsIn K mainGlobals "_law_checks"=some (some (.ref DU)))
  (NK:K.lookup DU=some ⟨eU1,eT8,.func (fnOf "_law_checks" "_law_checks" (aZ vv) (aS vv) (ao vv) .none eU2 eU3 eU4 eT9 Yk eU5),eU0⟩)
  (NL:codeIn K Yk "_law_checks"=true)
  (NM:keepIn K (.ref DU)=true)
  (NN:nsIn K mainGlobals "by_column"=some (some (.ref DV)))
  (NO:K.lookup DV=some ⟨eU9,eU6,.func (fnOf "by_column" "by_column" (aZ vw) (aS vw) (ao vw) .none eV0 eV1 eV2 eU7 Yl eV3),eU8⟩)
  (NP:codeIn K Yl "by_column"=true)
  (NQ:keepIn K (.ref DV)=true)
  (Y0:findIn K (.ref fK) "is_word"=some (some (.ref wd)))
  (NR:K.lookup wd=some ⟨eV7,eV4,.func (fnOf "is_word" "Code.is_word" (aZ vx) (aS vx) (ao vx) .none eV8 eV9 eW0 eV5 Ym eW1),eV6⟩)
  (NS:codeIn K Ym "Code.is_word"=true)
  (Ej:keepIn K (.ref wd)=true)
  (Y1:findIn K (.ref fK) "message_in"=some (some (.ref we)))
  (NT:K.lookup we=some ⟨eW5,eW2,.func (fnOf "message_in" "Code.message_in" (aZ vy) (aS vy) (ao vy) .none eW6 eW7 eW8 eW3 Yn eW9),eW4⟩)
  (NU:codeIn K Yn "Code.message_in"=true)
  (Ek:keepIn K (.ref we)=true)
  (NV:nsIn K mainGlobals "refuse_no_sign_but_lost"=some (some (.ref DW)))
  (NW:K.lookup DW=some ⟨eX3,eX0,.func (fnOf "refuse_no_sign_but_lost" "refuse_no_sign_but_lost" (aZ vz) (aS vz) (ao vz) .none eX4 eX5 eX6 eX1 Yo eX7),eX2⟩)
  (NX:codeIn K Yo "refuse_no_sign_but_lost"=true)
  (NY:keepIn K (.ref DW)=true)
  (Y2:findIn K (.ref aO) "nearest"=some (some (.ref wg)))
  (NZ:K.lookup wg=some ⟨eY1,eX8,.func (fnOf "nearest" "RepeatCode.nearest" (aZ vA) (aS vA) (ao vA) .none eY2 eY3 eY4 eX9 Yp eY5),eY0⟩)
  (N0:codeIn K Yp "RepeatCode.nearest"=true)
  (El:keepIn K (.ref wg)=true)
  (N1:nsIn K mainGlobals "differences"=some (some (.ref DX)))
  (N2:K.lookup DX=some ⟨eY9,eY6,.func (fnOf "differences" "differences" (aZ vB) (aS vB) (ao vB) .none eZ0 eZ1 eZ2 eY7 Yq eZ3),eY8⟩)
  (N3:codeIn K Yq "differences"=true)
  (N4:keepIn K (.ref DX)=true)
  (N5:nsIn K mainGlobals "lost_places"=some (some (.ref DY)))
  (N6:K.lookup DY=some ⟨eZ7,eZ4,.func (fnOf "lost_places" "lost_places" (aZ zt) (aS zt) (ao zt) .none eZ8 eZ9 e00 eZ5 Yr e01),eZ6⟩)
  (N7:codeIn K Yr "lost_places"=true)
  (N8:keepIn K (.ref DY)=true)
  (Y3:findIn K (.ref fK) "mended"=some (some (.ref wj)))
  (N9:K.lookup wj=some ⟨e05,e02,.func (fnOf "mended" "Code.mended" (aZ vC) (aS vC) (ao vC) .none e06 e07 e08 e03 Ys e09),e04⟩)
  (Oa:codeIn K Ys "Code.mended"=true)
  (Em:keepIn K (.ref wj)=true)
  (Y4:findIn K (.ref fK) "read"=some (some (.ref wk)))
  (Ob:K.lookup wk=some ⟨e13,e10,.func (fnOf "read" "Code.read" (aZ vD) (aS vD) (ao vD) .none e14 e15 e16 e11 Yt e17),e12⟩)
  (Oc:codeIn K Yt "Code.read"=true)
  (Eo:keepIn K (.ref wk)=true)
  (Od:nsIn K mainGlobals "_law_made"=some (some (.ref DZ)))
  (Oe:K.lookup DZ=some ⟨e21,e18,.func (fnOf "_law_made" "_law_made" (aZ vE) (aS vE) (ao vE) .none e22 e23 e24 e19 Yu e25),e20⟩)
  (Of:codeIn K Yu "_law_made"=true)
  (Og:keepIn K (.ref DZ)=true)
  (Ep:nsIn K mainGlobals "law"=some (some (.ref Li)))
  (kK:K.lookup Li=some ⟨e28,e26,.func (fnOf "law" "law" (aZ mD) (aS mD) (ao mD) .none Yw Yx Yy Yv Lh Yz),e27⟩)
  (Oh:codeIn K Lh "law"=true)
  (Oi:keepIn K (.ref Li)=true)
  (Er:plainGet K az jT=true)
  (Es:hasDictIn K az=true)
  (at2:plainOver K az=true)
  (Et:findIn K (.ref az) "__setattr__"=some (some (.builtin "object.__setattr__")))
  (zx:makesIn K az=true)
  (Oj:findIn K (.ref az) "__init__"=some (some (.ref vO)))
  (Ol:isFn K (.ref vO)=true)
  (Om:keepIn K (.ref az)=true)
  (Oo:findIn K (.ref az) "__class__"=some (some (.builtin "object.__class__")))
  (Oq:specialIn K (.builtin "object.__class__") "__get__"=some (some (.builtin "getset_descriptor.__get__")))
  (Ot:takesIn K (.builtin "object.__class__")=some true)
  (Ou:mroIn K az (.type "object")=some true)
  (zy:findIn K (.ref az) "bits"=some none)
  (CW:findIn K (.ref az) "check_rows"=some none)
  (CY:findIn K (.ref az) "field"=some none)
  (CZ:findIn K (.ref az) "length"=some none)
  (nL:findIn K (.ref az) "logs"=some none)
  (qg:findIn K (.ref az) "many"=some none)
  (C2:findIn K (.ref az) "message_places"=some none)
  (qh:findIn K (.ref az) "powers"=some none)
  (C3:findIn K (.ref az) "prime"=some none)
  (nM:findIn K (.ref az) "products"=some none)
  (C4:findIn K (.ref az) "size"=some none)
  (zA:findIn K (.ref az) "step"=some none)
  (zB:findIn K (.ref az) "wide"=some none)
  (C5:findIn K (.ref az) "word_rows"=some none)
  (zC:findIn K (.ref az) "dot"=some (some (.ref vW)))
  (Ov:isFn K (.ref vW)=true)
  (zD:findIn K (.ref az) "holds"=some (some (.ref nQ)))
  (Ow:isFn K (.ref nQ)=true)
  (zE:findIn K (.ref az) "lessened"=some (some (.ref vR)))
  (Ox:isFn K (.ref vR)=true)
  (zF:findIn K (.ref az) "minus"=some (some (.ref vT)))
  (Oy:isFn K (.ref vT)=true)
  (zG:findIn K (.ref az) "over"=some (some (.ref kr)))
  (Oz:isFn K (.ref kr)=true)
  (zH:findIn K (.ref az) "scaled"=some (some (.ref vP)))
  (OA:isFn K (.ref vP)=true)
  (vF:findIn K (.ref az) "step_power"=some (some (.ref f4)))
  (OB:isFn K (.ref f4)=true)
  (C6:findIn K (.ref az) "told"=some (some (.ref v3)))
  (OC:isFn K (.ref v3)=true)
  (Eu:plainGet K aB jT=true)
  (Ew:hasDictIn K aB=true)
  (Ey:plainOver K aB=true)
  (Ez:findIn K (.ref aB) "__setattr__"=some (some (.builtin "object.__setattr__")))
  (zI:makesIn K aB=true)
  (OD:findIn K (.ref aB) "__init__"=some (some (.ref f7)))
  (OE:isFn K (.ref f7)=true)
  (OF:keepIn K (.ref aB)=true)
  (OG:findIn K (.ref aB) "__class__"=some (some (.builtin "object.__class__")))
  (OH:specialIn K (.builtin "object.__class__") "__get__"=some (some (.builtin "getset_descriptor.__get__")))
  (OI:takesIn K (.builtin "object.__class__")=some true)
  (OJ:mroIn K aB (.type "object")=some true)
  (C7:findIn K (.ref aB) "bits"=some none)
  (C8:findIn K (.ref aB) "check_rows"=some none)
  (C9:findIn K (.ref aB) "field"=some none)
  (Dc:findIn K (.ref aB) "length"=some none)
  (qi:findIn K (.ref aB) "logs"=some none)
  (qj:findIn K (.ref aB) "many"=some none)
  (De:findIn K (.ref aB) "message_places"=some none)
  (vG:findIn K (.ref aB) "powers"=some none)
  (mE:findIn K (.ref aB) "prime"=some none)
  (Df:findIn K (.ref aB) "products"=some none)
  (Dg:findIn K (.ref aB) "size"=some none)
  (zJ:findIn K (.ref aB) "step"=some none)
  (zK:findIn K (.ref aB) "wide"=some none)
  (Dh:findIn K (.ref aB) "word_rows"=some none)
  (zL:findIn K (.ref aB) "dot"=some (some (.ref vX)))
  (OK:isFn K (.ref vX)=true)
  (zM:findIn K (.ref aB) "holds"=some (some (.ref nQ)))
  (OL:isFn K (.ref nQ)=true)
  (zN:findIn K (.ref aB) "lessened"=some (some (.ref vS)))
  (OM:isFn K (.ref vS)=true)
  (zO:findIn K (.ref aB) "minus"=some (some (.ref vU)))
  (ON:isFn K (.ref vU)=true)
  (zP:findIn K (.ref aB) "over"=some (some (.ref kr)))
  (OO:isFn K (.ref kr)=true)
  (zQ:findIn K (.ref aB) "scaled"=some (some (.ref vQ)))
  (OP:isFn K (.ref vQ)=true)
  (vH:findIn K (.ref aB) "step_power"=some (some (.ref f4)))
  (OQ:isFn K (.ref f4)=true)
  (Di:findIn K (.ref aB) "told"=some (some (.ref v7)))
  (OR:isFn K (.ref v7)=true)
  (EA:plainGet K aO jT=true)
  (EB:hasDictIn K aO=true)
  (EC:plainOver K aO=true)
  (ED:findIn K (.ref aO) "__setattr__"=some (some (.builtin "object.__setattr__")))
  (vI:makesIn K aO=true)
  (OS:findIn K (.ref aO) "__init__"=some (some (.ref vV)))
  (OT:isFn K (.ref vV)=true)
  (OU:keepIn K (.ref aO)=true)
  (OV:findIn K (.ref aO) "__class__"=some (some (.builtin "object.__class__")))
  (OW:specialIn K (.builtin "object.__class__") "__get__"=some (some (.builtin "getset_descriptor.__get__")))
  (OX:takesIn K (.builtin "object.__class__")=some true)
  (OY:mroIn K aO (.type "object")=some true)
  (Dj:findIn K (.ref aO) "bits"=some none)
  (qk:findIn K (.ref aO) "check_rows"=some none)
  (kH:findIn K (.ref aO) "field"=some none)
  (jQ:findIn K (.ref aO) "length"=some none)
  (Dk:findIn K (.ref aO) "logs"=some none)
  (Dm:findIn K (.ref aO) "many"=some none)
  (ql:findIn K (.ref aO) "message_places"=some none)
  (Dn:findIn K (.ref aO) "powers"=some none)
  (Dq:findIn K (.ref aO) "prime"=some none)
  (Dr:findIn K (.ref aO) "products"=some none)
  (qm:findIn K (.ref aO) "size"=some none)
  (Ds:findIn K (.ref aO) "step"=some none)
  (Dt:findIn K (.ref aO) "wide"=some none)
  (qo:findIn K (.ref aO) "word_rows"=some none)
  (zR:findIn K (.ref aO) "checks"=some (some (.ref wc)))
  (OZ:isFn K (.ref wc)=true)
  (zS:findIn K (.ref aO) "distance"=some (some (.ref vZ)))
  (O0:isFn K (.ref vZ)=true)
  (zT:findIn K (.ref aO) "is_word"=some (some (.ref wd)))
  (O1:isFn K (.ref wd)=true)
  (vJ:findIn K (.ref aO) "mended"=some (some (.ref wj)))
  (O2:isFn K (.ref wj)=true)
  (zU:findIn K (.ref aO) "message_in"=some (some (.ref we)))
  (O3:isFn K (.ref we)=true)
  (zV:findIn K (.ref aO) "nearest"=some (some (.ref wg)))
  (O4:isFn K (.ref wg)=true)
  (zW:findIn K (.ref aO) "places"=some (some (.ref wa)))
  (O5:isFn K (.ref wa)=true)
  (zX:findIn K (.ref aO) "read"=some (some (.ref wk)))
  (O6:isFn K (.ref wk)=true)
  (zY:findIn K (.ref aO) "rows"=some (some (.ref wb)))
  (O7:isFn K (.ref wb)=true)
  (zZ:findIn K (.ref aO) "told"=some (some (.ref v9)))
  (O8:isFn K (.ref v9)=true)
  (z0:findIn K (.ref aO) "written"=some (some (.ref vY)))
  (O9:isFn K (.ref vY)=true)
  (Pa:specialIn K (.ref fK) "__getattribute__"=some (some (.builtin "type.__getattribute__")))
  (Pb:PySem.W.readsIn K fK (.type "type")=true)
  (Pc:PySem.W.findCls K (.ref fK) (.type "type") "__init__"=some (.val (.ref Aj)))
  (Pd:specialIn K (.ref jt) "__getattribute__"=some (some (.builtin "type.__getattribute__")))
  (Pe:PySem.W.readsIn K jt (.type "type")=true)
  (Pf:PySem.W.findCls K (.ref jt) (.type "type") "__init__"=some (.val (.ref f5)))
  (Pg:nsIn K mainGlobals "ValueError"=some none)
  (Ph:nsIn K mainGlobals "all"=some none)
  (Pj:nsIn K mainGlobals "bool"=some none)
  (Pk:nsIn K mainGlobals "enumerate"=some none)
  (Pl:nsIn K mainGlobals "int"=some none)
  (Pm:nsIn K mainGlobals "isinstance"=some none)
  (Pn:nsIn K mainGlobals "len"=some none)
  (Po:nsIn K mainGlobals "list"=some none)
  (Pp:nsIn K mainGlobals "range"=some none)
  (Pq:nsIn K mainGlobals "str"=some none)
  (Pr:nsIn K mainGlobals "sum"=some none)
  (Pt:nsIn K mainGlobals "zip"=some none)
  (Pu:(clsIn K dH).isSome=true)
  (Y5:typeIn K (.ref dH)=some (.type "type"))
  (Am:(clsIn K iB).isSome=true)
  (An:typeIn K (.ref iB)=some (.type "type"))
  (Ao:(clsIn K cZ).isSome=true)
  (EE:typeIn K (.ref cZ)=some (.type "type"))
  (Ap:(clsIn K iC).isSome=true)
  (Aq:typeIn K (.ref iC)=some (.type "type"))
  (EF:subIn K (.ref cZ) (.type "BaseException")=some true)
  (Pw:PySem.W.excIn K dH [.type "ValueError",.type "Exception",.type "BaseException",.type "object"] "ValueError.__new__"=true)
  (Px:findIn K (.ref dH) "__getattribute__"=some (some (.builtin "BaseException.__getattribute__")))
  (Py:findIn K (.ref dH) "__getattr__"=some none)
  (Pz:findIn K (.ref dH) "__class__"=some (some (.builtin "object.__class__")))
  (PB:specialIn K (.builtin "object.__class__") "__get__"=some (some (.builtin "getset_descriptor.__get__")))
  (PC:takesIn K (.builtin "object.__class__")=some true)
  (PD:mroIn K dH (.type "object")=some true)
  (PF:mroIn K dH (.type "BaseException")=some true)
  (PH:subIn K (.ref dH) (.ref iB)=some true)
  (PK:(cu dH==cu iB)=false)
  (PL:subIn K (.ref dH) (.ref iC)=some false)
  (PM:(cu dH==cu iC)=false)
  (PN:subIn K (.ref dH) (.ref cZ)=some false)
  (PQ:subIn K (.ref dH) (.type "ValueError")=some true)
  (PR:PySem.W.excIn K cZ [.type "ValueError",.type "Exception",.type "BaseException",.type "object"] "ValueError.__new__"=true)
  (PU:findIn K (.ref cZ) "__getattribute__"=some (some (.builtin "BaseException.__getattribute__")))
  (PV:findIn K (.ref cZ) "__getattr__"=some none)
  (PY:findIn K (.ref cZ) "__class__"=some (some (.builtin "object.__class__")))
  (PZ:specialIn K (.builtin "object.__class__") "__get__"=some (some (.builtin "getset_descriptor.__get__")))
  (P0:takesIn K (.builtin "object.__class__")=some true)
  (P1:mroIn K cZ (.type "object")=some true)
  (P2:mroIn K cZ (.type "BaseException")=some true)
  (P4:subIn K (.ref cZ) (.ref iB)=some true)
  (P5:(cu cZ==cu iB)=false)
  (P6:subIn K (.ref cZ) (.ref iC)=some false)
  (P7:(cu cZ==cu iC)=false)
  (P8:subIn K (.ref cZ) (.ref cZ)=some true)
  (P9:subIn K (.ref cZ) (.type "ValueError")=some true)
  (Qa:subIn K (.type "NoneType") (.ref iB)=some false)
  (Qb:subIn K (.type "NoneType") (.ref iC)=some false)
  (nl:K.all (λp=>G0 p.2)=true)
  (sub:∀P∈[i4,i5],P∈ts) :
  ∃fd:FuncData,(∀(s:Shared) (v:Value),BindsTo s fd ⟨[v],[]⟩ [("_law_script",v)])/\∀base:Heap,K.In base->base.Ns mainGlobals mg->Bm mg base->aK l.prog w K mg base aR 11 fa fd ["_law_script"] (B9 ts K):=by
 have e:=hfa.symm.trans (mg_of X G Ep)
 cases e
 have F0:=bg (st:=uv) l0 c0 k0
 have b0:=F0.binds (ps:=["_law_cell_here"]) λ_ _ _ _ _ _=>eS (λ_=>rfl)
 have F1:=bg (st:=uw) l1 c1 k1
 have b1:=F1.binds (ps:=["a","product"]) λ_ _ _ _ _ _=>dm (λ_ _=>rfl)
 have F2:=bg (st:=uz) l2 c2 k2
 have b2:=F2.binds (ps:=["many","product"]) λ_ _ _ _ _ _=>dm (λ_ _=>rfl)
 have F3:=bg (st:=uA) l3 c3 k3
 have b3:=F3.binds (ps:=["powers"]) λ_ _ _ _ _ _=>eS (λ_=>rfl)
 have F4:=bg (st:=uB) l4 c4 k4
 have b4:=F4.binds (ps:=["self","n"]) λ_ _ _ _ _ _=>dm (λ_ _=>rfl)
 have F5:=bg (st:=uC) l5 c5 k5
 have b5:=F5.binds (ps:=["self","many","product"]) λ_ _ _ _ _ _=>iA (λ_ _ _=>rfl)
 have F6:=bg (st:=uD) l6 c6 k6
 have b6:=F6.binds (ps:=["prime"]) λ_ _ _ _ _ _=>eS (λ_=>rfl)
 have F7:=bg (st:=mB) l7 c7 k7
 have b7:=F7.binds (ps:=["self","prime"]) λ_ _ _ _ _ _=>dm (λ_ _=>rfl)
 have F8:=bg (st:=uE) l8 c8 k8
 have b8:=F8.binds (ps:=["powers","logs"]) λ_ _ _ _ _ _=>dm (λ_ _=>rfl)
 have F9:=bg (st:=uF) l9 c9 k9
 have b9:=F9.binds (ps:=["a","b"]) λ_ _ _ _ _ _=>dm (λ_ _=>rfl)
 have Y6:=bg (st:=uH) Ll Lm vN
 have b10:=Y6.binds (ps:=["a"]) λ_ _ _ _ _ _=>eS (λ_=>rfl)
 have Y7:=bg (st:=uI) Lo Lp Lq
 have b11:=Y7.binds (ps:=["bits"]) λ_ _ _ _ _ _=>eS (λ_=>rfl)
 have Y8:=bg (st:=uJ) Ls Lu Lv
 have b12:=Y8.binds (ps:=["a","b"]) λ_ _ _ _ _ _=>dm (λ_ _=>rfl)
 have Y9:=bg (st:=mC) Lw Lx Ly
 have b13:=Y9.binds (ps:=["self","bits"]) λ_ _ _ _ _ _=>dm (λ_ _=>rfl)
 have Za:=bg (st:=uK) LB LC LD
 have b14:=Za.binds (ps:=["_law_told_here"]) λ_ _ _ _ _ _=>eS (λ_=>rfl)
 have Zb:=bg (st:=uL) LG LH LJ
 have b15:=Zb.binds (ps:=["_law_told_here"]) λ_ _ _ _ _ _=>eS (λ_=>rfl)
 have Zc:=bg (st:=uM) LL LM LN
 have b16:=Zc.binds (ps:=["_law_kind","_law_cell_here"]) λ_ _ _ _ _ _=>dm (λ_ _=>rfl)
 have Ze:=bg (st:=uN) LP LQ LR
 have b17:=Ze.binds (ps:=["table"]) λ_ _ _ _ _ _=>eS (λ_=>rfl)
 have Zf:=bg (st:=uO) LU LV LW
 have b18:=Zf.binds (ps:=["rows","place"]) λ_ _ _ _ _ _=>dm (λ_ _=>rfl)
 have Zg:=bg (st:=uP) LX LY D0
 have b19:=Zg.binds (ps:=["self","a","row"]) λ_ _ _ _ _ _=>iA (λ_ _ _=>rfl)
 have Zh:=bg (st:=uQ) LZ L4 D1
 have b20:=Zh.binds (ps:=["self","a","row"]) λ_ _ _ _ _ _=>iA (λ_ _ _=>rfl)
 have Zi:=bg (st:=uR) L5 L6 D2
 have b21:=Zi.binds (ps:=["self","row","a","other"]) λ_ _ _ _ _ _=>zf (λ_ _ _ _=>rfl)
 have Zj:=bg (st:=uS) L7 L8 D3
 have b22:=Zj.binds (ps:=["self","row","a","other"]) λ_ _ _ _ _ _=>zf (λ_ _ _ _=>rfl)
 have Zk:=bg (st:=uT) Ma Mb Mc
 have b23:=Zk.binds (ps:=["field","rows","lead_row","place"]) λ_ _ _ _ _ _=>zf (λ_ _ _ _=>rfl)
 have Zl:=bg (st:=uU) Md Me Ak
 have b24:=Zl.binds (ps:=["self","a","b"]) λ_ _ _ _ _ _=>iA (λ_ _ _=>rfl)
 have Zm:=bg (st:=uV) Mh Mi Mj
 have b25:=Zm.binds (ps:=["field","table"]) λ_ _ _ _ _ _=>dm (λ_ _=>rfl)
 have Zn:=bg (st:=uW) Mm Mn Mo
 have b26:=Zn.binds (ps:=["table"]) λ_ _ _ _ _ _=>eS (λ_=>rfl)
 have Zo:=bg (st:=uX) Mq Mr Ms
 have b27:=Zo.binds (ps:=["rows"]) λ_ _ _ _ _ _=>eS (λ_=>rfl)
 have Zp:=bg (st:=uY) Mu Mv Mw
 have b28:=Zp.binds (ps:=["rows","width"]) λ_ _ _ _ _ _=>dm (λ_ _=>rfl)
 have Zq:=bg (st:=uZ) Mx Mz D4
 have b29:=Zq.binds (ps:=["self","a","b"]) λ_ _ _ _ _ _=>iA (λ_ _ _=>rfl)
 have Zr:=bg (st:=u0) MA MB D6
 have b30:=Zr.binds (ps:=["self","a","b"]) λ_ _ _ _ _ _=>iA (λ_ _ _=>rfl)
 have Zs:=bg (st:=u3) MD ME MF
 have b31:=Zs.binds (ps:=["field","rows","width"]) λ_ _ _ _ _ _=>iA (λ_ _ _=>rfl)
 have Zt:=bg (st:=u5) MG MH D7
 have b32:=Zt.binds (ps:=["self","field","checks"]) λ_ _ _ _ _ _=>iA (λ_ _ _=>rfl)
 have Zu:=bg (st:=u6) MJ MK ML
 have b33:=Zu.binds (ps:=["field","length"]) λ_ _ _ _ _ _=>dm (λ_ _=>rfl)
 have Zv:=bg (st:=u7) MM MN MP
 have b34:=Zv.binds (ps:=["self","field","length"]) λ_ _ _ _ _ _=>iA (λ_ _ _=>rfl)
 have Zw:=bg (st:=u9) MR MS MT
 have b35:=Zw.binds (ps:=["_law_script","_law_length_here","_law_sign","_law_many_here"]) λ_ _ _ _ _ _=>zf (λ_ _ _ _=>rfl)
 have Zx:=bg (st:=va) MV MW MX
 have b36:=Zx.binds (ps:=["_law_script","_law_k"]) λ_ _ _ _ _ _=>dm (λ_ _=>rfl)
 have Zy:=bg (st:=vb) MZ M0 M1
 have b37:=Zy.binds (ps:=["_law_field_here","_law_length_here"]) λ_ _ _ _ _ _=>dm (λ_ _=>rfl)
 have Zz:=bg (st:=vd) M4 M5 M6
 have b38:=Zz.binds (ps:=["signs","length"]) λ_ _ _ _ _ _=>dm (λ_ _=>rfl)
 have ZA:=bg (st:=ve) M7 M8 Al
 have b39:=ZA.binds (ps:=["self","x"]) λ_ _ _ _ _ _=>dm (λ_ _=>rfl)
 have ZC:=bg (st:=vg) Na Nb Nc
 have b40:=ZC.binds (ps:=["field","signs"]) λ_ _ _ _ _ _=>dm (λ_ _=>rfl)
 have ZD:=bg (st:=vh) Nd Nf D8
 have b41:=ZD.binds (ps:=["self","xs","ys"]) λ_ _ _ _ _ _=>iA (λ_ _ _=>rfl)
 have ZE:=bg (st:=vi) Ng Nh D9
 have b42:=ZE.binds (ps:=["self","xs","ys"]) λ_ _ _ _ _ _=>iA (λ_ _ _=>rfl)
 have ZF:=bg (st:=vj) Nj Nk Nl
 have b43:=ZF.binds (ps:=["table"]) λ_ _ _ _ _ _=>eS (λ_=>rfl)
 have ZG:=bg (st:=vk) Nn Np Nq
 have b44:=ZG.binds (ps:=["field","row","table"]) λ_ _ _ _ _ _=>iA (λ_ _ _=>rfl)
 have ZH:=bg (st:=vm) Nr Nt Ea
 have b45:=ZH.binds (ps:=["self","message"]) λ_ _ _ _ _ _=>dm (λ_ _=>rfl)
 have ZI:=bg (st:=vn) Nu Nv Eb
 have b46:=ZI.binds (ps:=["self"]) λ_ _ _ _ _ _=>eS (λ_=>rfl)
 have ZJ:=bg (st:=zo) Nw Nx Ec
 have b47:=ZJ.binds (ps:=["self"]) λ_ _ _ _ _ _=>eS (λ_=>rfl)
 have ZK:=bg (st:=zr) Ny Nz Ee
 have b48:=ZK.binds (ps:=["self"]) λ_ _ _ _ _ _=>eS (λ_=>rfl)
 have ZL:=bg (st:=vo) NA NB Ef
 have b49:=ZL.binds (ps:=["self"]) λ_ _ _ _ _ _=>eS (λ_=>rfl)
 have ZM:=bg (st:=vp) NC ND Eg
 have b50:=ZM.binds (ps:=["self"]) λ_ _ _ _ _ _=>eS (λ_=>rfl)
 have ZN:=bg (st:=vq) NF NG Eh
 have b51:=ZN.binds (ps:=["self"]) λ_ _ _ _ _ _=>eS (λ_=>rfl)
 have ZO:=bg (st:=vt) NH NI Ei
 have b52:=ZO.binds (ps:=["self"]) λ_ _ _ _ _ _=>eS (λ_=>rfl)
 have ZP:=bg (st:=vv) NK NL NM
 have b53:=ZP.binds (ps:=["_law_told_here","_law_length_here"]) λ_ _ _ _ _ _=>dm (λ_ _=>rfl)
 have ZQ:=bg (st:=vw) NO NP NQ
 have b54:=ZQ.binds (ps:=["field","table","column"]) λ_ _ _ _ _ _=>iA (λ_ _ _=>rfl)
 have ZR:=bg (st:=vx) NR NS Ej
 have b55:=ZR.binds (ps:=["self","word"]) λ_ _ _ _ _ _=>dm (λ_ _=>rfl)
 have ZS:=bg (st:=vy) NT NU Ek
 have b56:=ZS.binds (ps:=["self","word"]) λ_ _ _ _ _ _=>dm (λ_ _=>rfl)
 have ZT:=bg (st:=vz) NW NX NY
 have b57:=ZT.binds (ps:=["field","signs"]) λ_ _ _ _ _ _=>dm (λ_ _=>rfl)
 have ZU:=bg (st:=vA) NZ N0 El
 have b58:=ZU.binds (ps:=["self","word"]) λ_ _ _ _ _ _=>dm (λ_ _=>rfl)
 have ZV:=bg (st:=vB) N2 N3 N4
 have b59:=ZV.binds (ps:=["signs","sent"]) λ_ _ _ _ _ _=>dm (λ_ _=>rfl)
 have ZW:=bg (st:=zt) N6 N7 N8
 have b60:=ZW.binds (ps:=["signs"]) λ_ _ _ _ _ _=>eS (λ_=>rfl)
 have ZX:=bg (st:=vC) N9 Oa Em
 have b61:=ZX.binds (ps:=["self","word"]) λ_ _ _ _ _ _=>dm (λ_ _=>rfl)
 have ZY:=bg (st:=vD) Ob Oc Eo
 have b62:=ZY.binds (ps:=["self","word"]) λ_ _ _ _ _ _=>dm (λ_ _=>rfl)
 have ZZ:=bg (st:=vE) Oe Of Og
 have b63:=ZZ.binds (ps:=["_law_code","_law_told_here","_law_length_here","_law_sign"]) λ_ _ _ _ _ _=>zf (λ_ _ _ _=>rfl)
 have Z0:=bg (st:=mD) kK Oh Oi
 have b64:=Z0.binds (ps:=["_law_script"]) λ_ _ _ _ _ _=>eS (λ_=>rfl)
 have T:Txt K mg ⟨f0,_,f1,_,f2,_,f3,_,f4,_,f5,_,f6,_,f7,_,f8,_,f9,_,Dz,_,DA,_,kq,_,vO,_,DB,_,DC,_,DD,_,DE,_,DF,_,vP,_,vQ,_,vR,_,vS,_,DG,_,kr,_,DH,_,DI,_,DJ,_,DK,_,vT,_,vU,_,DL,_,Aj,_,DM,_,vV,_,DN,_,DO,_,DP,_,DQ,_,nQ,_,DR,_,vW,_,vX,_,DS,_,DT,_,vY,_,vZ,_,v3,_,v7,_,v9,_,wa,_,wb,_,wc,_,DU,_,DV,_,wd,_,we,_,DW,_,wg,_,DX,_,DY,_,wj,_,wk,_,DZ,_,fa,_,Ah,i4,Ai,i5,az,dH,fK,jt,iB,cZ,iC,aB,aO⟩:=⟨F0,mg_of X G a0,b0,F1,mg_of X G a1,b1,F2,mg_of X G a2,b2,F3,mg_of X G a3,b3,F4,b4,F5,b5,F6,mg_of X G a6,b6,F7,b7,F8,mg_of X G a8,b8,F9,mg_of X G a9,b9,Y6,mg_of X G Lk,b10,Y7,mg_of X G Ln,b11,Y8,mg_of X G Lr,b12,Y9,b13,Za,mg_of X G LA,b14,Zb,mg_of X G LF,b15,Zc,mg_of X G LK,b16,Ze,mg_of X G LO,b17,Zf,mg_of X G LS,b18,Zg,b19,Zh,b20,Zi,b21,Zj,b22,Zk,mg_of X G L9,b23,Zl,b24,Zm,mg_of X G Mg,b25,Zn,mg_of X G Ml,b26,Zo,mg_of X G Mp,b27,Zp,mg_of X G Mt,b28,Zq,b29,Zr,b30,Zs,mg_of X G MC,b31,Zt,b32,Zu,mg_of X G MI,b33,Zv,b34,Zw,mg_of X G MQ,b35,Zx,mg_of X G MU,b36,Zy,mg_of X G MY,b37,Zz,mg_of X G M3,b38,ZA,b39,ZC,mg_of X G M9,b40,ZD,b41,ZE,b42,ZF,mg_of X G Ni,b43,ZG,mg_of X G Nm,b44,ZH,b45,ZI,b46,ZJ,b47,ZK,b48,ZL,b49,ZM,b50,ZN,b51,ZO,b52,ZP,mg_of X G NJ,b53,ZQ,mg_of X G NN,b54,ZR,b55,ZS,b56,ZT,mg_of X G NV,b57,ZU,b58,ZV,mg_of X G N1,b59,ZW,mg_of X G N5,b60,ZX,b61,ZY,b62,ZZ,mg_of X G Od,b63,Z0,mg_of X G Ep,b64,rfl,Lj,rfl,Lz,⟨Er,Es,at2,Et⟩,⟨zx,Oj,Ol,Om⟩,⟨⟨Er,Es,at2,Et⟩,Oo,Oq,Ot,Ou⟩,zy,CW,CY,CZ,nL,qg,C2,qh,C3,nM,C4,zA,zB,C5,⟨zC,Ov,D8⟩,⟨zD,Ow,Al⟩,⟨zE,Ox,D2⟩,⟨zF,Oy,D4⟩,⟨zG,Oz,Ak⟩,⟨zH,OA,D0⟩,⟨vF,OB,k4⟩,⟨C6,OC,Ec⟩,⟨Eu,Ew,Ey,Ez⟩,⟨zI,OD,OE,OF⟩,⟨⟨Eu,Ew,Ey,Ez⟩,OG,OH,OI,OJ⟩,C7,C8,C9,Dc,qi,qj,De,vG,mE,Df,Dg,zJ,zK,Dh,⟨zL,OK,D9⟩,⟨zM,OL,Al⟩,⟨zN,OM,D3⟩,⟨zO,ON,D6⟩,⟨zP,OO,Ak⟩,⟨zQ,OP,D1⟩,⟨vH,OQ,k4⟩,⟨Di,OR,Ee⟩,⟨EA,EB,EC,ED⟩,⟨vI,OS,OT,OU⟩,⟨⟨EA,EB,EC,ED⟩,OV,OW,OX,OY⟩,Dj,qk,kH,jQ,Dk,Dm,ql,Dn,Dq,Dr,qm,Ds,Dt,qo,⟨zR,OZ,Ei⟩,⟨zS,O0,Eb⟩,⟨zT,O1,Ej⟩,⟨vJ,O2,Em⟩,⟨zU,O3,Ek⟩,⟨zV,O4,El⟩,⟨zW,O5,Eg⟩,⟨zX,O6,Eo⟩,⟨zY,O7,Eh⟩,⟨zZ,O8,Ef⟩,⟨z0,O9,Ea⟩,⟨Pa,Pb,Pc,D7⟩,⟨Pd,Pe,Pf,k5⟩,mg_none_of X G Pg,mg_none_of X G Ph,mg_none_of X G Pj,mg_none_of X G Pk,mg_none_of X G Pl,mg_none_of X G Pm,mg_none_of X G Pn,mg_none_of X G Po,mg_none_of X G Pp,mg_none_of X G Pq,mg_none_of X G Pr,mg_none_of X G Pt,mg_of X G z9,mg_of X G Aa,mg_of X G Ab,mg_of X G vK,mg_of X G Ac,mg_of X G vL,mg_of X G Ad,mg_of X G Ae,mg_of X G vM,Tu (mg_of X G Aa) Pw,⟨Pu,Px,Py,Pz,PB,PC,PD,PF⟩,tG PK Am An PH,tG PM Ap Aq PL,Tx Ao EE EF PN,Tw rfl (by decide +kernel) PQ,Tu (mg_of X G vL) PR,⟨Ao,PU,PV,PY,PZ,P0,P1,P2⟩,tG P5 Am An P4,tG P7 Ap Aq P6,Tx Ao EE EF P8,Tw rfl (by decide +kernel) P9,tG rfl Am An Qa,tG rfl Ap Aq Qb⟩
 exact⟨fnOf "law" "law" (aZ mD) (aS mD) (ao mD) .none Yw Yx Yy Yv Lh Yz,λs v=>.of_eq rfl,λbase _ _ hB=>(cB3 T hB).imp λvs H Q E h=>let z:=cc6 nl h;⟨λP hP=>z.1 P (sub P hP),z.2⟩⟩
theorem aH9{K:Frag}{h:Heap}{c f k P:Addr}{od an:Option Addr}{sl:Array (Option Value)}{oc kV dc pm ct kt:Value}{ko:Option Addr}{ks:Array (Option Value)}{kf:Array Value}(X:K.In h)(a:nsIn K mainGlobals "PrimeField"=some (some (.ref c)))(b:findIn K (.ref c) "__init__"=some (some (.ref f)))
  (l:K.lookup f=some ⟨oc,od,.func (fnOf "__init__" "PrimeField.__init__" (aZ mB) (aS mB) (ao mB) .none kV dc pm an (.ref k) ct),sl⟩) (lk:K.lookup k=some ⟨kt,ko,.fields kf,ks⟩) (lp:kf[11]?=some (.ref P)) (n:K.lookup P=none) (e:codeHdIn K k P=true):K.lookup P=none/\∃c,CodeHd h c P:=⟨n,k,PySem.W.codeHd_of_K X e⟩
theorem aK8{K:Frag}{h:Heap}{c f k P:Addr}{od an:Option Addr}{sl:Array (Option Value)}{oc kV dc pm ct kt:Value}{ko:Option Addr}{ks:Array (Option Value)}{kf:Array Value}(X:K.In h)(a:nsIn K mainGlobals "BitField"=some (some (.ref c)))(b:findIn K (.ref c) "__init__"=some (some (.ref f)))
  (l:K.lookup f=some ⟨oc,od,.func (fnOf "__init__" "BitField.__init__" (aZ mC) (aS mC) (ao mC) .none kV dc pm an (.ref k) ct),sl⟩) (lk:K.lookup k=some ⟨kt,ko,.fields kf,ks⟩) (lp:kf[11]?=some (.ref P)) (n:K.lookup P=none) (e:codeHdIn K k P=true):K.lookup P=none/\∃c,CodeHd h c P:=⟨n,k,PySem.W.codeHd_of_K X e⟩
theorem walk{l:PySem.W.OpenLaw}{q:Program}{loose:List Str}{XP:(Str->Option Value)->Heap->Prop}{YP:World->Heap->Prop}{d:DefRec}{K:Params->Frag}{ts:List Addr}(hn:l.most=some 63)(xo:d.params.defaults=[])
  (hY:∀(w:World) (h:Heap),YP w h->(K w.params).In h/\∀P∈ts,h.get? P=some (PySem.W.tabObj #[]))
  (hC:∀(w:World) (h:Heap),(K w.params).In h->∀P∈ts,(K w.params).lookup P=none/\∃c,CodeHd h c P)
  (F:∀(w:World) (mg:Str->Option Value) (fa:Addr) (h:Heap),(K w.params).In h->h.Ns mainGlobals mg->mg d.name=some (.ref fa) ->
   ∃fd:FuncData,(∀(s:Shared) (u:Value),BindsTo s fd ⟨[u],[]⟩ [("_law_script",u)])/\∀base:Heap,(K w.params).In base->base.Ns mainGlobals mg->Bm mg base->aK l.prog w (K w.params) mg base aR 11 fa fd ["_law_script"] (B9 ts (K w.params))) :
  PySem.W.WalkO q loose XP YP l.row.toRowW d [] (λf vs=>PySem.call f vs) :=
 L2.dv9 (n:=63) (k:=11) (x:="_law_script") (CX:=λ_=>aR) (sp:=λw=>B9 ts (K w.params)) hn (by decide) xo ⟨rfl,by decide,by decide⟩ hY hC F (λ_ _ a ns hl hO hS=>⟨a,ns,rfl,hO,hS,hl,λ_=>rfl⟩) λ_ _ _ _ _ z=>z
end HK32
set_option genInjectivity false in
set_option genSizeOf false in
structure PySem.W.Fast:Prop where
 (tw12925778645784262656 tw4207852386999784704 tw6933846534210870528 tw13116975798831411456 tw5277228175890600224 tw10515108132399175968 tw8051253248373350688 tw2336927604202637728 tw6431500911260931488 tw9648071690005263776 tw9583162467724423584 tw11322235593623314912 tw4992447407345996288 tw7099502806672392704 tw9109187676578312704 tw11506369853902541344 tw14523266079094019648 tw4765583472495381088 tw7318641865700521632 tw9159040087224986400 tw380118647644542784 tw9336673446692065120 tw17313903430284363648 tw14292920739471529888 tw3592183014600122272 tw7105419566271577024 tw4122714111302885312 tw12642976184274613184 tw2739582721088268256 tw11494357774613254145 tw9242201179809263617 tw10103286130984501281 tw558242991682681889 tw17741445198771486785 tw6265883965127673921 tw6895232325536586849 tw15417329121519718497 tw14745869861843215489 tw5807448558038063297 tw12675169246365049025:True)
 (tw9794933908877457633 tw5426862046206969057 tw14797543965743367393 tw4851786072390588641 tw8445562465696782593 tw2220498632376586529 tw5479437485385358625 tw2532442503180548385 tw9959567420727983393 tw15797163779832712513 tw7495114238532657473 tw1380515879365458241 tw9783266589225204033 tw15458780972507769185 tw11142946778253341025 tw14350051506303907169 tw16168487737432958305 tw13358873552777445761 tw12497810490862151041 tw17295254274125921697 tw10187602359009747393 tw7494356034833232321 tw13939986305548744161 tw1924374555206700545 tw6445251666135644737 tw10415324346830196321 tw13744295011754021473 tw11598200301799786081 tw6111272173146931873 tw8782673540674392737 tw13075774391949294305 tw12524706691719697153 tw3955378969830992641 tw3116383775411251009 tw7019753041369772865 tw8602196632059264865 tw2350774313881937793 tw4923502528178896865 tw12988396219973069793 tw10801475354776331266:True)
 (tw843621296687541250 tw5095684752252455970 tw4230933532493777026 tw10166755379265975458 tw2264906731133163682 tw5154798106468241602 tw661376604986718466 tw10277611594710706498 tw11314011844710862178 tw6011381133934423426 tw11281271579843272130 tw3658044339318378978 tw9404889167494608354 tw9764001660688086530 tw12201973019944498690 tw3176823463936987682 tw6385016036882099778 tw16087086207453077154 tw14049433291656328930 tw12526485420757089026 tw13277998968539099938 tw6913590657737226018 tw6610215179278104418 tw8604735273699753826 tw1159221724146853762 tw8114220016825568226 tw13219489301386053602 tw598567480695838690 tw9731472089787021347 tw17904968459243548707 tw15138598389768753347 tw7600569712760841411 tw10106477898378413283 tw18387158627595261155 tw15089509095869632739 tw16204273545409315107 tw17343895916479280451 tw16583012777096214851 tw16247338949438955843 tw1849405173425143139:True)
 (tw14029402577834917251 tw3196491175390113219 tw8254876004070561251 tw5258072596880431587 tw10948267064907937315 tw11298504496314794563 tw8862054430916176451 tw2126090153127988835 tw9620261651366018691 tw12053673989537672899 tw13859430175103723267 tw2579137886507375459 tw537575049156008835 tw7734570404745292675 tw14346346219428194308 tw12716149072117611588 tw10635272557083775044 tw14414525469290437828 tw6997546451079620804 tw4620742371081744612 tw15234092999156057412 tw2467618711297202532 tw15978236791717117284 tw6650121311417917828 tw14605789256760592836 tw18425315510841764292 tw10028092571230380516 tw17791723480725778916 tw17061094027486246404 tw3869956123335447076 tw8952252558346946116 tw3622802475309120068 tw4012201546057747172 tw9778728007920652004 tw10469445173478896420 tw10394821949188420420 tw7020991267038750564 tw17106365160249365412 tw10789112139721779140 tw5258571146284158916:True)
 (tw12568703700493596837 tw6493882327354528997 tw10563261375006798053 tw3884967298020778245 tw12355566612081365285 tw8525617036813644101 tw15971416613862224197 tw3359417965469080933 tw14745277133850191333 tw6181850679951513061 tw10470286122206294501 tw7189737938512720485 tw14076433120756724325 tw183500694065946245 tw1010344555261112965 tw4833267802741865125 tw7149219769333070533 tw15429979490727806725 tw7558325329231529765 tw14395458905395930981 tw11984339444155936677 tw4038211308969894918 tw7407621081090793510 tw4963661662571907110 tw6987296441176249382 tw16927758328282001478 tw4680257766825286726 tw8689304878808755302 tw284510515215407238 tw4435837633269055654 tw8903520324178701478 tw8413150801137075398 tw16752141218312950982 tw5603052552239369414 tw16758981604758747334 tw13785562397316852966 tw7957995373981103366 tw11389708942548258054 tw15238412684506789222 tw6484669112768508326:True)
 (tw5386932989849157030 tw5115059069555654086 tw14382110339066311142 tw14887679827162416614 tw9272209456241013222 tw4685988735526266566 tw3256839651548694246 tw4120816513780157158 tw2665127666916706022 tw8389752391295097606 tw12348587686962029318 tw12865990212519404326 tw12092909706571640646 tw15779697940455920550 tw15193103619921619878 tw16496859192404694023 tw8045466498178317351 tw13215703684115569703 tw15036606685558649959 tw13471883846651300007 tw9168255395483326663 tw15621508852131169607 tw3535840722497003847 tw6864518699754818919 tw9804730491686316455 tw11139185796170600935 tw3008520079096274407 tw6909706596739763719 tw3750057581738712583 tw11472857623188807207 tw8782237166664003111 tw10339412683986610759 tw4636119351785832007 tw6630617303388653159 tw16778398829823199911 tw7050760487376670375 tw1271021958560278183 tw8754991983994346183 tw9485287874065197799 tw13265062645914242791:True)
 (tw11274302969299221255 tw718743074912194343 tw7010293109476589383 tw16023538792293941159 tw4787080871853809607 tw7650193571583495143 tw10831670760910825447 tw11979376474836452392 tw6114902304027429928 tw15970748346864761928 tw17325770302134618216 tw8683935223332945032 tw5472597632274146440 tw9757646563777858728 tw10329484179715801320 tw998204431580223720 tw17658142121802732840 tw4522884615664740648 tw3184034956382640520 tw15270823003822563720 tw10209391097457716648 tw3232527807564741032 tw16483188890961591816 tw1612928979265432136 tw17321608787037320776 tw83627195802495592 tw2920121251193130632 tw8607995768079491752 tw14827554395226956488 tw8110586527252361992 tw1353521988961942312 tw18319487769284428584 tw15907974609297365800 tw11957171930333808456 tw15863288472208363368 tw4681874127629251464 tw8974954119332558728 tw6637685887603302312 tw5650194887054726120 tw15311717102805693416:True)
 (tw4374958778677201929 tw15396858933570364457 tw8598204115140484169 tw11100572244432284745 tw9873646566451131497 tw13155276963134600329 tw6501493348375334057 tw3841176787256272041 tw11143170843525679337 tw10764915430072016233 tw15393020583176043945 tw4279832155690761641 tw11664106376142167497 tw1720904561299174857 tw16442956540881204681 tw13104240049619750409 tw9758647037599201865 tw16329705916851166825 tw12328963039343847017 tw14770099643857109641 tw3731093219916122761 tw2997285260945262313 tw4353401241761138409 tw9282183933573024521 tw9565652712704833289 tw13595081193526283049 tw5930103614219825001 tw6750198039915233129 tw16661287769123449801 tw8771134809617072105 tw17299632312623464425 tw13686055947964145674 tw17273963608860759082 tw16681666934416153674 tw11903680060498236522 tw13377555338039262346 tw10430973993666478250 tw2387540133773618346 tw8473546679717689514 tw12894954991930851530:True)
 (tw10624720012744286442 tw12147829470239844586 tw15504092844586432746 tw287966678542286122 tw3449546018823223626 tw4776409951354580298 tw14827430559378647402 tw3349171258313030026 tw18057793766071302730 tw6268916721415110346 tw7385035249068661482 tw14267860148331546378 tw8898292267039953674 tw3252565035216515882 tw12927033595793370922 tw4872135427254793034 tw11093873008927809450 tw12914866965294760874 tw13436763209899559850 tw12142845784893078474 tw2653783509030287338 tw3698054870163556523 tw14904980328010700971 tw9758988140303023275 tw13046242218438260939 tw10243461093302307051 tw6088194508718791915 tw3220604893781319915 tw7391536373824021803 tw5510393950442320171 tw13868594305756141931 tw468152934030924139 tw4911796518773390699 tw8554642713477656971 tw16005554931488606603 tw14412868113424651723 tw17034653937027833323 tw12338338497133059627 tw2635860171194477099 tw8721582433457427019:True)
 (tw15749743456438264427 tw12686843980777136779 tw10383811187637567115 tw13491372686376126155 tw17222080767478530827 tw17290788106817777419 tw15343722044757104427 tw18185585398914408235 tw6580536905646134091 tw13672676765063797643 tw17816634042900090795 tw7871058968785047467 tw3061177290291969963 tw4543845169520327627 tw9277995622222851019 tw6667753627256265707 tw935543355559517196 tw9798965671440670764 tw4419951069386277964 tw8872796358638367852 tw9373405584219166860 tw2168428208119937164 tw274827301200102668 tw12321622984475207948 tw1395850638234091820 tw17122519813090916684 tw15929636692649060716 tw15063278763415784812 tw4339400570565905836 tw257590015425993132 tw14562171244504989132 tw12982172562493398476 tw8878651648204243436 tw6973747196028394988 tw1013389043239972332 tw15636595030862134764 tw16176067932899465740 tw15803629415412435500 tw3126465912345338412 tw18105277547316134476:True)
 (tw3078741680556187244 tw7864019915628868204 tw14612391422367689356 tw14678156906202474284 tw2100632303149721420 tw17603246673291094860 tw650716392908077900 tw18225789762778118988 tw18188419290562190156 tw1434310082779170700 tw8345533009033120652 tw6045269301439930284 tw1804546564304400300 tw15629409516647361484 tw5194766586312802252 tw15852613330140905420 tw6839971252848212972 tw1379377214350305260 tw4379850626168291341 tw16533602163066632205 tw163469586152468525 tw12164779575685143597 tw12508385276907028589 tw11800919164788015213 tw14467364669118924909 tw3581897763492949101 tw6616405457483437197 tw7615502857450800301 tw437392365160337581 tw4419507010368715981 tw9611785292766079181 tw1557809347013307597 tw10942894623718506733 tw9373886795204017389 tw6625287428161655021 tw7300003936691093837 tw5402823890253668685 tw13204084378395566445 tw4970882911755525549 tw15616942078169788877:True)
 (tw15409066799824627277 tw2426495614081232525 tw12928679828735687309 tw150353111886573229 tw14168480849555905197 tw7761754054010684141 tw8918749635519300365 tw13759529798747882317 tw16684708639800791885 tw4151744225867060045 tw13278590789806907213 tw822842818030791501 tw4279606929073967981 tw11600870588874753005 tw13493311552220609582 tw6404116127028508718 tw107165698262563886 tw16489600551549207630 tw14156196859089144910 tw15412469342192391246 tw6679469703442172014 tw7772223732794364046 tw11419999726418401422 tw13141309064119987342 tw7772497531366465678 tw2579259857630424206 tw71263096243003566 tw12996994739128183982 tw10285032282505663662 tw3032878051888874862 tw2957028316697688494 tw13620480845046577582 tw10121670979148557838 tw1700279049866005006 tw16209298117927337486 tw10736437746604971566 tw4670428343075382862 tw15810123327877429838 tw4716460214940837486 tw1816482646028405390:True)
 (tw12081666576478359182 tw8436516037760737966 tw17717494900680882862 tw15067240576339577646 tw4271348395982509870 tw7313717957498755886 tw14164678844021538702 tw3204588168507090926 tw18036035817658613935 tw8367278815295085775 tw2833756856508202223 tw6209445333159980303 tw15740344734728848783 tw14394541679968892303 tw10743022874254138799 tw921200001237511599 tw5684302224821194191 tw14314159918311929327 tw5368829823101908559 tw7862806716943611503 tw12406350399578155695 tw4603473348081046191 tw5603968947106148015 tw7307455600009413327 tw13640208781251188431 tw17090572989154747087 tw5216834465100571375 tw15348346775393609455 tw5878964006152662767 tw11326723959231391503 tw7879816896372173583 tw12240847461823986511 tw7450920686254651215 tw3808635062757138319 tw1977191773931849615 tw17673033897013987215 tw3217685291129051152 tw7242008129009440816 tw3811041652619482192 tw5680012405940353104:True)
 (tw18171460924209740944 tw13985916333014331600 tw7874157204897090768 tw6279361316941870416 tw17948091922490032496 tw7929364699231503728 tw14753087560117888400 tw7558729216997767568 tw16394078361255963056 tw16851746062399432144 tw10167758686314363344 tw4027713062143603184 tw16901197552135178832 tw5205721657418689104 tw17494074030399915664 tw6687385973900940976 tw12893431370570730224 tw13164498599395037936 tw12187468710184392464 tw3620160149741150000 tw15443621354295312240 tw8980019320040272784 tw5950529844743064528 tw13893151783368637424 tw11546255870168152081 tw13053541522330602705 tw13288051046999547089 tw11576502992088949009 tw4274450032996878673 tw17542742617310661009 tw13305082001515860401 tw9753769475582742961 tw5478872304263943601 tw16081692350903671249 tw12303371730709801425 tw12277964688622201329 tw16851530285917419025 tw6071743504152722961 tw14828266367043420785 tw5976203255820360305:True)
 (tw17146043044337827473 tw592836414457647793 tw6850762193318077105 tw13885545300313763537 tw18367127304625967889 tw663415751410058033 tw3077789782187836209 tw17071923089527678769 tw809373202339201905 tw16165669538044314513 tw5145434769822076817 tw6049521477500536753 tw8279872451174894545 tw2085347695588474962 tw3003755576492623986 tw7725355324163729554 tw9853196323311367314 tw1563687754731061426 tw5856560928935077042 tw16939582896177867954 tw12437963917536056530 tw15618237669367521522 tw1450597296204162322 tw5014813006754113842 tw4551548656450640274 tw3860622276626816434 tw7126445631543033266 tw15286255308075005394 tw6168449852557444594 tw6225325469724121618 tw12327521741978058258 tw17522286793846201970 tw15474538617432126066 tw1649466755155519090 tw415707198703658610 tw7017262684734628498 tw16833027553179692690 tw3135062949618592434 tw9601916898874067698 tw13766681654763032338:True)
 (tw13769040302575845138 tw8074797917457458034 tw11201008832635596690 tw18354721432921472914 tw3071574888732528562 tw1347779823366447026 tw8266892489903942578 tw11830122589310799794 tw8518234414658037714 tw4527142280404743187 tw9374199721752861747 tw13711396850810432595 tw13450299457511121011 tw16642326160030952563 tw17630560294106137747 tw15664260426225387699 tw8050465508050230451 tw9596896029929146579 tw9672237963967092947 tw7296582013571891443 tw1692119524427961587 tw14038603616183202035 tw13721862755021421843 tw12204736978103205171 tw18343773049055965523 tw5355492461799578995 tw17424022478648482163 tw12973874207336455571 tw4544461905377323411 tw10159055031585181107 tw9916341322589403603 tw952435769942659571 tw11889048506011271699 tw12608455345407904371 tw18055780140242310899 tw1385868673713196787 tw14921999846107562803 tw1115788895619569491 tw115501083416294227 tw9591809571017576307:True)
 (tw3933524855840282515 tw8920092479737645971 tw17842727000570254291 tw2937550892944189395 tw8102282570049415123 tw4606045408601720916 tw7122278387337548884 tw481859743033205908 tw10658255694760158356 tw18125229736044937364 tw11152973507563003220 tw3383559694621651316 tw3410287232886640020 tw14603315012638731700 tw13197574414528554484 tw3094465762533665268 tw5065592757983167060 tw3486062787473350228 tw5992667656616289940 tw6846040133339551412 tw11281633574689374964 tw16538128586599779060 tw11413194143154511636 tw5841616183770122068 tw8632082814782673748 tw3441660107232274324 tw15831296988275502004 tw16420335408023487509 tw3852352237708645429 tw5715306512325254293 tw11034765381153766549 tw1611913166408709269 tw12579063705300695189 tw10630887754970037397 tw9188717555467355317 tw12969153521516587189 tw226654339664748885 tw15615437350104999317 tw7233527521774328245 tw11476592220643021269:True)
 (tw18337461780384571861 tw1438000724892350933 tw14552833468134870581 tw11088822640342848085 tw5308488444227934805 tw10058189203344640629 tw8382165803784193653 tw16554772824150369013 tw2321445608946796309 tw9056970408250949397 tw13989870125817550613 tw6484418290013436693 tw17771778018823561013 tw13580030110835653461 tw17057691111158239093 tw10130126624338694005 tw4010104523323845525 tw13667090868219132885 tw11406783427451115509 tw8687429467856624662 tw13727150304462012438 tw10320325350283413558 tw13780867283232495670 tw16916932254557402198 tw4277770891330454710 tw1082031119629032694 tw12272074058388698358 tw8696924812827736342 tw5321409546891937046 tw16491044480569084214 tw10724745039886844246 tw16871314734174506422 tw14797149610707514934 tw4895103703497806422 tw18294671068230727254 tw10227383825627398742 tw14349806458908824214 tw6020976478838134454 tw14685558559757872918 tw7326536376467311382:True)
 (tw2604937676358276886 tw6924904999263535094 tw11043746170909757463 tw11043151929647863863 tw10443006946057484375 tw10402171018017976439 tw17154783088758972535 tw49156733481626807 tw1779833479912378551 tw6216453249399837879 tw15338079700907064503 tw9290728549058910423 tw15808875034341658839 tw2380578111143139543 tw10789605615477555447 tw13150149904966189303 tw11531316167694062839 tw3503950638440090903 tw2229242778600327447 tw13164716189303979383 tw4419599925733542295 tw13410363427823949239 tw15602988025127081399 tw16949056933511138775 tw16282357715837292023 tw427502941473965591 tw7282749087091289719 tw9314872926630643383 tw2184941944357433015 tw10698054773454234295 tw7324319168718473015 tw17283797165947909943 tw7108266733335510839 tw17107096538957887319 tw8332525222526965655 tw12267454061401576407 tw15730766983867805655 tw16609123378568500248 tw14518521866460927032 tw4727536040932570200:True)
 (tw10809156604967457944 tw18087867425153893592 tw62747207359677656 tw11287725616548865240 tw5168930745340520664 tw9668019775806566616 tw15612628072954966264 tw1210046217662944504 tw7967113213049721112 tw3847847004011085144 tw6220628928773731704 tw8234803319713151352 tw13146582266092465560 tw4883423047187017144 tw17755069003832990168 tw7103950791632829912 tw6767407143657458168 tw11812348460565307960 tw4303176527213543992 tw9333858900003560152 tw14438222260534821592 tw18123945618674364216 tw131174349200300920 tw8324561768122682264 tw17138565145234462616 tw18246083988459724728 tw11312777598153088984 tw18116207542001299416 tw5887360536775499768 tw14892099875141299192 tw3356640448996886520 tw1925642993833589785 tw11874655289614621753 tw4750039998979962937 tw6542103058518254681 tw18068043177181174905 tw10928084150414829817 tw3361553728264735001 tw15212990401467296089 tw13790515810093725017:True)
 (tw9200005801322127737 tw6110325251781962137 tw14554257198646275481 tw12597210250516880825 tw13001245793136781785 tw7755319484128982553 tw16491423333214578233 tw290721975122586169 tw1697159729412608633 tw12309229542046655097 tw16304860139808317081 tw8040694608500361945 tw5911970239321810681 tw17063206632466198265 tw6264111954752686873 tw11675219904926198585 tw16395106723508504377 tw12660476578720266105 tw18166420040878909337 tw10551024875836407737 tw3939086462142978009 tw561018015091578873 tw615034066855326970 tw4993854212141484346 tw7328439606587288986 tw17491490054199856570 tw8417429911259410906 tw15045589307314964986 tw12557902992872263162 tw14190116719951966746 tw12889402629967541786 tw14579110130319537722 tw6266271657282070074 tw6262502549525007962 tw15839499240460077786 tw6667191210180883194 tw836034759208286970 tw15132617828336818938 tw2023241595836002074 tw5646547307679641466:True)
 (tw4064152871201676218 tw14604150536932411386 tw13809058826456231963 tw15725106846811198523 tw7708721110904026203 tw2537141802137933915 tw14235836404473906331 tw9739512025342831771 tw8401199990633702651 tw6817466787065750811 tw3004673360895466811 tw10506921232627880283 tw17424834726330556763 tw2810348157766714747 tw9447634639096189403 tw17106054334105232955 tw6099346471721305755 tw1634572988282778363 tw230362923271111419 tw2824794907427768155 tw6168433881384788859 tw5646060836766068635 tw10506497192863906747 tw6164828371869747163 tw14751154802623203388 tw7650326042477142172 tw18135800006768978076 tw18344957261361147036 tw2531531933124096156 tw18069611295646610588 tw3874588858588804284 tw2360928576100458716 tw10588378615445657852 tw13600363969974908156 tw3098397242811738364 tw5580264739937189116 tw10893598339103651100 tw12328303634227593596 tw13446538783427341692 tw12551111871267909116:True)
 (tw13201431485963065852 tw3183762203755188764 tw11706864595581860380 tw1572615179841746492 tw16061908656577038940 tw13294675089655932540 tw17643058340438301340 tw3063101399646980796 tw10769104608139626236 tw14188536805459565340 tw11100192559246740316 tw2778245004837306204 tw12117105762609741660 tw3098573700660241276 tw8145293036289707932 tw6063046592722848668 tw911215986529426332 tw6046261958390664124 tw9284742227941451708 tw2535349394843021276 tw10997277869054483549 tw2435070181792959677 tw6382620001372179677 tw10064885310714329373 tw12124740488153684285 tw13958927737936180541 tw17845938114422323549 tw7275544597370113405 tw13395491248873091453 tw1481317222275303837 tw12138698287967177149 tw17031509392688603581 tw13034502726698444285 tw3945941537814362749 tw2799184104242204285 tw777665886713463485 tw4733821383504352061 tw13063207927061224349 tw2999441428960630717 tw16545946902922736573:True)
 (tw17144399086148320286 tw1570428437047951454 tw18310464548985631838 tw3845533063422853246 tw9847034463407706270 tw8991720366044128414 tw10252903478811027614 tw6975948400500469950 tw12081911946678723806 tw18026092565361417470 tw450893856971850078 tw5953051294244316542 tw595869084071844222 tw10902138502690311614 tw2305550789434101246 tw6306673352324516382 tw13142991444531681854 tw13319106143524095582 tw15914733154498423390 tw11601256082025965150 tw8322372999737447038 tw3119102675280222846 tw3996537190633580190 tw8704310632496943774 tw4261025295408509726 tw16811274013804334910 tw8902662572597879614 tw518157837366475582 tw18326164034652094270 tw13800959698821475166 tw7682249038670008222 tw7951436298567180190 tw6241959714244214718 tw16896195059807736766 tw8937115200762877983 tw12804109376863991839 tw4110342804484442175 tw17452197513498752063 tw8299507409209792607 tw10237657825892886623:True)
 (tw3154568615139044607 tw18172835248155017567 tw12018157938344335743 tw16864516865835654527 tw8699226695817092511 tw17221686960612348351 tw3876324581795719615 tw3046484674949334527 tw5628379614295056927 tw1421698672507693631 tw6065500961654880831 tw17158181021958007359 tw2799029903372274271 tw9784366537869033055 tw5618810834037547743 tw6267718984675309311 tw13188154728125415167 tw5384375265795748639 tw9529788770411646815 tw13764593859712629631 tw2737271932918024063 tw1071579670365447103 tw9833494114206217151 tw11981185687994956735 tw18208408315343252447 tw16033223974954050527 tw6290158160423607295 tw3486073973270719608:True)
open PySem PySem.W PyProof.Rows
set_option maxRecDepth 100000 in
set_option maxHeartbeats 0 in
theorem PySem.Challenge.cw_mendfield_k32_code_by_repeating_holds : PySem.Challenge.rw_mendfield_k32_code_by_repeating.Holds := by
 w_on;o_law;k_head;(case hw=>w_witness2)
 k_fill
 refine HK32.walk (l:=PySem.Challenge.rw_mendfield_k32_code_by_repeating) rfl rfl (λw h Y=>⟨PySem.W.km_in_of Y,PySem.W.km_tabs_of Y⟩) ?C ?F
 case C =>
  intro w h hX
  repeat' (first | exact List.forall_mem_nil _ | refine List.forall_mem_cons.mpr ⟨?_,?_⟩)
  all_goals first | (refine' HK32.aH9 hX ?a ?b ?l ?lk ?lp ?n ?e;(case a=>k_is);(case b=>k_is);(case l=>k_is);(case lk=>k_is);(case lp=>first | rfl | with_unfolding_all rfl);(case n=>kernel_rfl);(case e=>kernel_rfl)) | (refine' HK32.aK8 hX ?a ?b ?l ?lk ?lp ?n ?e;(case a=>k_is);(case b=>k_is);(case l=>k_is);(case lk=>k_is);(case lp=>first | rfl | with_unfolding_all rfl);(case n=>kernel_rfl);(case e=>kernel_rfl))
 case F =>
  intro w mg fa h KX G xp
  refine' HK32.all_mk KX G xp ?z9 ?Aa ?Ab ?vK ?Ac ?vL ?Ad ?Ae ?vM ?a0 ?l0 ?c0 ?k0 ?a1 ?l1 ?c1 ?k1 ?a2 ?l2 ?c2 ?k2 ?a3 ?l3 ?c3 ?k3 ?a4 ?l4 ?c4 ?k4 ?a5 ?l5 ?c5 ?k5 ?a6 ?l6 ?c6 ?k6 ?a7 ?l7 ?c7 ?k7 ?YA ?YB ?Lj ?a8 ?l8 ?c8 ?k8 ?a9 ?l9 ?c9 ?k9 ?Lk ?Ll ?Lm ?vN ?Ln ?Lo ?Lp ?Lq ?Lr ?Ls ?Lu ?Lv ?YC ?Lw ?Lx ?Ly ?YD ?YE ?Lz ?LA ?LB ?LC ?LD ?LF ?LG ?LH ?LJ ?LK ?LL ?LM ?LN ?LO ?LP ?LQ ?LR ?LS ?LU ?LV ?LW ?YF ?LX ?LY ?D0 ?YG ?LZ ?L4 ?D1 ?YH ?L5 ?L6 ?D2 ?YI ?L7 ?L8 ?D3 ?L9 ?Ma ?Mb ?Mc ?YJ ?Md ?Me ?Ak ?Mg ?Mh ?Mi ?Mj ?Ml ?Mm ?Mn ?Mo ?Mp ?Mq ?Mr ?Ms ?Mt ?Mu ?Mv ?Mw ?YK ?Mx ?Mz ?D4 ?YL ?MA ?MB ?D6 ?MC ?MD ?ME ?MF ?YM ?MG ?MH ?D7 ?MI ?MJ ?MK ?ML ?YN ?MM ?MN ?MP ?MQ ?MR ?MS ?MT ?MU ?MV ?MW ?MX ?MY ?MZ ?M0 ?M1 ?M3 ?M4 ?M5 ?M6 ?YO ?M7 ?M8 ?Al ?M9 ?Na ?Nb ?Nc ?YQ ?Nd ?Nf ?D8 ?YR ?Ng ?Nh ?D9 ?Ni ?Nj ?Nk ?Nl ?Nm ?Nn ?Np ?Nq ?YS ?Nr ?Nt ?Ea ?YT ?Nu ?Nv ?Eb ?YU ?Nw ?Nx ?Ec ?YV ?Ny ?Nz ?Ee ?YW ?NA ?NB ?Ef ?YX ?NC ?ND ?Eg ?YY ?NF ?NG ?Eh ?YZ ?NH ?NI ?Ei ?NJ ?NK ?NL ?NM ?NN ?NO ?NP ?NQ ?Y0 ?NR ?NS ?Ej ?Y1 ?NT ?NU ?Ek ?NV ?NW ?NX ?NY ?Y2 ?NZ ?N0 ?El ?N1 ?N2 ?N3 ?N4 ?N5 ?N6 ?N7 ?N8 ?Y3 ?N9 ?Oa ?Em ?Y4 ?Ob ?Oc ?Eo ?Od ?Oe ?Of ?Og ?Ep ?kK ?Oh ?Oi ?Er ?Es ?at2 ?Et ?zx ?Oj ?Ol ?Om ?Oo ?Oq ?Ot ?Ou ?zy ?CW ?CY ?CZ ?nL ?qg ?C2 ?qh ?C3 ?nM ?C4 ?zA ?zB ?C5 ?zC ?Ov ?zD ?Ow ?zE ?Ox ?zF ?Oy ?zG ?Oz ?zH ?OA ?vF ?OB ?C6 ?OC ?Eu ?Ew ?Ey ?Ez ?zI ?OD ?OE ?OF ?OG ?OH ?OI ?OJ ?C7 ?C8 ?C9 ?Dc ?qi ?qj ?De ?vG ?mE ?Df ?Dg ?zJ ?zK ?Dh ?zL ?OK ?zM ?OL ?zN ?OM ?zO ?ON ?zP ?OO ?zQ ?OP ?vH ?OQ ?Di ?OR ?EA ?EB ?EC ?ED ?vI ?OS ?OT ?OU ?OV ?OW ?OX ?OY ?Dj ?qk ?kH ?jQ ?Dk ?Dm ?ql ?Dn ?Dq ?Dr ?qm ?Ds ?Dt ?qo ?zR ?OZ ?zS ?O0 ?zT ?O1 ?vJ ?O2 ?zU ?O3 ?zV ?O4 ?zW ?O5 ?zX ?O6 ?zY ?O7 ?zZ ?O8 ?z0 ?O9 ?Pa ?Pb ?Pc ?Pd ?Pe ?Pf ?Pg ?Ph ?Pj ?Pk ?Pl ?Pm ?Pn ?Po ?Pp ?Pq ?Pr ?Pt ?Pu ?Y5 ?Am ?An ?Ao ?EE ?Ap ?Aq ?EF ?Pw ?Px ?Py ?Pz ?PB ?PC ?PD ?PF ?PH ?PK ?PL ?PM ?PN ?PQ ?PR ?PU ?PV ?PY ?PZ ?P0 ?P1 ?P2 ?P4 ?P5 ?P6 ?P7 ?P8 ?P9 ?Qa ?Qb ?nl ?sub
  (case z9=>k_is)
  (case Aa=>k_is)
  (case Ab=>k_is)
  (case vK=>k_is)
  (case Ac=>k_is)
  (case vL=>k_is)
  (case Ad=>k_is)
  (case Ae=>k_is)
  (case vM=>k_is)
  (case a0=>k_is)
  (case l0=>k_is)
  (case c0=>k_is)
  (case k0=>k_is)
  (case a1=>k_is)
  (case l1=>k_is)
  (case c1=>k_is)
  (case k1=>k_is)
  (case a2=>k_is)
  (case l2=>k_is)
  (case c2=>k_is)
  (case k2=>k_is)
  (case a3=>k_is)
  (case l3=>k_is)
  (case c3=>k_is)
  (case k3=>k_is)
  (case a4=>k_is)
  (case l4=>k_is)
  (case c4=>k_is)
  (case k4=>k_is)
  (case a5=>k_is)
  (case l5=>k_is)
  (case c5=>k_is)
  (case k5=>k_is)
  (case a6=>k_is)
  (case l6=>k_is)
  (case c6=>k_is)
  (case k6=>k_is)
  (case a7=>k_is)
  (case l7=>k_is)
  (case c7=>k_is)
  (case k7=>k_is)
  (case YA=>k_is)
  (case YB=>first | rfl | with_unfolding_all rfl)
  (case Lj=>kernel_rfl)
  (case a8=>k_is)
  (case l8=>k_is)
  (case c8=>k_is)
  (case k8=>k_is)
  (case a9=>k_is)
  (case l9=>k_is)
  (case c9=>k_is)
  (case k9=>k_is)
  (case Lk=>k_is)
  (case Ll=>k_is)
  (case Lm=>k_is)
  (case vN=>k_is)
  (case Ln=>k_is)
  (case Lo=>k_is)
  (case Lp=>k_is)
  (case Lq=>k_is)
  (case Lr=>k_is)
  (case Ls=>k_is)
  (case Lu=>k_is)
  (case Lv=>k_is)
  (case YC=>k_is)
  (case Lw=>k_is)
  (case Lx=>k_is)
  (case Ly=>k_is)
  (case YD=>k_is)
  (case YE=>first | rfl | with_unfolding_all rfl)
  (case Lz=>kernel_rfl)
  (case LA=>k_is)
  (case LB=>k_is)
  (case LC=>k_is)
  (case LD=>k_is)
  (case LF=>k_is)
  (case LG=>k_is)
  (case LH=>k_is)
  (case LJ=>k_is)
  (case LK=>k_is)
  (case LL=>k_is)
  (case LM=>k_is)
  (case LN=>k_is)
  (case LO=>k_is)
  (case LP=>k_is)
  (case LQ=>k_is)
  (case LR=>k_is)
  (case LS=>k_is)
  (case LU=>k_is)
  (case LV=>k_is)
  (case LW=>k_is)
  (case YF=>k_is)
  (case LX=>k_is)
  (case LY=>k_is)
  (case D0=>k_is)
  (case YG=>k_is)
  (case LZ=>k_is)
  (case L4=>k_is)
  (case D1=>k_is)
  (case YH=>k_is)
  (case L5=>k_is)
  (case L6=>k_is)
  (case D2=>k_is)
  (case YI=>k_is)
  (case L7=>k_is)
  (case L8=>k_is)
  (case D3=>k_is)
  (case L9=>k_is)
  (case Ma=>k_is)
  (case Mb=>k_is)
  (case Mc=>k_is)
  (case YJ=>k_is)
  (case Md=>k_is)
  (case Me=>k_is)
  (case Ak=>k_is)
  (case Mg=>k_is)
  (case Mh=>k_is)
  (case Mi=>k_is)
  (case Mj=>k_is)
  (case Ml=>k_is)
  (case Mm=>k_is)
  (case Mn=>k_is)
  (case Mo=>k_is)
  (case Mp=>k_is)
  (case Mq=>k_is)
  (case Mr=>k_is)
  (case Ms=>k_is)
  (case Mt=>k_is)
  (case Mu=>k_is)
  (case Mv=>k_is)
  (case Mw=>k_is)
  (case YK=>k_is)
  (case Mx=>k_is)
  (case Mz=>k_is)
  (case D4=>k_is)
  (case YL=>k_is)
  (case MA=>k_is)
  (case MB=>k_is)
  (case D6=>k_is)
  (case MC=>k_is)
  (case MD=>k_is)
  (case ME=>k_is)
  (case MF=>k_is)
  (case YM=>k_is)
  (case MG=>k_is)
  (case MH=>k_is)
  (case D7=>k_is)
  (case MI=>k_is)
  (case MJ=>k_is)
  (case MK=>k_is)
  (case ML=>k_is)
  (case YN=>k_is)
  (case MM=>k_is)
  (case MN=>k_is)
  (case MP=>k_is)
  (case MQ=>k_is)
  (case MR=>k_is)
  (case MS=>k_is)
  (case MT=>k_is)
  (case MU=>k_is)
  (case MV=>k_is)
  (case MW=>k_is)
  (case MX=>k_is)
  (case MY=>k_is)
  (case MZ=>k_is)
  (case M0=>k_is)
  (case M1=>k_is)
  (case M3=>k_is)
  (case M4=>k_is)
  (case M5=>k_is)
  (case M6=>k_is)
  (case YO=>k_is)
  (case M7=>k_is)
  (case M8=>k_is)
  (case Al=>k_is)
  (case M9=>k_is)
  (case Na=>k_is)
  (case Nb=>k_is)
  (case Nc=>k_is)
  (case YQ=>k_is)
  (case Nd=>k_is)
  (case Nf=>k_is)
  (case D8=>k_is)
  (case YR=>k_is)
  (case Ng=>k_is)
  (case Nh=>k_is)
  (case D9=>k_is)
  (case Ni=>k_is)
  (case Nj=>k_is)
  (case Nk=>k_is)
  (case Nl=>k_is)
  (case Nm=>k_is)
  (case Nn=>k_is)
  (case Np=>k_is)
  (case Nq=>k_is)
  (case YS=>k_is)
  (case Nr=>k_is)
  (case Nt=>k_is)
  (case Ea=>k_is)
  (case YT=>k_is)
  (case Nu=>k_is)
  (case Nv=>k_is)
  (case Eb=>k_is)
  (case YU=>k_is)
  (case Nw=>k_is)
  (case Nx=>k_is)
  (case Ec=>k_is)
  (case YV=>k_is)
  (case Ny=>k_is)
  (case Nz=>k_is)
  (case Ee=>k_is)
  (case YW=>k_is)
  (case NA=>k_is)
  (case NB=>k_is)
  (case Ef=>k_is)
  (case YX=>k_is)
  (case NC=>k_is)
  (case ND=>k_is)
  (case Eg=>k_is)
  (case YY=>k_is)
  (case NF=>k_is)
  (case NG=>k_is)
  (case Eh=>k_is)
  (case YZ=>k_is)
  (case NH=>k_is)
  (case NI=>k_is)
  (case Ei=>k_is)
  (case NJ=>k_is)
  (case NK=>k_is)
  (case NL=>k_is)
  (case NM=>k_is)
  (case NN=>k_is)
  (case NO=>k_is)
  (case NP=>k_is)
  (case NQ=>k_is)
  (case Y0=>k_is)
  (case NR=>k_is)
  (case NS=>k_is)
  (case Ej=>k_is)
  (case Y1=>k_is)
  (case NT=>k_is)
  (case NU=>k_is)
  (case Ek=>k_is)
  (case NV=>k_is)
  (case NW=>k_is)
  (case NX=>k_is)
  (case NY=>k_is)
  (case Y2=>k_is)
  (case NZ=>k_is)
  (case N0=>k_is)
  (case El=>k_is)
  (case N1=>k_is)
  (case N2=>k_is)
  (case N3=>k_is)
  (case N4=>k_is)
  (case N5=>k_is)
  (case N6=>k_is)
  (case N7=>k_is)
  (case N8=>k_is)
  (case Y3=>k_is)
  (case N9=>k_is)
  (case Oa=>k_is)
  (case Em=>k_is)
  (case Y4=>k_is)
  (case Ob=>k_is)
  (case Oc=>k_is)
  (case Eo=>k_is)
  (case Od=>k_is)
  (case Oe=>k_is)
  (case Of=>k_is)
  (case Og=>k_is)
  (case Ep=>k_is)
  (case kK=>k_is)
  (case Oh=>k_is)
  (case Oi=>k_is)
  (case Er=>k_is)
  (case Es=>k_is)
  (case at2=>k_is)
  (case Et=>k_is)
  (case zx=>k_is)
  (case Oj=>k_is)
  (case Ol=>k_is)
  (case Om=>k_is)
  (case Oo=>k_is)
  (case Oq=>k_is)
  (case Ot=>k_is)
  (case Ou=>k_is)
  (case zy=>k_is)
  (case CW=>k_is)
  (case CY=>k_is)
  (case CZ=>k_is)
  (case nL=>k_is)
  (case qg=>k_is)
  (case C2=>k_is)
  (case qh=>k_is)
  (case C3=>k_is)
  (case nM=>k_is)
  (case C4=>k_is)
  (case zA=>k_is)
  (case zB=>k_is)
  (case C5=>k_is)
  (case zC=>k_is)
  (case Ov=>k_is)
  (case zD=>k_is)
  (case Ow=>k_is)
  (case zE=>k_is)
  (case Ox=>k_is)
  (case zF=>k_is)
  (case Oy=>k_is)
  (case zG=>k_is)
  (case Oz=>k_is)
  (case zH=>k_is)
  (case OA=>k_is)
  (case vF=>k_is)
  (case OB=>k_is)
  (case C6=>k_is)
  (case OC=>k_is)
  (case Eu=>k_is)
  (case Ew=>k_is)
  (case Ey=>k_is)
  (case Ez=>k_is)
  (case zI=>k_is)
  (case OD=>k_is)
  (case OE=>k_is)
  (case OF=>k_is)
  (case OG=>k_is)
  (case OH=>k_is)
  (case OI=>k_is)
  (case OJ=>k_is)
  (case C7=>k_is)
  (case C8=>k_is)
  (case C9=>k_is)
  (case Dc=>k_is)
  (case qi=>k_is)
  (case qj=>k_is)
  (case De=>k_is)
  (case vG=>k_is)
  (case mE=>k_is)
  (case Df=>k_is)
  (case Dg=>k_is)
  (case zJ=>k_is)
  (case zK=>k_is)
  (case Dh=>k_is)
  (case zL=>k_is)
  (case OK=>k_is)
  (case zM=>k_is)
  (case OL=>k_is)
  (case zN=>k_is)
  (case OM=>k_is)
  (case zO=>k_is)
  (case ON=>k_is)
  (case zP=>k_is)
  (case OO=>k_is)
  (case zQ=>k_is)
  (case OP=>k_is)
  (case vH=>k_is)
  (case OQ=>k_is)
  (case Di=>k_is)
  (case OR=>k_is)
  (case EA=>k_is)
  (case EB=>k_is)
  (case EC=>k_is)
  (case ED=>k_is)
  (case vI=>k_is)
  (case OS=>k_is)
  (case OT=>k_is)
  (case OU=>k_is)
  (case OV=>k_is)
  (case OW=>k_is)
  (case OX=>k_is)
  (case OY=>k_is)
  (case Dj=>k_is)
  (case qk=>k_is)
  (case kH=>k_is)
  (case jQ=>k_is)
  (case Dk=>k_is)
  (case Dm=>k_is)
  (case ql=>k_is)
  (case Dn=>k_is)
  (case Dq=>k_is)
  (case Dr=>k_is)
  (case qm=>k_is)
  (case Ds=>k_is)
  (case Dt=>k_is)
  (case qo=>k_is)
  (case zR=>k_is)
  (case OZ=>k_is)
  (case zS=>k_is)
  (case O0=>k_is)
  (case zT=>k_is)
  (case O1=>k_is)
  (case vJ=>k_is)
  (case O2=>k_is)
  (case zU=>k_is)
  (case O3=>k_is)
  (case zV=>k_is)
  (case O4=>k_is)
  (case zW=>k_is)
  (case O5=>k_is)
  (case zX=>k_is)
  (case O6=>k_is)
  (case zY=>k_is)
  (case O7=>k_is)
  (case zZ=>k_is)
  (case O8=>k_is)
  (case z0=>k_is)
  (case O9=>k_is)
  (case Pa=>k_is)
  (case Pb=>k_is)
  (case Pc=>k_is)
  (case Pd=>k_is)
  (case Pe=>k_is)
  (case Pf=>k_is)
  (case Pg=>k_is)
  (case Ph=>k_is)
  (case Pj=>k_is)
  (case Pk=>k_is)
  (case Pl=>k_is)
  (case Pm=>k_is)
  (case Pn=>k_is)
  (case Po=>k_is)
  (case Pp=>k_is)
  (case Pq=>k_is)
  (case Pr=>k_is)
  (case Pt=>k_is)
  (case Pu=>first | k_is | rfl | decide)
  (case Y5=>k_is)
  (case Am=>first | k_is | rfl | decide)
  (case An=>k_is)
  (case Ao=>first | k_is | rfl | decide)
  (case EE=>k_is)
  (case Ap=>first | k_is | rfl | decide)
  (case Aq=>k_is)
  (case EF=>k_is)
  (case Pw=>k_exc)
  (case Px=>k_is)
  (case Py=>k_is)
  (case Pz=>k_is)
  (case PB=>k_is)
  (case PC=>k_is)
  (case PD=>k_is)
  (case PF=>k_is)
  (case PH=>k_is)
  (case PK=>first | k_is | rfl | decide)
  (case PL=>k_is)
  (case PM=>first | k_is | rfl | decide)
  (case PN=>k_is)
  (case PQ=>k_is)
  (case PR=>k_exc)
  (case PU=>k_is)
  (case PV=>k_is)
  (case PY=>k_is)
  (case PZ=>k_is)
  (case P0=>k_is)
  (case P1=>k_is)
  (case P2=>k_is)
  (case P4=>k_is)
  (case P5=>first | k_is | rfl | decide)
  (case P6=>k_is)
  (case P7=>first | k_is | rfl | decide)
  (case P8=>k_is)
  (case P9=>k_is)
  (case Qa=>k_is)
  (case Qb=>k_is)
  (case nl=>first | k_is | rfl | decide)
  (case sub=>decide)
